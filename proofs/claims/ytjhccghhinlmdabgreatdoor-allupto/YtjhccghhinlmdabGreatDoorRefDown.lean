/- The document's terminal: a row down. -/
import Derived.Test.YtjhccghhinlmdabGreatDoorRefMove
namespace Go.Proofs.YtjhccghhinlmdabGreatDoor
open Go.RowKit

def R.down (r : R) : R := if r.y + 1 < r.H then { r with y := r.y + 1 } else { r with cells := up r.W r.cells }
theorem up_length (W : Int) (l : List (Int × Int)) (h : W.toNat ≤ l.length) : (up W l).length = l.length := by simp [up]; omega
theorem R.down_ok {r : R} (h : r.Ok) : r.down.Ok := by
  unfold R.down
  split
  · exact ⟨h.w1, h.w2, h.h1, h.h2, h.len, h.x0, h.x1, by simp only []; have := h.y0; omega, by assumption, h.p0, h.p1⟩
  · have hw : r.W.toNat ≤ r.cells.length := by
      have := h.len
      have := Int.mul_le_mul_of_nonneg_left h.h1 (show 0 ≤ r.W by have := h.w1; omega)
      omega
    exact ⟨h.w1, h.w2, h.h1, h.h2, by simp only []; rw [up_length _ _ hw]; exact h.len, h.x0, h.x1, h.y0, h.y1, h.p0, h.p1⟩

theorem pair_getD (l : List (Int × Int)) (k : Nat) : (chr l k, sty l k) = l.getD k (0, 0) := rfl

set_option maxHeartbeats 4000000 in
set_option maxRecDepth 100000 in
theorem down_any (w : World) (b : Nat) (g : RGh) (r : R) (h : RefAt w b g r) :
    Calls Tryz.prog 62 #[.pointer (some ⟨b, 0, none⟩)] w fun e w' => e = .returned (.tuple #[]) ∧ RUpd b g r.down w w' := by
  obtain ⟨c0, c1, c2, c3, c4, c5, c6, c7, c8⟩ := h.cells
  have f4 := h.st.frozen 4
  have w1 := h.ok.w1
  have w2 := h.ok.w2
  have h1 := h.ok.h1
  have h2 := h.ok.h2
  have y0 := h.ok.y0
  have y1 := h.ok.y1
  have bd := h.bd
  have HT := hide h
  have OK := hide (R.down_ok h.ok)
  obtain ⟨i0, hi, hz0, hz1, hz2⟩ := info_parts info_rcell
  by_cases hy : r.y + 1 < r.H
  · have E := hide (show r.down = { r with y := r.y + 1 } by simp [R.down, hy])
    clear h c2 c3 c5 c6 c7 c8
    go_enter Tryz.func62, Tryz.ntmps62
    go_wp2
    go_quiet (fail)
    go_wp2
    refine bodyPost_ret (results_none rfl _ _ _) rfl ⟨rfl, ?_⟩
    have f : Fr [b] w _ := (((Fr.refl [b] w).drewN nq).setCell (p := ⟨b, 4, none⟩) (by simp) (.int .i64 (r.y + 1)))
    have ok := OK.out
    rw [E.out] at ok ⊢
    exact RUpd.of1 (HT.out.write f ((HT.out.st.drewN nq).set 4 _) rfl ok) f
  · have E := hide (show r.down = { r with cells := up r.W r.cells } by unfold R.down; rw [if_neg hy])
    have hwl : r.W ≤ r.cells.length := by
      have := h.ok.len
      have := Int.mul_le_mul_of_nonneg_left h.ok.h1 (show 0 ≤ r.W by omega)
      omega
    obtain ⟨Wn, hWn⟩ := Int.eq_ofNat_of_zero_le (show 0 ≤ r.W by omega)
    have HW := hide hWn
    have wn1 : 1 ≤ Wn := by omega
    have wn2 : Wn ≤ 40 := by omega
    have wnl : Wn ≤ r.cells.length := by omega
    rw [hWn] at c0
    clear h c3 c5 c6 c7 c8 hWn hwl w1 w2
    go_enter Tryz.func62, Tryz.ntmps62
    go_wp2
    go_quiet (fail)
    go_wp2_with fail
    refine (blanks_any Wn _ (by omega)).mono ?_
    rintro e wb ⟨vl, rfl, fb, ho⟩
    obtain ⟨bl, cl, sl, rfl, hbl, hrl⟩ := RRow.of ho (by simp) wn1
    have FB : Hid (Fr [] w wb) := ((Fr.refl [] w).drewN nq).then fb
    have RL := hide hrl
    have TB := hide (HT.out.fr0 FB.out)
    obtain ⟨d0, d1, d2, d3, d4, d5, d6, d7, d8⟩ := TB.out.cells
    rw [HW.out] at d0
    clear fb ho hrl d1 d3 d4 d5 d6 d7 d8 hbl
    go_wp2
    go_loopw [3, 4] (fun v i wr => ∃ k : Nat, i = .int .i64 ((Wn : Int) + k) ∧ Wn + k ≤ r.cells.length ∧ Fr [] wb wr ∧ wr.ownsRow wb.heap.size 84 2 v k (flatR ((r.cells.drop Wn).take k))) (fun _ i _ => (3000 - intOf i).toNat)
    case atStart => exact ⟨0, by go_num, by omega, Fr.refl _ _, World.ownsRow_nil _ _ _ _⟩
    case round =>
      obtain ⟨k, rfl, hk, f, hown⟩ := hrel
      have HO := hide hown
      have hsz := f.size
      have tr := TB.out.fr0 f
      obtain ⟨x0, x1, x2, x3, x4, x5, x6, x7, x8⟩ := tr.cells
      clear hown x0 x1 x3 x4 x5 x6 x7 x8
      by_cases hlt : Wn + k < r.cells.length
      · obtain ⟨k1, k2⟩ := tr.row.cells (Wn + k) (by omega)
        have hbc := tr.row.row.lt
        have et := take_snoc (r.cells.drop Wn) k (0, 0) (by simp; omega)
        have eg : (r.cells.drop Wn).getD k (0, 0) = (chr r.cells (Wn + k), sty r.cells (Wn + k)) := by
          rw [pair_getD]; simp [List.getD_eq_getElem?_getD]
        rw [eg] at et
        have b1 : (Wn : Int) + k < r.cells.length := by omega
        generalize chr r.cells (Wn + k) = ch at *
        generalize sty r.cells (Wn + k) = st at *
        have ET := hide et
        clear et eg tr
        go_wp2_with (first | (at_builtin; refine wpList_append_lies _ rfl (.tmp 41) (.tmp 49) 56 rfl wb.heap.size 84 i0 (.agg #[.int .u8 0, .int .i64 0]) 2 16 Tryz.underlying56 hi hz0 hz1 hz2 rfl (by decide) u3 k (flatR ((r.cells.drop Wn).take k)) rfl (own_fr0 HO.out (by repeat first | exact Fr.refl _ _ | apply Fr.drew | apply Fr.alloc)) ⟨wr.heap.size, 0, none⟩ 1 1 [.int .u8 ch, .int .i64 st] rfl rfl (World.news_of_block (cs := #[.int .u8 ch, .int .i64 st]) (t := 84) (fr := (0, 0)) (new_blk _ _ _ (by simp))) (two_one _ _ rfl rfl) (by omega) (by unfold maxLen; omega) (by omega) (by simp; omega) (wr.heap.size + 1) (by simp) ?_; intro g1 cap1 w1 hown1 hgrow hat hlt1; have R1 : Hid (Fr [] wb w1 ∧ w1.ownsRow wb.heap.size 84 2 (.slice (some ⟨g1, 0, none⟩) (k + 1) cap1) (k + 1) (flatR ((r.cells.drop Wn).take (k + 1)))) := ⟨Fr.grown (f.alloc _) hgrow (fun j hj => .inr (HO.out.lt j hj).1), (by rw [ET.out, ← flatR_snoc]; exact hown1)⟩; clear hown1 hgrow hat))
        go_roundw
        case rel => exact ⟨k + 1, by go_num, by omega, R1.out.1, R1.out.2⟩
        case measure => simp [intOf]; omega
      · have HK := hide (show (r.cells.drop Wn).take k = r.cells.drop Wn from List.take_of_length_le (by simp; omega))
        have hkl : k = r.cells.length - Wn := by omega
        have b1 : ¬ (Wn : Int) + k < r.cells.length := by omega
        have HKL := hide hkl
        clear hkl tr
        go_wp2
        go_loopw [3, 5] (fun v i wq => ∃ j : Nat, i = .int .i64 j ∧ j ≤ Wn ∧ Fr [] wb wq ∧ wq.ownsRow wb.heap.size 84 2 v (k + j) (flatR (r.cells.drop Wn ++ List.replicate j (32, 7)))) (fun _ i _ => (3000 - intOf i).toNat)
        case atStart => exact ⟨0, by go_num, by omega, f, by have := HO.out; rw [HK.out] at this; simpa using this⟩
        case round =>
          obtain ⟨j, rfl, hj, fq, hownq⟩ := hrel
          have HQ := hide hownq
          have hszq := fq.size
          have rl := RL.out.fr0 fq
          clear hownq
          by_cases hlt2 : j < Wn
          · obtain ⟨k1, k2⟩ := rl.cells j (by simp; omega)
            have hbc := rl.row.lt
            have e1 : chr (List.replicate Wn ((32 : Int), (7 : Int))) j = 32 := by simp [chr, List.getD_eq_getElem?_getD, hlt2]
            have e2 : sty (List.replicate Wn ((32 : Int), (7 : Int))) j = 7 := by simp [sty, List.getD_eq_getElem?_getD, hlt2]
            rw [e1] at k1
            rw [e2] at k2
            clear e1 e2 rl
            go_wp2_with (first | (at_builtin; refine wpList_append_lies _ rfl (.tmp 57) (.tmp 62) 56 rfl wb.heap.size 84 i0 (.agg #[.int .u8 0, .int .i64 0]) 2 16 Tryz.underlying56 hi hz0 hz1 hz2 rfl (by decide) u3 (k + j) (flatR (r.cells.drop Wn ++ List.replicate j (32, 7))) rfl (own_fr0 HQ.out (by repeat first | exact Fr.refl _ _ | apply Fr.drew | apply Fr.alloc)) ⟨wr.heap.size, 0, none⟩ 1 1 [.int .u8 32, .int .i64 7] rfl rfl (World.news_of_block (cs := #[.int .u8 32, .int .i64 7]) (t := 84) (fr := (0, 0)) (new_blk _ _ _ (by simp))) (two_one _ _ rfl rfl) (by omega) (by unfold maxLen; omega) (by omega) (by simp; omega) (wr.heap.size + 1) (by simp) ?_; intro g1 cap1 w1 hown1 hgrow hat hlt1; have R1 : Hid (Fr [] wb w1 ∧ w1.ownsRow wb.heap.size 84 2 (.slice (some ⟨g1, 0, none⟩) (k + j + 1) cap1) (k + j + 1) (flatR (r.cells.drop Wn ++ List.replicate (j + 1) (32, 7)))) := ⟨Fr.grown (fq.alloc _) hgrow (fun j hj => .inr (HQ.out.lt j hj).1), (by rw [List.replicate_succ', ← List.append_assoc, ← flatR_snoc]; exact hown1)⟩; clear hown1 hgrow hat))
            go_roundw
            case rel => exact ⟨j + 1, by go_num, by omega, R1.out.1, R1.out.2⟩
            case measure => simp [intOf]; omega
          · have hj2 : j = Wn := by omega
            subst hj2
            have hlen : (r.cells.drop j ++ List.replicate j ((32 : Int), (7 : Int))).length = k + j := by simp; have := HKL.out; omega
            obtain ⟨bn, cn, sn, rfl, hbn, hrn⟩ := RRow.of HQ.out hlen (by omega)
            have eup : up r.W r.cells = r.cells.drop j ++ List.replicate j (32, 7) := by unfold up; rw [HW.out]; rfl
            have tq := TB.out.fr0 fq
            obtain ⟨z0, z1, z2, z3, z4, z5, z6, z7, z8⟩ := tq.cells
            have fz := tq.st.frozen 2
            have FIN : Hid (∀ w', w' = wr.setCell ⟨b, 2, none⟩ (.slice (some ⟨bn, 0, none⟩) (k + j) cn) → RUpd b g r.down w w') := by
              rintro w' rfl
              have hbb : b < wb.heap.size := TB.out.st.lt
              refine ⟨⟨bn, cn, sn⟩, ⟨?_, ?_, OK.out⟩, ?_, ?_⟩
              · rw [E.out]
                have := tq.st.set 2 (.slice (some ⟨bn, 0, none⟩) (k + j) cn)
                have el : k + j = (up r.W r.cells).length := by rw [eup, hlen]
                rw [el] at this ⊢
                exact this
              · rw [E.out]
                have := hrn.fr (S := [b]) ((Fr.refl _ _).setCell (p := ⟨b, 2, none⟩) (by simp) (.slice (some ⟨bn, 0, none⟩) (k + j) cn)) (by simp; omega)
                rw [← eup] at this
                exact this
              · exact ((FB.out.then fq).of_nil).setCell (by simp [rfoot]) _
              · intro x hx
                simp only [rfoot, List.mem_cons, List.not_mem_nil, or_false] at hx
                rcases hx with rfl | rfl
                · left; simp [rfoot]
                · right; have := FB.out.size; omega
            clear z0 z1 z3 z4 z5 z6 z7 z8 tq hrn rl
            go_wp2
            go_end0
            exact ⟨rfl, FIN.out _ rfl⟩
end Go.Proofs.YtjhccghhinlmdabGreatDoor
