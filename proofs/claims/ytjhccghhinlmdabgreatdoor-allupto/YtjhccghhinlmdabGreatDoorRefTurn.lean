/- The document's terminal gets another size. -/
import Derived.Test.YtjhccghhinlmdabGreatDoorRefFeed
import Derived.Test.YtjhccghhinlmdabGreatDoorTurnModel
namespace Go.Proofs.YtjhccghhinlmdabGreatDoor
open Go.RowKit

def R.turn (r : R) (w h : Int) : R := { r with W := w, H := h, cells := tn r.W r.H r.cells w h r.H 0, x := least r.x (w - 1), y := least r.y (h - 1), full := false }
theorem R.turn_ok {r : R} (o : r.Ok) {w h : Int} (h1 : 1 ≤ w) (h2 : w ≤ 40) (h3 : 1 ≤ h) (h4 : h ≤ 20) : (r.turn w h).Ok := by
  have := o.x0; have := o.y0
  have := mul_bd h1 h2 h3 h4
  refine ⟨h1, h2, h3, h4, by simp only [R.turn]; rw [tn_length]; omega, ?_, ?_, ?_, ?_, o.p0, o.p1⟩
  all_goals simp only [R.turn, least]
  all_goals split <;> omega

theorem rturn_nil (a c : Int) (w : World) :
    Calls Tryz.prog 19 #[.pointer none, .int .i64 a, .int .i64 c] w fun e w' => e = .returned (.int .i64 1) ∧ w = w' := by
  go_enter Tryz.func19, Tryz.ntmps19
  go_wp2
  go_ret
  exact ⟨rfl, rfl⟩
set_option maxHeartbeats 400000 in
theorem rturn_no (a c : Int) (w : World) (b : Nat) (h : sizeB a c = false) :
    Calls Tryz.prog 19 #[.pointer (some ⟨b, 0, none⟩), .int .i64 a, .int .i64 c] w fun e w' => e = .returned (.int .i64 2) ∧ w = w' := by
  go_enter Tryz.func19, Tryz.ntmps19
  go_wp2_with (go_at_call 14; refine (rsize_no _ _ _ h).mono ?_; rintro e w' ⟨rfl, rfl⟩)
  go_ret
  exact ⟨rfl, rfl⟩

set_option maxHeartbeats 8000000 in
set_option maxRecDepth 100000 in
theorem rturn_yes (a c : Int) (w : World) (b : Nat) (g : RGh) (r : R) (h : RefAt w b g r) (h1 : 1 ≤ a) (h2 : a ≤ 40) (h3 : 1 ≤ c) (h4 : c ≤ 20) :
    Calls Tryz.prog 19 #[.pointer (some ⟨b, 0, none⟩), .int .i64 a, .int .i64 c] w fun e w' => e = .returned (.int .i64 0) ∧ RUpd b g (r.turn a c) w w' := by
  obtain ⟨m1, m2⟩ := mul_bd h1 h2 h3 h4
  obtain ⟨n, hn⟩ := Int.eq_ofNat_of_zero_le (show 0 ≤ a * c by omega)
  have HN := hide hn
  have hn2 : n ≤ 800 := by omega
  have hn1 : 1 ≤ n := by omega
  have w1 := h.ok.w1
  have w2 := h.ok.w2
  have e1 := h.ok.h1
  have e2 := h.ok.h2
  have x0 := h.ok.x0
  have y0 := h.ok.y0
  have x1 := h.ok.x1
  have y1 := h.ok.y1
  have blt := h.st.lt
  have blt2 := h.row.row.lt
  have hne := h.bc
  have HT := hide h
  clear hn h
  go_enter Tryz.func19, Tryz.ntmps19
  go_wp2_with (go_at_call 14; refine (rsize_yes _ _ _ h1 h2 h3 h4).mono ?_; rintro e w' ⟨rfl, rfl⟩)
  rw [HN.out]
  refine (blanks_any n _ hn2).mono ?_
  rintro e v1 ⟨v, rfl, f1, ho⟩
  obtain ⟨bl, cap, sp, rfl, hb, hr⟩ := RRow.of ho (by simp) hn1
  have hr' : RRow v1 bl cap sp (tn r.W r.H r.cells a c 0 0) := by
    rw [tn_zero h1 h3, HN.out]; exact hr
  have HR := hide hr'
  clear ho hr hr'
  go_wp2
  go_loopw [9] (fun i wr => ∃ k : Nat, i = .int .i64 k ∧ (k : Int) ≤ c ∧ (k : Int) ≤ r.H ∧ Fr [] w wr ∧ RRow wr bl cap sp (tn r.W r.H r.cells a c k 0)) (fun i _ => (3000 - intOf i).toNat)
  case atStart => exact ⟨0, rfl, by omega, by omega, f1, HR.out⟩
  case round =>
    obtain ⟨k, rfl, hk1, hk2, f, hr⟩ := hrel
    have hra := HT.out.fr0 f
    obtain ⟨c0, c1, c2, c3, c4, c5, c6, c7, c8⟩ := hra.cells
    have HR2 := hide hr
    clear hr
    by_cases hend : (k : Int) < c ∧ (k : Int) < r.H
    · obtain ⟨hy1, hy2⟩ := hend
      clear c2 c3 c4 c5 c6 c7 c8 hra
      go_wp2
      go_loopw [10] (fun i ws => ∃ j : Nat, i = .int .i64 j ∧ (j : Int) ≤ a ∧ (j : Int) ≤ r.W ∧ Fr [] w ws ∧ RRow ws bl cap sp (tn r.W r.H r.cells a c k j)) (fun i _ => (3000 - intOf i).toNat)
      case atStart => exact ⟨0, rfl, by omega, by omega, f, HR2.out⟩
      case round =>
        obtain ⟨j, rfl, hj1, hj2, fs, hs⟩ := hrel
        have hra := HT.out.fr0 fs
        obtain ⟨c0, c1, c2, c3, c4, c5, c6, c7, c8⟩ := hra.cells
        clear c1 c3 c4 c5 c6 c7 c8
        by_cases hje : (j : Int) < a ∧ (j : Int) < r.W
        · obtain ⟨hx1, hx2⟩ := hje
          obtain ⟨i1, i2, i3⟩ := idx_bd (W := a) (H := c) (x := j) (y := k) h2 h4 (by omega) hx1 (by omega) hy1
          obtain ⟨q1, q2, q3⟩ := idx_bd (W := r.W) (H := r.H) (x := j) (y := k) w2 e2 (by omega) hx2 (by omega) hy2
          rw [Int.mul_comm (k : Int) a] at i1 i2 i3
          rw [Int.mul_comm (k : Int) r.W] at q1 q2 q3
          rw [HN.out] at i3
          have hlen := hra.ok.len
          have q4 : r.W * k + j < r.cells.length := by omega
          have q5 : r.W * k + j < 800 := by have := hra.bd; omega
          have i4 : a * k + j < 800 := by omega
          obtain ⟨z1, z2⟩ := hra.row.cells (r.W * k + j).toNat (by omega)
          have hl : (a * k + j).toNat < (tn r.W r.H r.cells a c k j).length := by rw [tn_length, HN.out]; omega
          obtain ⟨y1, y2⟩ := hs.cells (a * k + j).toNat hl
          have y3 := hs.row.frozen ((a * k + j).toNat * 2)
          have y4 := hs.row.frozen ((a * k + j).toNat * 2 + 1)
          have hbl := hs.row.lt
          have hsz := fs.size
          have TI := hide (tn_in (l := r.cells) (h := c) h1 h3 (by omega) hx1 hx2 hy2 (a * k + j).toNat (r.W * k + j).toNat (by omega) (by omega))
          have HS := hide hs
          have HL := hide hl
          have nb1 : bl ≠ b := by omega
          have nb2 : bl ≠ g.bc := by omega
          clear hra hlen hs hl q3
          go_wp2
          go_region
          all_goals go_wp2
          all_goals
            go_roundw
            case rel =>
              refine ⟨j + 1, by go_num, by omega, by omega, ((fs.setCell (p := ⟨bl, (a * k + j).toNat * 2, none⟩) (.inr hb) (.int .u8 (chr r.cells (r.W * k + j).toNat))).setCell (p := ⟨bl, (a * k + j).toNat * 2 + 1, none⟩) (.inr hb) (.int .i64 (sty r.cells (r.W * k + j).toNat))).drew, ?_⟩
              have := (HS.out.set (a * k + j).toNat HL.out (chr r.cells (r.W * k + j).toNat) (sty r.cells (r.W * k + j).toNat)).fr0 (Fr.refl _ _).drew
              rw [TI.out] at this
              exact this
            case measure => simp [intOf]; omega
        · have TR := hide (tn_row (W := r.W) (H := r.H) (l := r.cells) (h := c) (y := k) (x := j) h1 h3 (by omega))
          have HS := hide hs
          clear hra hs
          by_cases hje1 : (j : Int) < a
          · have hje2 : (j : Int) = r.W := by omega
            clear hje
            go_wp2
            go_roundw
            case rel => exact ⟨k + 1, by go_num, by omega, by omega, fs, by have := HS.out; rw [TR.out] at this; exact this⟩
            case measure => simp [intOf]; omega
          · clear hje
            go_wp2
            go_roundw
            case rel => exact ⟨k + 1, by go_num, by omega, by omega, fs, by have := HS.out; rw [TR.out] at this; exact this⟩
            case measure => simp [intOf]; omega
    · have TE := hide (tn_end (W := r.W) (H := r.H) (l := r.cells) (w := a) (h := c) (y := k) h1 h3 (by omega))
      have FIN : Hid (∀ ws, Fr [] wr ws → RUpd b g (r.turn a c) w ((((((ws.setCell ⟨b, 2, none⟩ (.slice (some ⟨bl, 0, none⟩) n cap)).setCell ⟨b, 0, none⟩ (.int .i64 a)).setCell ⟨b, 1, none⟩ (.int .i64 c)).setCell ⟨b, 3, none⟩ (.int .i64 (least r.x (a - 1)))).setCell ⟨b, 4, none⟩ (.int .i64 (least r.y (c - 1)))).setCell ⟨b, 6, none⟩ (.bool false))) := by
        intro ws fw
        have ff : Fr [b] ws _ := (((((((Fr.refl [b] ws).setCell (p := ⟨b, 2, none⟩) (by simp) (.slice (some ⟨bl, 0, none⟩) n cap)).setCell (p := ⟨b, 0, none⟩) (by simp) (.int .i64 a)).setCell (p := ⟨b, 1, none⟩) (by simp) (.int .i64 c)).setCell (p := ⟨b, 3, none⟩) (by simp) (.int .i64 (least r.x (a - 1)))).setCell (p := ⟨b, 4, none⟩) (by simp) (.int .i64 (least r.y (c - 1)))).setCell (p := ⟨b, 6, none⟩) (by simp) (.bool false))
        refine ⟨⟨bl, cap, sp⟩, ⟨?_, ?_, R.turn_ok HT.out.ok h1 h2 h3 h4⟩, (((f.then fw).of_nil (S := [b])).then ff).mono (by simp [rfoot]), ?_⟩
        · have := ((((((HT.out.st.fr0 (f.then fw)).set 2 (.slice (some ⟨bl, 0, none⟩) n cap)).set 0 (.int .i64 a)).set 1 (.int .i64 c)).set 3 (.int .i64 (least r.x (a - 1)))).set 4 (.int .i64 (least r.y (c - 1)))).set 6 (.bool false)
          have e : rstOf ⟨bl, cap, sp⟩ (r.turn a c) = [.int .i64 a, .int .i64 c, .slice (some ⟨bl, 0, none⟩) n cap, .int .i64 (least r.x (a - 1)), .int .i64 (least r.y (c - 1)), .bool r.hidden, .bool false, .int .i64 r.pen, .string r.begun] := by
            simp only [rstOf, R.turn, tn_length, HN.out]; simp
          rw [e]
          exact this
        · show RRow _ bl cap sp (tn r.W r.H r.cells a c r.H 0)
          rw [← TE.out]
          exact (HR2.out.fr0 fw).fr ff (by simp; omega)
        · intro x hx
          simp only [rfoot, List.mem_cons, List.not_mem_nil, or_false] at hx ⊢
          rcases hx with rfl | rfl
          · exact .inl (.inl rfl)
          · exact .inr hb
      have z0 := hra.st.frozen 0
      have z1 := hra.st.frozen 1
      have z2 := hra.st.frozen 2
      have z3 := hra.st.frozen 3
      have z4 := hra.st.frozen 4
      have z6 := hra.st.frozen 6
      clear hra
      by_cases hy1 : (k : Int) < c
      · have hy2 : (k : Int) = r.H := by omega
        clear hend
        go_wp2_with (go_at_call 40; refine (least_any _ _ _).mono ?_; rintro e w' ⟨rfl, rfl⟩)
        go_ret
        exact ⟨rfl, FIN.out _ (Fr.refl _ _)⟩
      · clear hend
        go_wp2_with (go_at_call 40; refine (least_any _ _ _).mono ?_; rintro e w' ⟨rfl, rfl⟩)
        go_ret
        exact ⟨rfl, FIN.out _ (Fr.refl _ _)⟩
end Go.Proofs.YtjhccghhinlmdabGreatDoor
