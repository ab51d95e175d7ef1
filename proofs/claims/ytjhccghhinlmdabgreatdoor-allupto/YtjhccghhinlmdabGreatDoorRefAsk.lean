/- The document's terminal asked: Row, Cursor. -/
import Derived.Test.YtjhccghhinlmdabGreatDoorRefBase
namespace Go.Proofs.YtjhccghhinlmdabGreatDoor
open Go.RowKit

theorem fill_string {w : World} {g k n cap : Nat} {L : List Int} (h : Blk w g (fill L k) 5) (hn : L.length = n) (hk : k = n) :
    (convert 52 9 (.slice (some ⟨g, 0, none⟩) n cap)).run Tryz.prog w = .ok (.string (strOfNums L)) w := by
  subst hk
  subst hn
  rw [fill_all] at h
  exact blk_string h

set_option maxHeartbeats 2000000 in
set_option maxRecDepth 100000 in
theorem rrow_any (W H y : Int) (w : World) (bc cap : Nat) (sp : List Value) (l : List (Int × Int)) (hr : RRow w bc cap sp l) (w1 : 1 ≤ W) (w2 : W ≤ 40) (h2 : H ≤ 20) (hl : (l.length : Int) = W * H) (hy : 0 ≤ y) (hy2 : y < H) (hs : ∀ c ∈ l, 0 ≤ c.2 ∧ c.2 ≤ 255) :
    Calls Tryz.prog 42 #[.slice (some ⟨bc, 0, none⟩) l.length cap, .int .i64 W, .int .i64 y] w
      fun e w' => e = .returned (.tuple #[.string (strOfNums ((rowOf W y l).map (·.1))), .string (strOfNums ((rowOf W y l).map (·.2)))]) ∧ Fr [] w w' := by
  obtain ⟨i1, i2, i3⟩ := idx_bd (x := W - 1) (W := W) (H := H) w2 h2 (by omega) (by omega) hy hy2
  have hrl := rowOf_length (W := W) (H := H) (y := y) hl w1 w2 h2 hy hy2
  obtain ⟨Wn, rfl⟩ := Int.eq_ofNat_of_zero_le (show 0 ≤ W by omega)
  have hcm : (Wn : Int) * y = y * Wn := Int.mul_comm _ _
  have j1 : 0 ≤ (Wn : Int) * y := by omega
  have j2 : (Wn : Int) * y ≤ 800 := by omega
  have j3 : (Wn : Int) * y + (Wn - 1) < l.length := by omega
  have HCM := hide hcm
  have HRL := hide hrl
  have HR := hide hr
  have HS := hide hs
  clear hcm hrl hl i1 i2 i3 hr hs
  have hmk := run_make_row' (P := Tryz.prog) 52 5 (.int .u8 0) 1 Tryz.underlying52 info_u8 rfl .i64 .i64 Wn (by omega) (by omega)
  have L1 := hide (show ((rowOf Wn y l).map (·.1)).length = Wn by have := HRL.out; simp; omega)
  have L2 := hide (show ((rowOf Wn y l).map (·.2)).length = Wn by have := HRL.out; simp; omega)
  go_enter Tryz.func42, Tryz.ntmps42
  go_wp2
  go_loopw [10] (fun i wr => ∃ k : Nat, i = .int .i64 k ∧ k ≤ Wn ∧ Fr [] w wr ∧ Blk wr w.heap.size (fill ((rowOf Wn y l).map (·.1)) k) 5 ∧ Blk wr (w.heap.size + 1) (fill ((rowOf Wn y l).map (·.2)) k) 5) (fun i _ => (3000 - intOf i).toNat)
  case atStart =>
    refine ⟨0, rfl, by omega, ((Fr.refl _ _).alloc _).alloc _, ?_, ?_⟩
    · rw [fill_zero, L1.out, made_eq]; exact (Blk.new _ _ _).alloc _
    · rw [fill_zero, L2.out, made_eq]
      have := Blk.new (w.alloc (.cells (List.replicate Wn (.int .u8 0)).toArray 5)) (List.replicate Wn (.int .u8 0)) 5
      simpa using this
  case round =>
    obtain ⟨k, rfl, hk, f, b1, b2⟩ := hrel
    by_cases hlt : k < Wn
    · obtain ⟨v1, hv1⟩ := fill_at ((rowOf Wn y l).map (·.1)) k (by rw [L1.out]; exact hlt)
      obtain ⟨v2, hv2⟩ := fill_at ((rowOf Wn y l).map (·.2)) k (by rw [L2.out]; exact hlt)
      have ck1 : wr.cell? ⟨w.heap.size, k, none⟩ = some v1 := by rw [b1.cell, hv1]
      have ck2 : wr.cell? ⟨w.heap.size + 1, k, none⟩ = some v2 := by rw [b2.cell, hv2]
      have fk1 := b1.frozen k
      have fk2 := b2.frozen k
      have hR := HR.out.fr0 f
      obtain ⟨k1, k2⟩ := hR.cells ((Wn : Int) * y + k).toNat (by omega)
      have hbc := HR.out.row.lt
      have hne1 : ¬ w.heap.size = bc := by omega
      have hne2 : ¬ w.heap.size + 1 = bc := by omega
      have ei : ((Wn : Int) * y + k).toNat = (y * Wn).toNat + k := by have := HCM.out; omega
      have g1 : (rowOf Wn y l).getD k (0, 0) = l.getD ((y * Wn).toNat + k) (0, 0) := rowOf_get k (by omega)
      have ec : chr l ((Wn : Int) * y + k).toNat = ((rowOf Wn y l).map (·.1)).getD k 0 := by
        rw [ei]; unfold chr; rw [← g1]; have h0 : k < (rowOf Wn y l).length := by have := HRL.out; omega
        simp [List.getD_eq_getElem?_getD, h0]
      have es : sty l ((Wn : Int) * y + k).toNat = ((rowOf Wn y l).map (·.2)).getD k 0 := by
        rw [ei]; unfold sty; rw [← g1]; have h0 : k < (rowOf Wn y l).length := by have := HRL.out; omega
        simp [List.getD_eq_getElem?_getD, h0]
      have hsb : 0 ≤ sty l ((Wn : Int) * y + k).toNat ∧ sty l ((Wn : Int) * y + k).toNat ≤ 255 := by
        unfold sty
        have h0 : ((Wn : Int) * y + k).toNat < l.length := by omega
        exact HS.out _ (by rw [List.getD_eq_getElem?_getD, List.getElem?_eq_getElem h0]; simp)
      have E1 := hide (fill_step ((rowOf Wn y l).map (·.1)) k (by rw [L1.out]; exact hlt))
      have E2 := hide (fill_step ((rowOf Wn y l).map (·.2)) k (by rw [L2.out]; exact hlt))
      rw [ec] at k1
      rw [es] at k2 hsb
      generalize ((rowOf Wn y l).map (·.1)).getD k 0 = c1 at *
      generalize ((rowOf Wn y l).map (·.2)).getD k 0 = c2 at *
      have B1 := hide b1
      have B2 := hide b2
      clear hv1 hv2 hR g1 ec es ei b1 b2
      go_wp2
      go_roundw
      case rel =>
        refine ⟨k + 1, by go_num, by omega, (f.setCell (.inr (by simp)) _).setCell (.inr (by simp)) _, ?_, ?_⟩
        · rw [← E1.out]; exact (B1.out.set k _).setOther (by simp) _
        · rw [← E2.out]; exact (B2.out.setOther (by simp) _).set k _
      case measure => simp [intOf]; omega
    · have e : k = Wn := by omega
      have kc : ∀ n, (convert 52 9 (.slice (some ⟨w.heap.size, 0, none⟩) Wn Wn)).run Tryz.prog (wr.drewN n) = .ok (.string (strOfNums ((rowOf Wn y l).map (·.1)))) (wr.drewN n) := fun n => fill_string (b1.drewN n) L1.out e
      have ks : ∀ n, (convert 52 9 (.slice (some ⟨w.heap.size + 1, 0, none⟩) Wn Wn)).run Tryz.prog (wr.drewN n) = .ok (.string (strOfNums ((rowOf Wn y l).map (·.2)))) (wr.drewN n) := fun n => fill_string (b2.drewN n) L2.out e
      clear b1 b2 e
      go_wp2
      go_quiet (fail)
      go_wp2
      go_ret2
      exact ⟨rfl, f.drewN _⟩

set_option maxHeartbeats 1000000 in
theorem refRow_yes (y : Int) (w : World) (b : Nat) (g : RGh) (r : R) (h : RefAt w b g r) (hy : 0 ≤ y) (hy2 : y < r.H) (hs : ∀ c ∈ r.cells, 0 ≤ c.2 ∧ c.2 ≤ 255) :
    Calls Tryz.prog 21 #[.pointer (some ⟨b, 0, none⟩), .int .i64 y] w
      fun e w' => e = .returned (.tuple #[.string (strOfNums ((rowOf r.W y r.cells).map (·.1))), .string (strOfNums ((rowOf r.W y r.cells).map (·.2))), .int .i64 0]) ∧ Fr [] w w' := by
  obtain ⟨c0, c1, c2, c3, c4, c5, c6, c7, c8⟩ := h.cells
  have HT := hide h
  have HS := hide hs
  clear h hs c3 c4 c5 c6 c7 c8
  go_enter Tryz.func21, Tryz.ntmps21
  go_wp2
  go_region_with (go_at_call 42; refine (rrow_any r.W r.H y _ g.bc g.cap g.sp r.cells (HT.out.row.fr0 (Fr.refl _ _).drew) HT.out.ok.w1 HT.out.ok.w2 HT.out.ok.h2 HT.out.ok.len hy hy2 HS.out).mono ?_; rintro e w1 ⟨rfl, f1⟩; have F1 : Hid (Fr [] w w1) := (Fr.refl _ _).drew.then f1; clear f1)
  all_goals
    go_wp2
    go_ret3
    exact ⟨rfl, F1.out⟩

set_option maxHeartbeats 400000 in
theorem refRow_no (y : Int) (w : World) (b : Nat) (g : RGh) (r : R) (h : RefAt w b g r) (hy : y < 0 ∨ r.H ≤ y) :
    Calls Tryz.prog 21 #[.pointer (some ⟨b, 0, none⟩), .int .i64 y] w
      fun e w' => e = .returned (.tuple #[.string ByteArray.empty, .string ByteArray.empty, .int .i64 8]) ∧ w = w' := by
  obtain ⟨c0, c1, c2, c3, c4, c5, c6, c7, c8⟩ := h.cells
  clear h
  go_enter Tryz.func21, Tryz.ntmps21
  go_wp2
  all_goals first | (go_ret3; exact ⟨rfl, rfl⟩) | (exfalso; omega)

set_option maxHeartbeats 400000 in
theorem refCursor_any (w : World) (b : Nat) (g : RGh) (r : R) (h : RefAt w b g r) :
    Calls Tryz.prog 24 #[.pointer (some ⟨b, 0, none⟩)] w
      fun e w' => e = .returned (.tuple #[.agg #[.int .i64 r.x, .int .i64 r.y, .bool (!r.hidden)], .int .i64 0]) ∧ Fr [] w w' := by
  obtain ⟨c0, c1, c2, c3, c4, c5, c6, c7, c8⟩ := h.cells
  have hbt := h.st.lt
  clear h
  go_enter Tryz.func24, Tryz.ntmps24
  go_wp2
  go_region
  all_goals
    go_wp2
    exact bodyPost_ret (v := .tuple #[.agg #[.int .i64 r.x, .int .i64 r.y, .bool (!r.hidden)], .int .i64 0]) (by simp [results, Tryz.results24, go_sem]) rfl ⟨rfl, ((Fr.refl _ _).alloc _).drew⟩
end Go.Proofs.YtjhccghhinlmdabGreatDoor
