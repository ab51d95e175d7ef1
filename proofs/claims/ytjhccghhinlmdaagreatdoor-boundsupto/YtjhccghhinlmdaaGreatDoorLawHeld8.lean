/- A script is played, where 8 is held. -/
import Derived.Test.YtjhccghhinlmdaaGreatDoorPackLawPaints
import Derived.Test.YtjhccghhinlmdaaGreatDoorLawHolds
import Derived.Test.YtjhccghhinlmdaaGreatDoorLawStep8
namespace Go.Proofs.YtjhccghhinlmdaaGreatDoor
open Go.RowKit

theorem held8 : StepHeld 8 := step8_any

set_option maxHeartbeats 4000000 in
set_option maxRecDepth 100000 in
theorem holds8_any (w : World) (gb off len cap : Nat) (K N A C : Nat → Int) (Sx : Nat → ByteArray) (V : Nat → Option Addr × Nat × Nat) (Ws : Nat → List Win) (h : OpsAt w gb off len K N A C Sx V) (hw : ∀ i, i < len → OpWins w w.heap.size (V i).1 (Ws i) (V i).2.1) (hlen : len ≤ 1048576) :
    Calls Tryz.prog 7 #[.slice (some ⟨gb, off, none⟩) len cap, .int .i64 8] w fun e w' => e = .returned (.bool true) ∧ Fr [] w w' := by
  have H := hide h
  have HW := hide hw
  clear h hw
  go_enter Tryz.func7, Tryz.ntmps7
  go_wp2
  go_loopw [6] (fun i wr => ∃ (k : Nat) (dv : Value) (ds : List Ds), i = .int .i64 k ∧ k ≤ len ∧ Fr [] w wr ∧ DGame w.heap.size wr w.heap.size (.slice none 0 0) dv ds (k * 2000000) ∧ ds.length ≤ k) (fun i _ => (3000000 - intOf i).toNat)
  case atStart =>
    refine ⟨0, .slice none 0 0, [], rfl, by omega, (Fr.refl _ _).alloc _, ⟨Blk.new _ _ _, World.ownsRow_nil _ _ _ _, ?_, ?_, ?_, Nat.le_refl _, ?_⟩, by simp⟩
    all_goals intros; simp_all
  case round =>
    obtain ⟨k, dv, ds, rfl, hk, f, hg, hps⟩ := hrel
    by_cases hend : k < len
    · obtain ⟨c0, c1, c2, c3, c4, c5⟩ := H.out.c k hend
      have d0 := f.cell c0
      have d1 := f.cell c1
      have d2 := f.cell c2
      have d3 := f.cell c3
      have d4 := f.cell c4
      have d5 := f.cell c5
      have glt : gb < wr.heap.size := World.block_lt_of_cell? wr _ d0
      obtain ⟨m1, m2⟩ := H.out.n1 k hend
      have s1 := H.out.s1 k hend
      have OW := hide (HW.out k hend)
      have hsz := f.size
      have HG := hide hg
      have blt := hg.st.lt
      clear c0 c1 c2 c3 c4 c5 hg
      generalize K k = kk at *
      generalize N k = nn at *
      generalize A k = aa at *
      generalize C k = cc at *
      generalize Sx k = ss at *
      generalize Ws k = ws at *
      generalize (V k).1 = va at *
      generalize (V k).2.1 = vb at *
      generalize (V k).2.2 = vc at *
      have hB : w.heap.size ≤ (wr.alloc (.cells #[.int .i64 kk, .int .i64 nn, .int .i64 aa, .int .i64 cc, .string ss, .slice va vb vc] 32)).heap.size := by simp; omega
      have HT : Hid (6 ≤ kk ∧ kk ≤ 13 → _) := fun hkk => painter_any 8 held8 kk nn aa cc ss va ws vb vc (wr.alloc (.cells #[.int .i64 kk, .int .i64 nn, .int .i64 aa, .int .i64 cc, .string ss, .slice va vb vc] 32)) w.heap.size w.heap.size (.slice none 0 0) dv ds (k * 2000000) (HG.out.fr0 ((Fr.refl _ _).alloc _)) hkk (OW.out.fr0 (f.alloc _)) (by omega) hB (by omega) m1 m2
      have ST : Hid (∀ w2, DGUpd w.heap.size w.heap.size (.slice none 0 0) dv ds (k * 2000000 + (ss.size + 20000)) (wr.alloc (.cells #[.int .i64 kk, .int .i64 nn, .int .i64 aa, .int .i64 cc, .string ss, .slice va vb vc] 32)) w2 → ∃ (dv : Value) (ds : List Ds), Fr [] w w2 ∧ DGame w.heap.size w2 w.heap.size (.slice none 0 0) dv ds ((k + 1) * 2000000) ∧ ds.length ≤ k + 1) := by
        intro w2 ⟨v', qs, S, g, l, f2, x, _⟩
        refine ⟨v', qs, (f.alloc _).trans f2 (fun i hi => .inl hi) (fun i hi => .inr ?_), g.mono (by omega), by omega⟩
        exact (HG.out.low i (x i hi))
      have SK : Hid (DGame w.heap.size (wr.alloc (.cells #[.int .i64 kk, .int .i64 nn, .int .i64 aa, .int .i64 cc, .string ss, .slice va vb vc] 32)) w.heap.size (.slice none 0 0) dv ds ((k + 1) * 2000000)) := (HG.out.fr0 ((Fr.refl _ _).alloc _)).mono (by omega)
      clear hB
      by_cases h6 : 6 ≤ kk
      · by_cases h13 : kk ≤ 13
        · have HT := hide (HT.out ⟨h6, h13⟩)
          go_wp2_with fail
          refine HT.out.mono ?_
          rintro e w2 ⟨rfl, u2⟩
          have U2 := hide (ST.out w2 u2)
          clear u2 ST SK HT
          go_wp2
          go_roundw
          case rel =>
            obtain ⟨v', qs, f2, g2, l2⟩ := U2.out
            exact ⟨k + 1, v', qs, by go_num, by omega, f2, g2, l2⟩
          case measure => simp [intOf]; exact meas_lt k (Nat.lt_of_lt_of_le hend hlen)
        · clear ST HT
          go_wp2
          go_roundw
          case rel => exact ⟨k + 1, dv, ds, by go_num, by omega, f.alloc _, SK.out, by omega⟩
          case measure => simp [intOf]; exact meas_lt k (Nat.lt_of_lt_of_le hend hlen)
      · clear ST HT
        go_wp2
        go_roundw
        case rel => exact ⟨k + 1, dv, ds, by go_num, by omega, f.alloc _, SK.out, by omega⟩
        case measure => simp [intOf]; exact meas_lt k (Nat.lt_of_lt_of_le hend hlen)
    · go_wp2
      go_ret
      exact ⟨rfl, f⟩

set_option maxHeartbeats 400000 in
theorem holds8_nil (w : World) (ao : Option Addr) (cap : Nat) :
    Calls Tryz.prog 7 #[.slice ao 0 cap, .int .i64 8] w fun e w' => e = .returned (.bool true) ∧ Fr [] w w' := by
  go_enter Tryz.func7, Tryz.ntmps7
  go_wp2
  go_loopw [6] (fun i wr => i = .int .i64 0 ∧ Fr [] w wr) (fun _ _ => 0)
  case atStart => exact ⟨rfl, (Fr.refl _ _).alloc _⟩
  case round =>
    obtain ⟨rfl, f⟩ := hrel
    go_wp2
    go_ret
    exact ⟨rfl, f⟩
theorem law8_any (w : World) (gb off len cap : Nat) (K N A C : Nat → Int) (Sx : Nat → ByteArray) (V : Nat → Option Addr × Nat × Nat) (Ws : Nat → List Win) (h : OpsAt w gb off len K N A C Sx V) (hw : ∀ i, i < len → OpWins w w.heap.size (V i).1 (Ws i) (V i).2.1) (hlen : len ≤ 1048576) :
    Calls Tryz.prog 6 #[.slice (some ⟨gb, off, none⟩) len cap] w fun e w' => e = .returned (.bool true) ∧ Fr [] w w' := by
  have H := hide (holds8_any w gb off len cap K N A C Sx V Ws h hw hlen)
  clear h hw
  go_enter Tryz.func6, Tryz.ntmps6
  go_wp2_with (go_at_call 7; refine H.out.mono ?_; rintro e w' ⟨rfl, f⟩)
  go_ret
  exact ⟨rfl, f⟩
theorem law8_nil (w : World) (ao : Option Addr) (cap : Nat) :
    Calls Tryz.prog 6 #[.slice ao 0 cap] w fun e w' => e = .returned (.bool true) ∧ Fr [] w w' := by
  go_enter Tryz.func6, Tryz.ntmps6
  go_wp2_with (go_at_call 7; refine (holds8_nil w ao cap).mono ?_; rintro e w' ⟨rfl, f⟩)
  go_ret
  exact ⟨rfl, f⟩
end Go.Proofs.YtjhccghhinlmdaaGreatDoor
