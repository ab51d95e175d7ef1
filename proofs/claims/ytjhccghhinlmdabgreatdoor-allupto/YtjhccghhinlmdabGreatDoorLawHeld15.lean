/- A script is played, where all is held. -/
import Derived.Test.YtjhccghhinlmdabGreatDoorPackLaidLaw
import Derived.Test.YtjhccghhinlmdabGreatDoorLawHolds
import Derived.Test.YtjhccghhinlmdabGreatDoorLawStep15
namespace Go.Proofs.YtjhccghhinlmdabGreatDoor
open Go.RowKit

theorem held15 : StepHeld 15 := step15_any

set_option maxHeartbeats 4000000 in
set_option maxRecDepth 100000 in
theorem holds15_any (w : World) (gb off len cap : Nat) (K N A C : Nat → Int) (Sx : Nat → ByteArray) (V : Nat → Option Addr × Nat × Nat) (Ws : Nat → List Win) (h : OpsAt w gb off len K N A C Sx V) (hw : ∀ i, i < len → OpWins w w.heap.size (V i).1 (Ws i) (V i).2.1) (hlen : len ≤ 1048576) :
    Calls Tryz.prog 4 #[.slice (some ⟨gb, off, none⟩) len cap, .int .i64 15] w fun e w' => e = .returned (.bool true) ∧ Fr [] w w' := by
  have H := hide h
  have HW := hide hw
  clear h hw
  go_enter Tryz.func4, Tryz.ntmps4
  go_wp2
  go_loopw [6] (fun i wr => ∃ (k : Nat) (v dv : Value) (ps : List (Option Pr)) (ds : List Ds), i = .int .i64 k ∧ k ≤ len ∧ Fr [] w wr ∧ Both w.heap.size wr w.heap.size v dv ps ds (k * 2000000) ∧ ps.length ≤ k ∧ ds.length ≤ k) (fun i _ => (3000000 - intOf i).toNat)
  case atStart =>
    refine ⟨0, .slice none 0 0, .slice none 0 0, [], [], rfl, by omega, (Fr.refl _ _).alloc _, ⟨⟨Blk.new _ _ _, World.ownsRow_nil _ _ _ _, ?_, ?_, ?_, Nat.le_refl _, ?_⟩, ⟨Blk.new _ _ _, World.ownsRow_nil _ _ _ _, ?_, ?_, ?_, Nat.le_refl _, ?_⟩, ?_⟩, by simp, by simp⟩
    all_goals intros; simp_all [tfoot, Value.ownBlock]
  case round =>
    obtain ⟨k, v, dv, ps, ds, rfl, hk, f, hg, hps, hds⟩ := hrel
    by_cases hend : k < len
    · obtain ⟨c0, c1, c2, c3, c4, c5⟩ := H.out.c k hend
      have d0 := f.cell c0
      have d1 := f.cell c1
      have d2 := f.cell c2
      have d3 := f.cell c3
      have d4 := f.cell c4
      have d5 := f.cell c5
      have glt : gb < wr.heap.size := World.block_lt_of_cell? wr _ d0
      obtain ⟨m1, m2⟩ := H.out.n1 k hend
      have s1 := H.out.s1 k hend
      have OW := hide (HW.out k hend)
      have hsz := f.size
      have HG := hide hg
      have blt := hg.t.st.lt
      clear c0 c1 c2 c3 c4 c5 hg
      generalize K k = kk at *
      generalize N k = nn at *
      generalize A k = aa at *
      generalize C k = cc at *
      generalize Sx k = ss at *
      generalize Ws k = ws at *
      generalize (V k).1 = va at *
      generalize (V k).2.1 = vb at *
      generalize (V k).2.2 = vc at *
      have hB : w.heap.size ≤ (wr.alloc (.cells #[.int .i64 kk, .int .i64 nn, .int .i64 aa, .int .i64 cc, .string ss, .slice va vb vc] 32)).heap.size := by simp; omega
      have HT := hide (term2_any kk nn aa cc ss va vb vc (wr.alloc (.cells #[.int .i64 kk, .int .i64 nn, .int .i64 aa, .int .i64 cc, .string ss, .slice va vb vc] 32)) w.heap.size w.heap.size v dv ps (k * 2000000) (HG.out.t.fr0 ((Fr.refl _ _).alloc _)) (by omega) hB (by omega) m1 m2)
      have HP : Hid (6 ≤ kk ∧ kk ≤ 13 → _) := fun hkk => painter_any 15 held15 kk nn aa cc ss va ws vb vc (wr.alloc (.cells #[.int .i64 kk, .int .i64 nn, .int .i64 aa, .int .i64 cc, .string ss, .slice va vb vc] 32)) w.heap.size w.heap.size v dv ds (k * 2000000) (HG.out.d.fr0 ((Fr.refl _ _).alloc _)) hkk (OW.out.fr0 (f.alloc _)) (by omega) hB (by omega) m1 m2
      have ST : Hid (∀ w2, GUpd2 w.heap.size w.heap.size v dv ps (ps.length + 1) (k * 2000000 + ss.size) (wr.alloc (.cells #[.int .i64 kk, .int .i64 nn, .int .i64 aa, .int .i64 cc, .string ss, .slice va vb vc] 32)) w2 → w2.cell? ⟨wr.heap.size, 0, none⟩ = some (.int .i64 kk) ∧ wr.heap.size < w2.heap.size ∧ ∃ (v dv : Value) (ps : List (Option Pr)) (ds : List Ds), Fr [] w w2 ∧ Both w.heap.size w2 w.heap.size v dv ps ds ((k + 1) * 2000000) ∧ ps.length ≤ k + 1 ∧ ds.length ≤ k + 1) := by
        intro w2 u
        obtain ⟨v', ps', S, g, l, f2, x0, x⟩ := (HG.out.fr0 ((Fr.refl _ _).alloc _)).term (Nat.le_add_right _ _) u
        have nS : wr.heap.size ∉ S := fun hs => by
          rcases List.mem_cons.1 (x0 _ hs) with e | e
          · omega
          · have := HG.out.t.lt _ e; omega
        have BO : Blk w2 wr.heap.size [.int .i64 kk, .int .i64 nn, .int .i64 aa, .int .i64 cc, .string ss, .slice va vb vc] 32 := (Blk.new _ _ _).fr f2 nS
        exact ⟨BO.cell 0, BO.lt, v', dv, ps', ds, (f.alloc _).trans f2 (fun i hi => .inl hi) (fun i hi => .inr (x i hi)), g.mono (by omega), by omega, by omega⟩
      have SP : Hid (∀ w2, DGUpd w.heap.size w.heap.size v dv ds (k * 2000000 + (ss.size + 20000)) (wr.alloc (.cells #[.int .i64 kk, .int .i64 nn, .int .i64 aa, .int .i64 cc, .string ss, .slice va vb vc] 32)) w2 → ∃ (v dv : Value) (ps : List (Option Pr)) (ds : List Ds), Fr [] w w2 ∧ Both w.heap.size w2 w.heap.size v dv ps ds ((k + 1) * 2000000) ∧ ps.length ≤ k + 1 ∧ ds.length ≤ k + 1) := by
        intro w2 u
        obtain ⟨dv', ds', S, g, l, f2, x⟩ := (HG.out.fr0 ((Fr.refl _ _).alloc _)).paint (Nat.le_add_right _ _) u
        exact ⟨v, dv', ps, ds', (f.alloc _).trans f2 (fun i hi => .inl hi) (fun i hi => .inr (x i hi)), g.mono (by omega), by omega, by omega⟩
      have SK : Hid (Both w.heap.size (wr.alloc (.cells #[.int .i64 kk, .int .i64 nn, .int .i64 aa, .int .i64 cc, .string ss, .slice va vb vc] 32)) w.heap.size v dv ps ds ((k + 1) * 2000000)) := (HG.out.fr0 ((Fr.refl _ _).alloc _)).mono (by omega)
      clear hB
      by_cases h6 : 6 ≤ kk
      · by_cases h13 : kk ≤ 13
        · have HT := hide (HP.out ⟨h6, h13⟩)
          have ST := SP
          have b14 : (kk == 14) = false := by rw [beq_eq_false_iff_ne]; omega
          have h5 : 5 < kk := by omega
          have h1 : 1 ≤ kk := by omega
          clear HP SP
          go_wp2_with fail
          refine HT.out.mono ?_
          rintro e w2 ⟨rfl, u2⟩
          have U2 := hide (ST.out w2 u2)
          clear u2 ST SK HT
          go_wp2
          go_roundw
          case rel =>
            obtain ⟨v', dv', qs, ds', f2, g2, l2, l3⟩ := U2.out
            exact ⟨k + 1, v', dv', qs, ds', by go_num, by omega, f2, g2, l2, l3⟩
          case measure => simp [intOf]; exact meas_lt k (Nat.lt_of_lt_of_le hend hlen)
        · clear HP SP
          have h5 : 5 < kk := by omega
          have h1 : 1 ≤ kk := by omega
          by_cases h14 : kk = 14
          · subst h14
            clear h5 h1 h6 h13
            go_wp2_with fail
            refine HT.out.mono ?_
            rintro e w2 ⟨rfl, u2⟩
            obtain ⟨z0, z1, z2⟩ := ST.out w2 u2
            have U2 := hide z2
            clear u2 z2 ST SK HT
            go_wp2
            go_roundw
            case rel =>
              obtain ⟨v', dv', qs, ds', f2, g2, l2, l3⟩ := U2.out
              exact ⟨k + 1, v', dv', qs, ds', by go_num, by omega, f2, g2, l2, l3⟩
            case measure => simp [intOf]; exact meas_lt k (Nat.lt_of_lt_of_le hend hlen)
          · have b14 : (kk == 14) = false := by simpa using h14
            clear h14 ST HT
            go_wp2
            go_roundw
            case rel => exact ⟨k + 1, v, dv, ps, ds, by go_num, by omega, f.alloc _, SK.out, by omega, by omega⟩
            case measure => simp [intOf]; exact meas_lt k (Nat.lt_of_lt_of_le hend hlen)
      · have b14 : (kk == 14) = false := by rw [beq_eq_false_iff_ne]; omega
        clear HP SP
        by_cases h1 : 1 ≤ kk
        · have h5 : kk ≤ 5 := by omega
          go_wp2_with fail
          refine HT.out.mono ?_
          rintro e w2 ⟨rfl, u2⟩
          obtain ⟨z0, z1, z2⟩ := ST.out w2 u2
          have U2 := hide z2
          clear u2 z2 ST SK HT
          go_wp2
          go_roundw
          case rel =>
            obtain ⟨v', dv', qs, ds', f2, g2, l2, l3⟩ := U2.out
            exact ⟨k + 1, v', dv', qs, ds', by go_num, by omega, f2, g2, l2, l3⟩
          case measure => simp [intOf]; exact meas_lt k (Nat.lt_of_lt_of_le hend hlen)
        · clear ST HT
          go_wp2
          go_roundw
          case rel => exact ⟨k + 1, v, dv, ps, ds, by go_num, by omega, f.alloc _, SK.out, by omega, by omega⟩
          case measure => simp [intOf]; exact meas_lt k (Nat.lt_of_lt_of_le hend hlen)
    · go_wp2
      go_ret
      exact ⟨rfl, f⟩

set_option maxHeartbeats 400000 in
theorem holds15_nil (w : World) (ao : Option Addr) (cap : Nat) :
    Calls Tryz.prog 4 #[.slice ao 0 cap, .int .i64 15] w fun e w' => e = .returned (.bool true) ∧ Fr [] w w' := by
  go_enter Tryz.func4, Tryz.ntmps4
  go_wp2
  go_loopw [6] (fun i wr => i = .int .i64 0 ∧ Fr [] w wr) (fun _ _ => 0)
  case atStart => exact ⟨rfl, (Fr.refl _ _).alloc _⟩
  case round =>
    obtain ⟨rfl, f⟩ := hrel
    go_wp2
    go_ret
    exact ⟨rfl, f⟩
end Go.Proofs.YtjhccghhinlmdabGreatDoor
