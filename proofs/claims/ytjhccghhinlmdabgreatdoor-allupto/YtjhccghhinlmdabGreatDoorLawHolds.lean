/- A script is played: of terminals every answer is the document's. -/
import Derived.Test.YtjhccghhinlmdabGreatDoorLawTerm
namespace Go.Proofs.YtjhccghhinlmdabGreatDoor
open Go.RowKit

theorem term_any (k n a c : Int) (s : ByteArray) (av : Option Addr) (lv cv : Nat) (w : World) (base bG : Nat) (v : Value) (ps : List (Option Pr)) (m : Nat) (h : GameAt base w bG v ps m) (hl2 : ps.length ≤ 1048576) (hB : base ≤ w.heap.size) (hs : m + s.size ≤ 2305843009213693952) (n1 : -9223372036854775808 ≤ n) (n2 : n ≤ 9223372036854775807) :
    Calls Tryz.prog 5 #[.pointer (some ⟨bG, 0, none⟩), .agg #[.int .i64 k, .int .i64 n, .int .i64 a, .int .i64 c, .string s, .slice av lv cv]] w
      fun e w' => e = .returned (.bool true) ∧ GUpd base bG (ps.length + 1) (m + s.size) w w' := by
  by_cases hk : k = 1
  · subst hk
    have up : ∀ {w'}, GUpd base bG (ps.length + 1) m w w' → GUpd base bG (ps.length + 1) (m + s.size) w w' := fun ⟨v, qs, S, g, l, f, x⟩ => ⟨v, qs, S, g.mono (by omega), l, f, x⟩
    by_cases hz : sizeB a c = true
    · have hz' : 1 ≤ a ∧ a ≤ 40 ∧ 1 ≤ c ∧ c ≤ 20 := by simp [sizeB] at hz; omega
      exact (term_new_yes n a c s av lv cv w base bG v ps m h hl2 hB hz'.1 hz'.2.1 hz'.2.2.1 hz'.2.2.2).mono fun e w' ⟨he, u⟩ => ⟨he, up u⟩
    · exact (term_new_no n a c s av lv cv w base bG v ps m h hl2 hB (by simpa using hz)).mono fun e w' ⟨he, u⟩ => ⟨he, up u⟩
  · by_cases hl : ps.length = 0
    · have e : ps = [] := List.eq_nil_of_length_eq_zero hl
      subst e
      exact (term_none k n a c s av lv cv w base bG v m h hk).mono fun e w' ⟨he, f⟩ => ⟨he, GUpd.same (h.mono (by omega)) (by simp) f⟩
    · exact (term_at k n a c s av lv cv w base bG v ps m h hk (by omega) hl2 hB hs n1 n2).mono fun e w' ⟨he, ⟨v, qs, S, g, l, f, x⟩⟩ => ⟨he, ⟨v, qs, S, g, by omega, f, x⟩⟩

/-- a script's steps lie one behind the other -/
structure OpsAt (w : World) (gb off len : Nat) (K N A C : Nat → Int) (Sx : Nat → ByteArray) (V : Nat → Option Addr × Nat × Nat) : Prop where
  c : ∀ i, i < len → w.cell? ⟨gb, off + i * 6, none⟩ = some (.int .i64 (K i)) ∧ w.cell? ⟨gb, off + i * 6 + 1, none⟩ = some (.int .i64 (N i)) ∧ w.cell? ⟨gb, off + i * 6 + 2, none⟩ = some (.int .i64 (A i)) ∧
    w.cell? ⟨gb, off + i * 6 + 3, none⟩ = some (.int .i64 (C i)) ∧ w.cell? ⟨gb, off + i * 6 + 4, none⟩ = some (.string (Sx i)) ∧ w.cell? ⟨gb, off + i * 6 + 5, none⟩ = some (.slice (V i).1 (V i).2.1 (V i).2.2)
  n1 : ∀ i, i < len → -9223372036854775808 ≤ N i ∧ N i ≤ 9223372036854775807
  s1 : ∀ i, i < len → (Sx i).size ≤ 1048576
theorem Fr.cell {w w' : World} (f : Fr [] w w') {p : Addr} {x : Value} (h : w.cell? p = some x) : w'.cell? p = some x := by
  rw [← h]; exact World.cell?_of_block (w := w) (f.block p.block (World.block_lt_of_cell? w _ h) (by simp))

set_option maxHeartbeats 4000000 in
set_option maxRecDepth 100000 in
theorem holds_any (w : World) (gb off len cap : Nat) (K N A C : Nat → Int) (Sx : Nat → ByteArray) (V : Nat → Option Addr × Nat × Nat) (h : OpsAt w gb off len K N A C Sx V) (hlen : len ≤ 1048576) :
    Calls Tryz.prog 4 #[.slice (some ⟨gb, off, none⟩) len cap, .int .i64 1] w fun e w' => e = .returned (.bool true) ∧ Fr [] w w' := by
  have H := hide h
  clear h
  go_enter Tryz.func4, Tryz.ntmps4
  go_wp2
  go_loopw [6] (fun i wr => ∃ (k : Nat) (v : Value) (ps : List (Option Pr)), i = .int .i64 k ∧ k ≤ len ∧ Fr [] w wr ∧ GameAt w.heap.size wr w.heap.size v ps (k * 1048576) ∧ ps.length ≤ k) (fun i _ => (3000000 - intOf i).toNat)
  case atStart =>
    refine ⟨0, .slice none 0 0, [], rfl, by omega, (Fr.refl _ _).alloc _, ⟨Blk.new _ _ _, World.ownsRow_nil _ _ _ _, ?_, ?_, ?_, Nat.le_refl _, ?_⟩, by simp⟩
    all_goals intros; simp_all
  case round =>
    obtain ⟨k, v, ps, rfl, hk, f, hg, hps⟩ := hrel
    by_cases hend : k < len
    · obtain ⟨c0, c1, c2, c3, c4, c5⟩ := H.out.c k hend
      have d0 := f.cell c0
      have d1 := f.cell c1
      have d2 := f.cell c2
      have d3 := f.cell c3
      have d4 := f.cell c4
      have d5 := f.cell c5
      have glt : gb < wr.heap.size := World.block_lt_of_cell? wr _ d0
      obtain ⟨m1, m2⟩ := H.out.n1 k hend
      have s1 := H.out.s1 k hend
      have hsz := f.size
      have HG := hide hg
      have blt := hg.st.lt
      clear c0 c1 c2 c3 c4 c5 hg
      generalize K k = kk at *
      generalize N k = nn at *
      generalize A k = aa at *
      generalize C k = cc at *
      generalize Sx k = ss at *
      generalize (V k).1 = va at *
      generalize (V k).2.1 = vb at *
      generalize (V k).2.2 = vc at *
      have hB : w.heap.size ≤ (wr.alloc (.cells #[.int .i64 kk, .int .i64 nn, .int .i64 aa, .int .i64 cc, .string ss, .slice va vb vc] 32)).heap.size := by simp; omega
      have HT := hide (term_any kk nn aa cc ss va vb vc (wr.alloc (.cells #[.int .i64 kk, .int .i64 nn, .int .i64 aa, .int .i64 cc, .string ss, .slice va vb vc] 32)) w.heap.size w.heap.size v ps (k * 1048576) (HG.out.fr0 ((Fr.refl _ _).alloc _)) (by omega) hB (by omega) m1 m2)
      have ST : Hid (∀ w2, GUpd w.heap.size w.heap.size (ps.length + 1) (k * 1048576 + ss.size) (wr.alloc (.cells #[.int .i64 kk, .int .i64 nn, .int .i64 aa, .int .i64 cc, .string ss, .slice va vb vc] 32)) w2 → ∃ (v : Value) (ps : List (Option Pr)), Fr [] w w2 ∧ GameAt w.heap.size w2 w.heap.size v ps ((k + 1) * 1048576) ∧ ps.length ≤ k + 1) := by
        intro w2 ⟨v', qs, S, g, l, f2, x⟩
        exact ⟨v', qs, (f.alloc _).trans f2 (fun i hi => .inl hi) (fun i hi => .inr (x i hi)), g.mono (by omega), by omega⟩
      have SK : Hid (GameAt w.heap.size (wr.alloc (.cells #[.int .i64 kk, .int .i64 nn, .int .i64 aa, .int .i64 cc, .string ss, .slice va vb vc] 32)) w.heap.size v ps ((k + 1) * 1048576)) := (HG.out.fr0 ((Fr.refl _ _).alloc _)).mono (by omega)
      clear hB
      by_cases h1 : 1 ≤ kk ∧ kk ≤ 5
      · obtain ⟨h1, h5⟩ := h1
        go_wp2_with fail
        refine HT.out.mono ?_
        rintro e w2 ⟨rfl, u2⟩
        have U2 := hide (ST.out w2 u2)
        clear u2 ST SK HT
        go_wp2
        go_roundw
        case rel =>
          obtain ⟨v', qs, f2, g2, l2⟩ := U2.out
          exact ⟨k + 1, v', qs, by go_num, by omega, f2, g2, l2⟩
        case measure => simp [intOf]; omega
      · by_cases h14 : kk = 14
        · subst h14
          clear h1
          go_wp2_with fail
          refine HT.out.mono ?_
          rintro e w2 ⟨rfl, u2⟩
          have U2 := hide (ST.out w2 u2)
          clear u2 ST SK HT
          go_wp2
          go_roundw
          case rel =>
            obtain ⟨v', qs, f2, g2, l2⟩ := U2.out
            exact ⟨k + 1, v', qs, by go_num, by omega, f2, g2, l2⟩
          case measure => simp [intOf]; omega
        · have b14 : (kk == 14) = false := by simpa using h14
          by_cases hlo : kk < 1
          · clear h14 h1 ST HT
            go_wp2
            go_roundw
            case rel => exact ⟨k + 1, v, ps, by go_num, by omega, f.alloc _, SK.out, by omega⟩
            case measure => simp [intOf]; omega
          · have h6 : 5 < kk := by omega
            have h7 : 1 ≤ kk := by omega
            clear h14 h1 hlo ST HT
            go_wp2
            go_roundw
            case rel => exact ⟨k + 1, v, ps, by go_num, by omega, f.alloc _, SK.out, by omega⟩
            case measure => simp [intOf]; omega
    · go_wp2
      go_ret
      exact ⟨rfl, f⟩

set_option maxHeartbeats 400000 in
theorem holds_nil (w : World) (ao : Option Addr) (cap : Nat) :
    Calls Tryz.prog 4 #[.slice ao 0 cap, .int .i64 1] w fun e w' => e = .returned (.bool true) ∧ Fr [] w w' := by
  go_enter Tryz.func4, Tryz.ntmps4
  go_wp2
  go_loopw [6] (fun i wr => i = .int .i64 0 ∧ Fr [] w wr) (fun _ _ => 0)
  case atStart => exact ⟨rfl, (Fr.refl _ _).alloc _⟩
  case round =>
    obtain ⟨rfl, f⟩ := hrel
    go_wp2
    go_ret
    exact ⟨rfl, f⟩
end Go.Proofs.YtjhccghhinlmdabGreatDoor
