/- Package views' panes: a text cut in lines, what a pane has in a place. -/
import Derived.Test.YtjhccghhinlmdaaDoorPaintModel
import Derived.Deep.RegionHeldLaw
namespace Go.Proofs.YtjhccghhinlmdaaDoor
open Go.RowKit

theorem info_string : (Tryd.prog.info? 9).map (fun i => (i.zero, i.size, i.bytes)) = some (some (.string ByteArray.empty), 1, 16) := by kernel_rfl

/-- lines lie one behind the other in block b -/
def LinesAt (w : World) (b : Nat) (ls : List ByteArray) : Prop := ∃ vs, Blk w b vs 9 ∧ ∀ (i : Nat) l, ls[i]? = some l → vs[i]? = some (.string l)
theorem LinesAt.fr {w w' : World} {S : List Nat} {b : Nat} {ls : List ByteArray} (h : LinesAt w b ls) (f : Fr S w w') (hn : b ∉ S) : LinesAt w' b ls := by
  obtain ⟨vs, h1, h2⟩ := h
  exact ⟨vs, h1.fr f hn, h2⟩
theorem LinesAt.cell {w : World} {b : Nat} {ls : List ByteArray} (h : LinesAt w b ls) {i : Nat} {l : ByteArray} (hi : ls[i]? = some l) : w.cell? ⟨b, i, none⟩ = some (.string l) := by
  obtain ⟨vs, h1, h2⟩ := h
  rw [h1.cell]; exact h2 i l hi
theorem LinesAt.lt {w : World} {b : Nat} {ls : List ByteArray} (h : LinesAt w b ls) : b < w.heap.size := h.elim fun _ h => h.1.lt
theorem LinesAt.own {w : World} {base g n cap : Nat} {ls : List ByteArray} (hn : n = ls.length) (h : w.ownsRow base 9 1 (.slice (some ⟨g, 0, none⟩) n cap) n (ls.map Value.string)) : LinesAt w g ls ∧ base ≤ g := by
  rcases h.2 with ⟨hv, _⟩ | ⟨g', cap', cur, hv, hb, hg, hc1, hc2, hc3, hc4⟩
  · simp at hv
  · simp only [Value.slice.injEq, Option.some.injEq, Addr.mk.injEq] at hv
    obtain ⟨⟨rfl, _⟩, _, rfl⟩ := hv
    refine ⟨⟨cur.toList, by unfold Blk; rw [hg], ?_⟩, hb⟩
    intro i l hi
    have hlt : i < ls.length := (List.getElem?_eq_some_iff.1 hi).1
    have e : (cur.toList.take (n * 1))[i]? = (ls.map Value.string)[i]? := by rw [hc4]
    rw [List.getElem?_take_of_lt (by omega)] at e
    rw [e, List.getElem?_map, hi]; rfl

/-- the text has been cut -/
def CutPost (w : World) (s : ByteArray) (n : Int) (e : Ending) (w' : World) : Prop :=
  ∃ g cap, e = .returned (.slice (some ⟨g, 0, none⟩) (cutF s n).length cap) ∧ w.heap.size ≤ g ∧ LinesAt w' g (cutF s n) ∧ Fr [] w w'

/-- a slice of the call's own has got a value more -/
theorem own_more {w wr w1 : World} {base : Nat} {e : TypeId} {v : Value} {n : Nat} {xs : List Value} {o : Obj} (hB : w.heap.size ≤ base) (f : Fr [] w wr) (h : wr.ownsRow base e 1 v n xs) (hg : (wr.alloc o).grownBy w1 v.ownBlock) : Fr [] w w1 :=
  Fr.grown (f.alloc o) hg (fun j hj => .inr (Nat.le_trans hB (h.lt j hj).1))

set_option maxHeartbeats 2000000 in
set_option maxRecDepth 100000 in
theorem cut_any (s : ByteArray) (n : Int) (w : World) (hs : s.size ≤ 400) :
    Calls Tryd.prog 61 #[.string s, .int .i64 n] w (CutPost w s n) := by
  obtain ⟨i0, hi, hz0, hz1, hz2⟩ := info_parts info_string
  go_enter Tryd.func61, Tryd.ntmps61
  go_wp2
  go_loopw [5, 6, 7] (fun u i j wr => ∃ k : Nat, j = .int .i64 k ∧ k ≤ s.size ∧ i = .int .i64 ((cutS s n k).1 : Nat) ∧ wr.ownsRow w.heap.size 9 1 u (cutS s n k).2.length ((cutS s n k).2.map Value.string) ∧ Fr [] w wr) (fun _ _ j _ => (3000 - intOf j).toNat)
  case atStart => exact ⟨0, rfl, by omega, rfl, World.ownsRow_nil _ _ _ _, Fr.refl _ _⟩
  case round =>
    obtain ⟨k, rfl, hk, rfl, hown, f⟩ := hrel
    have q1 := cutS_first s n k
    have q2 := cutS_length s n k
    have hsz := f.size
    by_cases hend : k < s.size
    · have E := hide (byteAt_eq s k hend)
      have hby := (s[k]).toNat_lt
      have S1 : Hid (cutS s n (k + 1) = if byteAt s k = 10 then (k + 1, (cutS s n k).2 ++ [s.extract (cutS s n k).1 k]) else if (k : Int) - (cutS s n k).1 = n then (k, (cutS s n k).2 ++ [s.extract (cutS s n k).1 k]) else cutS s n k) := rfl
      generalize cutS s n k = ck at *
      obtain ⟨a, l⟩ := ck
      simp only at q1 q2 hown
      have HO := hide hown
      clear hown
      by_cases h10 : (s[k].toNat : Int) = 10
      · have HN : Hid (cutS s n (k + 1) = (k + 1, l ++ [s.extract a k])) := by
          show _ = _; rw [S1.out, E.out, if_pos h10]
        clear S1
        go_wp2_with (at_builtin; refine wpList_append_lies _ rfl (.tmp 18) (.tmp 23) 92 rfl w.heap.size 9 i0 (.string ByteArray.empty) 1 16 Tryd.underlying92 hi hz0 hz1 hz2 rfl (by decide) u5 l.length (l.map Value.string) rfl (own_fr0 HO.out ((Fr.refl _ _).alloc _)) ⟨wr.heap.size, 0, none⟩ 1 1 [.string (s.extract a k)] rfl rfl (World.news_of_block (cs := #[.string (s.extract a k)]) (t := 9) (fr := (0, 0)) (by exact heap_alloc_new wr _)) (one_one _ rfl) (by omega) (by unfold maxLen; omega) (by omega) (by simp; omega) (wr.heap.size + 1) (by simp) ?_; intro g1 cap1 w1 hown1 hgrow hat hlt1; have F1 : Hid (Fr [] w w1) := own_more (Nat.le_refl _) f HO.out hgrow; have HO1 := hide hown1; clear hown1 hgrow hat)
        go_roundw
        case rel =>
          refine ⟨k + 1, by go_num, by omega, ?_, ?_, F1.out⟩
          · rw [HN.out]; go_num
          · rw [HN.out]; simpa using HO1.out
        case measure => simp [intOf]; omega
      · have b10 : ((s[k].toNat : Int) == 10) = false := by simpa using h10
        by_cases hw : (k : Int) - a = n
        · have HN : Hid (cutS s n (k + 1) = (k, l ++ [s.extract a k])) := by
            show _ = _; rw [S1.out, E.out, if_neg h10, if_pos hw]
          have bw : ((k : Int) - a == n) = true := by simpa using hw
          clear S1 h10 hw
          go_wp2_with (at_builtin; refine wpList_append_lies _ rfl (.tmp 32) (.tmp 37) 92 rfl w.heap.size 9 i0 (.string ByteArray.empty) 1 16 Tryd.underlying92 hi hz0 hz1 hz2 rfl (by decide) u5 l.length (l.map Value.string) rfl (own_fr0 HO.out ((Fr.refl _ _).alloc _)) ⟨wr.heap.size, 0, none⟩ 1 1 [.string (s.extract a k)] rfl rfl (World.news_of_block (cs := #[.string (s.extract a k)]) (t := 9) (fr := (0, 0)) (by exact heap_alloc_new wr _)) (one_one _ rfl) (by omega) (by unfold maxLen; omega) (by omega) (by simp; omega) (wr.heap.size + 1) (by simp) ?_; intro g1 cap1 w1 hown1 hgrow hat hlt1; have F1 : Hid (Fr [] w w1) := own_more (Nat.le_refl _) f HO.out hgrow; have HO1 := hide hown1; clear hown1 hgrow hat)
          go_roundw
          case rel =>
            refine ⟨k + 1, by go_num, by omega, ?_, ?_, F1.out⟩
            · rw [HN.out]
            · rw [HN.out]; simpa using HO1.out
          case measure => simp [intOf]; omega
        · have HN : Hid (cutS s n (k + 1) = (a, l)) := by
            show _ = _; rw [S1.out, E.out, if_neg h10, if_neg hw]
          have bw : ((k : Int) - a == n) = false := by simpa using hw
          clear S1 h10 hw
          go_wp2
          go_roundw
          case rel =>
            refine ⟨k + 1, by go_num, by omega, ?_, ?_, f⟩
            · rw [HN.out]
            · rw [HN.out]; exact HO.out
          case measure => simp [intOf]; omega
    · have hk' : k = s.size := by omega
      subst hk'
      have HN : Hid (cutF s n = (cutS s n s.size).2 ++ [s.extract (cutS s n s.size).1 s.size]) := rfl
      generalize cutS s n s.size = ck at *
      obtain ⟨a, l⟩ := ck
      simp only at q1 q2 hown
      have HO := hide hown
      clear hown hend
      go_wp2_with (at_builtin; refine wpList_append_lies _ rfl (.tmp 40) (.tmp 44) 92 rfl w.heap.size 9 i0 (.string ByteArray.empty) 1 16 Tryd.underlying92 hi hz0 hz1 hz2 rfl (by decide) u5 l.length (l.map Value.string) rfl (own_fr0 HO.out ((Fr.refl _ _).alloc _)) ⟨wr.heap.size, 0, none⟩ 1 1 [.string (s.extract a s.size)] rfl rfl (World.news_of_block (cs := #[.string (s.extract a s.size)]) (t := 9) (fr := (0, 0)) (by exact heap_alloc_new wr _)) (one_one _ rfl) (by omega) (by unfold maxLen; omega) (by omega) (by simp; omega) (wr.heap.size + 1) (by simp) ?_; intro g1 cap1 w1 hown1 hgrow hat hlt1; have F1 : Hid (Fr [] w w1) := own_more (Nat.le_refl _) f HO.out hgrow; have HO1 := hide hown1; clear hown1 hgrow hat)
      go_ret
      have hl : (cutF s n).length = l.length + 1 := by rw [HN.out]; simp
      obtain ⟨L1, L2⟩ := LinesAt.own (ls := cutF s n) (n := l.length + 1) (g := g1) (cap := cap1) (w := w1) (base := w.heap.size) hl.symm (by have := HO1.out; rw [HN.out]; simpa using this)
      exact ⟨g1, cap1, by rw [hl]; rfl, L2, L1, F1.out⟩
end Go.Proofs.YtjhccghhinlmdaaDoor
