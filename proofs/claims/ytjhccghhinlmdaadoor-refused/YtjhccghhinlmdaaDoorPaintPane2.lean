/- Package views' panes: where one lies, what it has in a place. -/
import Derived.Test.YtjhccghhinlmdaaDoorPaintPane
namespace Go.Proofs.YtjhccghhinlmdaaDoor
open Go.RowKit

/-- a pane: its window, its offset, where its lines lie -/
structure Pane where
  o : Win
  off : Int
  lb : Nat
  lc : Nat
def Pane.ls (p : Pane) : List ByteArray := cutF p.o.text p.o.w
def Pane.vals (p : Pane) : List Value := [.int .i64 p.o.key, .int .i64 p.o.x, .int .i64 p.o.y, .int .i64 p.o.w, .int .i64 p.o.h, .int .i64 p.o.layer, .int .u8 p.o.style, .slice (some ⟨p.lb, 0, none⟩) p.ls.length p.lc, .int .i64 p.off]
/-- it is as it may be, and its lines lie there -/
structure PaneOk (w : World) (p : Pane) : Prop where
  ok : p.o.Ok
  o1 : 0 ≤ p.off
  o2 : p.off ≤ 401
  ls : LinesAt w p.lb p.ls
theorem PaneOk.fr {w w' : World} {S : List Nat} {p : Pane} (h : PaneOk w p) (f : Fr S w w') (hn : p.lb ∉ S) : PaneOk w' p := ⟨h.ok, h.o1, h.o2, h.ls.fr f hn⟩
theorem PaneOk.lsBd {w : World} {p : Pane} (h : PaneOk w p) : 1 ≤ p.ls.length ∧ p.ls.length ≤ 401 := by
  have := cutF_length p.o.text p.o.w; have := h.ok.t; unfold Pane.ls; omega

/-- a pane's cells lie from here on -/
structure PCells (w : World) (b c : Nat) (p : Pane) : Prop where
  c0 : w.cell? ⟨b, c, none⟩ = some (.int .i64 p.o.key)
  c1 : w.cell? ⟨b, c + 1, none⟩ = some (.int .i64 p.o.x)
  c2 : w.cell? ⟨b, c + 2, none⟩ = some (.int .i64 p.o.y)
  c3 : w.cell? ⟨b, c + 3, none⟩ = some (.int .i64 p.o.w)
  c4 : w.cell? ⟨b, c + 4, none⟩ = some (.int .i64 p.o.h)
  c5 : w.cell? ⟨b, c + 5, none⟩ = some (.int .i64 p.o.layer)
  c6 : w.cell? ⟨b, c + 6, none⟩ = some (.int .u8 p.o.style)
  c7 : w.cell? ⟨b, c + 7, none⟩ = some (.slice (some ⟨p.lb, 0, none⟩) p.ls.length p.lc)
  c8 : w.cell? ⟨b, c + 8, none⟩ = some (.int .i64 p.off)

set_option maxHeartbeats 1000000 in
set_option maxRecDepth 100000 in
theorem covers_any (b c : Nat) (p : Pane) (x y : Int) (w : World) (h : PCells w b c p) (ok : p.o.Ok) (x1 : 0 ≤ x) (x2 : x ≤ 40) (y1 : 0 ≤ y) (y2 : y ≤ 20) :
    Calls Tryd.prog 77 #[.pointer (some ⟨b, c, none⟩), .int .i64 x, .int .i64 y] w fun e w' => e = .returned (.bool (p.o.has x y)) ∧ ∃ n, w' = w.drewN n := by
  obtain ⟨_, c1, c2, c3, c4, _, _, _, _⟩ := h
  obtain ⟨_, _, a1, a2, a3, a4, a5, a6, a7, a8, _, _, _, _, _⟩ := ok
  have HH : Hid (p.o.has x y = (decide (p.o.x ≤ x) && decide (x < p.o.x + p.o.w) && decide (p.o.y ≤ y) && decide (y < p.o.y + p.o.h))) := rfl
  by_cases h1 : p.o.x ≤ x
  · by_cases h2 : x < p.o.x + p.o.w
    · by_cases h3 : p.o.y ≤ y
      · by_cases h4 : y < p.o.y + p.o.h
        · have E : Hid (p.o.has x y = true) := by show _ = _; rw [HH.out]; simp [h1, h2, h3, h4]
          have d1 : decide (x ≥ p.o.x) = true := by simpa using h1
          have d2 : decide (x < p.o.x + p.o.w) = true := by simpa using h2
          have d3 : decide (y ≥ p.o.y) = true := by simpa using h3
          have d4 : decide (y < p.o.y + p.o.h) = true := by simpa using h4
          go_enter Tryd.func77, Tryd.ntmps77
          go_wp2
          go_quiet (fail)
          go_wp2
          go_ret
          exact ⟨ret_bool E.out.symm, _, rfl⟩
        · have E : Hid (p.o.has x y = false) := by show _ = _; rw [HH.out]; simp [h4]
          have d1 : decide (x ≥ p.o.x) = true := by simpa using h1
          have d2 : decide (x < p.o.x + p.o.w) = true := by simpa using h2
          have d3 : decide (y ≥ p.o.y) = true := by simpa using h3
          have d4 : decide (y < p.o.y + p.o.h) = false := by simpa using h4
          go_enter Tryd.func77, Tryd.ntmps77
          go_wp2
          go_quiet (fail)
          go_wp2
          go_ret
          exact ⟨ret_bool E.out.symm, _, rfl⟩
      · have E : Hid (p.o.has x y = false) := by show _ = _; rw [HH.out]; simp [h3]
        have d1 : decide (x ≥ p.o.x) = true := by simpa using h1
        have d2 : decide (x < p.o.x + p.o.w) = true := by simpa using h2
        have d3 : decide (y ≥ p.o.y) = false := by simpa using h3
        go_enter Tryd.func77, Tryd.ntmps77
        go_wp2
        go_quiet (fail)
        go_wp2
        go_ret
        exact ⟨ret_bool E.out.symm, _, rfl⟩
    · have E : Hid (p.o.has x y = false) := by show _ = _; rw [HH.out]; simp [h2]
      have d1 : decide (x ≥ p.o.x) = true := by simpa using h1
      have d2 : decide (x < p.o.x + p.o.w) = false := by simpa using h2
      go_enter Tryd.func77, Tryd.ntmps77
      go_wp2
      go_quiet (fail)
      go_wp2
      go_ret
      exact ⟨ret_bool E.out.symm, _, rfl⟩
  · have E : Hid (p.o.has x y = false) := by show _ = _; rw [HH.out]; simp [h1]
    have d1 : decide (x ≥ p.o.x) = false := by simpa using h1
    go_enter Tryd.func77, Tryd.ntmps77
    go_wp2
    go_quiet (fail)
    go_wp2
    go_ret
    exact ⟨ret_bool E.out.symm, _, rfl⟩

theorem lineAt_some {ls : List ByteArray} {n : Int} (h1 : 0 ≤ n) (h2 : n < ls.length) : ls[n.toNat]? = some (lineAt ls n) := by
  simp [lineAt, List.getD_eq_getElem?_getD, show n.toNat < ls.length by omega]

set_option maxHeartbeats 1000000 in
set_option maxRecDepth 100000 in
theorem pchar_any (b c : Nat) (p : Pane) (x y : Int) (w : World) (h : PCells w b c p) (ok : PaneOk w p) (y2 : y ≤ 1000) (x2 : x ≤ 1000) :
    Calls Tryd.prog 78 #[.pointer (some ⟨b, c, none⟩), .int .i64 x, .int .i64 y] w fun e w' => e = .returned (.int .u8 (charF p.ls x y)) ∧ w = w' := by
  obtain ⟨_, _, _, _, _, _, _, c7, _⟩ := h
  have lb := ok.lsBd
  have L := hide ok.ls
  have blt : p.lb < w.heap.size := ok.ls.lt
  have HC : Hid (charF p.ls x y = if y < 0 ∨ (p.ls.length : Int) ≤ y ∨ x < 0 ∨ ((lineAt p.ls y).size : Int) ≤ x then 32 else shownC (byteAt (lineAt p.ls y) x.toNat)) := rfl
  clear ok
  by_cases h1 : y < 0
  · have E : Hid (charF p.ls x y = 32) := by show _ = _; rw [HC.out, if_pos (.inl h1)]
    go_enter Tryd.func78, Tryd.ntmps78
    go_wp2
    go_ret
    exact ⟨ret_int E.out.symm, rfl⟩
  · by_cases h2 : (p.ls.length : Int) ≤ y
    · have E : Hid (charF p.ls x y = 32) := by show _ = _; rw [HC.out, if_pos (.inr (.inl h2))]
      go_enter Tryd.func78, Tryd.ntmps78
      go_wp2
      go_ret
      exact ⟨ret_int E.out.symm, rfl⟩
    · obtain ⟨k, rfl⟩ := Int.eq_ofNat_of_zero_le (show 0 ≤ y by omega)
      have cl : w.cell? ⟨p.lb, k, none⟩ = some (.string (lineAt p.ls k)) := L.out.cell (by simpa using lineAt_some (ls := p.ls) (n := (k : Int)) (by omega) (by omega))
      have h3 : k < p.ls.length := by omega
      generalize lineAt p.ls k = ln at *
      by_cases h4 : x < 0
      · have E : Hid (charF p.ls x k = 32) := by show _ = _; rw [HC.out, if_pos (.inr (.inr (.inl h4)))]
        go_enter Tryd.func78, Tryd.ntmps78
        go_wp2
        go_ret
        exact ⟨ret_int E.out.symm, rfl⟩
      · by_cases h5 : (ln.size : Int) ≤ x
        · have E : Hid (charF p.ls x k = 32) := by show _ = _; rw [HC.out, if_pos (.inr (.inr (.inr h5)))]
          go_enter Tryd.func78, Tryd.ntmps78
          go_wp2
          go_ret
          exact ⟨ret_int E.out.symm, rfl⟩
        · obtain ⟨j, rfl⟩ := Int.eq_ofNat_of_zero_le (show 0 ≤ x by omega)
          have h6 : j < ln.size := by omega
          have E : Hid (charF p.ls j k = shownC (ln[j].toNat : Int)) := by
            show _ = _; rw [HC.out, if_neg (by omega)]
            simp only [Int.toNat_natCast]
            rw [byteAt_eq ln j h6]
          have hby := (ln[j]).toNat_lt
          by_cases h7 : (ln[j].toNat : Int) < 32
          · have E2 : Hid (charF p.ls j k = 63) := by show _ = _; rw [E.out]; unfold shownC; rw [if_pos (.inl h7)]
            go_enter Tryd.func78, Tryd.ntmps78
            go_wp2
            go_ret
            exact ⟨ret_int E2.out.symm, rfl⟩
          · by_cases h8 : 126 < (ln[j].toNat : Int)
            · have E2 : Hid (charF p.ls j k = 63) := by show _ = _; rw [E.out]; unfold shownC; rw [if_pos (.inr h8)]
              go_enter Tryd.func78, Tryd.ntmps78
              go_wp2
              go_ret
              exact ⟨ret_int E2.out.symm, rfl⟩
            · have E2 : Hid (charF p.ls j k = (ln[j].toNat : Int)) := by show _ = _; rw [E.out]; unfold shownC; rw [if_neg (by omega)]
              go_enter Tryd.func78, Tryd.ntmps78
              go_wp2
              go_ret
              exact ⟨ret_int E2.out.symm, rfl⟩

theorem charF_bd (ls : List ByteArray) (x y : Int) : 32 ≤ charF ls x y ∧ charF ls x y ≤ 126 := by
  unfold charF shownC
  split
  · omega
  · split <;> omega

set_option maxHeartbeats 1000000 in
set_option maxRecDepth 100000 in
theorem pcell_any (b c : Nat) (p : Pane) (x y : Int) (w : World) (h : PCells w b c p) (ok : PaneOk w p) (x1 : 0 ≤ x) (x2 : x ≤ 40) (y1 : 0 ≤ y) (y2 : y ≤ 20) :
    Calls Tryd.prog 66 #[.pointer (some ⟨b, c, none⟩), .int .i64 x, .int .i64 y] w
      fun e w' => e = .returned (.agg #[.int .u8 (p.o.cell p.off x y).1, .int .u8 (p.o.cell p.off x y).2]) ∧ Fr [] w w' := by
  have H := hide h
  obtain ⟨_, c1, c2, _, _, _, c6, _, c8⟩ := h
  have blt : b < w.heap.size := World.block_lt_of_cell? w _ c1
  obtain ⟨_, _, a1, a2, a3, a4, _, _, _, _, _, _, a5, a6, _⟩ := ok.ok
  have o1 := ok.o1
  have o2 := ok.o2
  have OK := hide ok
  clear ok
  have E : Hid (p.o.cell p.off x y = (charF p.ls (x - p.o.x) (y - p.o.y + p.off), p.o.style)) := rfl
  have bd := charF_bd p.ls (x - p.o.x) (y - p.o.y + p.off)
  have CH : Hid (∀ w', (∃ n, w' = (w.alloc (.cells #[.int .u8 0, .int .u8 0] 104)).drewN n) → Calls Tryd.prog 78 #[.pointer (some ⟨b, c, none⟩), .int .i64 (x - p.o.x), .int .i64 (y - p.o.y + p.off)] w' fun e w'' => e = .returned (.int .u8 (charF p.ls (x - p.o.x) (y - p.o.y + p.off))) ∧ w' = w'') := by
    rintro w' ⟨n, rfl⟩
    have f : Fr [] w ((w.alloc (.cells #[.int .u8 0, .int .u8 0] 104)).drewN n) := ((Fr.refl _ _).alloc _).drewN _
    have k : ∀ {q : Addr} {v : Value}, w.cell? q = some v → ((w.alloc (.cells #[.int .u8 0, .int .u8 0] 104)).drewN n).cell? q = some v := by
      intro q v hq
      rw [← hq]; exact World.cell?_of_block (w := w) (f.block q.block (World.block_lt_of_cell? w _ hq) (by simp))
    exact pchar_any b c p _ _ _ ⟨k H.out.c0, k H.out.c1, k H.out.c2, k H.out.c3, k H.out.c4, k H.out.c5, k H.out.c6, k H.out.c7, k H.out.c8⟩ (OK.out.fr f (by simp)) (by omega) (by omega)
  generalize charF p.ls (x - p.o.x) (y - p.o.y + p.off) = ch at *
  go_enter Tryd.func66, Tryd.ntmps66
  go_wp2
  go_quiet ((go_at_call 78; exact Calls.quiet_of_same ((CH.out _ ⟨_, rfl⟩).mono fun e w' ⟨h1, h2⟩ => ⟨h1, h2.symm⟩)))
  go_wp2
  rw [E.out]
  exact bodyPost_ret (v := .agg #[.int .u8 ch, .int .u8 p.o.style]) (by simp [results, Tryd.results66, go_sem]) rfl ⟨rfl, by repeat first | exact Fr.refl _ _ | apply Fr.drew | apply Fr.drewN | apply Fr.alloc | (apply Fr.setCell _ (.inr (by simp)))⟩
end Go.Proofs.YtjhccghhinlmdaaDoor
