/- The terminal's calls, as far as they only move the cursor or the rows. -/
import Derived.Test.YtjhccghhinlmdabGreatDoorModel
import Derived.Test.YtjhccghhinlmdabGreatDoorCellsRow
namespace Go.Proofs.YtjhccghhinlmdabGreatDoor
open Go.RowKit

/-- where a terminal's parts lie -/
structure Gh where
  bg : Nat
  bc : Nat
  cap : Nat
  sp : List Value
  pv : Value

/-- the cells of the terminal's own block -/
def stOf (g : Gh) (t : T) : List Value := [.pointer (some ⟨g.bg, 0, none⟩), .int .i64 t.x, .int .i64 t.y, .bool t.shown, .bool t.full, .int .u8 t.colour, .bool t.bold, .int .i64 t.stage, g.pv]

/-- a terminal lies at block bt -/
structure TermAt (w : World) (bt : Nat) (g : Gh) (t : T) : Prop where
  st : Blk w bt (stOf g t) 54
  gr : Grid w g.bg g.bc g.cap g.sp t.W t.H t.cells
  pr : w.ownsRow 0 5 1 g.pv t.params.length (t.params.map (Value.int .u8))
  ok : t.Ok

def foot (bt : Nat) (g : Gh) : List Nat := bt :: g.bg :: g.bc :: g.pv.ownBlock.toList

theorem TermAt.tg {w : World} {bt : Nat} {g : Gh} {t : T} (h : TermAt w bt g t) : bt ≠ g.bg := h.st.ne h.gr.hd (by decide)
theorem TermAt.tc {w : World} {bt : Nat} {g : Gh} {t : T} (h : TermAt w bt g t) : bt ≠ g.bc := h.st.ne h.gr.row (by decide)
theorem TermAt.gc {w : World} {bt : Nat} {g : Gh} {t : T} (h : TermAt w bt g t) : g.bg ≠ g.bc := h.gr.hd.ne h.gr.row (by decide)

/-- the terminal's cells, one by one -/
theorem TermAt.cells {w : World} {bt : Nat} {g : Gh} {t : T} (h : TermAt w bt g t) :
    w.cell? ⟨bt, 0, none⟩ = some (.pointer (some ⟨g.bg, 0, none⟩)) ∧ w.cell? ⟨bt, 1, none⟩ = some (.int .i64 t.x) ∧ w.cell? ⟨bt, 2, none⟩ = some (.int .i64 t.y) ∧ w.cell? ⟨bt, 3, none⟩ = some (.bool t.shown) ∧
    w.cell? ⟨bt, 4, none⟩ = some (.bool t.full) ∧ w.cell? ⟨bt, 5, none⟩ = some (.int .u8 t.colour) ∧ w.cell? ⟨bt, 6, none⟩ = some (.bool t.bold) ∧ w.cell? ⟨bt, 7, none⟩ = some (.int .i64 t.stage) ∧ w.cell? ⟨bt, 8, none⟩ = some g.pv ∧
    w.cell? ⟨g.bg, 0, none⟩ = some (.int .i64 t.W) ∧ w.cell? ⟨g.bg, 1, none⟩ = some (.int .i64 t.H) :=
  ⟨h.st.cell 0, h.st.cell 1, h.st.cell 2, h.st.cell 3, h.st.cell 4, h.st.cell 5, h.st.cell 6, h.st.cell 7, h.st.cell 8, h.gr.hd.cell 0, h.gr.hd.cell 1⟩

/-- the terminal's own block has been written: the rest lies as it did -/
theorem TermAt.write {w w' : World} {bt : Nat} {g : Gh} {t t' : T} (h : TermAt w bt g t) (f : Fr [bt] w w') (hs : Blk w' bt (stOf g t') 54)
    (e1 : t'.W = t.W) (e2 : t'.H = t.H) (e3 : t'.cells = t.cells) (e4 : t'.params = t.params) (ok : t'.Ok) : TermAt w' bt g t' := by
  refine ⟨hs, ?_, ?_, ok⟩
  · rw [e1, e2, e3]; exact h.gr.fr f (by simpa using h.tg.symm) (by simpa using h.tc.symm)
  · rw [e4]; exact own_fr h.pr f (by intro b hb; simp at hb; subst hb; exact own_ne h.pr h.st (by decide))

/-- the grid's cells have been written -/
theorem TermAt.gridTo {w w' : World} {bt : Nat} {g : Gh} {t : T} {l : List (Int × Int)} (h : TermAt w bt g t) (f : Fr [g.bc] w w') (hg : Grid w' g.bg g.bc g.cap g.sp t.W t.H l) : TermAt w' bt g { t with cells := l } :=
  ⟨h.st.fr f (by simpa using h.tc), hg, own_fr h.pr f (by intro b hb; simp at hb; subst hb; exact own_ne h.pr h.gr.row (by decide)), ⟨h.ok.x0, h.ok.x1, h.ok.y0, h.ok.y1, h.ok.c0, h.ok.c1, h.ok.s0, h.ok.s1, h.ok.p1, h.ok.p2⟩⟩

theorem TermAt.fr {w w' : World} {S : List Nat} {bt : Nat} {g : Gh} {t : T} (h : TermAt w bt g t) (f : Fr S w w') (hn : ∀ b ∈ foot bt g, b ∉ S) : TermAt w' bt g t :=
  ⟨h.st.fr f (hn _ (by simp [foot])), h.gr.fr f (hn _ (by simp [foot])) (hn _ (by simp [foot])), own_fr h.pr f (fun b hb he => hn b (by simp [foot, ← he]) hb), h.ok⟩
theorem TermAt.fr0 {w w' : World} {bt : Nat} {g : Gh} {t : T} (h : TermAt w bt g t) (f : Fr [] w w') : TermAt w' bt g t := h.fr f (by simp)

set_option maxHeartbeats 400000 in
theorem within_any (i n : Int) (w : World) (h : 1 ≤ n) (h2 : n ≤ 1000) :
    Calls Tryz.prog 66 #[.int .i64 i, .int .i64 n] w fun e w' => e = .returned (.int .i64 (within i n)) ∧ w = w' := by
  by_cases h1 : n ≤ i
  · go_enter Tryz.func66, Tryz.ntmps66
    go_wp2
    go_ret
    exact ⟨ret_int (by unfold within; (repeat' split) <;> omega), rfl⟩
  · by_cases h0 : i < 0
    · go_enter Tryz.func66, Tryz.ntmps66
      go_wp2
      go_ret
      exact ⟨ret_int (by unfold within; (repeat' split) <;> omega), rfl⟩
    · go_enter Tryz.func66, Tryz.ntmps66
      go_wp2
      go_ret
      exact ⟨ret_int (by unfold within; (repeat' split) <;> omega), rfl⟩

set_option maxHeartbeats 1000000 in
theorem moveTo_any (x y : Int) (w : World) (bt : Nat) (g : Gh) (t : T) (h : TermAt w bt g t) :
    Calls Tryz.prog 39 #[.pointer (some ⟨bt, 0, none⟩), .int .i64 x, .int .i64 y] w
      fun e w' => e = .returned (.tuple #[]) ∧ Fr [bt] w w' ∧ TermAt w' bt g (t.moveTo x y) := by
  obtain ⟨c0, c1, c2, c3, c4, c5, c6, c7, c8, d0, d1⟩ := h.cells
  have n1 := h.tg
  have n2 := h.tg.symm
  have f1 := h.st.frozen 1
  have f2 := h.st.frozen 2
  have f4 := h.st.frozen 4
  have w1 := h.gr.w1
  have w2 := h.gr.w2
  have h1 := h.gr.h1
  have h2 := h.gr.h2
  have HT := hide h
  clear h
  go_enter Tryz.func39, Tryz.ntmps39
  go_wp2_with (go_at_call 66; refine (within_any _ _ _ (by omega) (by omega)).mono ?_; rintro e w' ⟨rfl, rfl⟩)
  go_end0
  have f : Fr [bt] w _ := (((Fr.refl [bt] w).setCell (p := ⟨bt, 1, none⟩) (by simp) (.int .i64 (within x t.W))).setCell (p := ⟨bt, 2, none⟩) (by simp) (.int .i64 (within y t.H))).setCell (p := ⟨bt, 4, none⟩) (by simp) (.bool false)
  exact ⟨rfl, f, HT.out.write f (((HT.out.st.set 1 _).set 2 _).set 4 _) rfl rfl rfl rfl (HT.out.ok.moveTo _ _ w1 h1)⟩

set_option maxHeartbeats 400000 in
theorem penStyle_any (w : World) (bt : Nat) (g : Gh) (t : T) (h : TermAt w bt g t) :
    Calls Tryz.prog 95 #[.pointer (some ⟨bt, 0, none⟩)] w fun e w' => e = .returned (.int .u8 t.pen) ∧ w = w' := by
  obtain ⟨c0, c1, c2, c3, c4, c5, c6, c7, c8, d0, d1⟩ := h.cells
  have k0 := h.ok.c0
  have k1 := h.ok.c1
  cases hb : t.bold with
  | true =>
    rw [hb] at c6
    have HB := hide hb
    clear h hb
    go_enter Tryz.func95, Tryz.ntmps95
    go_wp2
    go_ret
    refine ⟨?_, rfl⟩
    have e : t.pen = t.colour + 8 := by simp [T.pen, HB.out]
    rw [e]
    rfl
  | false =>
    rw [hb] at c6
    have HB := hide hb
    clear h hb
    go_enter Tryz.func95, Tryz.ntmps95
    go_wp2
    go_ret
    refine ⟨?_, rfl⟩
    have e : t.pen = t.colour := by simp [T.pen, HB.out]
    rw [e]
    rfl

set_option maxHeartbeats 1000000 in
theorem rowDown_any (w : World) (bt : Nat) (g : Gh) (t : T) (h : TermAt w bt g t) :
    Calls Tryz.prog 77 #[.pointer (some ⟨bt, 0, none⟩)] w
      fun e w' => e = .returned (.tuple #[]) ∧ Fr [bt, g.bc] w w' ∧ TermAt w' bt g t.rowDown := by
  obtain ⟨c0, c1, c2, c3, c4, c5, c6, c7, c8, d0, d1⟩ := h.cells
  have f2 := h.st.frozen 2
  have h1 := h.gr.h1
  have h2 := h.gr.h2
  have y0 := h.ok.y0
  have y1 := h.ok.y1
  have HT := hide h
  clear h
  by_cases hy : t.y + 1 < t.H
  · go_enter Tryz.func77, Tryz.ntmps77
    go_wp2
    go_quiet (fail)
    go_wp2
    go_end0
    have e : t.rowDown = { t with y := t.y + 1 } := by simp [T.rowDown, hy]
    rw [e]
    have f : Fr [bt] w _ := (((Fr.refl [bt] w).drewN nq).setCell (p := ⟨bt, 2, none⟩) (by simp) (.int .i64 (t.y + 1)))
    exact ⟨rfl, f.mono (by simp), HT.out.write f ((HT.out.st.drewN nq).set 2 _) rfl rfl rfl rfl (by rw [← e]; exact HT.out.ok.rowDown)⟩
  · go_enter Tryz.func77, Tryz.ntmps77
    go_wp2
    go_quiet (fail)
    go_wp2_with fail
    refine (up_any _ _ _ _ _ _ _ _ (HT.out.fr0 ((Fr.refl _ _).drewN nq)).gr).mono ?_
    rintro e w1 ⟨rfl, f1, g1⟩
    have e : t.rowDown = { t with cells := up t.W t.cells } := by unfold T.rowDown; rw [if_neg (by omega)]
    have R : Hid (Fr [bt, g.bc] w w1 ∧ TermAt w1 bt g t.rowDown) := by
      rw [e]
      exact ⟨(((Fr.refl [] w).drewN nq).trans f1 (by simp) (fun _ h => .inl h)).mono (by simp), (HT.out.fr0 ((Fr.refl _ _).drewN nq)).gridTo f1 g1⟩
    clear e f1 g1
    go_wp2
    go_end0
    exact ⟨rfl, R.out.1, R.out.2⟩

set_option maxHeartbeats 1000000 in
theorem takeKind_any (c : Int) (w : World) (bt : Nat) (g : Gh) (t : T) (h : TermAt w bt g t) :
    Calls Tryz.prog 60 #[.pointer (some ⟨bt, 0, none⟩), .int .u8 c] w
      fun e w' => e = .returned (.tuple #[]) ∧ Fr [bt] w w' ∧ TermAt w' bt g (t.takeKind c) := by
  obtain ⟨c0, c1, c2, c3, c4, c5, c6, c7, c8, d0, d1⟩ := h.cells
  have f7 := h.st.frozen 7
  have HT := hide h
  clear h
  have fin : ∀ (n : Int), n = (if c = 91 then 2 else if c = 27 then 1 else 0) → Fr [bt] w (w.setCell ⟨bt, 7, none⟩ (.int .i64 n)) ∧ TermAt (w.setCell ⟨bt, 7, none⟩ (.int .i64 n)) bt g (t.takeKind c) := by
    intro n hn
    have f : Fr [bt] w _ := (Fr.refl [bt] w).setCell (p := ⟨bt, 7, none⟩) (by simp) (.int .i64 n)
    have o := HT.out.ok
    refine ⟨f, HT.out.write f ?_ rfl rfl rfl rfl ⟨o.x0, o.x1, o.y0, o.y1, o.c0, o.c1, ?_, ?_, o.p1, o.p2⟩⟩
    · have := HT.out.st.set 7 (.int .i64 n); rw [hn] at this ⊢; exact this
    · simp only [T.takeKind]; split; omega; split <;> omega
    · simp only [T.takeKind]; split; omega; split <;> omega
  have FIN := hide fin
  clear fin
  by_cases h1 : c = 91
  · subst h1
    go_enter Tryz.func60, Tryz.ntmps60
    go_wp2
    go_end0
    exact ⟨rfl, FIN.out 2 (by simp)⟩
  · by_cases h2 : c = 27
    · subst h2
      go_enter Tryz.func60, Tryz.ntmps60
      go_wp2
      go_end0
      exact ⟨rfl, FIN.out 1 (by simp)⟩
    · have b1 : (c == 91) = false := by simpa using h1
      have b2 : (c == 27) = false := by simpa using h2
      have E := hide (show (0 : Int) = (if c = 91 then 2 else if c = 27 then 1 else 0) by rw [if_neg h1, if_neg h2])
      clear h1 h2
      go_enter Tryz.func60, Tryz.ntmps60
      go_wp2
      go_end0
      exact ⟨rfl, FIN.out 0 E.out⟩
end Go.Proofs.YtjhccghhinlmdabGreatDoor
