/- The terminal's call for a byte outside of sequences. -/
import Derived.Test.YtjhccghhinlmdabGreatDoorTermWrite
namespace Go.Proofs.YtjhccghhinlmdabGreatDoor
open Go.RowKit

theorem takePlain_27 (t : T) : t.takePlain 27 = { t with stage := 1 } := by simp [T.takePlain]
theorem takePlain_13 (t : T) : t.takePlain 13 = t.moveTo 0 t.y := by simp [T.takePlain]
theorem takePlain_10 (t : T) : t.takePlain 10 = { t.rowDown with full := false } := by simp [T.takePlain]
theorem takePlain_8 (t : T) : t.takePlain 8 = t.moveTo (t.x - 1) t.y := by simp [T.takePlain]
theorem takePlain_chr (t : T) (c : Int) (h : 32 ≤ c) (h2 : c ≤ 126) : t.takePlain c = t.write c := by
  unfold T.takePlain; rw [if_neg (by omega), if_neg (by omega), if_neg (by omega), if_neg (by omega), if_pos ⟨h, h2⟩]
theorem takePlain_other (t : T) (c : Int) (h1 : c ≠ 27) (h2 : c ≠ 13) (h3 : c ≠ 10) (h4 : c ≠ 8) (h5 : c < 32 ∨ 126 < c) : t.takePlain c = t := by
  unfold T.takePlain; rw [if_neg h1, if_neg h2, if_neg h3, if_neg h4, if_neg (by omega)]

set_option maxHeartbeats 2000000 in
theorem takePlain_any (c : Int) (w : World) (bt : Nat) (g : Gh) (t : T) (h : TermAt w bt g t) :
    Calls Tryz.prog 59 #[.pointer (some ⟨bt, 0, none⟩), .int .u8 c] w
      fun e w' => e = .returned (.tuple #[]) ∧ Fr [bt, g.bc] w w' ∧ TermAt w' bt g (t.takePlain c) := by
  obtain ⟨c0, c1, c2, c3, c4, c5, c6, c7, c8, d0, d1⟩ := h.cells
  have f4 := h.st.frozen 4
  have f7 := h.st.frozen 7
  have ox0 := h.ok.x0
  have ox1 := h.ok.x1
  have ow2 := h.gr.w2
  have HT := hide h
  clear h
  by_cases h27 : c = 27
  · subst h27
    have E := hide (takePlain_27 t)
    go_enter Tryz.func59, Tryz.ntmps59
    go_wp2
    go_end0
    have f : Fr [bt] w _ := (Fr.refl [bt] w).setCell (p := ⟨bt, 7, none⟩) (by simp) (.int .i64 1)
    have o := HT.out.ok
    refine ⟨rfl, f.mono (by simp), ?_⟩
    rw [E.out]
    exact HT.out.write f (HT.out.st.set 7 _) rfl rfl rfl rfl ⟨o.x0, o.x1, o.y0, o.y1, o.c0, o.c1, by simp, by simp, o.p1, o.p2⟩
  by_cases h13 : c = 13
  · subst h13
    have E := hide (takePlain_13 t)
    go_enter Tryz.func59, Tryz.ntmps59
    go_wp2_with (go_at_call 39; refine (moveTo_any 0 t.y _ bt g t HT.out).mono ?_; rintro e w1 ⟨rfl, fr1, t1⟩; have R := hide (And.intro fr1 t1); clear fr1 t1)
    go_end0
    exact ⟨rfl, R.out.1.mono (by simp), by rw [E.out]; exact R.out.2⟩
  by_cases h10 : c = 10
  · subst h10
    have E := hide (takePlain_10 t)
    go_enter Tryz.func59, Tryz.ntmps59
    go_wp2_with (go_at_call 77; refine (rowDown_any _ bt g t HT.out).mono ?_; rintro e w1 ⟨rfl, fr1, t1⟩; have q4 : w1.cell? ⟨bt, 4, none⟩ = some (.bool t.rowDown.full) := t1.st.cell 4; have qf := t1.st.frozen 4; have R := hide (And.intro fr1 t1); clear fr1 t1)
    go_end0
    have f : Fr [bt] w1 _ := (Fr.refl [bt] w1).setCell (p := ⟨bt, 4, none⟩) (by simp) (.bool false)
    have o := R.out.2.ok
    refine ⟨rfl, R.out.1.then (f.mono (by simp)), ?_⟩
    rw [E.out]
    exact R.out.2.write f (R.out.2.st.set 4 _) rfl rfl rfl rfl ⟨o.x0, o.x1, o.y0, o.y1, o.c0, o.c1, o.s0, o.s1, o.p1, o.p2⟩
  by_cases h8 : c = 8
  · subst h8
    have E := hide (takePlain_8 t)
    have b1 : t.x - 1 ≤ 40 := by omega
    go_enter Tryz.func59, Tryz.ntmps59
    go_wp2
    go_region_with (go_at_call 39; rw [show IntKind.i64.wrap (t.x - 1) = t.x - 1 from by rw [IntKind.wrap_i64]; omega]; refine (moveTo_any (t.x - 1) t.y _ bt g t (HT.out.fr0 (Fr.refl _ _).drew)).mono ?_; rintro e w1 ⟨rfl, fr1, t1⟩; have R := hide (And.intro fr1 t1); clear fr1 t1)
    all_goals
      go_wp2
      go_end0
      exact ⟨rfl, ((Fr.refl _ _).drew.then (R.out.1.mono (by simp))), by rw [E.out]; exact R.out.2⟩
  by_cases h5 : 32 ≤ c ∧ c ≤ 126
  · obtain ⟨h5, h6⟩ := h5
    have E := hide (takePlain_chr t c h5 h6)
    go_enter Tryz.func59, Tryz.ntmps59
    go_wp2_with (go_at_call 78; refine (write_any c _ bt g t HT.out).mono ?_; rintro e w1 ⟨rfl, fr1, t1⟩; have R := hide (And.intro fr1 t1); clear fr1 t1)
    go_end0
    exact ⟨rfl, R.out.1, by rw [E.out]; exact R.out.2⟩
  · have E := hide (takePlain_other t c h27 h13 h10 h8 (by omega))
    go_enter Tryz.func59, Tryz.ntmps59
    go_wp2
    all_goals first | (go_end0; exact ⟨rfl, Fr.refl _ _, by rw [E.out]; exact HT.out⟩) | (exfalso; omega)
end Go.Proofs.YtjhccghhinlmdabGreatDoor
