/- The terminal's call that writes a character. -/
import Derived.Test.YtjhccghhinlmdabGreatDoorTerm
import Derived.Deep.DeepCutAuto
import Derived.Deep.RegionHeldLaw
namespace Go.Proofs.YtjhccghhinlmdabGreatDoor
open Go.RowKit

theorem T.fresh_ok {t : T} (h : t.Ok) (hw : 1 ≤ t.W) : t.fresh.Ok := by
  unfold T.fresh
  split
  · have o : ({ t with x := 0 } : T).Ok := ⟨by simp, by simp only []; omega, h.y0, h.y1, h.c0, h.c1, h.s0, h.s1, h.p1, h.p2⟩
    have r := o.rowDown
    exact ⟨r.x0, r.x1, r.y0, r.y1, r.c0, r.c1, r.s0, r.s1, r.p1, r.p2⟩
  · exact h
theorem T.fresh_same (t : T) : t.fresh.W = t.W ∧ t.fresh.H = t.H ∧ t.fresh.full = false := by
  unfold T.fresh
  split
  · have := T.rowDown_same { t with x := 0 }; simp only [] at this; exact ⟨this.1, this.2.1, rfl⟩
  · rename_i h; exact ⟨rfl, rfl, by simpa using h⟩


theorem T.put_ok {t : T} (h : t.Ok) (c : Int) : (t.put c).Ok := ⟨h.x0, h.x1, h.y0, h.y1, h.c0, h.c1, h.s0, h.s1, h.p1, h.p2⟩
theorem T.onward_ok {t : T} (h : t.Ok) : t.onward.Ok := by
  unfold T.onward
  split
  · exact ⟨by simp only []; have := h.x0; omega, by assumption, h.y0, h.y1, h.c0, h.c1, h.s0, h.s1, h.p1, h.p2⟩
  · exact ⟨h.x0, h.x1, h.y0, h.y1, h.c0, h.c1, h.s0, h.s1, h.p1, h.p2⟩

set_option maxHeartbeats 2000000 in
theorem write_any (c : Int) (w : World) (bt : Nat) (g : Gh) (t : T) (h : TermAt w bt g t) :
    Calls Tryz.prog 78 #[.pointer (some ⟨bt, 0, none⟩), .int .u8 c] w
      fun e w' => e = .returned (.tuple #[]) ∧ Fr [bt, g.bc] w w' ∧ TermAt w' bt g (t.write c) := by
  obtain ⟨c0, c1, c2, c3, c4, c5, c6, c7, c8, d0, d1⟩ := h.cells
  have f1 := h.st.frozen 1
  have f4 := h.st.frozen 4
  have w1 := h.gr.w1
  have HT := hide h
  clear h
  go_enter Tryz.func78, Tryz.ntmps78
  go_upto_if 8 with (fail)
  go_cut [] (fun wc => Fr [bt, g.bc] w wc ∧ TermAt wc bt g t.fresh)
  case first =>
    cases hf : t.full with
    | true =>
      have E := hide (show t.fresh = { ({ t with x := 0 } : T).rowDown with full := false } by simp [T.fresh, hf])
      rw [hf] at c4
      have HF := hide hf
      clear hf
      go_wp2_with fail
      have fr1 : Fr [bt] w _ := (Fr.refl [bt] w).setCell (p := ⟨bt, 1, none⟩) (by simp) (.int .i64 0)
      have o := HT.out.ok
      have t1 : TermAt (w.setCell ⟨bt, 1, none⟩ (.int .i64 0)) bt g { t with x := 0 } := HT.out.write fr1 (HT.out.st.set 1 _) rfl rfl rfl rfl ⟨by simp, by simp only []; omega, o.y0, o.y1, o.c0, o.c1, o.s0, o.s1, o.p1, o.p2⟩
      refine (rowDown_any _ bt g _ t1).mono ?_
      rintro e w2 ⟨rfl, fr2, t2⟩
      have q4 := t2.st.cell 4
      have q4' : w2.cell? ⟨bt, 4, none⟩ = some (.bool ({ t with x := 0 } : T).rowDown.full) := q4
      have qf := t2.st.frozen 4
      have R : Hid (Fr [bt, g.bc] w (w2.setCell ⟨bt, 4, none⟩ (.bool false)) ∧ TermAt (w2.setCell ⟨bt, 4, none⟩ (.bool false)) bt g t.fresh) := by
        have fr3 : Fr [bt] w2 _ := (Fr.refl [bt] w2).setCell (p := ⟨bt, 4, none⟩) (by simp) (.bool false)
        refine ⟨((fr1.mono (by simp)).then fr2).then (fr3.mono (by simp)), ?_⟩
        rw [E.out]
        have r := t2.ok
        exact t2.write fr3 (t2.st.set 4 _) rfl rfl rfl rfl ⟨r.x0, r.x1, r.y0, r.y1, r.c0, r.c1, r.s0, r.s1, r.p1, r.p2⟩
      clear q4 t2 t1 fr1 fr2 o
      go_wp2
      go_meet
      case rel => exact R.out
    | false =>
      have E := hide (show t.fresh = t by simp [T.fresh, hf])
      rw [hf] at c4
      have HF := hide hf
      clear hf
      go_wp2_with fail
      go_meet
      case rel => exact ⟨Fr.refl _ _, by rw [E.out]; exact HT.out⟩
  case rest =>
    obtain ⟨fr, ht⟩ := hcut
    have HW := hide (show t.write c = (t.fresh.put c).onward from rfl)
    generalize hu : t.fresh = u at *
    clear c0 c1 c2 c3 c4 c5 c6 c7 c8 d0 d1 f1 f4 hu
    go_wp2_with fail
    refine (penStyle_any _ bt g u ht).mono ?_
    rintro e w2 ⟨rfl, rfl⟩
    obtain ⟨c0, c1, c2, c3, c4, c5, c6, c7, c8, d0, d1⟩ := ht.cells
    have hbt := ht.st.lt
    have HU := hide ht
    clear ht
    have o := HU.out.ok
    have ox0 := o.x0
    have ox1 := o.x1
    have oy0 := o.y0
    have oy1 := o.y1
    have ow2 := HU.out.gr.w2
    clear o
    go_wp2_with fail
    go_region_held (fun w' => w'.cell? ⟨bt, 0, none⟩ = some (.pointer (some ⟨g.bg, 0, none⟩)) ∧ w'.cell? ⟨bt, 1, none⟩ = some (.int .i64 u.x) ∧ w'.cell? ⟨bt, 2, none⟩ = some (.int .i64 u.y) ∧ w'.cell? ⟨wc.heap.size, 0, none⟩ = some (.int .u8 c) ∧ w'.cell? ⟨wc.heap.size, 1, none⟩ = some (.int .u8 u.pen)) (go_keep) (first | (go_at_call 65; refine (put_in u.x u.y c u.pen u.W u.H _ g.bg g.bc g.cap g.sp u.cells (HU.out.fr0 (by repeat first | exact Fr.refl _ _ | apply Fr.drew | apply Fr.alloc)).gr (by omega) (by omega) (by omega) (by omega)).mono ?_; rintro e w3 ⟨rfl, fr3, g3⟩; have T3 : Hid (Fr [bt, g.bc] w w3 ∧ TermAt w3 bt g (u.put c)) := ⟨(fr.then (by repeat first | exact Fr.refl _ _ | apply Fr.drew | apply Fr.alloc)).then (fr3.mono (by simp)), (HU.out.fr0 (by repeat first | exact Fr.refl _ _ | apply Fr.drew | apply Fr.alloc)).gridTo fr3 g3⟩; have b3 := (Blk.new wc [.int .u8 c, .int .u8 u.pen] 117).drew.fr fr3 (by simp; exact fun e => absurd HU.out.gr.row.lt (by omega)); have x0 : w3.cell? ⟨wc.heap.size, 0, none⟩ = some (.int .u8 c) := b3.cell 0; have x1 : w3.cell? ⟨wc.heap.size, 1, none⟩ = some (.int .u8 u.pen) := b3.cell 1; have y0 : w3.cell? ⟨bt, 0, none⟩ = some (.pointer (some ⟨g.bg, 0, none⟩)) := T3.out.2.st.cell 0; have y1 : w3.cell? ⟨bt, 1, none⟩ = some (.int .i64 u.x) := T3.out.2.st.cell 1; have y2 : w3.cell? ⟨bt, 2, none⟩ = some (.int .i64 u.y) := T3.out.2.st.cell 2; clear fr3 g3 b3))
    clear c0 c1 c2 c3 c4 c5 c6 c7 c8 d0 d1 x0 x1 y0 y1 y2
    obtain ⟨c0, c1, c2, c3, c4, c5, c6, c7, c8, d0, d1⟩ := T3.out.2.cells
    have q1 := T3.out.2.st.frozen 1
    have q4 := T3.out.2.st.frozen 4
    have e1 : (u.put c).x = u.x := rfl
    have e2 : (u.put c).W = u.W := rfl
    rw [e1] at c1
    rw [e2] at d0
    clear e1 e2
    go_wp2
    go_quiet (fail)
    go_wp2
    · go_end0
      have f : Fr [bt] w3 _ := (((Fr.refl [bt] w3).drewN nq).setCell (p := ⟨bt, 1, none⟩) (by simp) (.int .i64 (u.x + 1)))
      have e : (u.put c).onward = { u.put c with x := u.x + 1 } := by unfold T.onward; rw [if_pos (by assumption)]; rfl
      refine ⟨rfl, T3.out.1.then (f.mono (by simp)), ?_⟩
      rw [HW.out]
      have ok := T.onward_ok T3.out.2.ok
      rw [e] at ok ⊢
      exact T3.out.2.write f ((T3.out.2.st.drewN nq).set 1 _) rfl rfl rfl rfl ok
    · go_end0
      have f : Fr [bt] w3 _ := (((Fr.refl [bt] w3).drewN nq).setCell (p := ⟨bt, 4, none⟩) (by simp) (.bool true))
      have e : (u.put c).onward = { u.put c with full := true } := by unfold T.onward; rw [if_neg (by show ¬ u.x + 1 < u.W; omega)]
      refine ⟨rfl, T3.out.1.then (f.mono (by simp)), ?_⟩
      rw [HW.out]
      have ok := T.onward_ok T3.out.2.ok
      rw [e] at ok ⊢
      exact T3.out.2.write f ((T3.out.2.st.drewN nq).set 4 _) rfl rfl rfl rfl ok
end Go.Proofs.YtjhccghhinlmdabGreatDoor
