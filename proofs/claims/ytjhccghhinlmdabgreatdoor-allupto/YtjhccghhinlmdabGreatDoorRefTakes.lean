/- The document's terminal takes a byte while no sequence has begun. -/
import Derived.Test.YtjhccghhinlmdabGreatDoorRefDown
namespace Go.Proofs.YtjhccghhinlmdabGreatDoor
open Go.RowKit

def R.fresh (r : R) : R := if r.full then { ({ r with x := 0 } : R).down with full := false } else r
def R.put (r : R) (c : Int) : R := { r with cells := r.cells.set (r.W * r.y + r.x).toNat (c, r.pen) }
def R.onward (r : R) : R := if r.x = r.W - 1 then { r with full := true } else { r with x := r.x + 1 }
def R.takes (r : R) (c : Int) : R :=
  if c = 27 then { r with begun := ⟨#[27]⟩ }
  else if c = 13 then { r with x := 0, full := false }
  else if c = 10 then { r.down with full := false }
  else if c = 8 then { r with x := if 0 < r.x then r.x - 1 else r.x, full := false }
  else if 32 ≤ c ∧ c ≤ 126 then (r.fresh.put c).onward
  else r
theorem R.Ok.full {r : R} (h : r.Ok) (f : Bool) : ({ r with full := f } : R).Ok := ⟨h.w1, h.w2, h.h1, h.h2, h.len, h.x0, h.x1, h.y0, h.y1, h.p0, h.p1⟩
theorem R.Ok.xz {r : R} (h : r.Ok) : ({ r with x := 0 } : R).Ok := ⟨h.w1, h.w2, h.h1, h.h2, h.len, by simp, by simp only []; have := h.w1; omega, h.y0, h.y1, h.p0, h.p1⟩
theorem R.fresh_ok {r : R} (h : r.Ok) : r.fresh.Ok := by
  unfold R.fresh
  split
  · exact (R.down_ok h.xz).full _
  · exact h
theorem R.put_ok {r : R} (h : r.Ok) (c : Int) : (r.put c).Ok := ⟨h.w1, h.w2, h.h1, h.h2, by simp only [R.put, List.length_set]; exact h.len, h.x0, h.x1, h.y0, h.y1, h.p0, h.p1⟩
theorem R.onward_ok {r : R} (h : r.Ok) : r.onward.Ok := by
  unfold R.onward
  have := h.x1; have := h.x0
  split
  · exact h.full _
  · exact ⟨h.w1, h.w2, h.h1, h.h2, h.len, by simp only []; omega, by simp only []; omega, h.y0, h.y1, h.p0, h.p1⟩

set_option maxHeartbeats 4000000 in
set_option maxRecDepth 100000 in
theorem rwrite_any (c : Int) (hc : 32 ≤ c) (hc2 : c ≤ 126) (w : World) (b : Nat) (g : RGh) (r : R) (h : RefAt w b g r) :
    Calls Tryz.prog 36 #[.pointer (some ⟨b, 0, none⟩), .int .u8 c] w fun e w' => e = .returned (.tuple #[]) ∧ RUpd b g ((r.fresh.put c).onward) w w' := by
  obtain ⟨c0, c1, c2, c3, c4, c5, c6, c7, c8⟩ := h.cells
  have f3 := h.st.frozen 3
  have f6 := h.st.frozen 6
  have HT := hide h
  have q1 : (c == 27) = false := by rw [beq_eq_false_iff_ne]; omega
  have q2 : (c == 13) = false := by rw [beq_eq_false_iff_ne]; omega
  have q3 : (c == 10) = false := by rw [beq_eq_false_iff_ne]; omega
  have q4 : (c == 8) = false := by rw [beq_eq_false_iff_ne]; omega
  clear h c0 c1 c2 c4 c5 c7 c8
  go_enter Tryz.func36, Tryz.ntmps36
  go_upto_if 55 with (fail)
  go_cut [] (fun wx => RUpd b g r.fresh w wx)
  case first =>
    cases hf : r.full with
    | true =>
      have E := hide (show r.fresh = { ({ r with x := 0 } : R).down with full := false } by simp [R.fresh, hf])
      rw [hf] at c6
      have HF := hide hf
      clear hf
      go_wp2_with fail
      have fr1 : Fr [b] w _ := (Fr.refl [b] w).setCell (p := ⟨b, 3, none⟩) (by simp) (.int .i64 0)
      have t1 : RefAt (w.setCell ⟨b, 3, none⟩ (.int .i64 0)) b g { r with x := 0 } := HT.out.write fr1 (HT.out.st.set 3 _) rfl HT.out.ok.xz
      refine (down_any _ b g _ t1).mono ?_
      rintro e w2 ⟨rfl, g2, t2, fr2, s2⟩
      have q6 : w2.cell? ⟨b, 6, none⟩ = some (.bool ({ r with x := 0 } : R).down.full) := t2.st.cell 6
      have qf := t2.st.frozen 6
      have R1 : Hid (RUpd b g r.fresh w (w2.setCell ⟨b, 6, none⟩ (.bool false))) := by
        have fr3 : Fr [b] w2 _ := (Fr.refl [b] w2).setCell (p := ⟨b, 6, none⟩) (by simp) (.bool false)
        rw [E.out]
        refine RUpd.via ((fr1.mono (by simp [rfoot])).then fr2) (fun x hx => ?_) (RUpd.of1 (t2.write fr3 (t2.st.set 6 _) rfl (t2.ok.full _)) fr3)
        rcases s2 x hx with h | h
        · exact .inl h
        · right; simpa using h
      clear t1 t2 fr1 fr2 s2
      go_wp2
      go_meet
      case rel => exact R1.out
    | false =>
      have E := hide (show r.fresh = r by simp [R.fresh, hf])
      rw [hf] at c6
      have HF := hide hf
      clear hf
      go_wp2_with fail
      go_meet
      case rel => rw [E.out]; exact RUpd.of HT.out (Fr.refl _ _)
  case rest =>
    obtain ⟨u, hu0⟩ : ∃ u, r.fresh = u := ⟨_, rfl⟩
    rw [hu0] at hcut
    have HUE := hide hu0
    obtain ⟨gu, hu, fu, su⟩ := hcut
    clear c3 c6 f3 f6 hu0
    obtain ⟨c0, c1, c2, c3, c4, c5, c6, c7, c8⟩ := hu.cells
    obtain ⟨i1, i2, i3, i4⟩ := hu.idx
    have ox0 := hu.ok.x0
    obtain ⟨k1, k2⟩ := hu.row.cells (u.W * u.y + u.x).toNat (by omega)
    have f1 := hu.row.row.frozen ((u.W * u.y + u.x).toNat * 2)
    have f2 := hu.row.row.frozen ((u.W * u.y + u.x).toNat * 2 + 1)
    have ox1 := hu.ok.x1
    have ow2 := hu.ok.w2
    have n1 := hu.bc
    have n2 := hu.bc.symm
    have HU := hide hu
    have FU := hide (And.intro fu su)
    clear hu fu su c5 c6 c8
    go_wp2_with fail
    go_region
    go_wp2
    have R2 : Hid (Fr [gu.bc] wc (((wc.setCell ⟨gu.bc, (u.W * u.y + u.x).toNat * 2, none⟩ (.int .u8 c)).setCell ⟨gu.bc, (u.W * u.y + u.x).toNat * 2 + 1, none⟩ (.int .i64 u.pen)).drew) ∧ RefAt (((wc.setCell ⟨gu.bc, (u.W * u.y + u.x).toNat * 2, none⟩ (.int .u8 c)).setCell ⟨gu.bc, (u.W * u.y + u.x).toNat * 2 + 1, none⟩ (.int .i64 u.pen)).drew) b gu (u.put c)) := by
      have f : Fr [gu.bc] wc _ := ((((Fr.refl [gu.bc] wc).setCell (p := ⟨gu.bc, (u.W * u.y + u.x).toNat * 2, none⟩) (by simp) (.int .u8 c)).setCell (p := ⟨gu.bc, (u.W * u.y + u.x).toNat * 2 + 1, none⟩) (by simp) (.int .i64 u.pen))).drew
      refine ⟨f, ?_, ?_, R.put_ok HU.out.ok c⟩
      · have := HU.out.st.fr f (by simpa using n1)
        simp only [rstOf, R.put, List.length_set] at this ⊢
        exact this
      · exact (HU.out.row.set (u.W * u.y + u.x).toNat (by omega) c u.pen).fr0 (Fr.refl _ _).drew
    have G2 := hide (show (u.put c).x = u.x ∧ (u.put c).W = u.W from ⟨rfl, rfl⟩)
    generalize hw2 : (((wc.setCell ⟨gu.bc, (u.W * u.y + u.x).toNat * 2, none⟩ (.int .u8 c)).setCell ⟨gu.bc, (u.W * u.y + u.x).toNat * 2 + 1, none⟩ (.int .i64 u.pen)).drew) = w2 at *
    clear c0 c1 c2 c3 c4 c7 k1 k2 f1 f2 hw2
    obtain ⟨c0, c1, c2, c3, c4, c5, c6, c7, c8⟩ := R2.out.2.cells
    rw [G2.out.1] at c3
    rw [G2.out.2] at c0
    have g3 := R2.out.2.st.frozen 3
    have g6 := R2.out.2.st.frozen 6
    have ok := R.onward_ok R2.out.2.ok
    have OK := hide ok
    clear ok c1 c2 c4 c5 c7 c8 i1 i2 i3 i4
    go_quiet (fail)
    by_cases hx : u.x = u.W - 1
    · have hb : (u.x == u.W - 1) = true := by rw [hx]; simp
      have E := hide (show (u.put c).onward = { u.put c with full := true } by unfold R.onward; rw [if_pos (show (u.put c).x = (u.put c).W - 1 from hx)])
      have HX := hide hx
      clear hx
      go_wp2
      go_end0
      have f : Fr [b] w2 _ := (((Fr.refl [b] w2).drewN nq).setCell (p := ⟨b, 6, none⟩) (by simp) (.bool true))
      have ok := OK.out
      rw [E.out] at ok
      rw [HUE.out, E.out]
      exact ⟨rfl, RUpd.via FU.out.1 FU.out.2 (RUpd.via (g1 := gu) (R2.out.1.mono (by simp [rfoot])) (fun x hx => .inl hx) (RUpd.of1 (R2.out.2.write f ((R2.out.2.st.drewN nq).set 6 _) rfl ok) f))⟩
    · have hb : (u.x == u.W - 1) = false := by rw [beq_eq_false_iff_ne]; exact hx
      have E := hide (show (u.put c).onward = { u.put c with x := u.x + 1 } by unfold R.onward; rw [if_neg (show ¬ (u.put c).x = (u.put c).W - 1 from hx)]; rfl)
      clear hx
      go_wp2
      go_end0
      have f : Fr [b] w2 _ := (((Fr.refl [b] w2).drewN nq).setCell (p := ⟨b, 3, none⟩) (by simp) (.int .i64 (u.x + 1)))
      have ok := OK.out
      rw [E.out] at ok
      rw [HUE.out, E.out]
      exact ⟨rfl, RUpd.via FU.out.1 FU.out.2 (RUpd.via (g1 := gu) (R2.out.1.mono (by simp [rfoot])) (fun x hx => .inl hx) (RUpd.of1 (R2.out.2.write f ((R2.out.2.st.drewN nq).set 3 _) rfl ok) f))⟩

set_option maxHeartbeats 4000000 in
set_option maxRecDepth 100000 in
theorem takes_any (c : Int) (w : World) (b : Nat) (g : RGh) (r : R) (h : RefAt w b g r) :
    Calls Tryz.prog 36 #[.pointer (some ⟨b, 0, none⟩), .int .u8 c] w fun e w' => e = .returned (.tuple #[]) ∧ RUpd b g (r.takes c) w w' := by
  by_cases h5 : 32 ≤ c ∧ c ≤ 126
  · have e : r.takes c = (r.fresh.put c).onward := by
      unfold R.takes; rw [if_neg (by omega), if_neg (by omega), if_neg (by omega), if_neg (by omega), if_pos h5]
    rw [e]
    exact rwrite_any c h5.1 h5.2 w b g r h
  obtain ⟨c0, c1, c2, c3, c4, c5, c6, c7, c8⟩ := h.cells
  have f3 := h.st.frozen 3
  have f6 := h.st.frozen 6
  have f8 := h.st.frozen 8
  have x0 := h.ok.x0
  have x1 := h.ok.x1
  have w2 := h.ok.w2
  have o := h.ok
  have HT := hide h
  clear h c0 c1 c2 c4 c5 c7
  by_cases e1 : c = 27
  · subst e1
    have E := hide (show r.takes 27 = { r with begun := ⟨#[27]⟩ } by simp [R.takes])
    have O := hide o
    clear o h5
    go_enter Tryz.func36, Tryz.ntmps36
    go_wp2
    go_end0
    have f : Fr [b] w _ := (Fr.refl [b] w).setCell (p := ⟨b, 8, none⟩) (by simp) (.string ⟨#[27]⟩)
    have o := O.out
    rw [E.out]
    exact ⟨rfl, RUpd.of1 (HT.out.write f (HT.out.st.set 8 _) rfl ⟨o.w1, o.w2, o.h1, o.h2, o.len, o.x0, o.x1, o.y0, o.y1, o.p0, o.p1⟩) f⟩
  by_cases e2 : c = 13
  · subst e2
    have E := hide (show r.takes 13 = { r with x := 0, full := false } by simp [R.takes])
    have O := hide o
    clear o h5 e1
    go_enter Tryz.func36, Tryz.ntmps36
    go_wp2
    go_end0
    have f : Fr [b] w _ := ((Fr.refl [b] w).setCell (p := ⟨b, 3, none⟩) (by simp) (.int .i64 0)).setCell (p := ⟨b, 6, none⟩) (by simp) (.bool false)
    rw [E.out]
    exact ⟨rfl, RUpd.of1 (HT.out.write f ((HT.out.st.set 3 _).set 6 _) rfl (O.out.xz.full _)) f⟩
  by_cases e3 : c = 10
  · subst e3
    have E := hide (show r.takes 10 = { r.down with full := false } by simp [R.takes])
    clear o h5 e1 e2
    go_enter Tryz.func36, Tryz.ntmps36
    go_wp2_with fail
    refine (down_any _ b g r HT.out).mono ?_
    rintro e w3 ⟨rfl, g3, t3, fr3, s3⟩
    have q6 : w3.cell? ⟨b, 6, none⟩ = some (.bool r.down.full) := t3.st.cell 6
    have qf := t3.st.frozen 6
    have R3 : Hid (RUpd b g (r.takes 10) w (w3.setCell ⟨b, 6, none⟩ (.bool false))) := by
      have fr4 : Fr [b] w3 _ := (Fr.refl [b] w3).setCell (p := ⟨b, 6, none⟩) (by simp) (.bool false)
      rw [E.out]
      exact RUpd.via fr3 s3 (RUpd.of1 (t3.write fr4 (t3.st.set 6 _) rfl (t3.ok.full _)) fr4)
    clear t3 fr3 s3
    go_wp2
    go_end0
    exact ⟨rfl, R3.out⟩
  by_cases e4 : c = 8
  · subst e4
    have O := hide o
    clear o h5 e1 e2 e3
    by_cases hx : 0 < r.x
    · have E := hide (show r.takes 8 = { r with x := r.x - 1, full := false } by simp [R.takes, hx])
      go_enter Tryz.func36, Tryz.ntmps36
      go_wp2
      go_end0
      have f : Fr [b] w _ := ((Fr.refl [b] w).setCell (p := ⟨b, 3, none⟩) (by simp) (.int .i64 (r.x - 1))).setCell (p := ⟨b, 6, none⟩) (by simp) (.bool false)
      have o := O.out
      rw [E.out]
      exact ⟨rfl, RUpd.of1 (HT.out.write f ((HT.out.st.set 3 _).set 6 _) rfl ⟨o.w1, o.w2, o.h1, o.h2, o.len, by simp only []; omega, by simp only []; omega, o.y0, o.y1, o.p0, o.p1⟩) f⟩
    · have E := hide (show r.takes 8 = { r with full := false } by unfold R.takes; rw [if_neg (by omega), if_neg (by omega), if_neg (by omega), if_pos rfl, if_neg hx])
      go_enter Tryz.func36, Tryz.ntmps36
      go_wp2
      go_end0
      have f : Fr [b] w _ := (Fr.refl [b] w).setCell (p := ⟨b, 6, none⟩) (by simp) (.bool false)
      rw [E.out]
      exact ⟨rfl, RUpd.of1 (HT.out.write f (HT.out.st.set 6 _) rfl (O.out.full _)) f⟩
  · have E := hide (show r.takes c = r by unfold R.takes; rw [if_neg e1, if_neg e2, if_neg e3, if_neg e4, if_neg h5])
    have q1 : (c == 27) = false := by rw [beq_eq_false_iff_ne]; omega
    have q2 : (c == 13) = false := by rw [beq_eq_false_iff_ne]; omega
    have q3 : (c == 10) = false := by rw [beq_eq_false_iff_ne]; omega
    have q4 : (c == 8) = false := by rw [beq_eq_false_iff_ne]; omega
    have h3 : c < 32 ∨ (32 ≤ c ∧ 126 < c) := by omega
    clear o h5 e1 e2 e3 e4
    rcases h3 with h3 | ⟨h3, h4⟩
    all_goals
      go_enter Tryz.func36, Tryz.ntmps36
      go_wp2
      go_end0
      exact ⟨rfl, by rw [E.out]; exact RUpd.of HT.out (Fr.refl _ _)⟩
end Go.Proofs.YtjhccghhinlmdabGreatDoor
