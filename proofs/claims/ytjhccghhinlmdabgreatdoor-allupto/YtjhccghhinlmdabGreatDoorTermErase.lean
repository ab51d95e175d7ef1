/- The terminal's calls that make cells blank; the cursor shown or not. -/
import Derived.Test.YtjhccghhinlmdabGreatDoorTermSeq
namespace Go.Proofs.YtjhccghhinlmdabGreatDoor
open Go.RowKit

theorem TermAt.hereBd {w : World} {bt : Nat} {g : Gh} {t : T} (h : TermAt w bt g t) : 0 ≤ t.y * t.W ∧ t.y * t.W ≤ 800 ∧ t.y * t.W + t.x < 800 := by
  have := idx_bd h.gr.w2 h.gr.h2 h.ok.x0 h.ok.x1 h.ok.y0 h.ok.y1
  have := mul_bd h.gr.w1 h.gr.w2 h.gr.h1 h.gr.h2
  omega

set_option maxHeartbeats 2000000 in
set_option maxRecDepth 100000 in
theorem erase_any (n a b : Int) (w : World) (bt : Nat) (g : Gh) (t : T) (h : TermAt w bt g t) (ha : 0 ≤ a) (ha2 : a ≤ 800) (hb2 : b ≤ 1900) :
    Calls Tryz.prog 100 #[.pointer (some ⟨bt, 0, none⟩), .int .i64 n, .int .i64 a, .int .i64 b] w
      fun e w' => e = .returned (.tuple #[]) ∧ Fr [g.bc] w w' ∧ TermAt w' bt g (t.erase n a b) := by
  obtain ⟨c0, c1, c2, c3, c4, c5, c6, c7, c8, d0, d1⟩ := h.cells
  obtain ⟨b0, b1, b2⟩ := h.hereBd
  have ox0 := h.ok.x0
  have ox1 := h.ok.x1
  have ow2 := h.gr.w2
  have HT := hide h
  have HH := hide (show t.here = t.y * t.W + t.x from rfl)
  clear h c3 c4 c5 c6 c7 c8 d1
  by_cases e0 : n = 0
  · subst e0
    have E := hide (show t.erase 0 a b = { t with cells := clr t.cells t.here b } by simp [T.erase])
    go_enter Tryz.func100, Tryz.ntmps100
    go_wp2
    go_quiet (fail)
    go_wp2_with fail
    refine (clear_any _ _ t.W t.H _ g.bg g.bc g.cap g.sp t.cells (HT.out.fr0 ((Fr.refl _ _).drewN nq)).gr (by omega) (by omega) (by omega)).mono ?_
    rintro e w1 ⟨rfl, f1, g1⟩
    have R : Hid (Fr [g.bc] w w1 ∧ TermAt w1 bt g (t.erase 0 a b)) := by
      rw [E.out, HH.out]
      exact ⟨((Fr.refl [g.bc] w).drewN nq).then f1, (HT.out.fr0 ((Fr.refl _ _).drewN nq)).gridTo f1 g1⟩
    clear f1 g1
    go_wp2
    go_end0
    exact ⟨rfl, R.out.1, R.out.2⟩
  by_cases e1 : n = 1
  · subst e1
    have E := hide (show t.erase 1 a b = { t with cells := clr t.cells a (t.here + 1) } by simp [T.erase])
    go_enter Tryz.func100, Tryz.ntmps100
    go_wp2
    go_quiet (fail)
    go_wp2_with fail
    refine (clear_any _ _ t.W t.H _ g.bg g.bc g.cap g.sp t.cells (HT.out.fr0 ((Fr.refl _ _).drewN nq)).gr (by omega) (by omega) (by omega)).mono ?_
    rintro e w1 ⟨rfl, f1, g1⟩
    have R : Hid (Fr [g.bc] w w1 ∧ TermAt w1 bt g (t.erase 1 a b)) := by
      rw [E.out, HH.out]
      exact ⟨((Fr.refl [g.bc] w).drewN nq).then f1, (HT.out.fr0 ((Fr.refl _ _).drewN nq)).gridTo f1 g1⟩
    clear f1 g1
    go_wp2
    go_end0
    exact ⟨rfl, R.out.1, R.out.2⟩
  by_cases e2 : n = 2
  · subst e2
    have E := hide (show t.erase 2 a b = { t with cells := clr t.cells a b } by simp [T.erase])
    go_enter Tryz.func100, Tryz.ntmps100
    go_wp2
    go_quiet (fail)
    go_wp2_with fail
    refine (clear_any _ _ t.W t.H _ g.bg g.bc g.cap g.sp t.cells (HT.out.fr0 ((Fr.refl _ _).drewN nq)).gr (by omega) (by omega) (by omega)).mono ?_
    rintro e w1 ⟨rfl, f1, g1⟩
    have R : Hid (Fr [g.bc] w w1 ∧ TermAt w1 bt g (t.erase 2 a b)) := by
      rw [E.out]
      exact ⟨((Fr.refl [g.bc] w).drewN nq).then f1, (HT.out.fr0 ((Fr.refl _ _).drewN nq)).gridTo f1 g1⟩
    clear f1 g1
    go_wp2
    go_end0
    exact ⟨rfl, R.out.1, R.out.2⟩
  · have E := hide (show t.erase n a b = t by unfold T.erase; rw [if_neg e0, if_neg e1, if_neg e2])
    have q0 : (n == 0) = false := by simpa using e0
    have q1 : (n == 1) = false := by simpa using e1
    have q2 : (n == 2) = false := by simpa using e2
    clear e0 e1 e2
    go_enter Tryz.func100, Tryz.ntmps100
    go_wp2
    go_quiet (fail)
    go_wp2
    go_end0
    exact ⟨rfl, (Fr.refl _ _).drewN nq, by rw [E.out]; exact HT.out.fr0 ((Fr.refl _ _).drewN nq)⟩

set_option maxHeartbeats 2000000 in
set_option maxRecDepth 100000 in
theorem eraseCells_any (k : Int) (w : World) (bt : Nat) (g : Gh) (t : T) (h : TermAt w bt g t) (hk : 1 ≤ k) (hk2 : k ≤ 999) :
    Calls Tryz.prog 101 #[.pointer (some ⟨bt, 0, none⟩), .int .i64 k] w
      fun e w' => e = .returned (.tuple #[]) ∧ Fr [g.bc] w w' ∧ TermAt w' bt g (t.eraseCells k) := by
  obtain ⟨c0, c1, c2, c3, c4, c5, c6, c7, c8, d0, d1⟩ := h.cells
  obtain ⟨b0, b1, b2⟩ := h.hereBd
  have ox0 := h.ok.x0
  have ox1 := h.ok.x1
  have ow2 := h.gr.w2
  have HT := hide h
  have HH := hide (show t.here = t.y * t.W + t.x from rfl)
  clear h c3 c4 c5 c6 c7 c8 d1
  by_cases e0 : t.W - t.x < k
  · have E := hide (show t.eraseCells k = { t with cells := clr t.cells t.here (t.here + (t.W - t.x)) } by unfold T.eraseCells; rw [if_pos e0])
    go_enter Tryz.func101, Tryz.ntmps101
    go_wp2
    go_quiet (fail)
    go_wp2
    go_quiet (fail)
    go_wp2_with fail
    refine (clear_any _ _ t.W t.H _ g.bg g.bc g.cap g.sp t.cells (HT.out.fr0 (by repeat first | exact Fr.refl _ _ | apply Fr.drewN)).gr (by omega) (by omega) (by omega)).mono ?_
    rintro e w1 ⟨rfl, f1, g1⟩
    have f0 := (Fr.refl [] w).drewN
    have R : Hid (Fr [g.bc] w w1 ∧ TermAt w1 bt g (t.eraseCells k)) := by
      rw [E.out, HH.out]
      exact ⟨Fr.then (by repeat first | exact Fr.refl _ _ | apply Fr.drewN) f1, (HT.out.fr0 (by repeat first | exact Fr.refl _ _ | apply Fr.drewN)).gridTo f1 g1⟩
    clear f1 g1 f0
    go_wp2
    go_end0
    exact ⟨rfl, R.out.1, R.out.2⟩
  · have E := hide (show t.eraseCells k = { t with cells := clr t.cells t.here (t.here + k) } by unfold T.eraseCells; rw [if_neg e0])
    go_enter Tryz.func101, Tryz.ntmps101
    go_wp2
    go_quiet (fail)
    go_wp2
    go_quiet (fail)
    go_wp2_with fail
    refine (clear_any _ _ t.W t.H _ g.bg g.bc g.cap g.sp t.cells (HT.out.fr0 (by repeat first | exact Fr.refl _ _ | apply Fr.drewN)).gr (by omega) (by omega) (by omega)).mono ?_
    rintro e w1 ⟨rfl, f1, g1⟩
    have R : Hid (Fr [g.bc] w w1 ∧ TermAt w1 bt g (t.eraseCells k)) := by
      rw [E.out, HH.out]
      exact ⟨Fr.then (by repeat first | exact Fr.refl _ _ | apply Fr.drewN) f1, (HT.out.fr0 (by repeat first | exact Fr.refl _ _ | apply Fr.drewN)).gridTo f1 g1⟩
    clear f1 g1
    go_wp2
    go_end0
    exact ⟨rfl, R.out.1, R.out.2⟩

theorem T.shown_ok {t : T} (h : t.Ok) (b : Bool) : ({ t with shown := b } : T).Ok := ⟨h.x0, h.x1, h.y0, h.y1, h.c0, h.c1, h.s0, h.s1, h.p1, h.p2⟩

set_option maxHeartbeats 2000000 in
theorem obeyQuery_any (c : Int) (w : World) (bt : Nat) (g : Gh) (t : T) (h : TermAt w bt g t) (q : Bool) (gn cap : Nat) (l : List Int) (hn : Nums w gn l) (hl : l.length ≤ 100) :
    Calls Tryz.prog 97 #[.pointer (some ⟨bt, 0, none⟩), .agg #[.bool q, .slice (some ⟨gn, 0, none⟩) l.length cap], .int .u8 c] w
      fun e w' => e = .returned (.tuple #[]) ∧ Fr [bt] w w' ∧ TermAt w' bt g (t.query l c) := by
  have HT := hide h
  have HN := hide hn
  clear h hn
  go_enter Tryz.func97, Tryz.ntmps97
  go_wp2_with fail
  refine (has_any _ q gn cap l 25 (HN.out.fr ((Fr.refl _ _).alloc _)) hl).mono ?_
  rintro e w1 ⟨rfl, f1⟩
  have fw : Fr [] w w1 := ((Fr.refl [] w).alloc _).then f1
  have t1 := HT.out.fr0 fw
  obtain ⟨c0, c1, c2, c3, c4, c5, c6, c7, c8, d0, d1⟩ := t1.cells
  have f3 := t1.st.frozen 3
  have T1 := hide t1
  have FW := hide fw
  clear t1 fw f1 c0 c1 c2 c4 c5 c6 c7 c8 d0 d1
  cases hc : l.contains 25 with
  | false =>
    have E := hide (show t.query l c = t by simp only [T.query, hc]; rfl)
    clear hc
    go_wp2
    exact bodyPost_ret (results_none rfl _ _ _) rfl ⟨rfl, FW.out.of_nil, by rw [E.out]; exact T1.out⟩
  | true =>
    by_cases e1 : c = 104
    · subst e1
      have E := hide (show t.query l 104 = { t with shown := true } by simp only [T.query, hc]; rfl)
      clear hc
      go_wp2
      go_end0
      have f : Fr [bt] w1 _ := (Fr.refl [bt] w1).setCell (p := ⟨bt, 3, none⟩) (by simp) (.bool true)
      exact ⟨rfl, FW.out.of_nil.then f, by rw [E.out]; exact T1.out.write f (T1.out.st.set 3 _) rfl rfl rfl rfl (T.shown_ok T1.out.ok _)⟩
    by_cases e2 : c = 108
    · subst e2
      have E := hide (show t.query l 108 = { t with shown := false } by simp only [T.query, hc]; rfl)
      clear hc
      go_wp2
      go_end0
      have f : Fr [bt] w1 _ := (Fr.refl [bt] w1).setCell (p := ⟨bt, 3, none⟩) (by simp) (.bool false)
      exact ⟨rfl, FW.out.of_nil.then f, by rw [E.out]; exact T1.out.write f (T1.out.st.set 3 _) rfl rfl rfl rfl (T.shown_ok T1.out.ok _)⟩
    · have E := hide (show t.query l c = t by simp only [T.query, hc]; rw [if_neg e1, if_neg e2]; rfl)
      have q1 : (c == 104) = false := by simpa using e1
      have q2 : (c == 108) = false := by simpa using e2
      clear hc e1 e2
      go_wp2
      go_end0
      exact ⟨rfl, FW.out.of_nil, by rw [E.out]; exact T1.out⟩
end Go.Proofs.YtjhccghhinlmdabGreatDoor
