/- The terminal's call that does what a sequence says. -/
import Derived.Test.YtjhccghhinlmdabGreatDoorTermErase
namespace Go.Proofs.YtjhccghhinlmdabGreatDoor
open Go.RowKit

/-- a slice of bytes of the terminal's own, as one that is read -/
theorem own_bytes {w : World} {base : Nat} {v : Value} {xs : List Int} (h : w.ownsRow base 5 1 v xs.length (xs.map (Value.int .u8))) :
    ∃ ao cap, v = .slice ao xs.length cap ∧ Bytes w ao xs ∧ xs.length ≤ cap ∧ cap ≤ 9223372036854775807 := by
  rcases h.2 with ⟨rfl, h0⟩ | ⟨g, cap, cur, rfl, hb, hg, hc1, hc2, hc3, hc4⟩
  · have : xs = [] := List.eq_nil_of_length_eq_zero h0
    subst this
    exact ⟨none, 0, rfl, .inl ⟨rfl, rfl⟩, by simp, by omega⟩
  · refine ⟨some ⟨g, 0, none⟩, cap, rfl, .inr ⟨g, 0, rfl, fun i hi => ?_⟩, hc1, by unfold maxLen at hc2; omega⟩
    have := h.cells (g := g) rfl i (.int .u8 (xs.getD i 0)) (by simp [List.getD_eq_getElem?_getD, hi])
    have hadd : (⟨g, 0, none⟩ : Addr).add i = ⟨g, 0 + i, none⟩ := by unfold Addr.add; split <;> simp_all
    rwa [hadd] at this

theorem erase_W (t : T) (n a b : Int) : (t.erase n a b).W = t.W := by unfold T.erase; (repeat' split) <;> rfl
theorem erase_H (t : T) (n a b : Int) : (t.erase n a b).H = t.H := by unfold T.erase; (repeat' split) <;> rfl

theorem obey_none {t : T} {c : Int} (h : readP t.params = none) : t.obey c = t := by simp [T.obey, h]
theorem obey_query {t : T} {c : Int} {l : List Int} (h : readP t.params = some (true, l)) : t.obey c = t.query l c := by simp [T.obey, h]
theorem obey_does {t : T} {c : Int} {l : List Int} (h : readP t.params = some (false, l)) : t.obey c = t.does l c := by simp [T.obey, h]

theorem readP_bd {xs l : List Int} {q : Bool} (h : readP xs = some (q, l)) : (∀ a ∈ l, 0 ≤ a ∧ a ≤ 999) ∧ 1 ≤ l.length ∧ l.length ≤ 13 := by
  unfold readP at h
  split at h
  · cases h
  · split at h
    · obtain ⟨l', h1, h2⟩ := Option.map_eq_some_iff.1 h
      cases h2
      have := numbers_bd h1
      refine ⟨this.1, this.2.1, ?_⟩
      have h3 : xs.tail.length ≤ xs.length := by simp
      omega
    · obtain ⟨l', h1, h2⟩ := Option.map_eq_some_iff.1 h
      cases h2
      have := numbers_bd h1
      exact ⟨this.1, this.2.1, by omega⟩

theorem getD_bd {l : List Int} (h : ∀ a ∈ l, 0 ≤ a ∧ a ≤ 999) (k : Nat) : 0 ≤ l.getD k 0 ∧ l.getD k 0 ≤ 999 := by
  rw [List.getD_eq_getElem?_getD]
  cases hk : l[k]? with
  | none => simp
  | some a => exact h a (List.mem_of_getElem? hk)

theorem number_at (w : World) (q : Bool) (gn cap : Nat) (l : List Int) (i n : Int) (hn : Nums w gn l) (hl : l.length ≤ 100) (h0 : 0 ≤ i) (h1 : i ≤ 100) (he : l.getD i.toNat 0 = n) :
    Calls Tryz.prog 98 #[.agg #[.bool q, .slice (some ⟨gn, 0, none⟩) l.length cap], .int .i64 i] w fun e w' => e = .returned (.int .i64 n) ∧ Fr [] w w' := by
  rw [← he]; exact number_any w q gn cap l i hn hl h0 h1

set_option maxHeartbeats 4000000 in
set_option maxRecDepth 100000 in
theorem obey_any (c : Int) (w : World) (bt : Nat) (g : Gh) (t : T) (h : TermAt w bt g t) :
    Calls Tryz.prog 80 #[.pointer (some ⟨bt, 0, none⟩), .int .u8 c] w
      fun e w' => e = .returned (.tuple #[]) ∧ Fr [bt, g.bc] w w' ∧ TermAt w' bt g (t.obey c) := by
  obtain ⟨ao, cp, hpv, hby, hcp, hcp2⟩ := own_bytes h.pr
  have c8 := h.st.cell 8
  have c8' : w.cell? ⟨bt, 8, none⟩ = some (.slice ao t.params.length cp) := by rw [← hpv]; exact c8
  have hbt := h.st.lt
  have HT := hide h
  have HB := hide hby
  have HP := hide h.ok.p2
  have hp1 := h.ok.p1
  clear h hby c8 hpv
  go_enter Tryz.func80, Tryz.ntmps80
  go_wp2_with fail
  refine (read_any _ ao cp t.params HB.out (by omega) hcp hcp2 (fun x hx => by have := HP.out x hx; omega)).mono ?_
  rintro e w1 ⟨f1, h1⟩
  have F1 := hide f1
  cases hrd : readP t.params with
  | none =>
    rw [hrd] at h1
    have E := hide (obey_none (c := c) hrd)
    subst h1
    clear hrd f1
    go_wp2
    exact bodyPost_ret (results_none rfl _ _ _) rfl ⟨rfl, (F1.out.of_nil.alloc _), by rw [E.out]; exact (HT.out.fr0 F1.out).fr0 ((Fr.refl _ _).alloc _)⟩
  | some ql =>
    obtain ⟨q, l⟩ := ql
    rw [hrd] at h1
    obtain ⟨gn, cap, he, hown⟩ := h1
    obtain ⟨hr, hl1, hl2⟩ := readP_bd hrd
    have hN := Nums.of hown
    have hgn : w.heap.size ≤ gn := (hown.lt gn rfl).1
    subst he
    have HN := hide hN
    have HR := hide hr
    have HO := hide hown
    cases q with
    | true =>
      have E := hide (obey_query (c := c) hrd)
      clear hrd f1 hr hN hown
      go_wp2_with fail
      refine (obeyQuery_any c _ bt g t ((HT.out.fr0 F1.out).fr0 ((Fr.refl _ _).alloc _)) true gn cap l (HN.out.fr ((Fr.refl _ _).alloc _)) (by omega)).mono ?_
      rintro e w2 ⟨rfl, f2, t2⟩
      have R : Hid (Fr [bt, g.bc] w w2 ∧ TermAt w2 bt g (t.obey c)) := ⟨(F1.out.of_nil.alloc _).then (f2.mono (by simp)), by rw [E.out]; exact t2⟩
      clear f2 t2
      go_wp2
      exact bodyPost_ret (results_none rfl _ _ _) rfl ⟨rfl, R.out.1, R.out.2⟩
    | false =>
      have E := hide (obey_does (c := c) hrd)
      obtain ⟨n, hn⟩ : ∃ n, l.getD 0 0 = n := ⟨_, rfl⟩
      obtain ⟨m, hm⟩ : ∃ m, l.getD 1 0 = m := ⟨_, rfl⟩
      have g0 := getD_bd hr 0
      have g1 := getD_bd hr 1
      rw [hn] at g0
      rw [hm] at g1
      have a0 := atLeast_bd _ g0.1 g0.2
      have a1 := atLeast_bd _ g1.1 g1.2
      have N0 := hide hn
      have M0 := hide hm
      clear hrd f1 hr hN hown hn hm
      go_wp2_with fail
      refine (number_at _ false gn cap l 0 n (HN.out.fr ((Fr.refl _ _).alloc _)) (by omega) (by omega) (by omega) N0.out).mono ?_
      rintro e w2 ⟨rfl, f2⟩
      have b2 := (Blk.new w1 [.bool false, .slice (some ⟨gn, 0, none⟩) l.length cap] 148).fr0 f2
      have k0 : w2.cell? ⟨w1.heap.size, 0, none⟩ = some (.bool false) := b2.cell 0
      have k1 : w2.cell? ⟨w1.heap.size, 1, none⟩ = some (.slice (some ⟨gn, 0, none⟩) l.length cap) := b2.cell 1
      have F2 := hide f2
      have BX2 := hide b2
      clear f2 b2
      go_wp2_with fail
      refine (number_at _ false gn cap l 1 m ((HN.out.fr ((Fr.refl _ _).alloc _)).fr F2.out) (by omega) (by omega) (by omega) M0.out).mono ?_
      rintro e w3 ⟨rfl, f3⟩
      have b3 := BX2.out.fr0 f3
      have F3 : Hid (Fr [] w w3) := ((F1.out.alloc _).then F2.out).then f3
      have N3 : Hid (Nums w3 gn l) := ((HN.out.fr ((Fr.refl _ _).alloc _)).fr F2.out).fr f3
      have q0 : w3.cell? ⟨w1.heap.size, 0, none⟩ = some (.bool false) := b3.cell 0
      have q1 : w3.cell? ⟨w1.heap.size, 1, none⟩ = some (.slice (some ⟨gn, 0, none⟩) l.length cap) := b3.cell 1
      clear f3 b3 k0 k1
      have T3 := hide (HT.out.fr0 F3.out)
      obtain ⟨c0, c1, c2, c3, c4, c5, c6, c7, c8, d0, d1⟩ := T3.out.cells
      obtain ⟨s0, s1, s2⟩ := T3.out.hereBd
      have ox0 := T3.out.ok.x0
      have ox1 := T3.out.ok.x1
      have oy0 := T3.out.ok.y0
      have oy1 := T3.out.ok.y1
      have ow2 := T3.out.gr.w2
      have oh2 := T3.out.gr.h2
      have om := mul_bd T3.out.gr.w1 T3.out.gr.w2 T3.out.gr.h1 T3.out.gr.h2
      clear c3 c4 c5 c6 c7 c8 c8'
      go_wp2_with fail
      refine (atLeastOne_any n _).mono ?_
      rintro e w4 ⟨rfl, rfl⟩
      by_cases e72 : c = 72
      · subst e72
        have D := hide (show t.does l 72 = t.moveTo (atLeast m - 1) (atLeast n - 1) by simp only [T.does, N0.out, M0.out]; rfl)
        go_wp2_with (first | (go_at_call 99; refine (atLeastOne_any m _).mono ?_; rintro e w4 ⟨rfl, rfl⟩) | (go_at_call 39; refine (moveTo_any (atLeast m - 1) (atLeast n - 1) _ bt g t T3.out).mono ?_; rintro e w4 ⟨rfl, f4, t4⟩; have R : Hid (Fr [bt, g.bc] w w4 ∧ TermAt w4 bt g (t.obey 72)) := ⟨F3.out.of_nil.then (f4.mono (by simp)), by rw [E.out, D.out]; exact t4⟩; clear f4 t4))
        go_end0
        exact ⟨rfl, R.out.1, R.out.2⟩
      by_cases e65 : c = 65
      · subst e65
        have D := hide (show t.does l 65 = t.moveTo (t.x) (t.y - atLeast n) by simp only [T.does, N0.out]; rfl)
        go_wp2_with fail
        go_region_with (go_at_call 39; rw [show IntKind.i64.wrap (t.y - atLeast n) = t.y - atLeast n from by rw [IntKind.wrap_i64]; omega]; refine (moveTo_any (t.x) (t.y - atLeast n) _ bt g t (T3.out.fr0 (Fr.refl _ _).drew)).mono ?_; rintro e w4 ⟨rfl, f4, t4⟩; have R : Hid (Fr [bt, g.bc] w w4 ∧ TermAt w4 bt g (t.obey 65)) := ⟨(F3.out.of_nil.drew).then (f4.mono (by simp)), by rw [E.out, D.out]; exact t4⟩; clear f4 t4)
        all_goals
          go_wp2
          go_end0
          exact ⟨rfl, R.out.1, R.out.2⟩
      by_cases e66 : c = 66
      · subst e66
        have D := hide (show t.does l 66 = t.moveTo (t.x) (t.y + atLeast n) by simp only [T.does, N0.out]; rfl)
        go_wp2_with fail
        go_region_with (go_at_call 39; rw [show IntKind.i64.wrap (t.y + atLeast n) = t.y + atLeast n from by rw [IntKind.wrap_i64]; omega]; refine (moveTo_any (t.x) (t.y + atLeast n) _ bt g t (T3.out.fr0 (Fr.refl _ _).drew)).mono ?_; rintro e w4 ⟨rfl, f4, t4⟩; have R : Hid (Fr [bt, g.bc] w w4 ∧ TermAt w4 bt g (t.obey 66)) := ⟨(F3.out.of_nil.drew).then (f4.mono (by simp)), by rw [E.out, D.out]; exact t4⟩; clear f4 t4)
        all_goals
          go_wp2
          go_end0
          exact ⟨rfl, R.out.1, R.out.2⟩
      by_cases e67 : c = 67
      · subst e67
        have D := hide (show t.does l 67 = t.moveTo (t.x + atLeast n) (t.y) by simp only [T.does, N0.out]; rfl)
        go_wp2_with fail
        go_region_with (go_at_call 39; rw [show IntKind.i64.wrap (t.x + atLeast n) = t.x + atLeast n from by rw [IntKind.wrap_i64]; omega]; refine (moveTo_any (t.x + atLeast n) (t.y) _ bt g t (T3.out.fr0 (Fr.refl _ _).drew)).mono ?_; rintro e w4 ⟨rfl, f4, t4⟩; have R : Hid (Fr [bt, g.bc] w w4 ∧ TermAt w4 bt g (t.obey 67)) := ⟨(F3.out.of_nil.drew).then (f4.mono (by simp)), by rw [E.out, D.out]; exact t4⟩; clear f4 t4)
        all_goals
          go_wp2
          go_end0
          exact ⟨rfl, R.out.1, R.out.2⟩
      by_cases e68 : c = 68
      · subst e68
        have D := hide (show t.does l 68 = t.moveTo (t.x - atLeast n) (t.y) by simp only [T.does, N0.out]; rfl)
        go_wp2_with fail
        go_region_with (go_at_call 39; rw [show IntKind.i64.wrap (t.x - atLeast n) = t.x - atLeast n from by rw [IntKind.wrap_i64]; omega]; refine (moveTo_any (t.x - atLeast n) (t.y) _ bt g t (T3.out.fr0 (Fr.refl _ _).drew)).mono ?_; rintro e w4 ⟨rfl, f4, t4⟩; have R : Hid (Fr [bt, g.bc] w w4 ∧ TermAt w4 bt g (t.obey 68)) := ⟨(F3.out.of_nil.drew).then (f4.mono (by simp)), by rw [E.out, D.out]; exact t4⟩; clear f4 t4)
        all_goals
          go_wp2
          go_end0
          exact ⟨rfl, R.out.1, R.out.2⟩
      by_cases e74 : c = 74
      · subst e74
        have D := hide (show t.does l 74 = t.erase n 0 (t.W * t.H) by simp only [T.does, N0.out]; rfl)
        go_wp2_with fail
        go_region_held (fun w' => w'.cell? ⟨bt, 0, none⟩ = some (.pointer (some ⟨g.bg, 0, none⟩)) ∧ w'.cell? ⟨g.bg, 0, none⟩ = some (.int .i64 t.W) ∧ w'.cell? ⟨g.bg, 1, none⟩ = some (.int .i64 t.H)) (go_keep) (first | (go_at_call 100; rw [show IntKind.i64.wrap (t.W * t.H) = t.W * t.H from by rw [IntKind.wrap_i64]; omega]; refine (erase_any n 0 (t.W * t.H) _ bt g t (T3.out.fr0 (Fr.refl _ _).drew) (by omega) (by omega) (by omega)).mono ?_; rintro e w4 ⟨rfl, f4, t4⟩; have R : Hid (Fr [bt, g.bc] w w4 ∧ TermAt w4 bt g (t.obey 74)) := ⟨(F3.out.of_nil.drew).then (f4.mono (by simp)), by rw [E.out, D.out]; exact t4⟩; have y0 : w4.cell? ⟨bt, 0, none⟩ = some (.pointer (some ⟨g.bg, 0, none⟩)) := t4.st.cell 0; have y1 : w4.cell? ⟨g.bg, 0, none⟩ = some (.int .i64 t.W) := (by have := t4.gr.hd.cell 0; rw [erase_W] at this; exact this); have y2 : w4.cell? ⟨g.bg, 1, none⟩ = some (.int .i64 t.H) := (by have := t4.gr.hd.cell 1; rw [erase_H] at this; exact this); clear f4 t4))
        go_wp2
        go_end0
        exact ⟨rfl, R.out.1, R.out.2⟩
      by_cases e75 : c = 75
      · subst e75
        have D := hide (show t.does l 75 = t.erase n (t.y * t.W) (t.y * t.W + t.W) by simp only [T.does, N0.out]; rfl)
        go_wp2_with fail
        go_quiet (fail)
        go_wp2_with fail
        refine (erase_any n (t.y * t.W) (t.y * t.W + t.W) _ bt g t (T3.out.fr0 ((Fr.refl _ _).drewN nq)) (by omega) (by omega) (by omega)).mono ?_
        rintro e w4 ⟨rfl, f4, t4⟩
        have R : Hid (Fr [bt, g.bc] w w4 ∧ TermAt w4 bt g (t.obey 75)) := ⟨(F3.out.of_nil.drewN nq).then (f4.mono (by simp)), by rw [E.out, D.out]; exact t4⟩
        clear f4 t4
        go_wp2
        go_end0
        exact ⟨rfl, R.out.1, R.out.2⟩
      by_cases e88 : c = 88
      · subst e88
        have D := hide (show t.does l 88 = t.eraseCells (atLeast n) by simp only [T.does, N0.out]; rfl)
        go_wp2_with fail
        refine (eraseCells_any (atLeast n) _ bt g t T3.out (by omega) (by omega)).mono ?_
        rintro e w4 ⟨rfl, f4, t4⟩
        have R : Hid (Fr [bt, g.bc] w w4 ∧ TermAt w4 bt g (t.obey 88)) := ⟨F3.out.of_nil.then (f4.mono (by simp)), by rw [E.out, D.out]; exact t4⟩
        clear f4 t4
        go_wp2
        go_end0
        exact ⟨rfl, R.out.1, R.out.2⟩
      by_cases e109 : c = 109
      · subst e109
        have D := hide (show t.does l 109 = t.setPen l by simp only [T.does]; rfl)
        go_wp2_with fail
        refine (setPen_any _ bt g t T3.out gn cap l N3.out (by omega) HR.out (by omega)).mono ?_
        rintro e w4 ⟨rfl, f4, t4⟩
        have R : Hid (Fr [bt, g.bc] w w4 ∧ TermAt w4 bt g (t.obey 109)) := ⟨F3.out.of_nil.then (f4.mono (by simp)), by rw [E.out, D.out]; exact t4⟩
        clear f4 t4
        go_wp2
        go_end0
        exact ⟨rfl, R.out.1, R.out.2⟩
      · have D := hide (show t.does l c = t by unfold T.does; rw [if_neg e72, if_neg e65, if_neg e66, if_neg e67, if_neg e68, if_neg e74, if_neg e75, if_neg e88, if_neg e109])
        have r1 : (c == 72) = false := by simpa using e72
        have r2 : (c == 65) = false := by simpa using e65
        have r3 : (c == 66) = false := by simpa using e66
        have r4 : (c == 67) = false := by simpa using e67
        have r5 : (c == 68) = false := by simpa using e68
        have r6 : (c == 74) = false := by simpa using e74
        have r7 : (c == 75) = false := by simpa using e75
        have r8 : (c == 88) = false := by simpa using e88
        have r9 : (c == 109) = false := by simpa using e109
        clear e72 e65 e66 e67 e68 e74 e75 e88 e109
        go_wp2
        go_end0
        exact ⟨rfl, F3.out.of_nil, by rw [E.out, D.out]; exact T3.out⟩
end Go.Proofs.YtjhccghhinlmdabGreatDoor
