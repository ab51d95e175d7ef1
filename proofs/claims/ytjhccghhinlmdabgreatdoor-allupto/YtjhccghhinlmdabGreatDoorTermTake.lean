/- The terminal takes a byte, and a string of them. -/
import Derived.Test.YtjhccghhinlmdabGreatDoorTermObey
namespace Go.Proofs.YtjhccghhinlmdabGreatDoor
open Go.RowKit

/-- the terminal at bt has become t'; its parts lie where they lay, or in new memory -/
def Upd (bt : Nat) (g : Gh) (t' : T) (w w' : World) : Prop :=
  ∃ g', TermAt w' bt g' t' ∧ Fr (foot bt g) w w' ∧ ∀ b ∈ foot bt g', b ∈ foot bt g ∨ w.heap.size ≤ b

theorem Upd.of {bt : Nat} {g : Gh} {t' : T} {w w' : World} (h : TermAt w' bt g t') (f : Fr [bt, g.bc] w w') : Upd bt g t' w w' :=
  ⟨g, h, f.mono (by intro i hi; simp at hi; rcases hi with rfl | rfl <;> simp [foot]), fun b hb => .inl hb⟩
theorem Upd.then {bt : Nat} {g : Gh} {t1 t2 : T} {w w1 w2 : World} (h : Upd bt g t1 w w1) (k : ∀ g1, TermAt w1 bt g1 t1 → Upd bt g1 t2 w1 w2) : Upd bt g t2 w w2 := by
  obtain ⟨g1, a1, f1, s1⟩ := h
  obtain ⟨g2, a2, f2, s2⟩ := k g1 a1
  refine ⟨g2, a2, f1.trans f2 (fun i hi => .inl hi) s1, fun b hb => ?_⟩
  rcases s2 b hb with h | h
  · exact s1 b h
  · have := f1.size; omega

theorem Upd.via {bt : Nat} {g g1 : Gh} {t2 : T} {w w1 w2 : World} (f1 : Fr (foot bt g) w w1) (s1 : ∀ b ∈ foot bt g1, b ∈ foot bt g ∨ w.heap.size ≤ b) (k : Upd bt g1 t2 w1 w2) : Upd bt g t2 w w2 := by
  obtain ⟨g2, a2, f2, s2⟩ := k
  refine ⟨g2, a2, f1.trans f2 (fun i hi => .inl hi) s1, fun b hb => ?_⟩
  rcases s2 b hb with h | h
  · exact s1 b h
  · have := f1.size; omega

theorem TermAt.lt {w : World} {bt : Nat} {g : Gh} {t : T} (h : TermAt w bt g t) : ∀ b ∈ foot bt g, b < w.heap.size := by
  intro b hb
  simp only [foot, List.mem_cons, Option.mem_toList] at hb
  rcases hb with rfl | rfl | rfl | hb
  · exact h.st.lt
  · exact h.gr.hd.lt
  · exact h.gr.row.lt
  · exact (h.pr.lt b hb).2

/-- the parameters have grown by one -/
theorem TermAt.grow {w w1 : World} {bt : Nat} {g : Gh} {t : T} {c : Int} {g1 cap1 : Nat} {o : Obj} (h : TermAt w bt g t) (hc : 32 ≤ c) (hc2 : c ≤ 63) (hl : t.params.length ≤ 12)
    (ho : w1.ownsRow 0 5 1 (.slice (some ⟨g1, 0, none⟩) (t.params.length + 1) cap1) (t.params.length + 1) (t.params.map (Value.int .u8) ++ [.int .u8 c]))
    (hg : (w.alloc o).grownBy w1 g.pv.ownBlock) (ha : g.pv.ownBlock = some g1 ∨ g1 = w.heap.size + 1) :
    Blk w1 bt (stOf g t) 54 ∧ Upd bt g { t with params := t.params ++ [c] } w (w1.setCell ⟨bt, 8, none⟩ (.slice (some ⟨g1, 0, none⟩) (t.params.length + 1) cap1)) := by
  have f0 : Fr [] w (w.alloc o) := (Fr.refl _ _).alloc _
  have b1 : Blk w1 bt (stOf g t) 54 := (h.st.fr0 f0).grown hg (own_ne (own_fr0 h.pr f0) (h.st.fr0 f0) (by decide))
  have b2 := (h.gr.fr0 f0).hd.grown hg (own_ne (own_fr0 h.pr f0) (h.gr.fr0 f0).hd (by decide))
  have b3 := (h.gr.fr0 f0).row.grown hg (own_ne (own_fr0 h.pr f0) (h.gr.fr0 f0).row (by decide))
  refine ⟨b1, { g with pv := .slice (some ⟨g1, 0, none⟩) (t.params.length + 1) cap1 }, ⟨b1.set 8 _, ?_, ?_, ?_⟩, ?_, ?_⟩
  · exact ⟨b2.setOther (p := ⟨bt, 8, none⟩) h.tg.symm _, b3.setOther (p := ⟨bt, 8, none⟩) h.tc.symm _, h.gr.w1, h.gr.w2, h.gr.h1, h.gr.h2, h.gr.len, h.gr.capLe⟩
  · have e : (t.params ++ [c]).length = t.params.length + 1 := by simp
    simp only [e, List.map_append, List.map_cons, List.map_nil]
    exact own_fr (S := [bt]) ho ((Fr.refl _ _).setCell (by simp) _) (by intro b hb; simp at hb; subst hb; exact own_ne ho b1 (by decide))
  · have o := h.ok
    refine ⟨o.x0, o.x1, o.y0, o.y1, o.c0, o.c1, o.s0, o.s1, by simp; omega, fun p hp => ?_⟩
    simp only [List.mem_append, List.mem_singleton] at hp
    rcases hp with hp | rfl
    · exact o.p2 p hp
    · exact ⟨hc, hc2⟩
  · refine Fr.setCell (Fr.grown (f0.mono (by simp)) hg ?_) (by simp [foot]) _
    intro k hk; left; simp [foot, hk]
  · intro b hb
    simp only [foot, List.mem_cons, Value.ownBlock, Option.toList, List.not_mem_nil, or_false] at hb
    rcases hb with rfl | rfl | rfl | rfl
    · simp [foot]
    · simp [foot]
    · simp [foot]
    · rcases ha with ha | ha
      · left; simp [foot, ha]
      · right; omega

set_option maxHeartbeats 1000000 in
set_option maxRecDepth 100000 in
theorem keepParam_any (c : Int) (w : World) (bt : Nat) (g : Gh) (t : T) (h : TermAt w bt g t) (hc : 32 ≤ c) (hc2 : c ≤ 63) :
    Calls Tryz.prog 79 #[.pointer (some ⟨bt, 0, none⟩), .int .u8 c] w fun e w' => e = .returned (.tuple #[]) ∧ Upd bt g (t.keepParam c) w w' := by
  obtain ⟨ao, cp, hpv, hby, hcp, hcp2⟩ := own_bytes h.pr
  have c8 : w.cell? ⟨bt, 8, none⟩ = some (.slice ao t.params.length cp) := by rw [← hpv]; exact h.st.cell 8
  have hbt := h.st.lt
  have hp1 := h.ok.p1
  have HT := hide h
  have HPV := hide hpv
  obtain ⟨i0, hi, hz0, hz1, hz2⟩ := info_parts info_u8
  clear h hby hpv
  by_cases hl : t.params.length ≤ 12
  · have E := hide (show t.keepParam c = { t with params := t.params ++ [c] } by unfold T.keepParam; rw [if_pos hl])
    go_enter Tryz.func79, Tryz.ntmps79
    go_wp2_with (first | (at_builtin; refine wpList_append_lies _ rfl (.tmp 14) (.tmp 16) 52 rfl 0 5 i0 (.int .u8 0) 1 1 Tryz.underlying52 hi hz0 hz1 hz2 rfl (by decide) (.slice ao t.params.length cp) t.params.length (t.params.map (Value.int .u8)) rfl (by rw [← HPV.out]; exact own_fr0 HT.out.pr ((Fr.refl _ _).alloc _)) ⟨w.heap.size, 0, none⟩ 1 1 [.int .u8 c] rfl rfl (World.news_of_block (cs := #[.int .u8 c]) (t := 5) (fr := (0, 0)) (by exact heap_alloc_new w _)) (one_one _ rfl) (by omega) (by unfold maxLen; omega) (by omega) (by omega) (w.heap.size + 1) (by simp) ?_; intro g1 cap1 w1 hown1 hgrow hat hlt1; rw [← HPV.out] at hgrow hat; have R := hide (HT.out.grow hc hc2 hl hown1 hgrow hat); have x8 : w1.cell? ⟨bt, 8, none⟩ = some g.pv := R.out.1.cell 8; have x9 := R.out.1.frozen 8; clear hown1 hgrow hat))
    go_end0
    exact ⟨rfl, by rw [E.out]; exact R.out.2⟩
  · have E := hide (show t.keepParam c = t by unfold T.keepParam; rw [if_neg hl])
    go_enter Tryz.func79, Tryz.ntmps79
    go_wp2
    go_end0
    exact ⟨rfl, by rw [E.out]; exact Upd.of HT.out (Fr.refl _ _)⟩

/-- the parameters are let go -/
theorem TermAt.dropped {w w' : World} {bt : Nat} {g : Gh} {t t' : T} (h : TermAt w bt g t) (f : Fr [bt] w w') (hs : Blk w' bt (stOf { g with pv := .slice none 0 0 } t') 54)
    (e1 : t'.W = t.W) (e2 : t'.H = t.H) (e3 : t'.cells = t.cells) (e4 : t'.params = []) (ok : t'.Ok) : Upd bt g t' w w' := by
  refine ⟨{ g with pv := .slice none 0 0 }, ⟨hs, ?_, ?_, ok⟩, f.mono (by simp [foot]), ?_⟩
  · rw [e1, e2, e3]; exact h.gr.fr f (by simpa using h.tg.symm) (by simpa using h.tc.symm)
  · rw [e4]; exact World.ownsRow_nil _ _ _ _
  · intro b hb
    simp only [foot, List.mem_cons, Value.ownBlock, Option.toList, List.not_mem_nil, or_false] at hb
    rcases hb with rfl | rfl | rfl <;> simp [foot]

theorem T.drop_ok {t : T} (h : t.Ok) (c : Int) : (t.drop c).Ok :=
  ⟨h.x0, h.x1, h.y0, h.y1, h.c0, h.c1, by simp only [T.drop]; split <;> omega, by simp only [T.drop]; split <;> omega, by simp [T.drop], by simp [T.drop]⟩

set_option maxHeartbeats 2000000 in
theorem takeParam_any (c : Int) (w : World) (bt : Nat) (g : Gh) (t : T) (h : TermAt w bt g t) :
    Calls Tryz.prog 61 #[.pointer (some ⟨bt, 0, none⟩), .int .u8 c] w fun e w' => e = .returned (.tuple #[]) ∧ Upd bt g (t.takeParam c) w w' := by
  have HT := hide h
  have c7 : w.cell? ⟨bt, 7, none⟩ = some (.int .i64 t.stage) := h.st.cell 7
  have c8 : w.cell? ⟨bt, 8, none⟩ = some g.pv := h.st.cell 8
  have f7 := h.st.frozen 7
  have f8 := h.st.frozen 8
  clear h
  by_cases h1 : 32 ≤ c ∧ c ≤ 63
  · have E := hide (show t.takeParam c = t.keepParam c by unfold T.takeParam; rw [if_pos h1])
    obtain ⟨h1, h2⟩ := h1
    go_enter Tryz.func61, Tryz.ntmps61
    go_wp2_with (go_at_call 79; refine (keepParam_any c _ bt g t HT.out (by omega) (by omega)).mono ?_; rintro e w1 ⟨rfl, h1⟩; have R := hide h1; clear h1)
    exact bodyPost_ret (results_none rfl _ _ _) rfl ⟨rfl, by rw [E.out]; exact R.out⟩
  by_cases h2 : 64 ≤ c ∧ c ≤ 126
  · have E := hide (show t.takeParam c = (t.obey c).drop c by unfold T.takeParam; rw [if_neg h1, if_pos h2])
    obtain ⟨h2, h3⟩ := h2
    have q27 : (c == 27) = false := by simp; omega
    clear h1
    go_enter Tryz.func61, Tryz.ntmps61
    go_wp2_with (go_at_call 80; refine (obey_any c _ bt g t HT.out).mono ?_; rintro e w1 ⟨rfl, f1, t1⟩; have x7 : w1.cell? ⟨bt, 7, none⟩ = some (.int .i64 (t.obey c).stage) := t1.st.cell 7; have x8 : w1.cell? ⟨bt, 8, none⟩ = some g.pv := t1.st.cell 8; have y7 := t1.st.frozen 7; have y8 := t1.st.frozen 8; have R := hide (And.intro f1 t1); clear f1 t1)
    go_end0
    refine ⟨rfl, ?_⟩
    rw [E.out]
    refine (Upd.of R.out.2 R.out.1).then fun g1 t1 => ?_
    have f : Fr [bt] w1 _ := ((Fr.refl [bt] w1).setCell (p := ⟨bt, 8, none⟩) (by simp) (.slice none 0 0)).setCell (p := ⟨bt, 7, none⟩) (by simp) (.int .i64 0)
    have e : (t.obey c).drop c = { t.obey c with params := [], stage := 0 } := by simp only [T.drop]; rw [if_neg (by omega)]
    refine t1.dropped f ?_ rfl rfl rfl rfl (T.drop_ok t1.ok c)
    rw [e]
    exact (t1.st.set 8 _).set 7 _
  · have E := hide (show t.takeParam c = t.drop c by unfold T.takeParam; rw [if_neg h1, if_neg h2])
    have h3 : c < 32 ∨ (32 ≤ c ∧ 64 ≤ c ∧ 63 < c ∧ 126 < c) := by omega
    clear h1 h2
    by_cases e27 : c = 27
    · subst e27
      clear h3
      go_enter Tryz.func61, Tryz.ntmps61
      go_wp2
      go_end0
      refine ⟨rfl, ?_⟩
      rw [E.out]
      have f : Fr [bt] w _ := (((Fr.refl [bt] w).setCell (p := ⟨bt, 8, none⟩) (by simp) (.slice none 0 0)).setCell (p := ⟨bt, 7, none⟩) (by simp) (.int .i64 0)).setCell (p := ⟨bt, 7, none⟩) (by simp) (.int .i64 1)
      have e : t.drop 27 = { t with params := [], stage := 1 } := rfl
      refine HT.out.dropped f ?_ rfl rfl rfl rfl (T.drop_ok HT.out.ok 27)
      rw [e]
      exact ((HT.out.st.set 8 _).set 7 _).set 7 _
    · have q27 : (c == 27) = false := by simpa using e27
      have Q27 := hide e27
      clear e27
      rcases h3 with h3 | ⟨h3, h4, h5, h6⟩
      all_goals
        go_enter Tryz.func61, Tryz.ntmps61
        go_wp2
        go_end0
        refine ⟨rfl, ?_⟩
        rw [E.out]
        have f : Fr [bt] w _ := ((Fr.refl [bt] w).setCell (p := ⟨bt, 8, none⟩) (by simp) (.slice none 0 0)).setCell (p := ⟨bt, 7, none⟩) (by simp) (.int .i64 0)
        have e : t.drop c = { t with params := [], stage := 0 } := by simp only [T.drop]; rw [if_neg Q27.out]
        refine HT.out.dropped f ?_ rfl rfl rfl rfl (T.drop_ok HT.out.ok c)
        rw [e]
        exact (HT.out.st.set 8 _).set 7 _
end Go.Proofs.YtjhccghhinlmdabGreatDoor
