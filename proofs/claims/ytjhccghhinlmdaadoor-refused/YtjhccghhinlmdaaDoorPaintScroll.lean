/- Package views' View: a window is scrolled. -/
import Derived.Test.YtjhccghhinlmdaaDoorPaintNext2
namespace Go.Proofs.YtjhccghhinlmdaaDoor
open Go.RowKit

theorem V.idx_cons (o : Win) (n : Int) (v : V) (key : Int) : V.idx ((o, n) :: v) key = if o.key = key then some 0 else (V.idx v key).map (· + 1) := rfl

set_option maxHeartbeats 2000000 in
set_option maxRecDepth 100000 in
theorem vscroll_no (b c : Nat) (av : Option Addr) (cap : Nat) (ps : List Pane) (key n : Int) (w : World) (h0 : w.cell? ⟨b, c, none⟩ = some (.slice av ps.length cap)) (h : PanesAt w av ps) (hn : ps.length ≤ 12) (hi : (view ps).idx key = none) :
    Calls Tryd.prog 38 #[.pointer (some ⟨b, c, none⟩), .int .i64 key, .int .i64 n] w fun e w' => e = .returned (.int .i64 4) ∧ w = w' := by
  have H := hide h
  have HI := hide hi
  clear h hi
  go_enter Tryd.func38, Tryd.ntmps38
  go_wp2
  go_loopw [7] (fun i wr => ∃ k : Nat, i = .int .i64 k ∧ k ≤ ps.length ∧ w = wr ∧ V.idx ((view ps).drop k) key = none) (fun i _ => (3000 - intOf i).toNat)
  case atStart => exact ⟨0, rfl, by omega, rfl, HI.out⟩
  case round =>
    obtain ⟨k, rfl, hk, rfl, he⟩ := hrel
    by_cases hend : k < ps.length
    · obtain ⟨p, hp⟩ : ∃ p, ps[k]? = some p := ⟨_, List.getElem?_eq_getElem hend⟩
      obtain ⟨g, rfl, C, OK⟩ := H.out k p hp
      have c0 := C.c0
      have b1 : (k : Int) < ps.length := by omega
      rw [view_drop hp, V.idx_cons] at he
      have hq : p.o.key ≠ key := by intro hq; rw [if_pos hq] at he; cases he
      rw [if_neg hq] at he
      have E := hide (show V.idx ((view ps).drop (k + 1)) key = none by simpa using he)
      have bq : (p.o.key == key) = false := by simpa using hq
      clear he C OK H hq hp
      go_wp2
      go_roundw
      case rel => exact ⟨k + 1, by go_num, by omega, by trivial, E.out⟩
      case measure => simp [intOf]; omega
    · go_wp2
      go_ret
      exact ⟨rfl, rfl⟩

set_option maxHeartbeats 2000000 in
set_option maxRecDepth 100000 in
theorem vscroll_far (b c : Nat) (av : Option Addr) (cap : Nat) (ps : List Pane) (key n : Int) (i : Nat) (w : World) (h0 : w.cell? ⟨b, c, none⟩ = some (.slice av ps.length cap)) (h : PanesAt w av ps) (hn : ps.length ≤ 12) (hi : (view ps).idx key = some i) (hf : n < -500 ∨ 500 < n) :
    Calls Tryd.prog 38 #[.pointer (some ⟨b, c, none⟩), .int .i64 key, .int .i64 n] w fun e w' => e = .returned (.int .i64 8) ∧ w = w' := by
  have H := hide h
  have HI := hide hi
  clear h hi
  go_enter Tryd.func38, Tryd.ntmps38
  go_wp2
  go_loopw [7] (fun i wr => ∃ k : Nat, i = .int .i64 k ∧ k ≤ ps.length ∧ w = wr ∧ ∃ j, V.idx ((view ps).drop k) key = some j) (fun i _ => (3000 - intOf i).toNat)
  case atStart => exact ⟨0, rfl, by omega, rfl, i, HI.out⟩
  case round =>
    obtain ⟨k, rfl, hk, rfl, j, he⟩ := hrel
    by_cases hend : k < ps.length
    · obtain ⟨p, hp⟩ : ∃ p, ps[k]? = some p := ⟨_, List.getElem?_eq_getElem hend⟩
      obtain ⟨g, rfl, C, OK⟩ := H.out k p hp
      have c0 := C.c0
      have b1 : (k : Int) < ps.length := by omega
      rw [view_drop hp, V.idx_cons] at he
      by_cases hq : p.o.key = key
      · have bq : (p.o.key == key) = true := by simpa using hq
        clear he C OK H hq hp
        rcases hf with hf | hf
        · go_wp2
          go_ret
          exact ⟨rfl, rfl⟩
        · go_wp2
          go_ret
          exact ⟨rfl, rfl⟩
      · rw [if_neg hq] at he
        have E : Hid (∃ j, V.idx ((view ps).drop (k + 1)) key = some j) := by
          obtain ⟨q, hq, _⟩ := Option.map_eq_some_iff.1 he
          exact ⟨q, hq⟩
        have bq : (p.o.key == key) = false := by simpa using hq
        clear he C OK H hq hp
        go_wp2
        go_roundw
        case rel => exact ⟨k + 1, by go_num, by omega, by trivial, E.out⟩
        case measure => simp [intOf]; omega
    · rw [List.drop_eq_nil_of_le (by simp [view]; omega)] at he; cases he

theorem flatP_set (ps : List Pane) : ∀ (i : Nat) (p : Pane) (n : Int), ps[i]? = some p → (flatP ps).set (i * 9 + 8) (.int .i64 n) = flatP (ps.set i { p with off := n }) := by
  induction ps with
  | nil => intro i p n h; simp at h
  | cons q ps ih =>
    intro i p n h
    cases i with
    | zero =>
      simp at h; subst h
      simp only [flatP, List.flatMap_cons, Nat.zero_mul, Nat.zero_add, List.set_cons_zero]
      rw [List.set_append_left _ _ (by simp [Pane.vals])]
      rfl
    | succ i =>
      simp at h
      have := ih i p n h
      have hq : q.vals.length = 9 := rfl
      simp only [flatP, List.flatMap_cons, List.set_cons_succ] at *
      rw [List.set_append_right _ _ (by omega), hq, show (i + 1) * 9 + 8 - 9 = i * 9 + 8 by omega, this]
theorem view_set (ps : List Pane) (i : Nat) (p : Pane) (n : Int) (h : ps[i]? = some p) : view (ps.set i { p with off := n }) = (view ps).put i n := by
  unfold V.put
  rw [view_at h]
  simp [view, List.map_set, Pane.wo]

/-- a pane's offset has been turned -/
theorem PanesIn.turn {base : Nat} {w w' : World} {g cap : Nat} {sp : List Value} {ps : List Pane} {i : Nat} {p : Pane} {n : Int} (h : PanesIn base w (.slice (some ⟨g, 0, none⟩) ps.length cap) ps) (hb : Blk w g (flatP ps ++ sp) 94) (hg : base ≤ g) (hp : ps[i]? = some p) (f : Fr [g] w w') (hb2 : Blk w' g ((flatP ps ++ sp).set (i * 9 + 8) (.int .i64 n)) 94) (n1 : 0 ≤ n) (n2 : n ≤ 401) :
    PanesIn base w' (.slice (some ⟨g, 0, none⟩) ps.length cap) (ps.set i { p with off := n }) := by
  have hi : i < ps.length := (List.getElem?_eq_some_iff.1 hp).1
  have hl := flatP_length ps
  have each : ∀ q ∈ ps, PaneOk w' q := fun q hq => (h.ok q hq).1.fr f (by simpa using (h.ok q hq).1.ls.ne hb (by decide))
  refine ⟨.inr ⟨g, cap, sp, by simp, ?_, hg⟩, ?_⟩
  · rw [List.set_append_left _ _ (by omega), flatP_set ps i p n hp] at hb2
    exact hb2
  · intro q hq
    rcases List.mem_or_eq_of_mem_set hq with hq | hq
    · exact ⟨each q hq, (h.ok q hq).2⟩
    · subst hq
      have := each p (List.mem_of_getElem? hp)
      exact ⟨⟨this.ok, n1, n2, this.ls⟩, (h.ok p (List.mem_of_getElem? hp)).2⟩

/-- a window of the view has been scrolled -/
def ScrollPost (base : Nat) (w : World) (v : Value) (ps : List Pane) (i : Nat) (n : Int) (e : Ending) (w' : World) : Prop :=
  e = .returned (.int .i64 0) ∧ ∃ qs, view qs = (view ps).scroll i n ∧ PanesIn base w' v qs ∧ Fr v.ownBlock.toList w w' ∧ qs.map Pane.lb = ps.map Pane.lb ∧ qs.length = ps.length

set_option maxHeartbeats 2000000 in
set_option maxRecDepth 100000 in
theorem vscroll_yes (b c : Nat) (v : Value) (ps : List Pane) (key n : Int) (i base : Nat) (w : World) (h0 : w.cell? ⟨b, c, none⟩ = some v) (h : PanesIn base w v ps) (hn : ps.length ≤ 12) (hi : (view ps).idx key = some i) (n1 : -500 ≤ n) (n2 : n ≤ 500) :
    Calls Tryd.prog 38 #[.pointer (some ⟨b, c, none⟩), .int .i64 key, .int .i64 n] w (ScrollPost base w v ps i n) := by
  have hlt : i < ps.length := by simpa [view] using V.idx_lt hi
  rcases h.row with ⟨_, rfl⟩ | ⟨g, cap, sp, rfl, hb, hg⟩
  · simp at hlt
  obtain ⟨av, cap', hv, hat⟩ := h.at'
  simp only [Value.slice.injEq, true_and] at hv
  obtain ⟨rfl, rfl⟩ := hv
  have H := hide h
  have HI := hide hi
  have HB := hide hb
  have HA := hide hat
  clear h hi hb hat
  go_enter Tryd.func38, Tryd.ntmps38
  go_wp2
  go_loopw [7] (fun u wr => ∃ k : Nat, u = .int .i64 k ∧ k ≤ ps.length ∧ w = wr ∧ ∃ j, V.idx ((view ps).drop k) key = some j ∧ i = k + j) (fun i _ => (3000 - intOf i).toNat)
  case atStart => exact ⟨0, rfl, by omega, rfl, i, HI.out, by omega⟩
  case round =>
    obtain ⟨k, rfl, hk, rfl, j, he, hj⟩ := hrel
    by_cases hend : k < ps.length
    · obtain ⟨p, hp⟩ : ∃ p, ps[k]? = some p := ⟨_, List.getElem?_eq_getElem hend⟩
      obtain ⟨g', hg', C, OK⟩ := HA.out k p hp
      simp only [Option.some.injEq, Addr.mk.injEq, and_true] at hg'
      subst hg'
      have c0 := C.c0
      have c8 := C.c8
      have b1 : (k : Int) < ps.length := by omega
      rw [view_drop hp, V.idx_cons] at he
      by_cases hq : p.o.key = key
      · rw [if_pos hq] at he
        have hj0 : j = 0 := by simpa using he.symm
        subst hj0
        simp only [Nat.add_zero] at hj
        subst hj
        have hl := flatP_length ps
        have v4 : (flatP ps ++ sp)[i * 9 + 4]? = some (.int .i64 p.o.h) := by rw [List.getElem?_append_left (by omega), flatP_at ps i p hp 4 (by decide)]; rfl
        have v7 : (flatP ps ++ sp)[i * 9 + 7]? = some (.slice (some ⟨p.lb, 0, none⟩) p.ls.length p.lc) := by rw [List.getElem?_append_left (by omega), flatP_at ps i p hp 7 (by decide)]; rfl
        have v8 : (flatP ps ++ sp)[i * 9 + 8]? = some (.int .i64 p.off) := by rw [List.getElem?_append_left (by omega), flatP_at ps i p hp 8 (by decide)]; rfl
        have SC : Hid (∀ w', Fr [] w w' → Calls Tryd.prog 49 #[.pointer (some ⟨g, i * 9, none⟩), .int .i64 (p.off + n)] w' fun e w'' => e = .returned (.tuple #[]) ∧ Fr [g] w' w'' ∧ Blk w'' g ((flatP ps ++ sp).set (i * 9 + 8) (.int .i64 (p.o.fits (p.off + n)))) 94) :=
          fun w' f' => scrollTo_any g (i * 9) p.lb p.lc p.o (p.off + n) w' _ _ (HB.out.fr0 f') p.off v4 v7 v8 OK.ok
        have o1 := OK.o1
        have o2 := OK.o2
        have ft := hide (Win.fits_bd p.o OK.ok (p.off + n))
        have FIN : Hid (∀ w1 w2, Fr [] w w1 → Fr [g] w1 w2 → Blk w2 g ((flatP ps ++ sp).set (i * 9 + 8) (.int .i64 (p.o.fits (p.off + n)))) 94 → ∃ qs, view qs = (view ps).scroll i n ∧ PanesIn base w2 (.slice (some ⟨g, 0, none⟩) ps.length cap) qs ∧ Fr (Value.slice (some ⟨g, 0, none⟩) ps.length cap).ownBlock.toList w w2 ∧ qs.map Pane.lb = ps.map Pane.lb ∧ qs.length = ps.length) := by
          intro w1 w2 f1 f2 hb2
          have f12 : Fr [g] w w2 := f1.of_nil.then f2
          refine ⟨ps.set i { p with off := p.o.fits (p.off + n) }, ?_, H.out.turn HB.out hg hp f12 hb2 ft.out.1 ft.out.2, by simpa [Value.ownBlock] using f12, ?_, by simp⟩
          · rw [view_set ps i p _ hp]; unfold V.scroll; rw [view_at hp]
          · rw [List.map_set]
            apply List.ext_getElem? ; intro m
            by_cases hm : m = i
            · subst hm; rw [List.getElem?_set_self (by simpa using hend), List.getElem?_map, hp]; rfl
            · rw [List.getElem?_set_ne (fun q => hm q.symm)]
        have bq : (p.o.key == key) = true := by simpa using hq
        have wrp : IntKind.i64.wrap (p.off + n) = p.off + n := by rw [IntKind.wrap_i64]; omega
        have blt : g < w.heap.size := HB.out.lt
        clear he C OK HA hq hp v4 v7 v8 HB H HI
        go_wp2
        go_region_with ((go_at_call 49; refine (SC.out _ ?hf).mono ?_; (case hf => (repeat first | exact Fr.refl _ _ | apply Fr.drew | apply Fr.drewN)); rintro e w1 ⟨rfl, f1, b1⟩; have FN := hide (FIN.out _ w1 (by repeat first | exact Fr.refl _ _ | apply Fr.drew | apply Fr.drewN) f1 b1); clear f1 b1))
        all_goals go_wp2
        all_goals
          go_ret
          exact ⟨rfl, FN.out⟩
      · rw [if_neg hq] at he
        have E : Hid (∃ j, V.idx ((view ps).drop (k + 1)) key = some j ∧ i = k + 1 + j) := by
          obtain ⟨q, hq, hq2⟩ := Option.map_eq_some_iff.1 he
          exact ⟨q, hq, by omega⟩
        have bq : (p.o.key == key) = false := by simpa using hq
        clear he C OK HA hq hp HB H
        go_wp2
        go_roundw
        case rel => exact ⟨k + 1, by go_num, by omega, by trivial, E.out⟩
        case measure => simp [intOf]; omega
    · rw [List.drop_eq_nil_of_le (by simp [view]; omega)] at he; cases he
end Go.Proofs.YtjhccghhinlmdaaDoor
