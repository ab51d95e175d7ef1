import Derived.Test.YtjhccghhinlmdabGreatDoorPackPaintNext2
import Derived.Test.YtjhccghhinlmdabGreatDoorTermFeed
import Derived.Test.YtjhccghhinlmdabGreatDoorStr
import Derived.Lib.AppendStr
import Derived.Lib.ItoaNum
import Derived.Lib.ItoaWalk
import Derived.Lib.Strings
import Derived.Test.YtjhccghhinlmdabGreatDoorCellsRow
import Derived.Test.YtjhccghhinlmdabGreatDoorCellsAt
/- Package views' View: a window is scrolled. -/
namespace Go.Proofs.YtjhccghhinlmdabGreatDoor
open Go.RowKit

theorem V.idx_cons (o : Win) (n : Int) (v : V) (key : Int) : V.idx ((o, n) :: v) key = if o.key = key then some 0 else (V.idx v key).map (· + 1) := rfl

set_option maxHeartbeats 2000000 in
set_option maxRecDepth 100000 in
theorem vscroll_no (b c : Nat) (av : Option Addr) (cap : Nat) (ps : List Pane) (key n : Int) (w : World) (h0 : w.cell? ⟨b, c, none⟩ = some (.slice av ps.length cap)) (h : PanesAt w av ps) (hn : ps.length ≤ 12) (hi : (view ps).idx key = none) :
    Calls Tryz.prog 74 #[.pointer (some ⟨b, c, none⟩), .int .i64 key, .int .i64 n] w fun e w' => e = .returned (.int .i64 4) ∧ w = w' := by
  have H := hide h
  have HI := hide hi
  clear h hi
  go_enter Tryz.func74, Tryz.ntmps74
  go_wp2
  go_loopw [7] (fun i wr => ∃ k : Nat, i = .int .i64 k ∧ k ≤ ps.length ∧ w = wr ∧ V.idx ((view ps).drop k) key = none) (fun i _ => (3000 - intOf i).toNat)
  case atStart => exact ⟨0, rfl, by omega, rfl, HI.out⟩
  case round =>
    obtain ⟨k, rfl, hk, rfl, he⟩ := hrel
    by_cases hend : k < ps.length
    · obtain ⟨p, hp⟩ : ∃ p, ps[k]? = some p := ⟨_, List.getElem?_eq_getElem hend⟩
      obtain ⟨g, rfl, C, OK⟩ := H.out k p hp
      have c0 := C.c0
      have b1 : (k : Int) < ps.length := by omega
      rw [view_drop hp, V.idx_cons] at he
      have hq : p.o.key ≠ key := by intro hq; rw [if_pos hq] at he; cases he
      rw [if_neg hq] at he
      have E := hide (show V.idx ((view ps).drop (k + 1)) key = none by simpa using he)
      have bq : (p.o.key == key) = false := by simpa using hq
      clear he C OK H hq hp
      go_wp2
      go_roundw
      case rel => exact ⟨k + 1, by go_num, by omega, by trivial, E.out⟩
      case measure => simp [intOf]; omega
    · go_wp2
      go_ret
      exact ⟨rfl, rfl⟩

set_option maxHeartbeats 2000000 in
set_option maxRecDepth 100000 in
theorem vscroll_far (b c : Nat) (av : Option Addr) (cap : Nat) (ps : List Pane) (key n : Int) (i : Nat) (w : World) (h0 : w.cell? ⟨b, c, none⟩ = some (.slice av ps.length cap)) (h : PanesAt w av ps) (hn : ps.length ≤ 12) (hi : (view ps).idx key = some i) (hf : n < -500 ∨ 500 < n) :
    Calls Tryz.prog 74 #[.pointer (some ⟨b, c, none⟩), .int .i64 key, .int .i64 n] w fun e w' => e = .returned (.int .i64 8) ∧ w = w' := by
  have H := hide h
  have HI := hide hi
  clear h hi
  go_enter Tryz.func74, Tryz.ntmps74
  go_wp2
  go_loopw [7] (fun i wr => ∃ k : Nat, i = .int .i64 k ∧ k ≤ ps.length ∧ w = wr ∧ ∃ j, V.idx ((view ps).drop k) key = some j) (fun i _ => (3000 - intOf i).toNat)
  case atStart => exact ⟨0, rfl, by omega, rfl, i, HI.out⟩
  case round =>
    obtain ⟨k, rfl, hk, rfl, j, he⟩ := hrel
    by_cases hend : k < ps.length
    · obtain ⟨p, hp⟩ : ∃ p, ps[k]? = some p := ⟨_, List.getElem?_eq_getElem hend⟩
      obtain ⟨g, rfl, C, OK⟩ := H.out k p hp
      have c0 := C.c0
      have b1 : (k : Int) < ps.length := by omega
      rw [view_drop hp, V.idx_cons] at he
      by_cases hq : p.o.key = key
      · have bq : (p.o.key == key) = true := by simpa using hq
        clear he C OK H hq hp
        rcases hf with hf | hf
        · go_wp2
          go_ret
          exact ⟨rfl, rfl⟩
        · go_wp2
          go_ret
          exact ⟨rfl, rfl⟩
      · rw [if_neg hq] at he
        have E : Hid (∃ j, V.idx ((view ps).drop (k + 1)) key = some j) := by
          obtain ⟨q, hq, _⟩ := Option.map_eq_some_iff.1 he
          exact ⟨q, hq⟩
        have bq : (p.o.key == key) = false := by simpa using hq
        clear he C OK H hq hp
        go_wp2
        go_roundw
        case rel => exact ⟨k + 1, by go_num, by omega, by trivial, E.out⟩
        case measure => simp [intOf]; omega
    · rw [List.drop_eq_nil_of_le (by simp [view]; omega)] at he; cases he

theorem flatP_set (ps : List Pane) : ∀ (i : Nat) (p : Pane) (n : Int), ps[i]? = some p → (flatP ps).set (i * 9 + 8) (.int .i64 n) = flatP (ps.set i { p with off := n }) := by
  induction ps with
  | nil => intro i p n h; simp at h
  | cons q ps ih =>
    intro i p n h
    cases i with
    | zero =>
      simp at h; subst h
      simp only [flatP, List.flatMap_cons, Nat.zero_mul, Nat.zero_add, List.set_cons_zero]
      rw [List.set_append_left _ _ (by simp [Pane.vals])]
      rfl
    | succ i =>
      simp at h
      have := ih i p n h
      have hq : q.vals.length = 9 := rfl
      simp only [flatP, List.flatMap_cons, List.set_cons_succ] at *
      rw [List.set_append_right _ _ (by omega), hq, show (i + 1) * 9 + 8 - 9 = i * 9 + 8 by omega, this]
theorem view_set (ps : List Pane) (i : Nat) (p : Pane) (n : Int) (h : ps[i]? = some p) : view (ps.set i { p with off := n }) = (view ps).put i n := by
  unfold V.put
  rw [view_at h]
  simp [view, List.map_set, Pane.wo]

/-- a pane's offset has been turned -/
theorem PanesIn.turn {base : Nat} {w w' : World} {g cap : Nat} {sp : List Value} {ps : List Pane} {i : Nat} {p : Pane} {n : Int} (h : PanesIn base w (.slice (some ⟨g, 0, none⟩) ps.length cap) ps) (hb : Blk w g (flatP ps ++ sp) 140) (hg : base ≤ g) (hp : ps[i]? = some p) (f : Fr [g] w w') (hb2 : Blk w' g ((flatP ps ++ sp).set (i * 9 + 8) (.int .i64 n)) 140) (n1 : 0 ≤ n) (n2 : n ≤ 401) :
    PanesIn base w' (.slice (some ⟨g, 0, none⟩) ps.length cap) (ps.set i { p with off := n }) := by
  have hi : i < ps.length := (List.getElem?_eq_some_iff.1 hp).1
  have hl := flatP_length ps
  have each : ∀ q ∈ ps, PaneOk w' q := fun q hq => (h.ok q hq).1.fr f (by simpa using (h.ok q hq).1.ls.ne hb (by decide))
  refine ⟨.inr ⟨g, cap, sp, by simp, ?_, hg⟩, ?_⟩
  · rw [List.set_append_left _ _ (by omega), flatP_set ps i p n hp] at hb2
    exact hb2
  · intro q hq
    rcases List.mem_or_eq_of_mem_set hq with hq | hq
    · exact ⟨each q hq, (h.ok q hq).2⟩
    · subst hq
      have := each p (List.mem_of_getElem? hp)
      exact ⟨⟨this.ok, n1, n2, this.ls⟩, (h.ok p (List.mem_of_getElem? hp)).2⟩

/-- a window of the view has been scrolled -/
def ScrollPost (base : Nat) (w : World) (v : Value) (ps : List Pane) (i : Nat) (n : Int) (e : Ending) (w' : World) : Prop :=
  e = .returned (.int .i64 0) ∧ ∃ qs, view qs = (view ps).scroll i n ∧ PanesIn base w' v qs ∧ Fr v.ownBlock.toList w w' ∧ qs.map Pane.lb = ps.map Pane.lb ∧ qs.length = ps.length

set_option maxHeartbeats 2000000 in
set_option maxRecDepth 100000 in
theorem vscroll_yes (b c : Nat) (v : Value) (ps : List Pane) (key n : Int) (i base : Nat) (w : World) (h0 : w.cell? ⟨b, c, none⟩ = some v) (h : PanesIn base w v ps) (hn : ps.length ≤ 12) (hi : (view ps).idx key = some i) (n1 : -500 ≤ n) (n2 : n ≤ 500) :
    Calls Tryz.prog 74 #[.pointer (some ⟨b, c, none⟩), .int .i64 key, .int .i64 n] w (ScrollPost base w v ps i n) := by
  have hlt : i < ps.length := by simpa [view] using V.idx_lt hi
  rcases h.row with ⟨_, rfl⟩ | ⟨g, cap, sp, rfl, hb, hg⟩
  · simp at hlt
  obtain ⟨av, cap', hv, hat⟩ := h.at'
  simp only [Value.slice.injEq, true_and] at hv
  obtain ⟨rfl, rfl⟩ := hv
  have H := hide h
  have HI := hide hi
  have HB := hide hb
  have HA := hide hat
  clear h hi hb hat
  go_enter Tryz.func74, Tryz.ntmps74
  go_wp2
  go_loopw [7] (fun u wr => ∃ k : Nat, u = .int .i64 k ∧ k ≤ ps.length ∧ w = wr ∧ ∃ j, V.idx ((view ps).drop k) key = some j ∧ i = k + j) (fun i _ => (3000 - intOf i).toNat)
  case atStart => exact ⟨0, rfl, by omega, rfl, i, HI.out, by omega⟩
  case round =>
    obtain ⟨k, rfl, hk, rfl, j, he, hj⟩ := hrel
    by_cases hend : k < ps.length
    · obtain ⟨p, hp⟩ : ∃ p, ps[k]? = some p := ⟨_, List.getElem?_eq_getElem hend⟩
      obtain ⟨g', hg', C, OK⟩ := HA.out k p hp
      simp only [Option.some.injEq, Addr.mk.injEq, and_true] at hg'
      subst hg'
      have c0 := C.c0
      have c8 := C.c8
      have b1 : (k : Int) < ps.length := by omega
      rw [view_drop hp, V.idx_cons] at he
      by_cases hq : p.o.key = key
      · rw [if_pos hq] at he
        have hj0 : j = 0 := by simpa using he.symm
        subst hj0
        simp only [Nat.add_zero] at hj
        subst hj
        have hl := flatP_length ps
        have v4 : (flatP ps ++ sp)[i * 9 + 4]? = some (.int .i64 p.o.h) := by rw [List.getElem?_append_left (by omega), flatP_at ps i p hp 4 (by decide)]; rfl
        have v7 : (flatP ps ++ sp)[i * 9 + 7]? = some (.slice (some ⟨p.lb, 0, none⟩) p.ls.length p.lc) := by rw [List.getElem?_append_left (by omega), flatP_at ps i p hp 7 (by decide)]; rfl
        have v8 : (flatP ps ++ sp)[i * 9 + 8]? = some (.int .i64 p.off) := by rw [List.getElem?_append_left (by omega), flatP_at ps i p hp 8 (by decide)]; rfl
        have SC : Hid (∀ w', Fr [] w w' → Calls Tryz.prog 90 #[.pointer (some ⟨g, i * 9, none⟩), .int .i64 (p.off + n)] w' fun e w'' => e = .returned (.tuple #[]) ∧ Fr [g] w' w'' ∧ Blk w'' g ((flatP ps ++ sp).set (i * 9 + 8) (.int .i64 (p.o.fits (p.off + n)))) 140) :=
          fun w' f' => scrollTo_any g (i * 9) p.lb p.lc p.o (p.off + n) w' _ _ (HB.out.fr0 f') p.off v4 v7 v8 OK.ok
        have o1 := OK.o1
        have o2 := OK.o2
        have ft := hide (Win.fits_bd p.o OK.ok (p.off + n))
        have FIN : Hid (∀ w1 w2, Fr [] w w1 → Fr [g] w1 w2 → Blk w2 g ((flatP ps ++ sp).set (i * 9 + 8) (.int .i64 (p.o.fits (p.off + n)))) 140 → ∃ qs, view qs = (view ps).scroll i n ∧ PanesIn base w2 (.slice (some ⟨g, 0, none⟩) ps.length cap) qs ∧ Fr (Value.slice (some ⟨g, 0, none⟩) ps.length cap).ownBlock.toList w w2 ∧ qs.map Pane.lb = ps.map Pane.lb ∧ qs.length = ps.length) := by
          intro w1 w2 f1 f2 hb2
          have f12 : Fr [g] w w2 := f1.of_nil.then f2
          refine ⟨ps.set i { p with off := p.o.fits (p.off + n) }, ?_, H.out.turn HB.out hg hp f12 hb2 ft.out.1 ft.out.2, by simpa [Value.ownBlock] using f12, ?_, by simp⟩
          · rw [view_set ps i p _ hp]; unfold V.scroll; rw [view_at hp]
          · rw [List.map_set]
            apply List.ext_getElem? ; intro m
            by_cases hm : m = i
            · subst hm; rw [List.getElem?_set_self (by simpa using hend), List.getElem?_map, hp]; rfl
            · rw [List.getElem?_set_ne (fun q => hm q.symm)]
        have bq : (p.o.key == key) = true := by simpa using hq
        have wrp : IntKind.i64.wrap (p.off + n) = p.off + n := by rw [IntKind.wrap_i64]; omega
        have blt : g < w.heap.size := HB.out.lt
        clear he C OK HA hq hp v4 v7 v8 HB H HI
        go_wp2
        go_region_with ((go_at_call 90; refine (SC.out _ ?hf).mono ?_; (case hf => (repeat first | exact Fr.refl _ _ | apply Fr.drew | apply Fr.drewN)); rintro e w1 ⟨rfl, f1, b1⟩; have FN := hide (FIN.out _ w1 (by repeat first | exact Fr.refl _ _ | apply Fr.drew | apply Fr.drewN) f1 b1); clear f1 b1))
        all_goals go_wp2
        all_goals
          go_ret
          exact ⟨rfl, FN.out⟩
      · rw [if_neg hq] at he
        have E : Hid (∃ j, V.idx ((view ps).drop (k + 1)) key = some j ∧ i = k + 1 + j) := by
          obtain ⟨q, hq, hq2⟩ := Option.map_eq_some_iff.1 he
          exact ⟨q, hq, by omega⟩
        have bq : (p.o.key == key) = false := by simpa using hq
        clear he C OK HA hq hp HB H
        go_wp2
        go_roundw
        case rel => exact ⟨k + 1, by go_num, by omega, by trivial, E.out⟩
        case measure => simp [intOf]; omega
    · rw [List.drop_eq_nil_of_le (by simp [view]; omega)] at he; cases he
end Go.Proofs.YtjhccghhinlmdabGreatDoor
/- Whatever came: behind an end of all that has begun, a new pen, an empty screen and a Z in the corner there is that Z alone. Plain data alone. -/
namespace Go.Proofs.YtjhccghhinlmdabGreatDoor
namespace T

/-- parameters are kept in a sequence alone -/
def Cln (t : T) : Prop := t.stage ≠ 2 → t.params = []

theorem feed_append (t : T) (a b : List Int) : t.feed (a ++ b) = (t.feed a).feed b := by simp [feed]
theorem feed_cons (t : T) (c : Int) (l : List Int) : t.feed (c :: l) = (t.take c).feed l := rfl
theorem feed_nil (t : T) : t.feed [] = t := rfl

/-- what no byte changes, but for sequences: the stage and the parameters -/
theorem rowDown_sp (t : T) : t.rowDown.stage = t.stage ∧ t.rowDown.params = t.params ∧ t.rowDown.W = t.W ∧ t.rowDown.H = t.H := by unfold rowDown; split <;> simp
theorem write_sp (t : T) (c : Int) : (t.write c).stage = t.stage ∧ (t.write c).params = t.params ∧ (t.write c).W = t.W ∧ (t.write c).H = t.H := by
  have h1 : ∀ u : T, (u.onward).stage = u.stage ∧ u.onward.params = u.params ∧ u.onward.W = u.W ∧ u.onward.H = u.H := by intro u; unfold onward; split <;> simp
  have h2 := rowDown_sp { t with x := 0 }
  have h3 : t.fresh.stage = t.stage ∧ t.fresh.params = t.params ∧ t.fresh.W = t.W ∧ t.fresh.H = t.H := by
    unfold fresh
    split
    · exact ⟨h2.1, h2.2.1, h2.2.2.1, h2.2.2.2⟩
    · exact ⟨rfl, rfl, rfl, rfl⟩
  have h4 := h1 (t.fresh.put c)
  exact ⟨h4.1.trans h3.1, h4.2.1.trans h3.2.1, h4.2.2.1.trans h3.2.2.1, h4.2.2.2.trans h3.2.2.2⟩
theorem takePlain_sp (t : T) (c : Int) : (t.takePlain c).params = t.params ∧ (t.takePlain c).W = t.W ∧ (t.takePlain c).H = t.H ∧ ((t.takePlain c).stage = t.stage ∨ (t.takePlain c).stage = 1) := by
  unfold takePlain
  have h1 := rowDown_sp t
  have h2 := write_sp t c
  repeat' split
  · exact ⟨rfl, rfl, rfl, .inr rfl⟩
  · exact ⟨rfl, rfl, rfl, .inl rfl⟩
  · exact ⟨h1.2.1, h1.2.2.1, h1.2.2.2, .inl h1.1⟩
  · exact ⟨rfl, rfl, rfl, .inl rfl⟩
  · exact ⟨h2.2.1, h2.2.2.1, h2.2.2.2, .inl h2.1⟩
  · exact ⟨rfl, rfl, rfl, .inl rfl⟩
theorem setPen_WH (l : List Int) : ∀ t : T, (t.setPen l).W = t.W ∧ (t.setPen l).H = t.H := by
  induction l with
  | nil => intro t; exact ⟨rfl, rfl⟩
  | cons n l ih =>
    intro t
    have h := ih (t.penBy n)
    have h2 : (t.penBy n).W = t.W ∧ (t.penBy n).H = t.H := by unfold penBy; (repeat' split) <;> simp
    exact ⟨h.1.trans h2.1, h.2.trans h2.2⟩
theorem obey_WH (t : T) (c : Int) : (t.obey c).W = t.W ∧ (t.obey c).H = t.H := by
  have he : ∀ n a b, (t.erase n a b).W = t.W ∧ (t.erase n a b).H = t.H := by intro n a b; unfold erase; (repeat' split) <;> simp
  unfold obey
  split
  · exact ⟨rfl, rfl⟩
  · unfold query; (repeat' split) <;> simp
  · unfold does
    repeat' split
    all_goals first | exact he _ _ _ | exact setPen_WH _ _ | exact ⟨rfl, rfl⟩
theorem take_WH (t : T) (c : Int) : (t.take c).W = t.W ∧ (t.take c).H = t.H := by
  unfold take
  split
  · have := takePlain_sp t c; exact ⟨this.2.1, this.2.2.1⟩
  · split
    · exact ⟨rfl, rfl⟩
    · unfold takeParam
      split
      · unfold keepParam; split <;> simp
      · split
        · exact obey_WH t c
        · exact ⟨rfl, rfl⟩
theorem feed_WH (l : List Int) : ∀ t : T, (t.feed l).W = t.W ∧ (t.feed l).H = t.H := by
  induction l with
  | nil => intro t; exact ⟨rfl, rfl⟩
  | cons c l ih =>
    intro t
    have h := ih (t.take c)
    have h2 := take_WH t c
    exact ⟨h.1.trans h2.1, h.2.trans h2.2⟩

theorem take_cln (t : T) (c : Int) (h : t.Cln) (ho : 0 ≤ t.stage ∧ t.stage ≤ 2) : (t.take c).Cln ∧ 0 ≤ (t.take c).stage ∧ (t.take c).stage ≤ 2 := by
  unfold take
  split
  · rename_i h0
    have := takePlain_sp t c
    refine ⟨fun _ => ?_, ?_⟩
    · rw [this.1]; exact h (by omega)
    · rcases this.2.2.2 with h1 | h1 <;> omega
  · split
    · rename_i h0 h1
      refine ⟨fun _ => ?_, ?_⟩
      · show t.params = []; exact h (by omega)
      · show 0 ≤ (if c = 91 then 2 else if c = 27 then 1 else 0 : Int) ∧ (if c = 91 then 2 else if c = 27 then 1 else 0 : Int) ≤ 2
        (repeat' split) <;> omega
    · rename_i h0 h1
      have hd : ∀ u : T, (u.drop c).Cln ∧ 0 ≤ (u.drop c).stage ∧ (u.drop c).stage ≤ 2 := by
        intro u
        refine ⟨fun _ => rfl, ?_⟩
        show 0 ≤ (if c = 27 then 1 else 0 : Int) ∧ (if c = 27 then 1 else 0 : Int) ≤ 2
        split <;> omega
      unfold takeParam
      split
      · have e : (t.keepParam c).stage = t.stage := by unfold keepParam; split <;> rfl
        rw [e]
        refine ⟨fun h2 => ?_, ho⟩
        rw [e] at h2; omega
      · split
        · exact hd _
        · exact hd _
theorem feed_cln (l : List Int) : ∀ t : T, t.Cln → 0 ≤ t.stage ∧ t.stage ≤ 2 → (t.feed l).Cln ∧ 0 ≤ (t.feed l).stage ∧ (t.feed l).stage ≤ 2 := by
  induction l with
  | nil => intro t h1 h2; exact ⟨h1, h2⟩
  | cons c l ih =>
    intro t h1 h2
    have := take_cln t c h1 h2
    exact ih _ this.1 this.2

/-- 27 ends whatever has begun -/
theorem take_27 (t : T) (h : t.Cln) : t.take 27 = { t with stage := 1, params := [] } := by
  unfold take
  split
  · rename_i h0
    have hp := h (by omega)
    simp [takePlain, hp]
  · split
    · rename_i h0 h1
      have hp := h (by omega)
      show { t with stage := _ } = _
      rw [← hp]; rfl
    · unfold takeParam
      rw [if_neg (by omega), if_neg (by omega)]
      rfl

theorem take_91 (t : T) : ({ t with stage := 1, params := [] } : T).take 91 = { t with stage := 2, params := [] } := rfl
theorem read_nil : readP [] = some (false, [0]) := by decide
theorem read_2 : readP [50] = some (false, [2]) := by decide
theorem take_m (t : T) : ({ t with stage := 2, params := [] } : T).take 109 = { t with colour := 7, bold := false, stage := 0, params := [] } := by
  show (({ t with stage := 2, params := [] } : T).obey 109).drop 109 = _
  have e : ({ t with stage := 2, params := [] } : T).obey 109 = { t with colour := 7, bold := false, stage := 2, params := [] } := by
    simp only [obey, read_nil]
    rfl
  rw [e]
  rfl
theorem take_2J (t : T) : (({ t with stage := 2, params := [] } : T).take 50).take 74 = { t with cells := clr t.cells 0 (t.W * t.H), stage := 0, params := [] } := by
  have e0 : ({ t with stage := 2, params := [] } : T).take 50 = { t with stage := 2, params := [50] } := rfl
  rw [e0]
  show (({ t with stage := 2, params := [50] } : T).obey 74).drop 74 = _
  have e : ({ t with stage := 2, params := [50] } : T).obey 74 = { t with cells := clr t.cells 0 (t.W * t.H), stage := 2, params := [50] } := by
    simp only [obey, read_2]
    rfl
  rw [e]
  rfl
theorem take_H (t : T) (hw : 1 ≤ t.W) (hh : 1 ≤ t.H) : ({ t with stage := 2, params := [] } : T).take 72 = { t with x := 0, y := 0, full := false, stage := 0, params := [] } := by
  show (({ t with stage := 2, params := [] } : T).obey 72).drop 72 = _
  have a : within 0 t.W = 0 := by unfold within; rw [if_neg (by omega), if_neg (by omega)]
  have b : within 0 t.H = 0 := by unfold within; rw [if_neg (by omega), if_neg (by omega)]
  have e : ({ t with stage := 2, params := [] } : T).obey 72 = { t with x := within 0 t.W, y := within 0 t.H, full := false, stage := 2, params := [] } := by
    simp only [obey, read_nil]
    rfl
  rw [e, a, b]
  rfl

theorem clr_all (l : List (Int × Int)) (n : Int) (h : (l.length : Int) = n) : clr l 0 n = List.replicate l.length (32, 7) := by
  apply List.ext_getElem (by simp [clr])
  intro i h1 h2
  simp only [clr, List.getElem_mapIdx, List.getElem_replicate]
  rw [if_pos]
  have : i < l.length := by simpa [clr] using h1
  omega

def resetBytes : List Int := [27, 91, 109, 27, 91, 50, 74, 27, 91, 72, 90]
theorem reset (t : T) (h : t.Cln) (hw : 1 ≤ t.W) (hh : 1 ≤ t.H) (hl : (t.cells.length : Int) = t.W * t.H) :
    (t.feed resetBytes).cells = (List.replicate t.cells.length (32, 7)).set 0 (90, 7) ∧ (t.feed resetBytes).W = t.W ∧ (t.feed resetBytes).H = t.H := by
  refine ⟨?_, feed_WH _ _⟩
  unfold resetBytes
  rw [feed_cons, take_27 t h, feed_cons, take_91, feed_cons, take_m, feed_cons, take_27 _ (fun _ => rfl), feed_cons, take_91, feed_cons, feed_cons, take_2J, feed_cons, take_27 _ (fun _ => rfl), feed_cons, take_91, feed_cons, take_H _ (by exact hw) (by exact hh), feed_cons, feed_nil]
  simp only []
  rw [clr_all _ _ hl]
  have e : ∀ u : T, u.stage = 0 → u.full = false → u.take 90 = (u.put 90).onward := by
    intro u h0 hf
    unfold take; rw [if_pos h0]
    unfold takePlain; rw [if_neg (by omega), if_neg (by omega), if_neg (by omega), if_neg (by omega), if_pos ⟨by omega, by omega⟩]
    have : u.fresh = u := by simp [fresh, hf]
    unfold write; rw [this]
  rw [e _ rfl rfl]
  have on : ∀ u : T, u.onward.cells = u.cells := by intro u; unfold onward; split <;> rfl
  rw [on]
  simp only [put, pen]
  rw [show ((0 : Int) * t.W + 0).toNat = 0 by simp]
  rfl
end T
end Go.Proofs.YtjhccghhinlmdabGreatDoor
/- What the brush writes, as plain data, and what a terminal makes of it. Nothing of memory here. -/
namespace Go.Proofs.YtjhccghhinlmdabGreatDoor

/-- a number below a hundred, in digits -/
def dig (n : Int) : List Int := if n < 10 then [48 + n] else [48 + n / 10, 48 + n % 10]
theorem dig_ok {n : Int} (h0 : 0 ≤ n) (h1 : n < 100) : (∀ c ∈ dig n, 48 ≤ c ∧ c ≤ 57) ∧ 1 ≤ (dig n).length ∧ (dig n).length ≤ 2 := by
  unfold dig; split
  · refine ⟨fun c hc => ?_, by simp, by simp⟩
    simp at hc; omega
  · refine ⟨fun c hc => ?_, by simp, by simp⟩
    simp at hc; omega
theorem rn_dig {n : Int} (h0 : 0 ≤ n) (h1 : n < 100) (r acc : List Int) : ∃ d, rn (dig n ++ r) acc 0 0 = rn r acc n d := by
  unfold dig; split
  · refine ⟨0 + 1, ?_⟩
    show rn ((48 + n) :: r) acc 0 0 = _
    rw [rn, if_neg (by omega), if_pos (by omega)]
    congr 1; omega
  · refine ⟨0 + 1 + 1, ?_⟩
    show rn ((48 + n / 10) :: (48 + n % 10) :: r) acc 0 0 = _
    rw [rn, if_neg (by omega), if_pos (by omega), rn, if_neg (by omega), if_pos (by omega)]
    congr 1; omega

/-- a move, a pen -/
def moveL (x y : Int) : List Int := 27 :: 91 :: (dig (y + 1) ++ 59 :: dig (x + 1)) ++ [72]
def penP (s : Int) : List Int := (if s < 8 then 48 else 49) :: 59 :: dig (30 + s % 8)
def penL (s : Int) : List Int := 27 :: 91 :: penP s ++ [109]
def showL : List Int := [27, 91, 63, 50, 53, 104]
def hideL : List Int := [27, 91, 63, 50, 53, 108]
def wipeL : List Int := [27, 91, 109, 27, 91, 50, 74] ++ hideL

theorem read_move {x y : Int} (x0 : 0 ≤ x) (x1 : x < 40) (y0 : 0 ≤ y) (y1 : y < 20) : readP (dig (y + 1) ++ 59 :: dig (x + 1)) = some (false, [y + 1, x + 1]) := by
  obtain ⟨a1, a2, a3⟩ := dig_ok (n := y + 1) (by omega) (by omega)
  obtain ⟨b1, b2, b3⟩ := dig_ok (n := x + 1) (by omega) (by omega)
  unfold readP
  rw [if_neg (by simp; omega)]
  have hd : (dig (y + 1) ++ 59 :: dig (x + 1)).head? ≠ some 63 := by
    intro h
    cases hq : dig (y + 1) with
    | nil => rw [hq] at a2; simp at a2
    | cons c l =>
      rw [hq] at h; simp at h
      have := a1 c (by rw [hq]; simp)
      omega
  rw [if_neg hd]
  unfold numbers
  obtain ⟨d, e⟩ := rn_dig (n := y + 1) (by omega) (by omega) (59 :: dig (x + 1)) []
  rw [e, rn, if_pos rfl]
  obtain ⟨d2, e2⟩ := rn_dig (n := x + 1) (by omega) (by omega) [] ([] ++ [y + 1])
  rw [List.append_nil] at e2
  rw [e2, rn]
  rfl
theorem read_pen (s : Int) : readP (penP s) = some (false, [if s < 8 then 0 else 1, 30 + s % 8]) := by
  obtain ⟨b1, b2, b3⟩ := dig_ok (n := 30 + s % 8) (by omega) (by omega)
  obtain ⟨d2, e2⟩ := rn_dig (n := 30 + s % 8) (by omega) (by omega) [] ([] ++ [if s < 8 then 0 else 1])
  rw [List.append_nil] at e2
  unfold readP penP
  rw [if_neg (by simp; omega)]
  by_cases h : s < 8
  · simp only [if_pos h] at e2 ⊢
    rw [if_neg (by simp)]
    unfold numbers
    rw [rn, if_neg (by omega), if_pos (by omega), rn, if_pos rfl]
    simp only [Int.zero_mul, Int.sub_self, Int.add_zero] at e2 ⊢
    rw [e2, rn]; rfl
  · simp only [if_neg h] at e2 ⊢
    rw [if_neg (by simp)]
    unfold numbers
    rw [rn, if_neg (by omega), if_pos (by omega), rn, if_pos rfl]
    rw [show (0 : Int) * 10 + (49 - 48) = 1 by omega, e2, rn]; rfl

namespace T
theorem feed_params (t : T) : ∀ (ps a : List Int), (∀ c ∈ ps, 32 ≤ c ∧ c ≤ 63) → a.length + ps.length ≤ 13 → ({ t with stage := 2, params := a } : T).feed ps = { t with stage := 2, params := a ++ ps } := by
  intro ps
  induction ps with
  | nil => intro a _ _; simp [feed]
  | cons c ps ih =>
    intro a h hl
    rw [feed_cons]
    have hc := h c (by simp)
    have e : ({ t with stage := 2, params := a } : T).take c = { t with stage := 2, params := a ++ [c] } := by
      show ({ t with stage := 2, params := a } : T).takeParam c = _
      unfold takeParam
      rw [if_pos hc]
      unfold keepParam
      rw [if_pos (by simp at hl ⊢; omega)]
    rw [e, ih (a ++ [c]) (fun d hd => h d (by simp [hd])) (by simp at hl ⊢; omega)]
    simp
/-- a whole sequence -/
theorem feed_seq (t : T) (ps : List Int) (c : Int) (hp : t.params = []) (h : ∀ c ∈ ps, 32 ≤ c ∧ c ≤ 63) (hl : ps.length ≤ 13) (c1 : 64 ≤ c) (c2 : c ≤ 126) :
    t.feed (27 :: 91 :: ps ++ [c]) = (({ t with stage := 2, params := ps } : T).obey c).drop c := by
  rw [show 27 :: 91 :: ps ++ [c] = 27 :: 91 :: (ps ++ [c]) by simp, feed_cons, take_27 t (fun _ => hp), feed_cons, take_91, feed_append, feed_params t ps [] h (by simpa using hl), List.nil_append, feed_cons, feed_nil]
  show ({ t with stage := 2, params := ps } : T).takeParam c = _
  unfold takeParam
  rw [if_neg (by omega), if_pos ⟨c1, c2⟩]
theorem feed_move (t : T) (x y : Int) (h0 : t.stage = 0) (hp : t.params = []) (x0 : 0 ≤ x) (x1 : x < t.W) (y0 : 0 ≤ y) (y1 : y < t.H) (hw : t.W ≤ 40) (hh : t.H ≤ 20) :
    t.feed (moveL x y) = { t with x := x, y := y, full := false } := by
  obtain ⟨a1, a2, a3⟩ := dig_ok (n := y + 1) (by omega) (by omega)
  obtain ⟨b1, b2, b3⟩ := dig_ok (n := x + 1) (by omega) (by omega)
  unfold moveL
  rw [feed_seq t _ 72 hp ?_ (by simp; omega) (by omega) (by omega)]
  · unfold obey
    simp only [read_move x0 (by omega) y0 (by omega)]
    unfold does
    rw [if_pos rfl]
    have e1 : atLeast ([y + 1, x + 1].getD 1 0) - 1 = x := by simp [atLeast]; omega
    have e2 : atLeast ([y + 1, x + 1].getD 0 0) - 1 = y := by simp [atLeast]; omega
    rw [e1, e2]
    unfold moveTo
    have w1 : within x t.W = x := by unfold within; rw [if_neg (by omega), if_neg (by omega)]
    have w2 : within y t.H = y := by unfold within; rw [if_neg (by omega), if_neg (by omega)]
    simp only [w1, w2]
    simp only [drop]
    rw [if_neg (by omega), h0.symm, hp.symm]
  · intro c hc
    simp at hc
    rcases hc with hc | rfl | hc
    · have := a1 c hc; omega
    · omega
    · have := b1 c hc; omega
theorem feed_pen (t : T) (s : Int) (h0 : t.stage = 0) (hp : t.params = []) :
    t.feed (penL s) = { t with colour := s % 8, bold := decide (8 ≤ s) } := by
  obtain ⟨b1, b2, b3⟩ := dig_ok (n := 30 + s % 8) (by omega) (by omega)
  unfold penL
  rw [feed_seq t _ 109 hp ?_ (by simp [penP]; omega) (by omega) (by omega)]
  · unfold obey
    simp only [read_pen s]
    unfold does
    rw [if_neg (by omega), if_neg (by omega), if_neg (by omega), if_neg (by omega), if_neg (by omega), if_neg (by omega), if_neg (by omega), if_neg (by omega), if_pos rfl]
    unfold setPen
    simp only [List.foldl_cons, List.foldl_nil]
    have e : ∀ u : T, u.penBy (30 + s % 8) = { u with colour := s % 8 } := by
      intro u
      unfold penBy
      rw [if_neg (by omega), if_neg (by omega), if_neg (by omega), if_pos (by omega)]
      rw [show 30 + s % 8 - 30 = s % 8 by omega]
    rw [e]
    by_cases h : s < 8
    · rw [if_pos h]
      have d : decide (8 ≤ s) = false := by simp; omega
      unfold penBy
      rw [if_pos rfl, d]
      simp only [drop]
      rw [if_neg (by omega), h0.symm, hp.symm]
    · rw [if_neg h]
      have d : decide (8 ≤ s) = true := by simp; omega
      unfold penBy
      rw [if_neg (by omega), if_pos rfl, d]
      simp only [drop]
      rw [if_neg (by omega), h0.symm, hp.symm]
  · intro c hc
    unfold penP at hc
    simp only [List.mem_cons] at hc
    rcases hc with rfl | rfl | hc
    · split <;> omega
    · omega
    · have := b1 c hc; omega
theorem read_25 : readP [63, 50, 53] = some (true, [25]) := by decide
theorem feed_show (t : T) (h0 : t.stage = 0) (hp : t.params = []) : t.feed showL = { t with shown := true } := by
  show t.feed (27 :: 91 :: [63, 50, 53] ++ [104]) = _
  rw [feed_seq t _ 104 hp (by decide) (by decide) (by omega) (by omega)]
  unfold obey
  simp only [read_25]
  simp only [query, drop]
  rw [h0.symm, hp.symm]
  rfl
theorem feed_hide (t : T) (h0 : t.stage = 0) (hp : t.params = []) : t.feed hideL = { t with shown := false } := by
  show t.feed (27 :: 91 :: [63, 50, 53] ++ [108]) = _
  rw [feed_seq t _ 108 hp (by decide) (by decide) (by omega) (by omega)]
  unfold obey
  simp only [read_25]
  simp only [query, drop]
  rw [h0.symm, hp.symm]
  rfl
theorem feed_char (t : T) (c : Int) (h0 : t.stage = 0) (hf : t.full = false) (c1 : 32 ≤ c) (c2 : c ≤ 126) : t.feed [c] = (t.put c).onward := by
  rw [feed_cons, feed_nil]
  unfold take; rw [if_pos h0]
  unfold takePlain; rw [if_neg (by omega), if_neg (by omega), if_neg (by omega), if_neg (by omega), if_pos ⟨c1, c2⟩]
  have : t.fresh = t := by simp [fresh, hf]
  unfold write; rw [this]
end T

/-- the brush as plain data -/
structure B where
  bytes : List Int
  x : Int
  y : Int
  pen : Int
namespace B
def moveTo (b : B) (x y : Int) : B := if x = b.x ∧ y = b.y then b else ⟨b.bytes ++ moveL x y, x, y, b.pen⟩
def setPen (b : B) (s : Int) : B := if s = b.pen then b else ⟨b.bytes ++ penL s, b.x, b.y, s⟩
def write (b : B) (c : Int) : B := ⟨b.bytes ++ [c], b.x + 1, b.y, b.pen⟩
/-- one cell, if it is to be another one -/
def cell (W : Int) (f g : List (Int × Int)) (b : B) (i : Nat) : B :=
  if g.getD i (32, 7) = f.getD i (32, 7) then b else ((b.moveTo ((i : Int) % W) ((i : Int) / W)).setPen (g.getD i (32, 7)).2).write (g.getD i (32, 7)).1
def first : B := ⟨[], -1, -1, 7⟩
/-- the first n cells -/
def upto (W : Int) (f g : List (Int × Int)) (n : Nat) : B := (List.range n).foldl (cell W f g) first
def paint (W H : Int) (f g : List (Int × Int)) : B := (upto W f g (W * H).toNat).setPen 7
end B
/-- a cursor as plain data -/
structure Cur where
  x : Int
  y : Int
  shown : Bool
deriving DecidableEq
def B.cursor (b : B) (c d : Cur) : List Int :=
  (if d.shown then (b.moveTo d.x d.y).bytes else b.bytes) ++ (if d.shown && !c.shown then showL else []) ++ (if c.shown && !d.shown then hideL else [])
def change (W H : Int) (f g : List (Int × Int)) (c d : Cur) : List Int :=
  if (B.paint W H f g).bytes = [] ∧ c = d then [] else (B.paint W H f g).cursor c d
def whole (W H : Int) (g : List (Int × Int)) (d : Cur) : List Int :=
  wipeL ++ change W H (List.replicate (W * H).toNat (32, 7)) g ⟨0, 0, false⟩ d

/-- what a terminal shows that the painter's bytes have gone to -/
structure Scr (t : T) (W H : Int) (f : List (Int × Int)) (c : Cur) : Prop where
  w : t.W = W
  h : t.H = H
  w1 : 1 ≤ W
  w2 : W ≤ 40
  h1 : 1 ≤ H
  h2 : H ≤ 20
  cells : t.cells = f
  len : (f.length : Int) = W * H
  stage : t.stage = 0
  params : t.params = []
  colour : t.colour = 7
  bold : t.bold = false
  shown : t.shown = c.shown
  at' : c.shown = true → t.x = c.x ∧ t.y = c.y ∧ t.full = false

/-- a grid of characters, with styles that there are -/
def Chars (g : List (Int × Int)) : Prop := ∀ c ∈ g, 32 ≤ c.1 ∧ c.1 ≤ 126 ∧ 0 ≤ c.2 ∧ c.2 ≤ 15

/-- the terminal behind the brush's bytes -/
structure Behind (t : T) (W H : Int) (l : List (Int × Int)) (sh : Bool) (b : B) : Prop where
  w : t.W = W
  h : t.H = H
  cells : t.cells = l
  stage : t.stage = 0
  params : t.params = []
  p0 : 0 ≤ b.pen
  p1 : b.pen ≤ 15
  colour : t.colour = b.pen % 8
  bold : t.bold = decide (8 ≤ b.pen)
  shown : t.shown = sh
  at' : 0 ≤ b.x → b.x < W → t.x = b.x ∧ t.y = b.y ∧ t.full = false

theorem Behind.move {t : T} {W H : Int} {l : List (Int × Int)} {sh : Bool} {b : B} (h : Behind (t.feed b.bytes) W H l sh b) (x y : Int) (x0 : 0 ≤ x) (x1 : x < W) (y0 : 0 ≤ y) (y1 : y < H) (hw : W ≤ 40) (hh : H ≤ 20) :
    Behind (t.feed (b.moveTo x y).bytes) W H l sh (b.moveTo x y) ∧ (b.moveTo x y).x = x ∧ (b.moveTo x y).y = y := by
  unfold B.moveTo
  split
  · rename_i e; exact ⟨h, e.1.symm, e.2.symm⟩
  · refine ⟨?_, rfl, rfl⟩
    simp only [T.feed_append]
    rw [T.feed_move _ x y h.stage h.params x0 (by rw [h.w]; exact x1) y0 (by rw [h.h]; exact y1) (by rw [h.w]; exact hw) (by rw [h.h]; exact hh)]
    exact ⟨h.w, h.h, h.cells, h.stage, h.params, h.p0, h.p1, h.colour, h.bold, h.shown, fun _ _ => ⟨rfl, rfl, rfl⟩⟩
theorem Behind.setPen {t : T} {W H : Int} {l : List (Int × Int)} {sh : Bool} {b : B} (h : Behind (t.feed b.bytes) W H l sh b) (s : Int) (s0 : 0 ≤ s) (s1 : s ≤ 15) :
    Behind (t.feed (b.setPen s).bytes) W H l sh (b.setPen s) ∧ (b.setPen s).pen = s ∧ (b.setPen s).x = b.x ∧ (b.setPen s).y = b.y := by
  unfold B.setPen
  split
  · rename_i e; exact ⟨h, e.symm, rfl, rfl⟩
  · refine ⟨?_, rfl, rfl, rfl⟩
    simp only [T.feed_append]
    rw [T.feed_pen _ s h.stage h.params]
    exact ⟨h.w, h.h, h.cells, h.stage, h.params, s0, s1, rfl, rfl, h.shown, h.at'⟩
theorem Behind.write {t : T} {W H : Int} {l : List (Int × Int)} {sh : Bool} {b : B} (h : Behind (t.feed b.bytes) W H l sh b) (c : Int) (c1 : 32 ≤ c) (c2 : c ≤ 126) (x0 : 0 ≤ b.x) (x1 : b.x < W) :
    Behind (t.feed (b.write c).bytes) W H (l.set (b.y * W + b.x).toNat (c, b.pen)) sh (b.write c) := by
  obtain ⟨a1, a2, a3⟩ := h.at' x0 x1
  unfold B.write
  simp only [T.feed_append]
  generalize t.feed b.bytes = u at *
  rw [T.feed_char u c h.stage a3 c1 c2]
  have hp : u.pen = b.pen := by
    unfold T.pen
    have e1 := h.colour
    have e2 := h.bold
    have := h.p0
    have := h.p1
    rw [e1, e2]
    by_cases hb : 8 ≤ b.pen
    · rw [if_pos (by simpa using hb)]; omega
    · rw [if_neg (by simpa using hb)]; omega
  have hc : (u.put c).cells = l.set (b.y * W + b.x).toNat (c, b.pen) := by
    unfold T.put
    simp only [h.cells, hp, a1, a2, h.w]
  unfold T.onward
  have e1 : (u.put c).x = b.x := a1
  have e2 : (u.put c).W = W := h.w
  rw [e1, e2]
  split
  · rename_i hx
    exact ⟨rfl, h.h, hc, h.stage, h.params, h.p0, h.p1, h.colour, h.bold, h.shown, fun _ _ => ⟨rfl, a2, a3⟩⟩
  · rename_i hx
    exact ⟨rfl, h.h, hc, h.stage, h.params, h.p0, h.p1, h.colour, h.bold, h.shown, fun _ h2 => absurd h2 hx⟩

/-- the first k cells are g's, the others f's -/
def mixed (f g : List (Int × Int)) (k : Nat) : List (Int × Int) := g.take k ++ f.drop k
theorem mixed_set (f g : List (Int × Int)) (k : Nat) (hf : k < f.length) (hg : k < g.length) : (mixed f g k).set k (g.getD k (32, 7)) = mixed f g (k + 1) := by
  unfold mixed
  have e : (g.take k).length = k := by simp; omega
  rw [List.set_append_right _ _ (by omega), e, Nat.sub_self, List.drop_eq_getElem_cons hf, List.set_cons_zero, List.take_succ_eq_append_getElem hg, List.append_assoc]
  have e1 : g.getD k (32, 7) = g[k] := by simp [List.getD_eq_getElem?_getD, hg]
  rw [e1]; rfl
theorem mixed_same (f g : List (Int × Int)) (k : Nat) (hf : k < f.length) (hg : k < g.length) (h : g.getD k (32, 7) = f.getD k (32, 7)) : mixed f g k = mixed f g (k + 1) := by
  unfold mixed
  rw [List.drop_eq_getElem_cons hf, List.take_succ_eq_append_getElem hg]
  simp [List.getD_eq_getElem?_getD, hg, hf] at h
  simp [h]
theorem B.upto_succ (W : Int) (f g : List (Int × Int)) (n : Nat) : B.upto W f g (n + 1) = B.cell W f g (B.upto W f g n) n := by
  unfold B.upto; rw [List.range_succ, List.foldl_append]; rfl
theorem at_row {W H : Int} (w1 : 1 ≤ W) (i : Nat) (hi : (i : Int) < W * H) : 0 ≤ (i : Int) % W ∧ (i : Int) % W < W ∧ 0 ≤ (i : Int) / W ∧ (i : Int) / W < H ∧ (i : Int) / W * W + (i : Int) % W = i := by
  refine ⟨Int.emod_nonneg _ (by omega), Int.emod_lt_of_pos _ (by omega), Int.ediv_nonneg (by omega) (by omega), ?_, ?_⟩
  · exact Int.ediv_lt_of_lt_mul (by omega) (by rw [Int.mul_comm]; exact hi)
  · rw [Int.mul_comm]; exact Int.mul_ediv_add_emod _ _

theorem Scr.upto {t : T} {W H : Int} {f : List (Int × Int)} {c : Cur} (h : Scr t W H f c) (g : List (Int × Int)) (hg : Chars g) (hl : (g.length : Int) = W * H) :
    ∀ n : Nat, (n : Int) ≤ W * H → Behind (t.feed (B.upto W f g n).bytes) W H (mixed f g n) c.shown (B.upto W f g n) := by
  intro n
  induction n with
  | zero =>
    intro _
    exact ⟨h.w, h.h, by simp [mixed, B.upto, B.first, T.feed, h.cells], h.stage, h.params, (by decide : (0 : Int) ≤ 7), (by decide : (7 : Int) ≤ 15), h.colour, h.bold, h.shown, fun h0 => absurd h0 (by decide : ¬ (0 : Int) ≤ -1)⟩
  | succ n ih =>
    intro hn
    have ih := ih (by omega)
    have hlen := h.len
    have hnf : n < f.length := by omega
    have hng : n < g.length := by omega
    obtain ⟨r1, r2, r3, r4, r5⟩ := at_row h.w1 n (by omega : (n : Int) < W * H)
    rw [B.upto_succ]
    unfold B.cell
    split
    · rename_i e
      rw [← mixed_same f g n hnf hng e]; exact ih
    · have hm : g.getD n (32, 7) ∈ g := by simp [List.getD_eq_getElem?_getD, hng]
      obtain ⟨k1, k2, k3, k4⟩ := hg _ hm
      obtain ⟨m1, m2, m3⟩ := ih.move _ _ r1 r2 r3 r4 h.w2 h.h2
      obtain ⟨p1, p2, p3, p4⟩ := m1.setPen _ k3 k4
      have := p1.write _ k1 k2 (by rw [p3, m2]; exact r1) (by rw [p3, m2]; exact r2)
      rw [p2, p3, p4, m2, m3, r5] at this
      rw [← mixed_set f g n hnf hng]
      exact this
theorem Scr.paint {t : T} {W H : Int} {f : List (Int × Int)} {c : Cur} (h : Scr t W H f c) (g : List (Int × Int)) (hg : Chars g) (hl : (g.length : Int) = W * H) :
    Behind (t.feed (B.paint W H f g).bytes) W H g c.shown (B.paint W H f g) ∧ (B.paint W H f g).pen = 7 := by
  have e : mixed f g (W * H).toNat = g := by
    have := h.len
    unfold mixed
    rw [List.take_of_length_le (by omega), List.drop_of_length_le (by omega), List.append_nil]
  have hb : 0 ≤ W * H := by have := h.len; omega
  have := h.upto g hg hl (W * H).toNat (by omega)
  rw [e] at this
  obtain ⟨p1, p2, _⟩ := this.setPen 7 (by omega) (by omega)
  exact ⟨p1, p2⟩
/-- the brush has begun: its bytes are not none, or nothing has been told -/
theorem Scr.change {t : T} {W H : Int} {f : List (Int × Int)} {c : Cur} (h : Scr t W H f c) (g : List (Int × Int)) (hg : Chars g) (hl : (g.length : Int) = W * H) (d : Cur) (hd : d.shown = true → 0 ≤ d.x ∧ d.x < W ∧ 0 ≤ d.y ∧ d.y < H) :
    Scr (t.feed (change W H f g c d)) W H g d := by
  obtain ⟨p1, p2⟩ := h.paint g hg hl
  unfold Go.Proofs.YtjhccghhinlmdabGreatDoor.change
  split
  · rename_i e
    obtain ⟨e1, e2⟩ := e
    subst e2
    have hc := p1.cells
    rw [e1] at hc
    exact ⟨h.w, h.h, h.w1, h.w2, h.h1, h.h2, hc, hl, h.stage, h.params, h.colour, h.bold, h.shown, h.at'⟩
  · generalize B.paint W H f g = b at *
    unfold B.cursor
    have c7 : (7 : Int) % 8 = 7 := by decide
    have b7 : decide ((8 : Int) ≤ 7) = false := by decide
    by_cases hs : d.shown = true
    · obtain ⟨d1, d2, d3, d4⟩ := hd hs
      obtain ⟨m1, m2, m3⟩ := p1.move d.x d.y d1 d2 d3 d4 h.w2 h.h2
      have pen2 : (b.moveTo d.x d.y).pen = 7 := by unfold B.moveTo; split <;> exact p2
      have at2 := m1.at' (by rw [m2]; exact d1) (by rw [m2]; exact d2)
      rw [m2, m3] at at2
      rw [if_pos hs, hs]
      simp only [Bool.not_true, Bool.and_false, Bool.false_eq_true, if_false, List.append_nil, Bool.true_and]
      rw [T.feed_append]
      generalize t.feed (b.moveTo d.x d.y).bytes = u at *
      have hcol := m1.colour
      have hbold := m1.bold
      rw [pen2] at hcol hbold
      have hsh := m1.shown
      by_cases hc : c.shown = true
      · rw [hc]
        rw [hc] at hsh
        simp only [Bool.not_true, Bool.false_eq_true, if_false, T.feed_nil]
        exact ⟨m1.w, m1.h, h.w1, h.w2, h.h1, h.h2, m1.cells, hl, m1.stage, m1.params, by rw [hcol, c7], by rw [hbold, b7], by rw [hsh, hs], fun _ => at2⟩
      · have hc' : c.shown = false := by simpa using hc
        rw [hc']
        simp only [Bool.not_false, if_true]
        rw [T.feed_show u m1.stage m1.params]
        exact ⟨m1.w, m1.h, h.w1, h.w2, h.h1, h.h2, m1.cells, hl, m1.stage, m1.params, by rw [← c7]; exact hcol, by rw [← b7]; exact hbold, hs.symm, fun _ => at2⟩
    · have hs' : d.shown = false := by simpa using hs
      rw [hs']
      simp only [Bool.false_eq_true, if_false, Bool.false_and, List.append_nil, Bool.not_false, Bool.and_true]
      rw [T.feed_append]
      generalize t.feed b.bytes = u at *
      have hcol := p1.colour
      have hbold := p1.bold
      rw [p2] at hcol hbold
      have hsh := p1.shown
      by_cases hc : c.shown = true
      · rw [if_pos hc, T.feed_hide u p1.stage p1.params]
        exact ⟨p1.w, p1.h, h.w1, h.w2, h.h1, h.h2, p1.cells, hl, p1.stage, p1.params, by rw [← c7]; exact hcol, by rw [← b7]; exact hbold, hs'.symm, fun hx => absurd hx hs⟩
      · rw [if_neg hc, T.feed_nil]
        have hc' : c.shown = false := by simpa using hc
        exact ⟨p1.w, p1.h, h.w1, h.w2, h.h1, h.h2, p1.cells, hl, p1.stage, p1.params, by rw [← c7]; exact hcol, by rw [← b7]; exact hbold, by rw [hsh, hc', hs'], fun hx => absurd hx hs⟩

/-- any terminal is brought to a screen -/
theorem scr_whole (t : T) (W H : Int) (h : t.Cln) (hW : t.W = W) (hH : t.H = H) (w1 : 1 ≤ W) (w2 : W ≤ 40) (h1 : 1 ≤ H) (h2 : H ≤ 20) (hlen : (t.cells.length : Int) = W * H) (g : List (Int × Int)) (hg : Chars g) (hl : (g.length : Int) = W * H) (d : Cur) (hd : d.shown = true → 0 ≤ d.x ∧ d.x < W ∧ 0 ≤ d.y ∧ d.y < H) :
    Scr (t.feed (whole W H g d)) W H g d := by
  unfold whole
  rw [T.feed_append]
  refine Scr.change ?_ g hg hl d hd
  unfold wipeL
  rw [T.feed_append]
  rw [T.feed_cons, T.take_27 t h, T.feed_cons, T.take_91, T.feed_cons, T.take_m, T.feed_cons, T.take_27 _ (fun _ => rfl), T.feed_cons, T.take_91, T.feed_cons, T.feed_cons, T.take_2J, T.feed_nil, T.feed_hide _ rfl rfl]
  have e : clr t.cells 0 (t.W * t.H) = List.replicate (W * H).toNat (32, 7) := by
    rw [hW, hH, T.clr_all _ _ hlen]; congr 1; omega
  exact ⟨hW, hH, w1, w2, h1, h2, e, by simp; omega, rfl, rfl, rfl, rfl, rfl, fun hx => by cases hx⟩
end Go.Proofs.YtjhccghhinlmdabGreatDoor
/- How many bytes the brush writes, and that they are bytes. Plain data alone. -/
namespace Go.Proofs.YtjhccghhinlmdabGreatDoor

theorem dig_len (n : Int) : (dig n).length ≤ 2 := by unfold dig; split <;> simp
theorem moveL_len (x y : Int) : (moveL x y).length ≤ 8 := by
  have := dig_len (x + 1); have := dig_len (y + 1); simp [moveL]; omega
theorem penL_len (s : Int) : (penL s).length ≤ 7 := by
  have := dig_len (30 + s % 8); simp [penL, penP]; omega

/-- how many of the first n cells differ -/
def others (f g : List (Int × Int)) : Nat → Nat
  | 0 => 0
  | n + 1 => others f g n + if g.getD n (32, 7) = f.getD n (32, 7) then 0 else 1
theorem others_le (f g : List (Int × Int)) (n : Nat) : others f g n ≤ n := by
  induction n with
  | zero => exact Nat.le_refl _
  | succ n ih => unfold others; split <;> omega
theorem others_same (f : List (Int × Int)) (n : Nat) : others f f n = 0 := by
  induction n with
  | zero => rfl
  | succ n ih => unfold others; rw [if_pos rfl, ih]

namespace B
theorem moveTo_len (b : B) (x y : Int) : (b.moveTo x y).bytes.length ≤ b.bytes.length + 8 := by
  have := moveL_len x y
  unfold moveTo; split
  · omega
  · simp; omega
theorem setPen_len (b : B) (s : Int) : (b.setPen s).bytes.length ≤ b.bytes.length + 7 := by
  have := penL_len s
  unfold setPen; split
  · omega
  · simp; omega
theorem cell_len (W : Int) (f g : List (Int × Int)) (b : B) (i : Nat) : (cell W f g b i).bytes.length ≤ b.bytes.length + 16 := by
  unfold cell; split
  · omega
  · have h1 := moveTo_len b ((i : Int) % W) ((i : Int) / W)
    have h2 := setPen_len (b.moveTo ((i : Int) % W) ((i : Int) / W)) (g.getD i (32, 7)).2
    simp only [write, List.length_append, List.length_cons, List.length_nil]
    omega
theorem upto_len (W : Int) (f g : List (Int × Int)) (n : Nat) : (upto W f g n).bytes.length ≤ 16 * others f g n := by
  induction n with
  | zero => simp [upto, first]
  | succ n ih =>
    rw [upto_succ]
    unfold others
    split
    · rename_i e; unfold cell; rw [if_pos e]; omega
    · have := cell_len W f g (upto W f g n) n; omega
theorem upto_none (W : Int) (f g : List (Int × Int)) (n : Nat) (h : others f g n = 0) : upto W f g n = first := by
  induction n with
  | zero => rfl
  | succ n ih =>
    unfold others at h
    split at h
    · rename_i e
      rw [upto_succ, ih (by omega)]; unfold cell; rw [if_pos e]
    · omega
theorem paint_len (W H : Int) (f g : List (Int × Int)) : (paint W H f g).bytes.length ≤ 16 * others f g (W * H).toNat + 7 := by
  have h1 := upto_len W f g (W * H).toNat
  have h2 := setPen_len (upto W f g (W * H).toNat) 7
  unfold paint; omega
theorem paint_none (W H : Int) (f g : List (Int × Int)) (h : others f g (W * H).toNat = 0) : (paint W H f g).bytes = [] := by
  unfold paint; rw [upto_none _ _ _ _ h]; rfl
theorem cursor_len (b : B) (c d : Cur) : (b.cursor c d).length ≤ b.bytes.length + 14 := by
  have h1 := moveTo_len b d.x d.y
  have h2 : (if d.shown then (b.moveTo d.x d.y).bytes else b.bytes).length ≤ b.bytes.length + 8 := by split <;> omega
  have h3 : (if d.shown && !c.shown then showL else []).length + (if c.shown && !d.shown then hideL else []).length ≤ 6 := by
    cases d.shown <;> cases c.shown <;> simp [showL, hideL]
  unfold cursor
  simp only [List.length_append]
  omega
end B
theorem change_len (W H : Int) (f g : List (Int × Int)) (c d : Cur) : (change W H f g c d).length ≤ 16 * others f g (W * H).toNat + 21 := by
  have h1 := B.paint_len W H f g
  have h2 := B.cursor_len (B.paint W H f g) c d
  unfold change; split
  · simp
  · omega
theorem change_none (W H : Int) (f g : List (Int × Int)) (c : Cur) (h : others f g (W * H).toNat = 0) : change W H f g c c = [] := by
  unfold change; rw [if_pos ⟨B.paint_none W H f g h, rfl⟩]
theorem change_same (W H : Int) (f : List (Int × Int)) (c : Cur) : change W H f f c c = [] := change_none W H f f c (others_same _ _)
theorem whole_len (W H : Int) (g : List (Int × Int)) (d : Cur) : (whole W H g d).length ≤ 16 * (W * H).toNat + 34 := by
  have h1 := change_len W H (List.replicate (W * H).toNat (32, 7)) g ⟨0, 0, false⟩ d
  have h2 := others_le (List.replicate (W * H).toNat (32, 7)) g (W * H).toNat
  unfold whole
  simp only [List.length_append, wipeL, hideL, List.length_cons, List.length_nil]
  omega

/-- all of them are bytes -/
def AreBytes (l : List Int) : Prop := ∀ c ∈ l, 0 ≤ c ∧ c ≤ 255
theorem AreBytes.append {a b : List Int} (ha : AreBytes a) (hb : AreBytes b) : AreBytes (a ++ b) := by
  intro c hc; rcases List.mem_append.1 hc with h | h
  · exact ha c h
  · exact hb c h
theorem AreBytes.nil : AreBytes [] := fun _ h => by cases h
theorem AreBytes.cons {a : Int} {l : List Int} (ha : 0 ≤ a ∧ a ≤ 255) (h : AreBytes l) : AreBytes (a :: l) := by
  intro c hc; rcases List.mem_cons.1 hc with h1 | h1
  · subst h1; exact ha
  · exact h c h1
theorem dig_bytes {n : Int} (h0 : 0 ≤ n) (h1 : n < 100) : AreBytes (dig n) := fun c hc => by have := (dig_ok h0 h1).1 c hc; omega
theorem moveL_bytes {x y : Int} (x0 : 0 ≤ x) (x1 : x < 99) (y0 : 0 ≤ y) (y1 : y < 99) : AreBytes (moveL x y) := by
  unfold moveL
  exact .append (.cons (by omega) (.cons (by omega) ((dig_bytes (by omega) (by omega)).append (.cons (by omega) (dig_bytes (by omega) (by omega)))))) (.cons (by omega) .nil)
theorem penL_bytes (s : Int) : AreBytes (penL s) := by
  unfold penL penP
  exact .append (.cons (by omega) (.cons (by omega) (.cons (by split <;> omega) (.cons (by omega) (dig_bytes (by omega) (by omega)))))) (.cons (by omega) .nil)
theorem showL_bytes : AreBytes showL := by unfold AreBytes; decide
theorem hideL_bytes : AreBytes hideL := by unfold AreBytes; decide
theorem wipeL_bytes : AreBytes wipeL := by unfold AreBytes; decide
namespace B
theorem moveTo_bytes {b : B} (h : AreBytes b.bytes) {x y : Int} (x0 : 0 ≤ x) (x1 : x < 99) (y0 : 0 ≤ y) (y1 : y < 99) : AreBytes (b.moveTo x y).bytes := by
  unfold moveTo; split
  · exact h
  · exact h.append (moveL_bytes x0 x1 y0 y1)
theorem setPen_bytes {b : B} (h : AreBytes b.bytes) (s : Int) : AreBytes (b.setPen s).bytes := by
  unfold setPen; split
  · exact h
  · exact h.append (penL_bytes s)
theorem upto_bytes {W H : Int} (w1 : 1 ≤ W) (w2 : W ≤ 40) (h2 : H ≤ 20) (f g : List (Int × Int)) (hg : Chars g) (n : Nat) (hn : (n : Int) ≤ W * H) : AreBytes (upto W f g n).bytes := by
  induction n with
  | zero => exact .nil
  | succ n ih =>
    obtain ⟨r1, r2, r3, r4, _⟩ := at_row (H := H) w1 n (by omega)
    rw [upto_succ]
    unfold cell; split
    · exact ih (by omega)
    · refine (setPen_bytes (moveTo_bytes (ih (by omega)) r1 (by omega) r3 (by omega)) _).append (.cons ?_ .nil)
      by_cases h : n < g.length
      · have hm : g.getD n (32, 7) ∈ g := by simp [List.getD_eq_getElem?_getD, h]
        have := hg _ hm
        omega
      · have : g.getD n (32, 7) = (32, 7) := by simp [List.getD_eq_getElem?_getD]; rw [List.getElem?_eq_none (by omega)]; rfl
        rw [this]; simp
end B
theorem change_bytes {W H : Int} (w1 : 1 ≤ W) (w2 : W ≤ 40) (h1 : 1 ≤ H) (h2 : H ≤ 20) (f g : List (Int × Int)) (hg : Chars g) (c d : Cur) (hd : d.shown = true → 0 ≤ d.x ∧ d.x < W ∧ 0 ≤ d.y ∧ d.y < H) : AreBytes (change W H f g c d) := by
  have hp : AreBytes (B.paint W H f g).bytes := B.setPen_bytes (B.upto_bytes w1 w2 h2 f g hg _ (by have := Int.mul_nonneg (show 0 ≤ W by omega) (show 0 ≤ H by omega); omega)) 7
  unfold change; split
  · exact .nil
  · unfold B.cursor
    refine .append (.append ?_ ?_) ?_
    · split
      · rename_i h
        have := hd h
        exact B.moveTo_bytes hp (by omega) (by omega) (by omega) (by omega)
      · exact hp
    · split
      · exact showL_bytes
      · exact .nil
    · split
      · exact hideL_bytes
      · exact .nil
theorem whole_bytes {W H : Int} (w1 : 1 ≤ W) (w2 : W ≤ 40) (h1 : 1 ≤ H) (h2 : H ≤ 20) (g : List (Int × Int)) (hg : Chars g) (d : Cur) (hd : d.shown = true → 0 ≤ d.x ∧ d.x < W ∧ 0 ≤ d.y ∧ d.y < H) : AreBytes (whole W H g d) :=
  wipeL_bytes.append (change_bytes w1 w2 h1 h2 _ g hg _ d hd)
end Go.Proofs.YtjhccghhinlmdabGreatDoor
/- What is to be seen of a view is characters, with styles that there are. Plain data alone. -/
namespace Go.Proofs.YtjhccghhinlmdabGreatDoor

theorem shownC_bd (c : Int) : 32 ≤ shownC c ∧ shownC c ≤ 126 := by unfold shownC; split <;> omega
theorem charF_vis (ls : List ByteArray) (a b : Int) : 32 ≤ charF ls a b ∧ charF ls a b ≤ 126 := by
  unfold charF; split
  · omega
  · exact shownC_bd _
theorem V.Ok.cell {v : V} (h : v.Ok) (x y : Int) : 32 ≤ (v.cell x y).1 ∧ (v.cell x y).1 ≤ 126 ∧ 0 ≤ (v.cell x y).2 ∧ (v.cell x y).2 ≤ 15 := by
  unfold V.cell
  split
  · exact ⟨by decide, by decide, by decide, by decide⟩
  · rename_i j hj
    have hl := V.best_lt v x y _ _ hj
    have hw := (h.at hl).1
    have := charF_vis (cutF (v.at j).1.text (v.at j).1.w) (x - (v.at j).1.x) (y - (v.at j).1.y + (v.at j).2)
    exact ⟨this.1, this.2, hw.s1, hw.s2⟩
theorem V.Ok.chars {v : V} (h : v.Ok) (W H : Int) : Chars (v.grid W H) := by
  intro c hc
  unfold V.grid V.gridTo at hc
  obtain ⟨i, _, rfl⟩ := List.mem_map.1 hc
  exact h.cell _ _
theorem V.grid_len (v : V) {W H : Int} (w1 : 1 ≤ W) (h1 : 1 ≤ H) : ((v.grid W H).length : Int) = W * H := by
  rw [V.grid_length]
  have := Int.mul_nonneg (show 0 ≤ W by omega) (show 0 ≤ H by omega)
  omega
end Go.Proofs.YtjhccghhinlmdabGreatDoor
/- Go's own strconv.Itoa at numbers below a hundred: their digits; nothing is turned. -/
namespace Go.Proofs.YtjhccghhinlmdabGreatDoor
open Go.RowKit

/-- a text that says the number n -/
def DigPost (n : Nat) (w : World) (e : Ending) (w' : World) : Prop := w = w' ∧ ∃ s : ByteArray, nums s = dig n ∧ e = .returned (.string s)
theorem nums_piece (s : ByteArray) (a b : Nat) (l : List Int) (h : ((nums s).drop a).take (b - a) = l) : nums (s.extract a b) = l := by rw [nums_extract]; exact h
theorem dig_one : ∀ i : Fin 10, ((nums Lib.digits36).drop i.val).take (i.val + 1 - i.val) = dig i.val := by decide +kernel
theorem dig_two : ∀ i : Fin 100, 10 ≤ i.val → ((nums Lib.smalls).drop (i.val * 2)).take (i.val * 2 + 2 - i.val * 2) = dig i.val := by decide +kernel

set_option maxHeartbeats 1000000 in
set_option maxRecDepth 100000 in
theorem small_any (i : Nat) (h : i < 100) (w : World) :
    Calls Tryz.prog 124 #[.int .i64 i] w (DigPost i w) := by
  go_enter Tryz.func124, Tryz.ntmps124
  go_name_bytes_deep 45 SM hSM
  have eSM : SM = Lib.smalls := by rw [← hSM]; decide +kernel
  subst eSM
  clear hSM
  go_name_bytes_deep 30 DG hDG
  have eDG : DG = Lib.digits36 := by rw [← hDG]; decide +kernel
  subst eDG
  clear hDG
  by_cases h10 : i < 10
  · have hsl : ∀ w, (Instr.slice 9 (.string Lib.digits36) (some (.int .i64 (i : Int))) (some (.int .i64 ((i : Int) + 1))) none).run Tryz.prog w = .ok (.string (Lib.digits36.extract i (i + 1))) w := fun w => by
      rw [run_slice_string w 9 Lib.digits36 .i64 .i64 _ _ Tryz.underlying9 (by omega) (by omega) (by rw [Lib.digits36_size]; omega), show ((i : Int)).toNat = i by omega, show ((i : Int) + 1).toNat = i + 1 by omega]
    go_wp2
    go_ret
    exact ⟨rfl, _, nums_piece _ _ _ _ (dig_one ⟨i, h10⟩), rfl⟩
  · have hsl : ∀ w, (Instr.slice 9 (.string Lib.smalls) (some (.int .i64 ((i : Int) * 2))) (some (.int .i64 ((i : Int) * 2 + 2))) none).run Tryz.prog w = .ok (.string (Lib.smalls.extract (i * 2) (i * 2 + 2))) w := fun w => by
      rw [run_slice_string w 9 Lib.smalls .i64 .i64 _ _ Tryz.underlying9 (by omega) (by omega) (by rw [Lib.smalls_size]; omega), show ((i : Int) * 2).toNat = i * 2 by omega, show ((i : Int) * 2 + 2).toNat = i * 2 + 2 by omega]
    go_wp2
    go_ret
    exact ⟨rfl, _, nums_piece _ _ _ _ (dig_two ⟨i, h⟩ (by show 10 ≤ i; omega)), rfl⟩

set_option maxHeartbeats 1000000 in
theorem formatInt_any (i : Nat) (h : i < 100) (w : World) :
    Calls Tryz.prog 123 #[.int .i64 i, .int .i64 10] w (DigPost i w) := by
  go_enter Tryz.func123, Tryz.ntmps123
  go_wp2_with (go_at_call 124; refine (small_any i h _).mono ?_; rintro e w' ⟨rfl, s, hs, rfl⟩)
  go_ret
  exact ⟨rfl, s, hs, rfl⟩
set_option maxHeartbeats 1000000 in
theorem itoaIn_any (i : Nat) (h : i < 100) (w : World) :
    Calls Tryz.prog 122 #[.int .i64 i] w (DigPost i w) := by
  go_enter Tryz.func122, Tryz.ntmps122
  go_wp2_with (go_at_call 123; refine (formatInt_any i h _).mono ?_; rintro e w' ⟨rfl, s, hs, rfl⟩)
  go_ret
  exact ⟨rfl, s, hs, rfl⟩
set_option maxHeartbeats 1000000 in
theorem itoa_any (n : Int) (h0 : 0 ≤ n) (h : n < 100) (w : World) :
    Calls Tryz.prog 121 #[.int .i64 n] w fun e w' => w = w' ∧ ∃ s : ByteArray, nums s = dig n ∧ e = .returned (.string s) := by
  obtain ⟨i, rfl⟩ := Int.eq_ofNat_of_zero_le h0
  go_enter Tryz.func121, Tryz.ntmps121
  go_wp2_with (go_at_call 122; refine (itoaIn_any i (by omega) _).mono ?_; rintro e w' ⟨rfl, s, hs, rfl⟩)
  go_ret
  exact ⟨rfl, s, hs, rfl⟩
end Go.Proofs.YtjhccghhinlmdabGreatDoor
/- The brush walked: what it writes is gathered in a row of its own. -/
namespace Go.Proofs.YtjhccghhinlmdabGreatDoor
open Go.RowKit

theorem ret_str {a b : ByteArray} (h : a = b) : Ending.returned (.string a) = .returned (.string b) := by rw [h]
/-- a brush lies at block bb, its bytes in a row of its own, both from base on -/
structure BrAt (w : World) (base bb : Nat) (b : B) : Prop where
  row : ∃ v, Blk w bb [v, .int .i64 b.x, .int .i64 b.y, .int .u8 b.pen] 157 ∧ w.ownsRow base 5 1 v b.bytes.length (b.bytes.map (Value.int .u8))
  ge : base ≤ bb
theorem BrAt.lt {w : World} {base bb : Nat} {b : B} (h : BrAt w base bb b) : bb < w.heap.size := by
  obtain ⟨v, hb, _⟩ := h.row; exact hb.lt
theorem BrAt.fr0 {w w' : World} {base bb : Nat} {b : B} (h : BrAt w base bb b) (f : Fr [] w w') : BrAt w' base bb b := by
  obtain ⟨⟨v, hb, ho⟩, hg⟩ := h; exact ⟨⟨v, hb.fr0 f, own_fr0 ho f⟩, hg⟩
theorem below_fr {B : Nat} {a b : World} (h : Below B a b) (hB : a.heap.size ≤ B) : Fr [] a b := ⟨h.os, h.tape, h.output, h.size, fun k hk _ => h.block k (by omega)⟩
theorem Fr.toBelow {B : Nat} {a b : World} (h : Fr [] a b) (hB : B ≤ a.heap.size) : Below B a b := h.below hB (by simp)
theorem below_set {B : Nat} {a b : World} (h : Below B a b) {p : Addr} (hp : B ≤ p.block) (v : Value) : Below B a (b.setCell p v) :=
  h.trans ⟨rfl, rfl, rfl, by simp, fun k hk => heap_setCell_other b p k v (by omega)⟩
theorem Blk.below {w w' : World} {B b : Nat} {vs : List Value} {ty : TypeId} (h : Blk w b vs ty) (k : Below B w w') (hb : b < B) : Blk w' b vs ty := (k.block b hb).trans h
theorem Grid.below {w w' : World} {B bg bc cap : Nat} {sp : List Value} {W H : Int} {l : List (Int × Int)} (g : Grid w bg bc cap sp W H l) (k : Below B w w') (h1 : bg < B) (h2 : bc < B) : Grid w' bg bc cap sp W H l :=
  ⟨g.hd.below k h1, g.row.below k h2, g.w1, g.w2, g.h1, g.h2, g.len, g.capLe⟩
theorem own_below {w w1 : World} {base : Nat} {e : TypeId} {size : Nat} {v : Value} {n : Nat} {xs : List Value} (h : w.ownsRow base e size v n xs) (hB : base ≤ w.heap.size) (hg : w.grownBy w1 v.ownBlock) : Below base w w1 :=
  ⟨hg.os, hg.tape, hg.output, hg.size, fun k hk => hg.block k (by omega) (fun e => by have := (h.lt k e.symm).1; omega)⟩
theorem own_slice {w : World} {base : Nat} {e : TypeId} {size : Nat} {v : Value} {n : Nat} {xs : List Value} (h : w.ownsRow base e size v n xs) : ∃ sa sn sc, v = .slice sa sn sc := by
  rcases h.2 with ⟨rfl, _⟩ | ⟨g, cap, cur, rfl, _⟩
  · exact ⟨_, _, _, rfl⟩
  · exact ⟨_, _, _, rfl⟩
/-- what lies below base has not turned, nor has any block but of brushes and bytes -/
structure Keeps (base : Nat) (w w' : World) : Prop where
  below : Below base w w'
  blk : ∀ k us ty, Blk w k us ty → ty ≠ 157 → ty ≠ 5 → Blk w' k us ty
theorem Keeps.refl (base : Nat) (w : World) : Keeps base w w := ⟨Below.refl _ _, fun _ _ _ h _ _ => h⟩
theorem Keeps.trans {base : Nat} {a b c : World} (h : Keeps base a b) (k : Keeps base b c) : Keeps base a c := ⟨h.below.trans k.below, fun i us ty hb h1 h2 => k.blk i us ty (h.blk i us ty hb h1 h2) h1 h2⟩
theorem Fr.keeps {base : Nat} {a b : World} (h : Fr [] a b) (hB : base ≤ a.heap.size) : Keeps base a b := ⟨h.toBelow hB, fun _ _ _ hb _ _ => hb.fr0 h⟩
theorem Keeps.set {base : Nat} {a b : World} (h : Keeps base a b) {p : Addr} (hp : base ≤ p.block) {us : List Value} (hb : Blk b p.block us 157) (v : Value) : Keeps base a (b.setCell p v) :=
  h.trans ⟨below_set (Below.refl _ _) hp v, fun _ _ _ hk h1 _ => hk.setOther (hk.ne hb h1) v⟩
theorem own_keeps {w w1 : World} {base : Nat} {size : Nat} {v : Value} {n : Nat} {xs : List Value} (h : w.ownsRow base 5 size v n xs) (hB : base ≤ w.heap.size) (hg : w.grownBy w1 v.ownBlock) : Keeps base w w1 :=
  ⟨own_below h hB hg, fun _ _ _ hk _ h2 => hk.grown hg (own_ne h hk h2)⟩
theorem strCells_nums (s : ByteArray) : Lib.strCells s = (nums s).map (Value.int .u8) := by simp [Lib.strCells, nums]

set_option maxHeartbeats 1000000 in
set_option maxRecDepth 100000 in
theorem badd_any (s : ByteArray) (w : World) (base bb : Nat) (b : B) (h : BrAt w base bb b) (hl : b.bytes.length ≤ 100000) (hs : s.size ≤ 100000) :
    Calls Tryz.prog 118 #[.pointer (some ⟨bb, 0, none⟩), .string s] w fun e w' => e = .returned (.tuple #[]) ∧ Keeps base w w' ∧ BrAt w' base bb { b with bytes := b.bytes ++ nums s } := by
  obtain ⟨⟨v, hb, ho⟩, hge⟩ := h
  obtain ⟨i0, hi, hz0, hz1, hz2⟩ := info_parts info_u8
  have c0 : w.cell? ⟨bb, 0, none⟩ = some v := hb.cell 0
  have lt := hb.lt
  have HB := hide hb
  have HO := hide ho
  clear hb ho
  go_enter Tryz.func118, Tryz.ntmps118
  go_wp2_with (at_builtin; refine Lib.wpList_append_own_string _ rfl (.tmp 8) (.tmp 9) 52 9 rfl base 5 i0 Tryz.underlying52 Tryz.underlying9 hi hz0 hz1 hz2 v b.bytes.length (b.bytes.map (Value.int .u8)) rfl HO.out s rfl (by unfold maxLen; omega) (by omega) (by omega) ?_; intro v1 w1 hown1 hgrow hnil; obtain ⟨sa, sn, sc, e1⟩ := own_slice hown1; subst e1; have b1 : Blk w1 bb [v, .int .i64 b.x, .int .i64 b.y, .int .u8 b.pen] 157 := HB.out.grown hgrow (own_ne HO.out HB.out (by decide)); have c0n : w1.cell? ⟨bb, 0, none⟩ = some v := b1.cell 0; have f0n := b1.frozen 0; have HL : Hid (Keeps base w w1) := own_keeps HO.out (by omega) hgrow; have HB1 := hide b1; have HO1 := hide hown1; clear b1 hown1 hgrow hnil)
  go_end0
  refine ⟨rfl, HL.out.set hge HB1.out _, ⟨.slice sa sn sc, HB1.out.set 0 _, ?_⟩, hge⟩
  have := HO1.out
  rw [strCells_nums, ← List.map_append, show b.bytes.length + s.size = (b.bytes ++ nums s).length by rw [List.length_append, nums_length]] at this
  exact own_fr (S := [bb]) this ((Fr.refl _ _).setCell (.inl (by simp)) _) (by intro x hx; simp at hx; subst hx; exact own_ne this HB1.out (by decide))

set_option maxHeartbeats 1000000 in
set_option maxRecDepth 100000 in
theorem bwrite_any (c : Int) (w : World) (base bb : Nat) (b : B) (h : BrAt w base bb b) (hl : b.bytes.length ≤ 100000) (x0 : -2 ≤ b.x) (x1 : b.x ≤ 100) :
    Calls Tryz.prog 117 #[.pointer (some ⟨bb, 0, none⟩), .int .u8 c] w fun e w' => e = .returned (.tuple #[]) ∧ Keeps base w w' ∧ BrAt w' base bb (b.write c) := by
  obtain ⟨⟨v, hb, ho⟩, hge⟩ := h
  obtain ⟨i0, hi, hz0, hz1, hz2⟩ := info_parts info_u8
  have c0 : w.cell? ⟨bb, 0, none⟩ = some v := hb.cell 0
  have lt := hb.lt
  have HB := hide hb
  have HO := hide ho
  clear hb ho
  go_enter Tryz.func117, Tryz.ntmps117
  go_wp2_with (at_builtin; refine wpList_append_lies _ rfl (.tmp 8) (.tmp 10) 52 rfl base 5 i0 (.int .u8 0) 1 1 Tryz.underlying52 hi hz0 hz1 hz2 rfl (by decide) v b.bytes.length (b.bytes.map (Value.int .u8)) rfl (own_fr0 HO.out ((Fr.refl _ _).alloc _)) ⟨w.heap.size, 0, none⟩ 1 1 [.int .u8 c] rfl rfl (World.news_of_block (cs := #[.int .u8 c]) (t := 5) (fr := (0, 0)) (by exact heap_alloc_new w _)) (one_one _ rfl) (by omega) (by unfold maxLen; omega) (by omega) (by simp; omega) (w.heap.size + 1) (by simp) ?_; intro g1 cap1 w1 hown1 hgrow hat hlt; have b1 : Blk w1 bb [v, .int .i64 b.x, .int .i64 b.y, .int .u8 b.pen] 157 := (HB.out.alloc _).grown hgrow (own_ne HO.out HB.out (by decide)); have c0n : w1.cell? ⟨bb, 0, none⟩ = some v := b1.cell 0; have c1n : w1.cell? ⟨bb, 1, none⟩ = some (.int .i64 b.x) := b1.cell 1; have f0n := b1.frozen 0; have f1n := b1.frozen 1; have lt1 := b1.lt; have HL : Hid (Keeps base w w1) := (((Fr.refl [] w).alloc _).keeps (by omega)).trans (own_keeps (own_fr0 HO.out ((Fr.refl _ _).alloc _)) (by simp; omega) hgrow); have HB1 := hide b1; have HO1 := hide hown1; clear b1 hown1 hgrow hat)
  go_end0
  refine ⟨rfl, (HL.out.set hge HB1.out _).set hge (HB1.out.set 0 _) _, ⟨.slice (some ⟨g1, 0, none⟩) (b.bytes.length + 1) cap1, (HB1.out.set 0 _).set 1 _, ?_⟩, hge⟩
  have : w1.ownsRow base 5 1 (.slice (some ⟨g1, 0, none⟩) (b.bytes.length + 1) cap1) (b.write c).bytes.length ((b.write c).bytes.map (Value.int .u8)) := by
    have := HO1.out
    simpa [B.write] using this
  exact own_fr (S := [bb]) this (((Fr.refl _ _).setCell (.inl (by simp)) _).setCell (.inl (by simp)) _) (by intro x hx; simp at hx; subst hx; exact own_ne this HB1.out (by decide))
end Go.Proofs.YtjhccghhinlmdabGreatDoor
/- The brush walked: it moves, and takes another pen. -/
namespace Go.Proofs.YtjhccghhinlmdabGreatDoor
open Go.RowKit

theorem nums_mk1 (a b : ByteArray) (x y : Int) (ha : nums a = dig (y + 1)) (hb : nums b = dig (x + 1)) : nums (⟨#[27, 91]⟩ ++ a ++ ⟨#[59]⟩ ++ b ++ ⟨#[72]⟩) = moveL x y := by
  rw [nums_append, nums_append, nums_append, nums_append, ha, hb]
  simp [moveL, nums]
theorem size_of_nums {s : ByteArray} {l : List Int} {n : Nat} (h : nums s = l) (hl : l.length ≤ n) : s.size ≤ n := by rw [← nums_length, h]; exact hl

set_option maxHeartbeats 2000000 in
set_option maxRecDepth 100000 in
theorem bmove_any (x y : Int) (w : World) (base bb : Nat) (b : B) (h : BrAt w base bb b) (hl : b.bytes.length ≤ 99000) (x0 : 0 ≤ x) (x1 : x < 99) (y0 : 0 ≤ y) (y1 : y < 99) :
    Calls Tryz.prog 115 #[.pointer (some ⟨bb, 0, none⟩), .int .i64 x, .int .i64 y] w fun e w' => e = .returned (.tuple #[]) ∧ Keeps base w w' ∧ BrAt w' base bb (b.moveTo x y) := by
  have c1 : w.cell? ⟨bb, 1, none⟩ = some (.int .i64 b.x) := by obtain ⟨v, hb, _⟩ := h.row; exact hb.cell 1
  have c2 : w.cell? ⟨bb, 2, none⟩ = some (.int .i64 b.y) := by obtain ⟨v, hb, _⟩ := h.row; exact hb.cell 2
  have HB := hide h
  have hge := h.ge
  have lt := h.lt
  clear h
  by_cases hs : x = b.x ∧ y = b.y
  · have E := hide (show b.moveTo x y = b by unfold B.moveTo; rw [if_pos hs])
    have q1 : (x == b.x) = true := by simpa using hs.1
    have q2 : (y == b.y) = true := by simpa using hs.2
    clear hs
    go_enter Tryz.func115, Tryz.ntmps115
    go_wp2
    exact bodyPost_ret (results_none rfl _ _ _) rfl ⟨rfl, Keeps.refl _ _, by rw [E.out]; exact HB.out⟩
  · have E := hide (show b.moveTo x y = ⟨b.bytes ++ moveL x y, x, y, b.pen⟩ by unfold B.moveTo; rw [if_neg hs])
    have hne : (x == b.x) = false ∨ ((x == b.x) = true ∧ (y == b.y) = false) := by
      by_cases hx : x = b.x
      · exact .inr ⟨by simpa using hx, by simp; intro hy; exact hs ⟨hx, hy⟩⟩
      · exact .inl (by simpa using hx)
    clear hs
    have ML := hide (moveL_len x y)
    have i1 := hide (itoa_any (y + 1) (by omega) (by omega) w)
    have i2 := hide (itoa_any (x + 1) (by omega) (by omega) w)
    rcases hne with q1 | ⟨q1, q2⟩
    all_goals
      go_enter Tryz.func115, Tryz.ntmps115
      go_wp2_with fail
      refine i1.out.mono ?_
      rintro e w' ⟨wc, s1, hs1, rfl⟩
      subst wc
      have S1 := hide hs1
      clear hs1
      go_wp2_with fail
      refine i2.out.mono ?_
      rintro e w' ⟨wc, s2, hs2, rfl⟩
      subst wc
      have S2 := hide hs2
      clear hs2
      have z1 : s1.size ≤ 2 := size_of_nums S1.out (dig_len _)
      have z2 : s2.size ≤ 2 := size_of_nums S2.out (dig_len _)
      have NM := hide (nums_mk1 s1 s2 x y S1.out S2.out)
      have AD := hide (badd_any (⟨#[27, 91]⟩ ++ s1 ++ ⟨#[59]⟩ ++ s2 ++ ⟨#[72]⟩) w base bb b HB.out (by omega) (size_of_nums NM.out (by have := ML.out; omega)))
      rw [NM.out] at AD
      go_wp2_with fail
      refine AD.out.mono ?_
      rintro e w1 ⟨rfl, l1, b1⟩
      obtain ⟨⟨v1, k1, o1⟩, _⟩ := b1
      have d1 : w1.cell? ⟨bb, 1, none⟩ = some (.int .i64 b.x) := k1.cell 1
      have d2 : w1.cell? ⟨bb, 2, none⟩ = some (.int .i64 b.y) := k1.cell 2
      have z1 := k1.frozen 1
      have z2 := k1.frozen 2
      have lt1 := k1.lt
      have L1 := hide l1
      have K1 := hide k1
      have O1 := hide o1
      clear l1 k1 o1
      go_wp2
      go_end0
      rw [E.out]
      refine ⟨rfl, (L1.out.set hge K1.out _).set hge (K1.out.set 1 _) _, ⟨v1, (K1.out.set 1 _).set 2 _, ?_⟩, hge⟩
      exact own_fr (S := [bb]) O1.out (((Fr.refl _ _).setCell (.inl (by simp)) _).setCell (.inl (by simp)) _) (by intro x hx; simp at hx; subst hx; exact own_ne O1.out K1.out (by decide))

theorem nums_mk2 (a b : ByteArray) (s : Int) (ha : nums a = [if s < 8 then 48 else 49]) (hb : nums b = dig (30 + s % 8)) : nums (⟨#[27, 91]⟩ ++ a ++ ⟨#[59]⟩ ++ b ++ ⟨#[109]⟩) = penL s := by
  rw [nums_append, nums_append, nums_append, nums_append, ha, hb]
  simp [penL, penP, nums]

set_option maxHeartbeats 2000000 in
set_option maxRecDepth 100000 in
theorem bpen_any (s : Int) (w : World) (base bb : Nat) (b : B) (h : BrAt w base bb b) (hl : b.bytes.length ≤ 99000) (s0 : 0 ≤ s) (s1 : s ≤ 15) :
    Calls Tryz.prog 116 #[.pointer (some ⟨bb, 0, none⟩), .int .u8 s] w fun e w' => e = .returned (.tuple #[]) ∧ Keeps base w w' ∧ BrAt w' base bb (b.setPen s) := by
  have c3 : w.cell? ⟨bb, 3, none⟩ = some (.int .u8 b.pen) := by obtain ⟨v, hb, _⟩ := h.row; exact hb.cell 3
  have HB := hide h
  have hge := h.ge
  have lt := h.lt
  clear h
  by_cases hs : s = b.pen
  · have E := hide (show b.setPen s = b by unfold B.setPen; rw [if_pos hs])
    have bq : (s == b.pen) = true := by simpa using hs
    go_enter Tryz.func116, Tryz.ntmps116
    go_wp2
    exact bodyPost_ret (results_none rfl _ _ _) rfl ⟨rfl, Keeps.refl _ _, by rw [E.out]; exact HB.out⟩
  · have E := hide (show b.setPen s = ⟨b.bytes ++ penL s, b.x, b.y, s⟩ by unfold B.setPen; rw [if_neg hs])
    have PL := hide (penL_len s)
    have i1 := hide (itoa_any (30 + s % 8) (by omega) (by omega) w)
    have NM := hide (fun a b => nums_mk2 a b s)
    have DG : Hid (nums ⟨#[48]⟩ = [48] ∧ nums ⟨#[49]⟩ = [49]) := ⟨by decide, by decide⟩
    have bq : (s == b.pen) = false := by simpa using hs
    by_cases h8 : s < 8
    · rw [if_pos h8] at NM
      go_enter Tryz.func116, Tryz.ntmps116
      go_wp2_with fail
      refine i1.out.mono ?_
      rintro e w' ⟨wc, t1, ht1, rfl⟩
      subst wc
      have S1 := hide ht1
      clear ht1
      have z1 : t1.size ≤ 2 := size_of_nums S1.out (dig_len _)
      have NM := hide (NM.out ⟨#[48]⟩ t1 DG.out.1 S1.out)
      have AD := hide (badd_any (⟨#[27, 91]⟩ ++ ⟨#[48]⟩ ++ ⟨#[59]⟩ ++ t1 ++ ⟨#[109]⟩) w base bb b HB.out (by omega) (size_of_nums NM.out (by have := PL.out; omega)))
      rw [NM.out] at AD
      go_wp2_with fail
      refine AD.out.mono ?_
      rintro e w1 ⟨rfl, l1, b1⟩
      obtain ⟨⟨v1, k1, o1⟩, _⟩ := b1
      have d3 : w1.cell? ⟨bb, 3, none⟩ = some (.int .u8 b.pen) := k1.cell 3
      have z3 := k1.frozen 3
      have lt1 := k1.lt
      have L1 := hide l1
      have K1 := hide k1
      have O1 := hide o1
      clear l1 k1 o1
      go_wp2
      go_end0
      rw [E.out]
      refine ⟨rfl, L1.out.set hge K1.out _, ⟨v1, K1.out.set 3 _, ?_⟩, hge⟩
      exact own_fr (S := [bb]) O1.out ((Fr.refl _ _).setCell (.inl (by simp)) _) (by intro x hx; simp at hx; subst hx; exact own_ne O1.out K1.out (by decide))
    · rw [if_neg h8] at NM
      go_enter Tryz.func116, Tryz.ntmps116
      go_wp2_with fail
      refine i1.out.mono ?_
      rintro e w' ⟨wc, t1, ht1, rfl⟩
      subst wc
      have S1 := hide ht1
      clear ht1
      have z1 : t1.size ≤ 2 := size_of_nums S1.out (dig_len _)
      have NM := hide (NM.out ⟨#[49]⟩ t1 DG.out.2 S1.out)
      have AD := hide (badd_any (⟨#[27, 91]⟩ ++ ⟨#[49]⟩ ++ ⟨#[59]⟩ ++ t1 ++ ⟨#[109]⟩) w base bb b HB.out (by omega) (size_of_nums NM.out (by have := PL.out; omega)))
      rw [NM.out] at AD
      go_wp2_with fail
      refine AD.out.mono ?_
      rintro e w1 ⟨rfl, l1, b1⟩
      obtain ⟨⟨v1, k1, o1⟩, _⟩ := b1
      have d3 : w1.cell? ⟨bb, 3, none⟩ = some (.int .u8 b.pen) := k1.cell 3
      have z3 := k1.frozen 3
      have lt1 := k1.lt
      have L1 := hide l1
      have K1 := hide k1
      have O1 := hide o1
      clear l1 k1 o1
      go_wp2
      go_end0
      rw [E.out]
      refine ⟨rfl, L1.out.set hge K1.out _, ⟨v1, K1.out.set 3 _, ?_⟩, hge⟩
      exact own_fr (S := [bb]) O1.out ((Fr.refl _ _).setCell (.inl (by simp)) _) (by intro x hx; simp at hx; subst hx; exact own_ne O1.out K1.out (by decide))
end Go.Proofs.YtjhccghhinlmdabGreatDoor
/- The brush walked: the cells that are to be others are written. -/
namespace Go.Proofs.YtjhccghhinlmdabGreatDoor
open Go.RowKit

theorem getD_cell (l : List (Int × Int)) (i : Nat) (h : i < l.length) : l.getD i (32, 7) = (chr l i, sty l i) := by
  simp [chr, sty, List.getD_eq_getElem?_getD, h]
theorem B.upto_len' (W : Int) (f g : List (Int × Int)) (n : Nat) (h : n ≤ 800) : (B.upto W f g n).bytes.length ≤ 12800 := by
  have h1 := B.upto_len W f g n
  have h2 := others_le f g n
  omega
set_option maxHeartbeats 4000000 in
set_option maxRecDepth 100000 in
theorem bpaint_any (w : World) (base bb : Nat) (W H : Int) (fg fc fcap : Nat) (fsp : List Value) (f : List (Int × Int)) (gg gc gcap : Nat) (gsp : List Value) (g : List (Int × Int))
    (h : BrAt w base bb B.first) (GF : Grid w fg fc fcap fsp W H f) (GG : Grid w gg gc gcap gsp W H g) (l1 : fg < base) (l2 : fc < base) (l3 : gg < base) (l4 : gc < base) (hc : Chars g) :
    Calls Tryz.prog 105 #[.pointer (some ⟨bb, 0, none⟩), .pointer (some ⟨fg, 0, none⟩), .pointer (some ⟨gg, 0, none⟩)] w
      fun e w' => e = .returned (.tuple #[]) ∧ Keeps base w w' ∧ BrAt w' base bb (B.paint W H f g) := by
  have w1 := GF.w1
  have w2 := GF.w2
  have h1 := GF.h1
  have h2 := GF.h2
  have HB := hide (mul_bd w1 w2 h1 h2)
  have HF := hide GF
  have HG := hide GG
  have HR := hide h
  have HC := hide hc
  clear GF GG h hc
  go_enter Tryz.func105, Tryz.ntmps105
  go_wp2
  go_loopw [6] (fun i wr => ∃ y : Int, i = .int .i64 y ∧ 0 ≤ y ∧ y ≤ H ∧ Keeps base w wr ∧ BrAt wr base bb (B.upto W f g (y * W).toNat)) (fun i _ => (3000 - intOf i).toNat)
  case atStart => exact ⟨0, rfl, by omega, by omega, Keeps.refl _ _, by rw [show ((0 : Int) * W).toNat = 0 by simp]; exact HR.out⟩
  case round =>
    obtain ⟨y, rfl, y1, y2, lo, br⟩ := hrel
    have gy := HG.out.below lo.below l3 l4
    have q1 : wr.cell? ⟨gg, 1, none⟩ = some (.int .i64 H) := gy.hd.cell 1
    have blt := gy.hd.lt
    clear gy
    by_cases hend : y < H
    · have HBY := hide br
      have HLY := hide lo
      clear br lo
      go_wp2
      go_loopw [7] (fun i wq => ∃ x : Int, i = .int .i64 x ∧ 0 ≤ x ∧ x ≤ W ∧ Keeps base w wq ∧ BrAt wq base bb (B.upto W f g (y * W + x).toNat)) (fun i _ => (3000 - intOf i).toNat)
      case atStart => exact ⟨0, rfl, by omega, by omega, HLY.out, by rw [Int.add_zero]; exact HBY.out⟩
      case round =>
        rename_i wy
        obtain ⟨x, rfl, x1, x2, lo, br⟩ := hrel
        have gx := HG.out.below lo.below l3 l4
        have fx := HF.out.below lo.below l1 l2
        have r0 : wr.cell? ⟨gg, 0, none⟩ = some (.int .i64 W) := gx.hd.cell 0
        have blt2 := gx.hd.lt
        by_cases hx : x < W
        · have idx := idx_bd (W := W) (H := H) (x := x) (y := y) w2 h2 x1 hx y1 hend
          obtain ⟨k, hk⟩ := Int.eq_ofNat_of_zero_le (show 0 ≤ y * W + x by omega)
          have hk' : (y * W + x).toNat = k := by omega
          obtain ⟨e1, e2⟩ := at_div (W := W) (x := x) (y := y) x1 hx
          rw [hk] at e1 e2
          have hkl : (k : Int) < W * H := by omega
          have fl := fx.len
          have gl := gx.len
          have AF := hide (at_in x y W H wr fg fc fcap fsp f fx x1 hx y1 hend)
          have AG := hide (fun w' (fr : Fr [] wr w') => at_in x y W H w' gg gc gcap gsp g (gx.fr0 fr) x1 hx y1 hend)
          rw [hk'] at AF AG br
          have cg := getD_cell g k (by omega)
          have cf := getD_cell f k (by omega)
          have hm : g.getD k (32, 7) ∈ g := by simp [List.getD_eq_getElem?_getD, show k < g.length by omega]
          obtain ⟨m1, m2, m3, m4⟩ := HC.out _ hm
          rw [cg] at m1 m2 m3 m4
          have BL := hide (B.upto_len' W f g k (by have := HB.out; omega))
          have NX : Hid (∀ b : B, B.upto W f g k = b → B.upto W f g (y * W + (x + 1)).toNat = if (chr g k, sty g k) = (chr f k, sty f k) then b else ((b.moveTo x y).setPen (sty g k)).write (chr g k)) := by
            intro b hb
            rw [show (y * W + (x + 1)).toNat = k + 1 by omega, B.upto_succ, hb]
            unfold B.cell
            rw [cg, cf, e1, e2]
          have BR := hide br
          have LO := hide lo
          clear br lo gx fx e1 e2 hk hk' hkl cg cf hm fl gl idx
          generalize chr g k = gc1 at *
          generalize sty g k = gs1 at *
          generalize chr f k = fc1 at *
          generalize sty f k = fs1 at *
          generalize B.upto W f g k = b at *
          go_wp2_with fail
          refine AF.out.mono ?_
          rintro e w3 ⟨rfl, f3⟩
          have F3 := hide f3
          clear f3 r0
          go_wp2_with fail
          refine (AG.out _ (F3.out.alloc _)).mono ?_
          rintro e w4 ⟨rfl, f4⟩
          have F4 : Hid (Fr [] wr w4) := (F3.out.alloc _).then f4
          have BX : Hid (Blk w4 w3.heap.size [.int .u8 fc1, .int .u8 fs1] 117) := (Blk.new w3 _ _).fr0 f4
          have k0 : w4.cell? ⟨w3.heap.size, 0, none⟩ = some (.int .u8 fc1) := BX.out.cell 0
          have k1 : w4.cell? ⟨w3.heap.size, 1, none⟩ = some (.int .u8 fs1) := BX.out.cell 1
          have lt4 := BX.out.lt
          clear f4 AF AG
          by_cases hs : gc1 = fc1 ∧ gs1 = fs1
          · have E : Hid (B.upto W f g (y * W + (x + 1)).toNat = b) := by show _ = _; rw [NX.out b rfl, if_pos (by rw [hs.1, hs.2])]
            obtain ⟨rfl, rfl⟩ := hs
            go_wp2
            go_roundw
            case rel => exact ⟨x + 1, by go_num, by omega, by omega, LO.out.trans ((F4.out.alloc _).keeps (by have := BR.out.lt; have := BR.out.ge; omega)), by rw [E.out]; exact BR.out.fr0 (F4.out.alloc _)⟩
            case measure => simp [intOf]; omega
          · have E : Hid (B.upto W f g (y * W + (x + 1)).toNat = ((b.moveTo x y).setPen gs1).write gc1) := by show _ = _; rw [NX.out b rfl, if_neg (by intro h; simp at h; exact hs h)]
            have hne : (gc1 == fc1) = false ∨ ((gc1 == fc1) = true ∧ (gs1 == fs1) = false) := by
              by_cases hx : gc1 = fc1
              · exact .inr ⟨by simpa using hx, by simp; intro hy; exact hs ⟨hx, hy⟩⟩
              · exact .inl (by simpa using hx)
            have MX : Hid ((b.moveTo x y).x = x) := by
              show _ = _
              unfold B.moveTo; split
              · rename_i h; exact h.1.symm
              · rfl
            have PX : Hid (((b.moveTo x y).setPen gs1).x = x) := by
              show _ = _
              rw [show ((b.moveTo x y).setPen gs1).x = (b.moveTo x y).x by unfold B.setPen; split <;> rfl]; exact MX.out
            have L1 := hide (B.moveTo_len b x y)
            have L2 := hide (B.setPen_len (b.moveTo x y) gs1)
            have BR4 : Hid (BrAt (w4.alloc (.cells #[.int .u8 gc1, .int .u8 gs1] 117)) base bb b) := BR.out.fr0 (F4.out.alloc _)
            have LO4 : Hid (Keeps base w (w4.alloc (.cells #[.int .u8 gc1, .int .u8 gs1] 117))) := LO.out.trans ((F4.out.alloc _).keeps (by have := BR.out.lt; have := BR.out.ge; omega))
            clear hs
            rcases hne with q1 | ⟨q1, q2⟩
            all_goals
              go_wp2_with fail
              refine (bmove_any x y _ base bb b BR4.out (by have := BL.out; omega) x1 (by omega) y1 (by omega)).mono ?_
              rintro e w5 ⟨rfl, l5, b5⟩
              have k5 := l5.blk _ _ _ (Blk.new w4 [.int .u8 gc1, .int .u8 gs1] 117) (by decide) (by decide)
              have s50 : w5.cell? ⟨w4.heap.size, 0, none⟩ = some (.int .u8 gc1) := k5.cell 0
              have s51 : w5.cell? ⟨w4.heap.size, 1, none⟩ = some (.int .u8 gs1) := k5.cell 1
              have lt5 := k5.lt
              have K5 := hide k5
              have L5 := hide (LO4.out.trans l5)
              have B5 := hide b5
              clear k5 l5 b5
              go_wp2_with fail
              refine (bpen_any gs1 _ base bb _ B5.out (by have := BL.out; have := L1.out; omega) m3 m4).mono ?_
              rintro e w6 ⟨rfl, l6, b6⟩
              have k6 := l6.blk _ _ _ K5.out (by decide) (by decide)
              have s60 : w6.cell? ⟨w4.heap.size, 0, none⟩ = some (.int .u8 gc1) := k6.cell 0
              have lt6 := k6.lt
              have L6 := hide (L5.out.trans l6)
              have B6 := hide b6
              clear k6 l6 b6 L5 B5 K5
              go_wp2_with fail
              refine (bwrite_any gc1 _ base bb _ B6.out (by have := BL.out; have := L1.out; have := L2.out; omega) (by rw [PX.out]; omega) (by rw [PX.out]; omega)).mono ?_
              rintro e w7 ⟨rfl, l7, b7⟩
              have L7 := hide (L6.out.trans l7)
              have B7 := hide b7
              clear l7 b7 L6 B6
              go_wp2
              go_roundw
              case rel => exact ⟨x + 1, by go_num, by omega, by omega, L7.out, by rw [E.out]; exact B7.out⟩
              case measure => simp [intOf]; omega
        · have hx' : x = W := by omega
          subst hx'
          have ey : y * x + x = (y + 1) * x := by rw [Int.add_mul]; omega
          rw [ey] at br
          have BR := hide br
          clear br ey hx gx fx
          go_wp2
          go_roundw
          case rel => exact ⟨y + 1, by go_num, by omega, by omega, lo, BR.out⟩
          case measure => simp [intOf]; omega
    · have hy : y = H := by omega
      subst hy
      have BR := hide br
      have BL := hide (B.upto_len' W f g (y * W).toNat (by have := HB.out; rw [Int.mul_comm]; omega))
      clear br
      go_wp2_with fail
      refine (bpen_any 7 _ base bb _ BR.out (by have := BL.out; omega) (by decide) (by decide)).mono ?_
      rintro e w3 ⟨rfl, l3, b3⟩
      have E : Hid (B.paint W y f g = (B.upto W f g (y * W).toNat).setPen 7) := by show _ = _; unfold B.paint; rw [Int.mul_comm]
      have L3 := hide (lo.trans l3)
      have B3 := hide b3
      clear l3 b3
      go_wp2
      go_end0
      exact ⟨rfl, L3.out, by rw [E.out]; exact B3.out⟩
end Go.Proofs.YtjhccghhinlmdabGreatDoor
/- The brush walked: the cursor is set; one screen is turned into another, and a whole one is painted. -/
namespace Go.Proofs.YtjhccghhinlmdabGreatDoor
open Go.RowKit

/-- a cursor, as it is handed over -/
def Cur.val (c : Cur) : Value := .agg #[.int .i64 c.x, .int .i64 c.y, .bool c.shown]
theorem nums_show : nums ⟨#[27, 91, 63, 50, 53, 104]⟩ = showL := by decide
theorem nums_hide : nums ⟨#[27, 91, 63, 50, 53, 108]⟩ = hideL := by decide

set_option maxHeartbeats 2000000 in
set_option maxRecDepth 100000 in
theorem bcursor_any (cx cy dx dy : Int) (cs ds : Bool) (w : World) (base bb : Nat) (b : B) (h : BrAt w base bb b) (hl : b.bytes.length ≤ 98000) (hd : ds = true → 0 ≤ dx ∧ dx < 99 ∧ 0 ≤ dy ∧ dy < 99) :
    Calls Tryz.prog 106 #[.pointer (some ⟨bb, 0, none⟩), .agg #[.int .i64 cx, .int .i64 cy, .bool cs], .agg #[.int .i64 dx, .int .i64 dy, .bool ds]] w
      fun e w' => e = .returned (.tuple #[]) ∧ Keeps base w w' ∧ ∃ b', BrAt w' base bb b' ∧ b'.bytes = b.cursor ⟨cx, cy, cs⟩ ⟨dx, dy, ds⟩ := by
  have hge := h.ge
  have lt := h.lt
  have f1 : Fr [] w (w.alloc (.cells #[.int .i64 cx, .int .i64 cy, .bool cs] 66)) := (Fr.refl _ _).alloc _
  have f2 := f1.alloc (.cells #[.int .i64 dx, .int .i64 dy, .bool ds] 66)
  have F2 := hide f2
  have k1 : Blk ((w.alloc (.cells #[.int .i64 cx, .int .i64 cy, .bool cs] 66)).alloc (.cells #[.int .i64 dx, .int .i64 dy, .bool ds] 66)) w.heap.size [.int .i64 cx, .int .i64 cy, .bool cs] 66 := (Blk.new w _ _).alloc _
  have k2 : Blk ((w.alloc (.cells #[.int .i64 cx, .int .i64 cy, .bool cs] 66)).alloc (.cells #[.int .i64 dx, .int .i64 dy, .bool ds] 66)) (w.heap.size + 1) [.int .i64 dx, .int .i64 dy, .bool ds] 66 := by
    have := Blk.new (w.alloc (.cells #[.int .i64 cx, .int .i64 cy, .bool cs] 66)) [.int .i64 dx, .int .i64 dy, .bool ds] 66
    simpa using this
  have K1 := hide k1
  have K2 := hide k2
  have H2 := hide (h.fr0 f2)
  have KP := hide (f2.keeps (base := base) (by omega))
  clear f1 f2 k1 k2 h
  have ML := hide (B.moveTo_len b dx dy)
  cases ds
  · clear hd
    cases cs
    · have E : Hid (b.cursor ⟨cx, cy, false⟩ ⟨dx, dy, false⟩ = b.bytes) := by show _ = _; simp [B.cursor]
      go_enter Tryz.func106, Tryz.ntmps106
      go_wp2
      go_end0
      exact ⟨rfl, KP.out, b, H2.out, E.out.symm⟩
    · have E : Hid (b.cursor ⟨cx, cy, true⟩ ⟨dx, dy, false⟩ = b.bytes ++ hideL) := by show _ = _; simp [B.cursor]
      have AD := hide (badd_any ⟨#[27, 91, 63, 50, 53, 108]⟩ _ base bb b H2.out (by omega) (by decide))
      rw [nums_hide] at AD
      go_enter Tryz.func106, Tryz.ntmps106
      go_wp2_with fail
      refine AD.out.mono ?_
      rintro e w3 ⟨rfl, l3, b3⟩
      have L3 := hide (KP.out.trans l3)
      have B3 := hide b3
      clear l3 b3
      go_wp2
      go_end0
      exact ⟨rfl, L3.out, _, B3.out, E.out.symm⟩
  · obtain ⟨d1, d2, d3, d4⟩ := hd rfl
    have MV := hide (bmove_any dx dy _ base bb b H2.out (by omega) d1 d2 d3 d4)
    cases cs
    · have E : Hid (b.cursor ⟨cx, cy, false⟩ ⟨dx, dy, true⟩ = (b.moveTo dx dy).bytes ++ showL) := by show _ = _; simp [B.cursor]
      have NS := hide nums_show
      go_enter Tryz.func106, Tryz.ntmps106
      go_wp2_with fail
      refine MV.out.mono ?_
      rintro e w3 ⟨rfl, l3, b3⟩
      have j1 := l3.blk _ _ _ K1.out (by decide) (by decide)
      have j2 := l3.blk _ _ _ K2.out (by decide) (by decide)
      have c12 : w3.cell? ⟨w.heap.size, 2, none⟩ = some (.bool false) := j1.cell 2
      have c22 : w3.cell? ⟨w.heap.size + 1, 2, none⟩ = some (.bool true) := j2.cell 2
      have lt3 := j2.lt
      have J1 := hide j1
      have J2 := hide j2
      have AD := hide (badd_any ⟨#[27, 91, 63, 50, 53, 104]⟩ _ base bb _ b3 (by have := ML.out; omega) (by decide))
      rw [NS.out] at AD
      have L3 := hide (KP.out.trans l3)
      clear l3 b3 j1 j2
      go_wp2_with fail
      refine AD.out.mono ?_
      rintro e w4 ⟨rfl, l4, b4⟩
      have j1 := l4.blk _ _ _ J1.out (by decide) (by decide)
      have c14 : w4.cell? ⟨w.heap.size, 2, none⟩ = some (.bool false) := j1.cell 2
      have L4 := hide (L3.out.trans l4)
      have B4 := hide b4
      clear l4 b4 j1
      go_wp2
      go_end0
      exact ⟨rfl, L4.out, _, B4.out, E.out.symm⟩
    · have E : Hid (b.cursor ⟨cx, cy, true⟩ ⟨dx, dy, true⟩ = (b.moveTo dx dy).bytes) := by show _ = _; simp [B.cursor]
      go_enter Tryz.func106, Tryz.ntmps106
      go_wp2_with fail
      refine MV.out.mono ?_
      rintro e w3 ⟨rfl, l3, b3⟩
      have j1 := l3.blk _ _ _ K1.out (by decide) (by decide)
      have j2 := l3.blk _ _ _ K2.out (by decide) (by decide)
      have c12 : w3.cell? ⟨w.heap.size, 2, none⟩ = some (.bool true) := j1.cell 2
      have c22 : w3.cell? ⟨w.heap.size + 1, 2, none⟩ = some (.bool true) := j2.cell 2
      have lt3 := j2.lt
      have L3 := hide (KP.out.trans l3)
      have B3 := hide b3
      clear l3 b3 j1 j2
      go_wp2
      go_end0
      exact ⟨rfl, L3.out, _, B3.out, E.out.symm⟩

theorem Fr.thenBelow {B : Nat} {a b c : World} (f : Fr [] a b) (h : Below B b c) (hB : a.heap.size ≤ B) : Fr [] a c :=
  ⟨h.os.trans f.os, h.tape.trans f.tape, h.output.trans f.output, Nat.le_trans f.size h.size, fun k hk hn => (h.block k (by omega)).trans (f.block k hk hn)⟩
/-- a slice of the call's own, as a string, whatever its length -/
theorem own_str {w : World} {base : Nat} {e : TypeId} {v : Value} {k : Nat} {xs : List Int} {src dst : TypeId} (h : w.ownsRow base e 1 v k (xs.map (Value.int .u8))) (hs : Tryz.prog.underlying src = some (.slice e)) (he : Tryz.prog.underlying e = some (.int .u8)) (hd : Tryz.prog.underlying dst = some .string) :
    ∃ sa sc, v = .slice sa k sc ∧ ∀ w', Fr [] w w' → (convert src dst (.slice sa k sc)).run Tryz.prog w' = .ok (.string (strOfNums xs)) w' := by
  rcases Nat.eq_zero_or_pos k with h0 | h0
  · subst h0
    have hx : xs = [] := by have := h.1; simp at this; exact this
    subst hx
    rcases h.2 with ⟨rfl, _⟩ | ⟨g, cap, cur, rfl, _⟩
    · refine ⟨none, 0, rfl, fun w' _ => ?_⟩
      rw [run_convert_bytes_nil w' src e hs he 0 0 dst hd]; rfl
    · exact ⟨_, _, rfl, fun w' _ => run_convert_bytes_arg w' src e hs he g 0 0 cap [] rfl (fun i hi => by omega) dst hd⟩
  · obtain ⟨g, cap, rfl, hc⟩ := own_string h h0 hs he hd
    exact ⟨_, _, rfl, hc⟩
theorem cur_ne {c d : Cur} (h : c ≠ d) : (c.x == d.x) = false ∨ ((c.x == d.x) = true ∧ (c.y == d.y) = false) ∨ ((c.x == d.x) = true ∧ (c.y == d.y) = true ∧ (c.shown == d.shown) = false) := by
  by_cases h1 : c.x = d.x
  · by_cases h2 : c.y = d.y
    · refine .inr (.inr ⟨by simpa using h1, by simpa using h2, ?_⟩)
      simp; intro h3; exact h (by cases c; cases d; simp_all)
    · exact .inr (.inl ⟨by simpa using h1, by simpa using h2⟩)
  · exact .inl (by simpa using h1)
theorem cursor_bytes_len (b : B) (c d : Cur) (h : b.bytes.length ≤ 13000) : (b.cursor c d).length ≤ 14000 := by have := b.cursor_len c d; omega

set_option maxHeartbeats 4000000 in
set_option maxRecDepth 100000 in
theorem bchange_any (w : World) (W H : Int) (fg fc fcap : Nat) (fsp : List Value) (f : List (Int × Int)) (gg gc gcap : Nat) (gsp : List Value) (g : List (Int × Int)) (c d : Cur)
    (GF : Grid w fg fc fcap fsp W H f) (GG : Grid w gg gc gcap gsp W H g) (hc : Chars g) (hd : d.shown = true → 0 ≤ d.x ∧ d.x < W ∧ 0 ≤ d.y ∧ d.y < H) :
    Calls Tryz.prog 91 #[.agg #[.pointer (some ⟨fg, 0, none⟩), .int .i64 c.x, .int .i64 c.y, .bool c.shown], .agg #[.pointer (some ⟨gg, 0, none⟩), .int .i64 d.x, .int .i64 d.y, .bool d.shown]] w
      fun e w' => e = .returned (.string (strOfNums (change W H f g c d))) ∧ Fr [] w w' := by
  have b1 := GF.hd.lt
  have b2 := GF.row.lt
  have b3 := GG.hd.lt
  have b4 := GG.row.lt
  have hw := GF.w2
  have hh := GF.h2
  have mb := hide (mul_bd GF.w1 GF.w2 GF.h1 GF.h2)
  have PL : Hid ((B.paint W H f g).bytes.length ≤ 13000) := by
    show _ ≤ _
    have h1 := B.paint_len W H f g
    have h2 := others_le f g (W * H).toNat
    have := mb.out
    omega
  have f3 := hide ((((Fr.refl [] w).alloc (.cells #[.pointer (some ⟨fg, 0, none⟩), .int .i64 c.x, .int .i64 c.y, .bool c.shown] 128)).alloc (.cells #[.pointer (some ⟨gg, 0, none⟩), .int .i64 d.x, .int .i64 d.y, .bool d.shown] 128)).alloc (.cells #[.slice none 0 0, .int .i64 (-1), .int .i64 (-1), .int .u8 7] 157))
  have k1 := hide (((Blk.new w [.pointer (some ⟨fg, 0, none⟩), .int .i64 c.x, .int .i64 c.y, .bool c.shown] 128).alloc (.cells #[.pointer (some ⟨gg, 0, none⟩), .int .i64 d.x, .int .i64 d.y, .bool d.shown] 128)).alloc (.cells #[.slice none 0 0, .int .i64 (-1), .int .i64 (-1), .int .u8 7] 157))
  have k2 : Hid (Blk (((w.alloc (.cells #[.pointer (some ⟨fg, 0, none⟩), .int .i64 c.x, .int .i64 c.y, .bool c.shown] 128)).alloc (.cells #[.pointer (some ⟨gg, 0, none⟩), .int .i64 d.x, .int .i64 d.y, .bool d.shown] 128)).alloc (.cells #[.slice none 0 0, .int .i64 (-1), .int .i64 (-1), .int .u8 7] 157)) (w.heap.size + 1) [.pointer (some ⟨gg, 0, none⟩), .int .i64 d.x, .int .i64 d.y, .bool d.shown] 128) := by
    have := (Blk.new (w.alloc (.cells #[.pointer (some ⟨fg, 0, none⟩), .int .i64 c.x, .int .i64 c.y, .bool c.shown] 128)) [.pointer (some ⟨gg, 0, none⟩), .int .i64 d.x, .int .i64 d.y, .bool d.shown] 128).alloc (.cells #[.slice none 0 0, .int .i64 (-1), .int .i64 (-1), .int .u8 7] 157)
    exact hide (by simpa using this)
  have B0 : Hid (BrAt (((w.alloc (.cells #[.pointer (some ⟨fg, 0, none⟩), .int .i64 c.x, .int .i64 c.y, .bool c.shown] 128)).alloc (.cells #[.pointer (some ⟨gg, 0, none⟩), .int .i64 d.x, .int .i64 d.y, .bool d.shown] 128)).alloc (.cells #[.slice none 0 0, .int .i64 (-1), .int .i64 (-1), .int .u8 7] 157)) (w.heap.size + 2) (w.heap.size + 2) B.first) := by
    refine ⟨⟨.slice none 0 0, ?_, World.ownsRow_nil _ _ _ _⟩, Nat.le_refl _⟩
    show Blk _ _ [.slice none 0 0, .int .i64 (-1), .int .i64 (-1), .int .u8 7] 157
    have := Blk.new ((w.alloc (.cells #[.pointer (some ⟨fg, 0, none⟩), .int .i64 c.x, .int .i64 c.y, .bool c.shown] 128)).alloc (.cells #[.pointer (some ⟨gg, 0, none⟩), .int .i64 d.x, .int .i64 d.y, .bool d.shown] 128)) [.slice none 0 0, .int .i64 (-1), .int .i64 (-1), .int .u8 7] 157
    simpa using this
  have PA := hide (bpaint_any _ (w.heap.size + 2) (w.heap.size + 2) W H fg fc fcap fsp f gg gc gcap gsp g B0.out (GF.fr0 f3.out) (GG.fr0 f3.out) (by omega) (by omega) (by omega) (by omega) hc)
  have CH : Hid (change W H f g c d = if (B.paint W H f g).bytes = [] ∧ c = d then [] else (B.paint W H f g).cursor c d) := rfl
  have CE : Hid (∀ h : c ≠ d, _) := fun h => cur_ne h
  clear GF GG hc B0
  generalize B.paint W H f g = b at *
  generalize change W H f g c d = out at *
  obtain ⟨cx, cy, cs⟩ := c
  obtain ⟨dx, dy, ds⟩ := d
  have CU := hide (fun w' base bb (h : BrAt w' base bb b) => bcursor_any cx cy dx dy cs ds w' base bb b h (by have := PL.out; omega) (by intro h; have := hd h; simp only [] at this; omega))
  clear hd
  simp only [] at *
  go_enter Tryz.func91, Tryz.ntmps91
  go_wp2_with fail
  refine PA.out.mono ?_
  rintro e w4 ⟨rfl, l4, b4'⟩
  have j1 := l4.blk _ _ _ k1.out (by decide) (by decide)
  have j2 := l4.blk _ _ _ k2.out (by decide) (by decide)
  have a1 : w4.cell? ⟨w.heap.size, 1, none⟩ = some (.int .i64 cx) := j1.cell 1
  have a2 : w4.cell? ⟨w.heap.size, 2, none⟩ = some (.int .i64 cy) := j1.cell 2
  have a3 : w4.cell? ⟨w.heap.size, 3, none⟩ = some (.bool cs) := j1.cell 3
  have e1 : w4.cell? ⟨w.heap.size + 1, 1, none⟩ = some (.int .i64 dx) := j2.cell 1
  have e2 : w4.cell? ⟨w.heap.size + 1, 2, none⟩ = some (.int .i64 dy) := j2.cell 2
  have e3 : w4.cell? ⟨w.heap.size + 1, 3, none⟩ = some (.bool ds) := j2.cell 3
  obtain ⟨v, hb, ho⟩ := b4'.row
  obtain ⟨sa, sc, rfl, kc⟩ := own_str (src := 52) (dst := 9) ho Tryz.underlying52 Tryz.underlying5 Tryz.underlying9
  have v0 : w4.cell? ⟨w.heap.size + 2, 0, none⟩ = some (.slice sa b.bytes.length sc) := hb.cell 0
  have lt4 := hb.lt
  have B4 := hide b4'
  have F4 := hide (f3.out.thenBelow l4.below (by omega))
  have kc4 := kc w4 (Fr.refl _ _)
  have pl := PL.out
  clear j1 j2 hb ho b4' l4 kc PA k1 k2 f3
  by_cases hz : b.bytes.length = 0
  · have hb0 : b.bytes = [] := List.eq_nil_of_length_eq_zero hz
    rw [hz] at v0 kc4
    by_cases hcd : (⟨cx, cy, cs⟩ : Cur) = ⟨dx, dy, ds⟩
    · have OUT : Hid (out = b.bytes) := by show _ = _; rw [CH.out, if_pos ⟨hb0, hcd⟩, hb0]
      injection hcd with h1 h2 h3
      subst h1 h2 h3
      clear hb0 CH CE CU
      go_wp2
      go_ret
      exact ⟨ret_str (by rw [OUT.out]), F4.out⟩
    · have OUT : Hid (out = b.cursor ⟨cx, cy, cs⟩ ⟨dx, dy, ds⟩) := by show _ = _; rw [CH.out, if_neg (fun h => hcd h.2)]
      have hne := CE.out hcd
      clear hb0 CH CE hcd
      have CUW := hide (CU.out w4 _ _ B4.out)
      clear CU
      rcases hne with q1 | ⟨q1, q2⟩ | ⟨q1, q2, q3⟩
      all_goals
        go_wp2_with fail
        refine CUW.out.mono ?_
        rintro e w5 ⟨rfl, l5, b5, hb5, hby⟩
        obtain ⟨v5, hb6, ho5⟩ := hb5.row
        obtain ⟨sa5, sc5, rfl, kc5⟩ := own_str (src := 52) (dst := 9) ho5 Tryz.underlying52 Tryz.underlying5 Tryz.underlying9
        have v50 : w5.cell? ⟨w.heap.size + 2, 0, none⟩ = some (.slice sa5 b5.bytes.length sc5) := hb6.cell 0
        have lt5 := hb6.lt
        have kc6 := kc5 w5 (Fr.refl _ _)
        have F5 := hide (F4.out.thenBelow l5.below (by omega))
        have HBY := hide hby
        clear hb6 ho5 kc5 hb5 l5 hby CUW
        go_wp2
        go_ret
        exact ⟨ret_str (by rw [OUT.out, HBY.out]), F5.out⟩
  · have OUT : Hid (out = b.cursor ⟨cx, cy, cs⟩ ⟨dx, dy, ds⟩) := by show _ = _; rw [CH.out, if_neg (fun h => hz (by rw [h.1]; rfl))]
    have hpos : 0 < b.bytes.length := by omega
    have CUW := hide (CU.out w4 _ _ B4.out)
    clear CH CE CU hz
    go_wp2_with fail
    refine CUW.out.mono ?_
    rintro e w5 ⟨rfl, l5, b5, hb5, hby⟩
    obtain ⟨v5, hb6, ho5⟩ := hb5.row
    obtain ⟨sa5, sc5, rfl, kc5⟩ := own_str (src := 52) (dst := 9) ho5 Tryz.underlying52 Tryz.underlying5 Tryz.underlying9
    have v50 : w5.cell? ⟨w.heap.size + 2, 0, none⟩ = some (.slice sa5 b5.bytes.length sc5) := hb6.cell 0
    have lt5 := hb6.lt
    have kc6 := kc5 w5 (Fr.refl _ _)
    have F5 := hide (F4.out.thenBelow l5.below (by omega))
    have HBY := hide hby
    clear hb6 ho5 kc5 hb5 l5 hby CUW
    go_wp2
    go_ret
    exact ⟨ret_str (by rw [OUT.out, HBY.out]), F5.out⟩
end Go.Proofs.YtjhccghhinlmdabGreatDoor
/- The brush walked: a whole screen. -/
namespace Go.Proofs.YtjhccghhinlmdabGreatDoor
open Go.RowKit

theorem str_app (s : ByteArray) (l : List Int) (hs : AreBytes (nums s)) (hl : AreBytes l) : s ++ strOfNums l = strOfNums (nums s ++ l) := by
  apply nums_inj
  rw [nums_append, nums_str l hl, nums_str _ (hs.append hl)]
theorem str_size (l : List Int) : (strOfNums l).size = l.length := by
  have : (strOfNums l).data.toList.length = l.length := by rw [strOfNums_data]; simp
  simpa using this
theorem nums_wipe : nums ⟨#[27, 91, 109, 27, 91, 50, 74, 27, 91, 63, 50, 53, 108]⟩ = wipeL := by decide
theorem whole_str (W H : Int) (w1 : 1 ≤ W) (w2 : W ≤ 40) (h1 : 1 ≤ H) (h2 : H ≤ 20) (g : List (Int × Int)) (hc : Chars g) (d : Cur) (hd : d.shown = true → 0 ≤ d.x ∧ d.x < W ∧ 0 ≤ d.y ∧ d.y < H) :
    (⟨#[27, 91, 109, 27, 91, 50, 74, 27, 91, 63, 50, 53, 108]⟩ : ByteArray) ++ strOfNums (change W H (List.replicate (W * H).toNat (32, 7)) g ⟨0, 0, false⟩ d) = strOfNums (whole W H g d) := by
  rw [str_app _ _ (by rw [nums_wipe]; exact wipeL_bytes) (change_bytes w1 w2 h1 h2 _ g hc _ d hd), nums_wipe]; rfl

set_option maxHeartbeats 2000000 in
set_option maxRecDepth 100000 in
theorem bwhole_any (w : World) (W H : Int) (gg gc gcap : Nat) (gsp : List Value) (g : List (Int × Int)) (d : Cur)
    (GG : Grid w gg gc gcap gsp W H g) (hc : Chars g) (hd : d.shown = true → 0 ≤ d.x ∧ d.x < W ∧ 0 ≤ d.y ∧ d.y < H) :
    Calls Tryz.prog 76 #[.agg #[.pointer (some ⟨gg, 0, none⟩), .int .i64 d.x, .int .i64 d.y, .bool d.shown]] w
      fun e w' => e = .returned (.string (strOfNums (whole W H g d))) ∧ Fr [] w w' := by
  have WS := hide (whole_str W H GG.w1 GG.w2 GG.h1 GG.h2 g hc d hd)
  have SZ : Hid ((strOfNums (change W H (List.replicate (W * H).toNat (32, 7)) g ⟨0, 0, false⟩ d)).size ≤ 100000) := by
    show _ ≤ _
    rw [str_size]
    have h1 := change_len W H (List.replicate (W * H).toNat (32, 7)) g ⟨0, 0, false⟩ d
    have h2 := others_le (List.replicate (W * H).toNat (32, 7)) g (W * H).toNat
    have := mul_bd GG.w1 GG.w2 GG.h1 GG.h2
    omega
  have F1 : Hid (Fr [] w (w.alloc (.cells #[.pointer (some ⟨gg, 0, none⟩), .int .i64 d.x, .int .i64 d.y, .bool d.shown] 128))) := (Fr.refl _ _).alloc _
  have BL := hide (gblank_any W H _ gg gc gcap gsp g (GG.fr0 F1.out))
  have HG := hide GG
  have HC := hide hc
  have HD := hide hd
  clear GG hc hd
  go_enter Tryz.func76, Tryz.ntmps76
  go_wp2_with fail
  refine BL.out.mono ?_
  rintro e w2 ⟨ng, nc, cap, sp, rfl, n1, n2, f2, h2⟩
  have K2 := (Blk.new w [.pointer (some ⟨gg, 0, none⟩), .int .i64 d.x, .int .i64 d.y, .bool d.shown] 128).fr0 f2
  have a0 : w2.cell? ⟨w.heap.size, 0, none⟩ = some (.pointer (some ⟨gg, 0, none⟩)) := K2.cell 0
  have a1 : w2.cell? ⟨w.heap.size, 1, none⟩ = some (.int .i64 d.x) := K2.cell 1
  have a2 : w2.cell? ⟨w.heap.size, 2, none⟩ = some (.int .i64 d.y) := K2.cell 2
  have a3 : w2.cell? ⟨w.heap.size, 3, none⟩ = some (.bool d.shown) := K2.cell 3
  have lt2 := K2.lt
  have F2 := hide (F1.out.then f2)
  have FA : Hid (Fr [] w2 (w2.alloc (.cells #[.pointer (some ⟨ng, 0, none⟩), .int .i64 0, .int .i64 0, .bool false] 128))) := (Fr.refl _ _).alloc _
  have CH := hide (bchange_any _ W H ng nc cap sp _ gg gc gcap gsp g ⟨0, 0, false⟩ d (h2.fr0 FA.out) ((HG.out.fr0 F2.out).fr0 FA.out) HC.out HD.out)
  clear K2 h2 f2 BL n1 n2
  go_wp2_with fail
  refine CH.out.mono ?_
  rintro e w3 ⟨rfl, f3⟩
  have F3 := hide ((F2.out.alloc _).then f3)
  clear f3 CH
  have sz := SZ.out
  generalize strOfNums (change W H (List.replicate (W * H).toNat (32, 7)) g ⟨0, 0, false⟩ d) = rest at *
  go_wp2
  go_ret
  exact ⟨ret_str WS.out, F3.out⟩
end Go.Proofs.YtjhccghhinlmdabGreatDoor
