/- Package views' View: the pane in front, and what is to be seen of a view. -/
import Derived.Test.YtjhccghhinlmdaaDoorPaintPane3
namespace Go.Proofs.YtjhccghhinlmdaaDoor
open Go.RowKit

/-- nine cells of a block are written -/
theorem Blk.set9 {w : World} {b : Nat} {ty : TypeId} {a0 a1 a2 a3 a4 a5 a6 a7 a8 : Value} (v0 v1 v2 v3 v4 v5 v6 v7 v8 : Value) (h : Blk w b [a0, a1, a2, a3, a4, a5, a6, a7, a8] ty) :
    Blk ((((((((((w).setCell ⟨b, 0, none⟩ v0).setCell ⟨b, 1, none⟩ v1).setCell ⟨b, 2, none⟩ v2).setCell ⟨b, 3, none⟩ v3).setCell ⟨b, 4, none⟩ v4).setCell ⟨b, 5, none⟩ v5).setCell ⟨b, 6, none⟩ v6).setCell ⟨b, 7, none⟩ v7).setCell ⟨b, 8, none⟩ v8) b [v0, v1, v2, v3, v4, v5, v6, v7, v8] ty :=
  ((((((((h.set 0 v0).set 1 v1).set 2 v2).set 3 v3).set 4 v4).set 5 v5).set 6 v6).set 7 v7).set 8 v8
theorem Fr.set9 {S : List Nat} {a w : World} {b : Nat} (h : Fr S a w) (hp : b ∈ S ∨ a.heap.size ≤ b) (v0 v1 v2 v3 v4 v5 v6 v7 v8 : Value) : Fr S a ((((((((((w).setCell ⟨b, 0, none⟩ v0).setCell ⟨b, 1, none⟩ v1).setCell ⟨b, 2, none⟩ v2).setCell ⟨b, 3, none⟩ v3).setCell ⟨b, 4, none⟩ v4).setCell ⟨b, 5, none⟩ v5).setCell ⟨b, 6, none⟩ v6).setCell ⟨b, 7, none⟩ v7).setCell ⟨b, 8, none⟩ v8) :=
  ((((((((h.setCell (p := ⟨b, 0, none⟩) hp v0).setCell (p := ⟨b, 1, none⟩) hp v1).setCell (p := ⟨b, 2, none⟩) hp v2).setCell (p := ⟨b, 3, none⟩) hp v3).setCell (p := ⟨b, 4, none⟩) hp v4).setCell (p := ⟨b, 5, none⟩) hp v5).setCell (p := ⟨b, 6, none⟩) hp v6).setCell (p := ⟨b, 7, none⟩) hp v7).setCell (p := ⟨b, 8, none⟩) hp v8

def Pane.wo (p : Pane) : Win × Int := (p.o, p.off)
def view (ps : List Pane) : V := ps.map Pane.wo
theorem view_at {ps : List Pane} {i : Nat} {p : Pane} (h : ps[i]? = some p) : (view ps).at i = (p.o, p.off) := V.at_eq (by simp [view, h, Pane.wo])

theorem PCells.fr {w w' : World} {S : List Nat} {b c : Nat} {p : Pane} (h : PCells w b c p) (f : Fr S w w') (hn : b ∉ S) : PCells w' b c p := by
  have k : ∀ {off : Nat} {v : Value}, w.cell? ⟨b, off, none⟩ = some v → w'.cell? ⟨b, off, none⟩ = some v := by
    intro off v hq
    rw [← hq]; exact World.cell?_of_block (w := w) (f.block b (World.block_lt_of_cell? w _ hq) hn)
  exact ⟨k h.c0, k h.c1, k h.c2, k h.c3, k h.c4, k h.c5, k h.c6, k h.c7, k h.c8⟩
theorem PCells.of {w : World} {b : Nat} {ty : TypeId} {p : Pane} (h : Blk w b p.vals ty) : PCells w b 0 p :=
  ⟨h.cell 0, h.cell 1, h.cell 2, h.cell 3, h.cell 4, h.cell 5, h.cell 6, h.cell 7, h.cell 8⟩

/-- panes lie one behind the other -/
def PanesAt (w : World) (av : Option Addr) (ps : List Pane) : Prop := ∀ (i : Nat) p, ps[i]? = some p → ∃ g, av = some ⟨g, 0, none⟩ ∧ PCells w g (i * 9) p ∧ PaneOk w p
theorem PanesAt.fr {w w' : World} {S : List Nat} {av : Option Addr} {ps : List Pane} (h : PanesAt w av ps) (f : Fr S w w') (h1 : ∀ a, av = some a → a.block ∉ S) (h2 : ∀ p ∈ ps, p.lb ∉ S) : PanesAt w' av ps := by
  intro i p hp
  obtain ⟨g, rfl, c, k⟩ := h i p hp
  exact ⟨g, rfl, c.fr f (h1 _ rfl), k.fr f (h2 p (List.mem_of_getElem? hp))⟩
theorem PanesAt.fr0 {w w' : World} {av : Option Addr} {ps : List Pane} (h : PanesAt w av ps) (f : Fr [] w w') : PanesAt w' av ps := h.fr f (by simp) (by simp)

def zeroP : List Value := [.int .i64 0, .int .i64 0, .int .i64 0, .int .i64 0, .int .i64 0, .int .i64 0, .int .u8 0, .slice none 0 0, .int .i64 0]
/-- what front tells -/
def FrontPost (w : World) (ps : List Pane) (x y : Int) (e : Ending) (w' : World) : Prop :=
  Fr [] w w' ∧ (((view ps).best x y ps.length = none ∧ e = .returned (.tuple #[.agg #[.int .i64 0, .int .i64 0, .int .i64 0, .int .i64 0, .int .i64 0, .int .i64 0, .int .u8 0, .slice none 0 0, .int .i64 0], .bool false])) ∨
    ∃ j p, (view ps).best x y ps.length = some j ∧ ps[j]? = some p ∧ e = .returned (.tuple #[.agg #[.int .i64 p.o.key, .int .i64 p.o.x, .int .i64 p.o.y, .int .i64 p.o.w, .int .i64 p.o.h, .int .i64 p.o.layer, .int .u8 p.o.style, .slice (some ⟨p.lb, 0, none⟩) p.ls.length p.lc, .int .i64 p.off], .bool true]))

/-- the pane in front of the first k, as its block tells -/
def FrontAt (w : World) (F : Nat) (ps : List Pane) (x y : Int) (k : Nat) (found : Value) : Prop :=
  ((view ps).best x y k = none ∧ found = .bool false ∧ Blk w F zeroP 94) ∨ ∃ j p, (view ps).best x y k = some j ∧ ps[j]? = some p ∧ found = .bool true ∧ Blk w F p.vals 94
theorem FrontAt.fr {w w' : World} {F : Nat} {ps : List Pane} {x y : Int} {k : Nat} {v : Value} (h : FrontAt w F ps x y k v) (f : Fr [] w w') : FrontAt w' F ps x y k v := by
  rcases h with ⟨h1, h2, h3⟩ | ⟨j, p, h1, h2, h3, h4⟩
  · exact .inl ⟨h1, h2, h3.fr0 f⟩
  · exact .inr ⟨j, p, h1, h2, h3, h4.fr0 f⟩

set_option maxHeartbeats 4000000 in
set_option maxRecDepth 100000 in
theorem front_any (b c : Nat) (av : Option Addr) (cap : Nat) (ps : List Pane) (x y : Int) (w : World) (h0 : w.cell? ⟨b, c, none⟩ = some (.slice av ps.length cap)) (h : PanesAt w av ps) (hn : ps.length ≤ 12) (x1 : 0 ≤ x) (x2 : x ≤ 40) (y1 : 0 ≤ y) (y2 : y ≤ 20) :
    Calls Tryd.prog 65 #[.pointer (some ⟨b, c, none⟩), .int .i64 x, .int .i64 y] w (FrontPost w ps x y) := by
  have H := hide h
  clear h
  go_enter Tryd.func65, Tryd.ntmps65
  go_wp2
  go_loopw [9, 10] (fun fnd i wr => ∃ k : Nat, i = .int .i64 k ∧ k ≤ ps.length ∧ Fr [] w wr ∧ Blk wr w.heap.size zeroP 94 ∧ FrontAt wr (w.heap.size + 1) ps x y k fnd) (fun _ i _ => (3000 - intOf i).toNat)
  case atStart =>
    refine ⟨0, rfl, by omega, ((Fr.refl _ _).alloc _).alloc _, (Blk.new _ zeroP _).alloc _, .inl ⟨rfl, rfl, ?_⟩⟩
    have := Blk.new (w.alloc (.cells zeroP.toArray 94)) zeroP 94
    rw [World.size_alloc] at this
    exact this
  case round =>
    obtain ⟨k, rfl, hk, f, hres, hfr⟩ := hrel
    have d0 : wr.cell? ⟨b, c, none⟩ = some (.slice av ps.length cap) := by
      rw [← h0]; exact World.cell?_of_block (w := w) (f.block b (World.block_lt_of_cell? w _ h0) (by simp))
    have hsz := f.size
    have hF : w.heap.size + 1 < wr.heap.size := by
      rcases hfr with ⟨_, _, q⟩ | ⟨_, _, _, _, _, q⟩ <;> exact q.lt
    by_cases hend : k < ps.length
    · obtain ⟨p, hp⟩ : ∃ p, ps[k]? = some p := ⟨_, List.getElem?_eq_getElem hend⟩
      obtain ⟨g, rfl, C, OK⟩ := H.out.fr0 f k p hp
      have blt : g < wr.heap.size := World.block_lt_of_cell? wr _ C.c0
      obtain ⟨c0, c1, c2, c3, c4, c5, c6, c7, c8⟩ := C
      have AT := hide (view_at hp)
      have CV : Hid (Calls Tryd.prog 77 #[.pointer (some ⟨wr.heap.size, 0, none⟩), .int .i64 x, .int .i64 y] (wr.alloc (.cells #[.int .i64 p.o.key, .int .i64 p.o.x, .int .i64 p.o.y, .int .i64 p.o.w, .int .i64 p.o.h, .int .i64 p.o.layer, .int .u8 p.o.style, .slice (some ⟨p.lb, 0, none⟩) p.ls.length p.lc, .int .i64 p.off] 94)) fun e w' => e = .returned (.bool (p.o.has x y)) ∧ ∃ n, w' = (wr.alloc (.cells #[.int .i64 p.o.key, .int .i64 p.o.x, .int .i64 p.o.y, .int .i64 p.o.w, .int .i64 p.o.h, .int .i64 p.o.layer, .int .u8 p.o.style, .slice (some ⟨p.lb, 0, none⟩) p.ls.length p.lc, .int .i64 p.off] 94)).drewN n) :=
        covers_any wr.heap.size 0 p x y _ (PCells.of (Blk.new wr p.vals 94)) OK.ok x1 x2 y1 y2
      have F2 : Hid (∀ n, Fr [] wr ((wr.alloc (.cells #[.int .i64 p.o.key, .int .i64 p.o.x, .int .i64 p.o.y, .int .i64 p.o.w, .int .i64 p.o.h, .int .i64 p.o.layer, .int .u8 p.o.style, .slice (some ⟨p.lb, 0, none⟩) p.ls.length p.lc, .int .i64 p.off] 94)).drewN n)) := fun n => ((Fr.refl _ _).alloc _).drewN n
      have b1 : (k : Int) < ps.length := by omega
      have HR := hide hres
      have HP := hide hp
      clear hres hp H OK
      have BS : Hid ((view ps).best x y (k + 1) = match (view ps).best x y k with
        | none => if ((view ps).at k).1.has x y then some k else none
        | some j => if ((view ps).at k).1.has x y && decide (((view ps).at j).1.layer ≤ ((view ps).at k).1.layer) then some k else some j) := rfl
      rw [AT.out] at BS
      rcases hfr with ⟨q1, rfl, q3⟩ | ⟨j, q, q1, q2, rfl, q3⟩
      · rw [q1] at BS
        have Q3 := hide q3
        have z0 := q3.frozen 0
        have z1 := q3.frozen 1
        have z2 := q3.frozen 2
        have z3 := q3.frozen 3
        have z4 := q3.frozen 4
        have z5 := q3.frozen 5
        have z6 := q3.frozen 6
        have z7 := q3.frozen 7
        have z8 := q3.frozen 8
        have a0 : wr.cell? ⟨w.heap.size + 1, 0, none⟩ = some (.int .i64 0) := q3.cell 0
        have a1 : wr.cell? ⟨w.heap.size + 1, 1, none⟩ = some (.int .i64 0) := q3.cell 1
        have a2 : wr.cell? ⟨w.heap.size + 1, 2, none⟩ = some (.int .i64 0) := q3.cell 2
        have a3 : wr.cell? ⟨w.heap.size + 1, 3, none⟩ = some (.int .i64 0) := q3.cell 3
        have a4 : wr.cell? ⟨w.heap.size + 1, 4, none⟩ = some (.int .i64 0) := q3.cell 4
        have a5 : wr.cell? ⟨w.heap.size + 1, 5, none⟩ = some (.int .i64 0) := q3.cell 5
        have a6 : wr.cell? ⟨w.heap.size + 1, 6, none⟩ = some (.int .u8 0) := q3.cell 6
        have a7 : wr.cell? ⟨w.heap.size + 1, 7, none⟩ = some (.slice none 0 0) := q3.cell 7
        have a8 : wr.cell? ⟨w.heap.size + 1, 8, none⟩ = some (.int .i64 0) := q3.cell 8
        clear q3 q1
        by_cases hh : p.o.has x y = true
        · have B1 : Hid ((view ps).best x y (k + 1) = some k) := by
            have := BS.out; simp only [hh, if_true] at this; exact this
          rw [hh] at CV
          clear BS hh
          go_wp2_with (go_at_call 77; refine CV.out.mono ?_; rintro e w2 ⟨rfl, nq, rfl⟩)
          go_roundw
          case rel =>
            refine ⟨k + 1, by go_num, by omega, (f.then (F2.out nq)).set9 (.inr (by omega)) _ _ _ _ _ _ _ _ _, ?_, .inr ⟨k, p, B1.out, HP.out, rfl, ?_⟩⟩
            · exact (HR.out.fr0 (F2.out nq)).fr (S := [w.heap.size + 1]) ((Fr.refl _ _).set9 (.inl (by simp)) _ _ _ _ _ _ _ _ _) (by simp)
            · exact Blk.set9 _ _ _ _ _ _ _ _ _ (Q3.out.fr0 (F2.out nq))
          case measure => simp [intOf]; omega
        · have hh' : p.o.has x y = false := by simpa using hh
          have B1 : Hid ((view ps).best x y (k + 1) = none) := by
            have := BS.out; simp [hh'] at this; exact this
          rw [hh'] at CV
          clear BS hh hh'
          go_wp2_with (go_at_call 77; refine CV.out.mono ?_; rintro e w2 ⟨rfl, nq, rfl⟩)
          go_roundw
          case rel => exact ⟨k + 1, by go_num, by omega, f.then (F2.out nq), HR.out.fr0 (F2.out nq), .inl ⟨B1.out, rfl, Q3.out.fr0 (F2.out nq)⟩⟩
          case measure => simp [intOf]; omega
      · rw [q1] at BS
        simp only [view_at q2] at BS
        have Q2 := hide q2
        have Q3 := hide q3
        have z0 := q3.frozen 0
        have z1 := q3.frozen 1
        have z2 := q3.frozen 2
        have z3 := q3.frozen 3
        have z4 := q3.frozen 4
        have z5 := q3.frozen 5
        have z6 := q3.frozen 6
        have z7 := q3.frozen 7
        have z8 := q3.frozen 8
        have a0 : wr.cell? ⟨w.heap.size + 1, 0, none⟩ = some (.int .i64 q.o.key) := q3.cell 0
        have a1 : wr.cell? ⟨w.heap.size + 1, 1, none⟩ = some (.int .i64 q.o.x) := q3.cell 1
        have a2 : wr.cell? ⟨w.heap.size + 1, 2, none⟩ = some (.int .i64 q.o.y) := q3.cell 2
        have a3 : wr.cell? ⟨w.heap.size + 1, 3, none⟩ = some (.int .i64 q.o.w) := q3.cell 3
        have a4 : wr.cell? ⟨w.heap.size + 1, 4, none⟩ = some (.int .i64 q.o.h) := q3.cell 4
        have a5 : wr.cell? ⟨w.heap.size + 1, 5, none⟩ = some (.int .i64 q.o.layer) := q3.cell 5
        have a6 : wr.cell? ⟨w.heap.size + 1, 6, none⟩ = some (.int .u8 q.o.style) := q3.cell 6
        have a7 : wr.cell? ⟨w.heap.size + 1, 7, none⟩ = some (.slice (some ⟨q.lb, 0, none⟩) q.ls.length q.lc) := q3.cell 7
        have a8 : wr.cell? ⟨w.heap.size + 1, 8, none⟩ = some (.int .i64 q.off) := q3.cell 8
        clear q3 q2
        by_cases hh : p.o.has x y = true
        · rw [hh] at CV
          by_cases hl : q.o.layer ≤ p.o.layer
          · have B1 : Hid ((view ps).best x y (k + 1) = some k) := by
              have := BS.out; simp [hh, hl] at this; exact this
            clear BS hh q1
            go_wp2_with (go_at_call 77; refine CV.out.mono ?_; rintro e w2 ⟨rfl, nq, rfl⟩)
            go_roundw
            case rel =>
              refine ⟨k + 1, by go_num, by omega, (f.then (F2.out nq)).set9 (.inr (by omega)) _ _ _ _ _ _ _ _ _, ?_, .inr ⟨k, p, B1.out, HP.out, rfl, ?_⟩⟩
              · exact (HR.out.fr0 (F2.out nq)).fr (S := [w.heap.size + 1]) ((Fr.refl _ _).set9 (.inl (by simp)) _ _ _ _ _ _ _ _ _) (by simp)
              · exact Blk.set9 _ _ _ _ _ _ _ _ _ (Q3.out.fr0 (F2.out nq))
            case measure => simp [intOf]; omega
          · have B1 : Hid ((view ps).best x y (k + 1) = some j) := by
              have := BS.out; simp [hl] at this; exact this
            clear BS hh q1
            go_wp2_with (go_at_call 77; refine CV.out.mono ?_; rintro e w2 ⟨rfl, nq, rfl⟩)
            go_roundw
            case rel => exact ⟨k + 1, by go_num, by omega, f.then (F2.out nq), HR.out.fr0 (F2.out nq), .inr ⟨j, q, B1.out, Q2.out, rfl, Q3.out.fr0 (F2.out nq)⟩⟩
            case measure => simp [intOf]; omega
        · have hh' : p.o.has x y = false := by simpa using hh
          have B1 : Hid ((view ps).best x y (k + 1) = some j) := by
            have := BS.out; simp [hh'] at this; exact this
          rw [hh'] at CV
          clear BS hh hh' q1
          go_wp2_with (go_at_call 77; refine CV.out.mono ?_; rintro e w2 ⟨rfl, nq, rfl⟩)
          go_roundw
          case rel => exact ⟨k + 1, by go_num, by omega, f.then (F2.out nq), HR.out.fr0 (F2.out nq), .inr ⟨j, q, B1.out, Q2.out, rfl, Q3.out.fr0 (F2.out nq)⟩⟩
          case measure => simp [intOf]; omega
    · have hk' : k = ps.length := by omega
      subst hk'
      have z0 := hres.frozen 0
      have z1 := hres.frozen 1
      have z2 := hres.frozen 2
      have z3 := hres.frozen 3
      have z4 := hres.frozen 4
      have z5 := hres.frozen 5
      have z6 := hres.frozen 6
      have z7 := hres.frozen 7
      have z8 := hres.frozen 8
      have e0 : wr.cell? ⟨w.heap.size, 0, none⟩ = some (.int .i64 0) := hres.cell 0
      have e1 : wr.cell? ⟨w.heap.size, 1, none⟩ = some (.int .i64 0) := hres.cell 1
      have e2 : wr.cell? ⟨w.heap.size, 2, none⟩ = some (.int .i64 0) := hres.cell 2
      have e3 : wr.cell? ⟨w.heap.size, 3, none⟩ = some (.int .i64 0) := hres.cell 3
      have e4 : wr.cell? ⟨w.heap.size, 4, none⟩ = some (.int .i64 0) := hres.cell 4
      have e5 : wr.cell? ⟨w.heap.size, 5, none⟩ = some (.int .i64 0) := hres.cell 5
      have e6 : wr.cell? ⟨w.heap.size, 6, none⟩ = some (.int .u8 0) := hres.cell 6
      have e7 : wr.cell? ⟨w.heap.size, 7, none⟩ = some (.slice none 0 0) := hres.cell 7
      have e8 : wr.cell? ⟨w.heap.size, 8, none⟩ = some (.int .i64 0) := hres.cell 8
      clear hres hend H
      rcases hfr with ⟨q1, rfl, q3⟩ | ⟨j, q, q1, q2, rfl, q3⟩
      · have Q1 := hide q1
        have a0 : wr.cell? ⟨w.heap.size + 1, 0, none⟩ = some (.int .i64 0) := q3.cell 0
        have a1 : wr.cell? ⟨w.heap.size + 1, 1, none⟩ = some (.int .i64 0) := q3.cell 1
        have a2 : wr.cell? ⟨w.heap.size + 1, 2, none⟩ = some (.int .i64 0) := q3.cell 2
        have a3 : wr.cell? ⟨w.heap.size + 1, 3, none⟩ = some (.int .i64 0) := q3.cell 3
        have a4 : wr.cell? ⟨w.heap.size + 1, 4, none⟩ = some (.int .i64 0) := q3.cell 4
        have a5 : wr.cell? ⟨w.heap.size + 1, 5, none⟩ = some (.int .i64 0) := q3.cell 5
        have a6 : wr.cell? ⟨w.heap.size + 1, 6, none⟩ = some (.int .u8 0) := q3.cell 6
        have a7 : wr.cell? ⟨w.heap.size + 1, 7, none⟩ = some (.slice none 0 0) := q3.cell 7
        have a8 : wr.cell? ⟨w.heap.size + 1, 8, none⟩ = some (.int .i64 0) := q3.cell 8
        clear q3 q1
        go_wp2
        refine bodyPost_ret (v := .tuple #[.agg #[.int .i64 0, .int .i64 0, .int .i64 0, .int .i64 0, .int .i64 0, .int .i64 0, .int .u8 0, .slice none 0 0, .int .i64 0], .bool false]) (by simp [results, Tryd.results65, go_sem, e0, e1, e2, e3, e4, e5, e6, e7, e8]) rfl ?_
        exact ⟨f.set9 (.inr (by omega)) _ _ _ _ _ _ _ _ _, .inl ⟨Q1.out, rfl⟩⟩
      · have Q1 := hide q1
        have Q2 := hide q2
        have a0 : wr.cell? ⟨w.heap.size + 1, 0, none⟩ = some (.int .i64 q.o.key) := q3.cell 0
        have a1 : wr.cell? ⟨w.heap.size + 1, 1, none⟩ = some (.int .i64 q.o.x) := q3.cell 1
        have a2 : wr.cell? ⟨w.heap.size + 1, 2, none⟩ = some (.int .i64 q.o.y) := q3.cell 2
        have a3 : wr.cell? ⟨w.heap.size + 1, 3, none⟩ = some (.int .i64 q.o.w) := q3.cell 3
        have a4 : wr.cell? ⟨w.heap.size + 1, 4, none⟩ = some (.int .i64 q.o.h) := q3.cell 4
        have a5 : wr.cell? ⟨w.heap.size + 1, 5, none⟩ = some (.int .i64 q.o.layer) := q3.cell 5
        have a6 : wr.cell? ⟨w.heap.size + 1, 6, none⟩ = some (.int .u8 q.o.style) := q3.cell 6
        have a7 : wr.cell? ⟨w.heap.size + 1, 7, none⟩ = some (.slice (some ⟨q.lb, 0, none⟩) q.ls.length q.lc) := q3.cell 7
        have a8 : wr.cell? ⟨w.heap.size + 1, 8, none⟩ = some (.int .i64 q.off) := q3.cell 8
        clear q3 q1 q2
        go_wp2
        refine bodyPost_ret (v := .tuple #[.agg #[.int .i64 q.o.key, .int .i64 q.o.x, .int .i64 q.o.y, .int .i64 q.o.w, .int .i64 q.o.h, .int .i64 q.o.layer, .int .u8 q.o.style, .slice (some ⟨q.lb, 0, none⟩) q.ls.length q.lc, .int .i64 q.off], .bool true]) (by simp [results, Tryd.results65, go_sem, e0, e1, e2, e3, e4, e5, e6, e7, e8]) rfl ?_
        exact ⟨f.set9 (.inr (by omega)) _ _ _ _ _ _ _ _ _, .inr ⟨j, q, Q1.out, Q2.out, rfl⟩⟩
end Go.Proofs.YtjhccghhinlmdaaDoor
