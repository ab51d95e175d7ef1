/- Package views' panes: a new one, and its offset. -/
import Derived.Test.YtjhccghhinlmdaaDoorPaintPane2
namespace Go.Proofs.YtjhccghhinlmdaaDoor
open Go.RowKit

/-- a new pane of this window is handed back -/
def PanePost (w : World) (o : Win) (e : Ending) (w' : World) : Prop :=
  ∃ p : Pane, p.o = o ∧ p.off = 0 ∧ e = .returned (.agg #[.int .i64 p.o.key, .int .i64 p.o.x, .int .i64 p.o.y, .int .i64 p.o.w, .int .i64 p.o.h, .int .i64 p.o.layer, .int .u8 p.o.style, .slice (some ⟨p.lb, 0, none⟩) p.ls.length p.lc, .int .i64 0]) ∧ w.heap.size ≤ p.lb ∧ PaneOk w' p ∧ Fr [] w w'

set_option maxHeartbeats 1000000 in
set_option maxRecDepth 100000 in
theorem newPane_any (o : Win) (w : World) (ok : o.Ok) :
    Calls Tryd.prog 47 #[.agg #[.int .i64 o.key, .int .i64 o.x, .int .i64 o.y, .int .i64 o.w, .int .i64 o.h, .int .i64 o.layer, .int .i64 o.style, .string o.text]] w (PanePost w o) := by
  have s1 := ok.s1
  have s2 := ok.s2
  have ht := ok.t
  have OK := hide ok
  clear ok
  go_enter Tryd.func47, Tryd.ntmps47
  go_wp2_with fail
  refine (cut_any o.text o.w _ ht).mono ?_
  rintro e w1 ⟨g, cap, rfl, h1, h2, f1⟩
  have F : Hid (Fr [] w w1) := (((Fr.refl _ _).alloc _).alloc _).then f1
  have B : Blk w1 w.heap.size [.int .i64 o.key, .int .i64 o.x, .int .i64 o.y, .int .i64 o.w, .int .i64 o.h, .int .i64 o.layer, .int .i64 o.style, .string o.text] 23 := ((Blk.new _ _ _).alloc _).fr0 f1
  have B2 : Blk w1 (w.heap.size + 1) [.int .i64 0, .int .i64 0, .int .i64 0, .int .i64 0, .int .i64 0, .int .i64 0, .int .u8 0, .slice none 0 0, .int .i64 0] 94 := by
    have := (Blk.new (w.alloc (.cells #[.int .i64 o.key, .int .i64 o.x, .int .i64 o.y, .int .i64 o.w, .int .i64 o.h, .int .i64 o.layer, .int .i64 o.style, .string o.text] 23)) [.int .i64 0, .int .i64 0, .int .i64 0, .int .i64 0, .int .i64 0, .int .i64 0, .int .u8 0, .slice none 0 0, .int .i64 0] 94).fr0 f1
    simpa using this
  have c0 : w1.cell? ⟨w.heap.size, 0, none⟩ = some (.int .i64 o.key) := B.cell 0
  have c1 : w1.cell? ⟨w.heap.size, 1, none⟩ = some (.int .i64 o.x) := B.cell 1
  have c2 : w1.cell? ⟨w.heap.size, 2, none⟩ = some (.int .i64 o.y) := B.cell 2
  have c3 : w1.cell? ⟨w.heap.size, 3, none⟩ = some (.int .i64 o.w) := B.cell 3
  have c4 : w1.cell? ⟨w.heap.size, 4, none⟩ = some (.int .i64 o.h) := B.cell 4
  have c5 : w1.cell? ⟨w.heap.size, 5, none⟩ = some (.int .i64 o.layer) := B.cell 5
  have c6 : w1.cell? ⟨w.heap.size, 6, none⟩ = some (.int .i64 o.style) := B.cell 6
  have d0 : w1.cell? ⟨w.heap.size + 1, 0, none⟩ = some (.int .i64 0) := B2.cell 0
  have d1 : w1.cell? ⟨w.heap.size + 1, 1, none⟩ = some (.int .i64 0) := B2.cell 1
  have d2 : w1.cell? ⟨w.heap.size + 1, 2, none⟩ = some (.int .i64 0) := B2.cell 2
  have d3 : w1.cell? ⟨w.heap.size + 1, 3, none⟩ = some (.int .i64 0) := B2.cell 3
  have d4 : w1.cell? ⟨w.heap.size + 1, 4, none⟩ = some (.int .i64 0) := B2.cell 4
  have d5 : w1.cell? ⟨w.heap.size + 1, 5, none⟩ = some (.int .i64 0) := B2.cell 5
  have d6 : w1.cell? ⟨w.heap.size + 1, 6, none⟩ = some (.int .u8 0) := B2.cell 6
  have d7 : w1.cell? ⟨w.heap.size + 1, 7, none⟩ = some (.slice none 0 0) := B2.cell 7
  have d8 : w1.cell? ⟨w.heap.size + 1, 8, none⟩ = some (.int .i64 0) := B2.cell 8
  have z0 := B2.frozen 0
  have z1 := B2.frozen 1
  have z2 := B2.frozen 2
  have z3 := B2.frozen 3
  have z4 := B2.frozen 4
  have z5 := B2.frozen 5
  have z6 := B2.frozen 6
  have z7 := B2.frozen 7
  have z8 := B2.frozen 8
  have PO : Hid (PaneOk w1 ⟨o, 0, g, cap⟩) := ⟨OK.out, Int.le_refl _, (show (0 : Int) ≤ 401 by decide), h2⟩
  have hg : Hid (w.heap.size ≤ g) := by show _ ≤ _; simp at h1; omega
  have HT : Hid ((w.heap.size + 1) ≠ g) := by
    obtain ⟨us, hu, _⟩ := h2
    exact fun e => (B2.ne (e ▸ hu) (by decide)) rfl
  clear B B2 f1 h1 h2
  go_wp2
  refine bodyPost_ret (v := .agg #[.int .i64 o.key, .int .i64 o.x, .int .i64 o.y, .int .i64 o.w, .int .i64 o.h, .int .i64 o.layer, .int .u8 o.style, .slice (some ⟨g, 0, none⟩) (cutF o.text o.w).length cap, .int .i64 0]) (by simp [results, Tryd.results47, go_sem, d0, d1, d2, d3, d4, d5, d6, d7, d8]) rfl ?_
  refine ⟨⟨o, 0, g, cap⟩, rfl, rfl, rfl, hg.out, ?_, ?_⟩
  · refine PO.out.fr (S := [w.heap.size + 1]) ?_ (by have := HT.out; simp; omega)
    exact (((((((((Fr.refl _ _).setCell (.inl (by simp)) _).setCell (.inl (by simp)) _).setCell (.inl (by simp)) _).setCell (.inl (by simp)) _).setCell (.inl (by simp)) _).setCell (.inl (by simp)) _).setCell (.inl (by simp)) _).setCell (.inl (by simp)) _).setCell (.inl (by simp)) _
  · exact (((((((((F.out).setCell (.inr (by simp)) _).setCell (.inr (by simp)) _).setCell (.inr (by simp)) _).setCell (.inr (by simp)) _).setCell (.inr (by simp)) _).setCell (.inr (by simp)) _).setCell (.inr (by simp)) _).setCell (.inr (by simp)) _).setCell (.inr (by simp)) _

set_option maxHeartbeats 1000000 in
set_option maxRecDepth 100000 in
theorem scrollTo_any (b c lb lc : Nat) (o : Win) (n : Int) (w : World) (vs : List Value) (ty : TypeId) (hb : Blk w b vs ty) (x : Int)
    (v4 : vs[c + 4]? = some (.int .i64 o.h)) (v7 : vs[c + 7]? = some (.slice (some ⟨lb, 0, none⟩) (cutF o.text o.w).length lc)) (v8 : vs[c + 8]? = some (.int .i64 x)) (ok : o.Ok) :
    Calls Tryd.prog 49 #[.pointer (some ⟨b, c, none⟩), .int .i64 n] w fun e w' => e = .returned (.tuple #[]) ∧ Fr [b] w w' ∧ Blk w' b (vs.set (c + 8) (.int .i64 (o.fits n))) ty := by
  have c4 : w.cell? ⟨b, c + 4, none⟩ = some (.int .i64 o.h) := (hb.cell _).trans v4
  have c7 : w.cell? ⟨b, c + 7, none⟩ = some (.slice (some ⟨lb, 0, none⟩) (cutF o.text o.w).length lc) := (hb.cell _).trans v7
  have c8 : w.cell? ⟨b, c + 8, none⟩ = some (.int .i64 x) := (hb.cell _).trans v8
  have z8 := hb.frozen (c + 8)
  have blt := hb.lt
  have l1 := cutF_length o.text o.w
  have l2 := ok.t
  have l3 := ok.h1
  have l4 := ok.h2
  have HB := hide hb
  have HF : Hid (o.fits n = if n > ((cutF o.text o.w).length : Int) - o.h then (if ((cutF o.text o.w).length : Int) - o.h < 0 then 0 else ((cutF o.text o.w).length : Int) - o.h) else if n < 0 then 0 else n) := rfl
  clear hb v4 v7 v8 ok
  generalize (cutF o.text o.w).length = L at *
  have fin : Hid (∀ v : Int, o.fits n = v → ∀ k : Nat, Fr [b] w ((w.drewN k).setCell ⟨b, c + 8, none⟩ (.int .i64 v)) ∧ Blk ((w.drewN k).setCell ⟨b, c + 8, none⟩ (.int .i64 v)) b (vs.set (c + 8) (.int .i64 (o.fits n))) ty) := by
    intro v hv k
    exact ⟨((Fr.refl _ _).drewN k).setCell (.inl (by simp)) _, by rw [hv]; exact (HB.out.drewN k).set _ _⟩
  by_cases h1 : n > (L : Int) - o.h
  · by_cases h2 : (L : Int) - o.h < 0
    · have E : Hid (o.fits n = 0) := by show _ = _; rw [HF.out, if_pos h1, if_pos h2]
      clear HF
      go_enter Tryd.func49, Tryd.ntmps49
      go_wp2
      go_quiet (fail)
      go_wp2
      go_end0
      exact ⟨rfl, fin.out _ E.out _⟩
    · have E : Hid (o.fits n = (L : Int) - o.h) := by show _ = _; rw [HF.out, if_pos h1, if_neg h2]
      clear HF
      go_enter Tryd.func49, Tryd.ntmps49
      go_wp2
      go_quiet (fail)
      go_wp2
      go_end0
      exact ⟨rfl, fin.out _ E.out _⟩
  · by_cases h2 : n < 0
    · have E : Hid (o.fits n = 0) := by show _ = _; rw [HF.out, if_neg h1, if_pos h2]
      clear HF
      go_enter Tryd.func49, Tryd.ntmps49
      go_wp2
      go_quiet (fail)
      go_wp2
      go_end0
      exact ⟨rfl, fin.out _ E.out _⟩
    · have E : Hid (o.fits n = n) := by show _ = _; rw [HF.out, if_neg h1, if_neg h2]
      clear HF
      go_enter Tryd.func49, Tryd.ntmps49
      go_wp2
      go_quiet (fail)
      go_wp2
      go_end0
      exact ⟨rfl, fin.out _ E.out _⟩
end Go.Proofs.YtjhccghhinlmdaaDoor
