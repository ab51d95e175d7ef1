/- The brush walked: what it writes is gathered in a row of its own. -/
import Derived.Test.YtjhccghhinlmdaaDoorBrushItoa
import Derived.Test.YtjhccghhinlmdaaDoorCellsRow
import Derived.Test.YtjhccghhinlmdaaDoorCellsAt
namespace Go.Proofs.YtjhccghhinlmdaaDoor
open Go.RowKit

theorem ret_str {a b : ByteArray} (h : a = b) : Ending.returned (.string a) = .returned (.string b) := by rw [h]
/-- a brush lies at block bb, its bytes in a row of its own, both from base on -/
structure BrAt (w : World) (base bb : Nat) (b : B) : Prop where
  row : ∃ v, Blk w bb [v, .int .i64 b.x, .int .i64 b.y, .int .u8 b.pen] 115 ∧ w.ownsRow base 5 1 v b.bytes.length (b.bytes.map (Value.int .u8))
  ge : base ≤ bb
theorem BrAt.lt {w : World} {base bb : Nat} {b : B} (h : BrAt w base bb b) : bb < w.heap.size := by
  obtain ⟨v, hb, _⟩ := h.row; exact hb.lt
theorem BrAt.fr0 {w w' : World} {base bb : Nat} {b : B} (h : BrAt w base bb b) (f : Fr [] w w') : BrAt w' base bb b := by
  obtain ⟨⟨v, hb, ho⟩, hg⟩ := h; exact ⟨⟨v, hb.fr0 f, own_fr0 ho f⟩, hg⟩
theorem below_fr {B : Nat} {a b : World} (h : Below B a b) (hB : a.heap.size ≤ B) : Fr [] a b := ⟨h.os, h.tape, h.output, h.size, fun k hk _ => h.block k (by omega)⟩
theorem Fr.toBelow {B : Nat} {a b : World} (h : Fr [] a b) (hB : B ≤ a.heap.size) : Below B a b := h.below hB (by simp)
theorem below_set {B : Nat} {a b : World} (h : Below B a b) {p : Addr} (hp : B ≤ p.block) (v : Value) : Below B a (b.setCell p v) :=
  h.trans ⟨rfl, rfl, rfl, by simp, fun k hk => heap_setCell_other b p k v (by omega)⟩
theorem Blk.below {w w' : World} {B b : Nat} {vs : List Value} {ty : TypeId} (h : Blk w b vs ty) (k : Below B w w') (hb : b < B) : Blk w' b vs ty := (k.block b hb).trans h
theorem Grid.below {w w' : World} {B bg bc cap : Nat} {sp : List Value} {W H : Int} {l : List (Int × Int)} (g : Grid w bg bc cap sp W H l) (k : Below B w w') (h1 : bg < B) (h2 : bc < B) : Grid w' bg bc cap sp W H l :=
  ⟨g.hd.below k h1, g.row.below k h2, g.w1, g.w2, g.h1, g.h2, g.len, g.capLe⟩
theorem own_below {w w1 : World} {base : Nat} {e : TypeId} {size : Nat} {v : Value} {n : Nat} {xs : List Value} (h : w.ownsRow base e size v n xs) (hB : base ≤ w.heap.size) (hg : w.grownBy w1 v.ownBlock) : Below base w w1 :=
  ⟨hg.os, hg.tape, hg.output, hg.size, fun k hk => hg.block k (by omega) (fun e => by have := (h.lt k e.symm).1; omega)⟩
theorem own_slice {w : World} {base : Nat} {e : TypeId} {size : Nat} {v : Value} {n : Nat} {xs : List Value} (h : w.ownsRow base e size v n xs) : ∃ sa sn sc, v = .slice sa sn sc := by
  rcases h.2 with ⟨rfl, _⟩ | ⟨g, cap, cur, rfl, _⟩
  · exact ⟨_, _, _, rfl⟩
  · exact ⟨_, _, _, rfl⟩
/-- what lies below base has not turned, nor has any block but of brushes and bytes -/
structure Keeps (base : Nat) (w w' : World) : Prop where
  below : Below base w w'
  blk : ∀ k us ty, Blk w k us ty → ty ≠ 115 → ty ≠ 5 → Blk w' k us ty
theorem Keeps.refl (base : Nat) (w : World) : Keeps base w w := ⟨Below.refl _ _, fun _ _ _ h _ _ => h⟩
theorem Keeps.trans {base : Nat} {a b c : World} (h : Keeps base a b) (k : Keeps base b c) : Keeps base a c := ⟨h.below.trans k.below, fun i us ty hb h1 h2 => k.blk i us ty (h.blk i us ty hb h1 h2) h1 h2⟩
theorem Fr.keeps {base : Nat} {a b : World} (h : Fr [] a b) (hB : base ≤ a.heap.size) : Keeps base a b := ⟨h.toBelow hB, fun _ _ _ hb _ _ => hb.fr0 h⟩
theorem Keeps.set {base : Nat} {a b : World} (h : Keeps base a b) {p : Addr} (hp : base ≤ p.block) {us : List Value} (hb : Blk b p.block us 115) (v : Value) : Keeps base a (b.setCell p v) :=
  h.trans ⟨below_set (Below.refl _ _) hp v, fun _ _ _ hk h1 _ => hk.setOther (hk.ne hb h1) v⟩
theorem own_keeps {w w1 : World} {base : Nat} {size : Nat} {v : Value} {n : Nat} {xs : List Value} (h : w.ownsRow base 5 size v n xs) (hB : base ≤ w.heap.size) (hg : w.grownBy w1 v.ownBlock) : Keeps base w w1 :=
  ⟨own_below h hB hg, fun _ _ _ hk _ h2 => hk.grown hg (own_ne h hk h2)⟩
theorem strCells_nums (s : ByteArray) : Lib.strCells s = (nums s).map (Value.int .u8) := by simp [Lib.strCells, nums]

set_option maxHeartbeats 1000000 in
set_option maxRecDepth 100000 in
theorem badd_any (s : ByteArray) (w : World) (base bb : Nat) (b : B) (h : BrAt w base bb b) (hl : b.bytes.length ≤ 100000) (hs : s.size ≤ 100000) :
    Calls Tryd.prog 76 #[.pointer (some ⟨bb, 0, none⟩), .string s] w fun e w' => e = .returned (.tuple #[]) ∧ Keeps base w w' ∧ BrAt w' base bb { b with bytes := b.bytes ++ nums s } := by
  obtain ⟨⟨v, hb, ho⟩, hge⟩ := h
  obtain ⟨i0, hi, hz0, hz1, hz2⟩ := info_parts info_u8
  have c0 : w.cell? ⟨bb, 0, none⟩ = some v := hb.cell 0
  have lt := hb.lt
  have HB := hide hb
  have HO := hide ho
  clear hb ho
  go_enter Tryd.func76, Tryd.ntmps76
  go_wp2_with (at_builtin; refine Lib.wpList_append_own_string _ rfl (.tmp 8) (.tmp 9) 66 9 rfl base 5 i0 Tryd.underlying66 Tryd.underlying9 hi hz0 hz1 hz2 v b.bytes.length (b.bytes.map (Value.int .u8)) rfl HO.out s rfl (by unfold maxLen; omega) (by omega) (by omega) ?_; intro v1 w1 hown1 hgrow hnil; obtain ⟨sa, sn, sc, e1⟩ := own_slice hown1; subst e1; have b1 : Blk w1 bb [v, .int .i64 b.x, .int .i64 b.y, .int .u8 b.pen] 115 := HB.out.grown hgrow (own_ne HO.out HB.out (by decide)); have c0n : w1.cell? ⟨bb, 0, none⟩ = some v := b1.cell 0; have f0n := b1.frozen 0; have HL : Hid (Keeps base w w1) := own_keeps HO.out (by omega) hgrow; have HB1 := hide b1; have HO1 := hide hown1; clear b1 hown1 hgrow hnil)
  go_end0
  refine ⟨rfl, HL.out.set hge HB1.out _, ⟨.slice sa sn sc, HB1.out.set 0 _, ?_⟩, hge⟩
  have := HO1.out
  rw [strCells_nums, ← List.map_append, show b.bytes.length + s.size = (b.bytes ++ nums s).length by rw [List.length_append, nums_length]] at this
  exact own_fr (S := [bb]) this ((Fr.refl _ _).setCell (.inl (by simp)) _) (by intro x hx; simp at hx; subst hx; exact own_ne this HB1.out (by decide))

set_option maxHeartbeats 1000000 in
set_option maxRecDepth 100000 in
theorem bwrite_any (c : Int) (w : World) (base bb : Nat) (b : B) (h : BrAt w base bb b) (hl : b.bytes.length ≤ 100000) (x0 : -2 ≤ b.x) (x1 : b.x ≤ 100) :
    Calls Tryd.prog 75 #[.pointer (some ⟨bb, 0, none⟩), .int .u8 c] w fun e w' => e = .returned (.tuple #[]) ∧ Keeps base w w' ∧ BrAt w' base bb (b.write c) := by
  obtain ⟨⟨v, hb, ho⟩, hge⟩ := h
  obtain ⟨i0, hi, hz0, hz1, hz2⟩ := info_parts info_u8
  have c0 : w.cell? ⟨bb, 0, none⟩ = some v := hb.cell 0
  have lt := hb.lt
  have HB := hide hb
  have HO := hide ho
  clear hb ho
  go_enter Tryd.func75, Tryd.ntmps75
  go_wp2_with (at_builtin; refine wpList_append_lies _ rfl (.tmp 8) (.tmp 10) 66 rfl base 5 i0 (.int .u8 0) 1 1 Tryd.underlying66 hi hz0 hz1 hz2 rfl (by decide) v b.bytes.length (b.bytes.map (Value.int .u8)) rfl (own_fr0 HO.out ((Fr.refl _ _).alloc _)) ⟨w.heap.size, 0, none⟩ 1 1 [.int .u8 c] rfl rfl (World.news_of_block (cs := #[.int .u8 c]) (t := 5) (fr := (0, 0)) (by exact heap_alloc_new w _)) (one_one _ rfl) (by omega) (by unfold maxLen; omega) (by omega) (by simp; omega) (w.heap.size + 1) (by simp) ?_; intro g1 cap1 w1 hown1 hgrow hat hlt; have b1 : Blk w1 bb [v, .int .i64 b.x, .int .i64 b.y, .int .u8 b.pen] 115 := (HB.out.alloc _).grown hgrow (own_ne HO.out HB.out (by decide)); have c0n : w1.cell? ⟨bb, 0, none⟩ = some v := b1.cell 0; have c1n : w1.cell? ⟨bb, 1, none⟩ = some (.int .i64 b.x) := b1.cell 1; have f0n := b1.frozen 0; have f1n := b1.frozen 1; have lt1 := b1.lt; have HL : Hid (Keeps base w w1) := (((Fr.refl [] w).alloc _).keeps (by omega)).trans (own_keeps (own_fr0 HO.out ((Fr.refl _ _).alloc _)) (by simp; omega) hgrow); have HB1 := hide b1; have HO1 := hide hown1; clear b1 hown1 hgrow hat)
  go_end0
  refine ⟨rfl, (HL.out.set hge HB1.out _).set hge (HB1.out.set 0 _) _, ⟨.slice (some ⟨g1, 0, none⟩) (b.bytes.length + 1) cap1, (HB1.out.set 0 _).set 1 _, ?_⟩, hge⟩
  have : w1.ownsRow base 5 1 (.slice (some ⟨g1, 0, none⟩) (b.bytes.length + 1) cap1) (b.write c).bytes.length ((b.write c).bytes.map (Value.int .u8)) := by
    have := HO1.out
    simpa [B.write] using this
  exact own_fr (S := [bb]) this (((Fr.refl _ _).setCell (.inl (by simp)) _).setCell (.inl (by simp)) _) (by intro x hx; simp at hx; subst hx; exact own_ne this HB1.out (by decide))
end Go.Proofs.YtjhccghhinlmdaaDoor
