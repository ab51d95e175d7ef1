/- What the walks of this seat stand on: which blocks of memory a call may have turned (Fr), what a block holds (Blk), a row of cells (flat). Plain facts about worlds and lists: nothing of the program. -/
import Derived.WalkKit
import Derived.WalkSpells
import Derived.WalkLawsBesides
import Derived.Deep.AppendLies
import Derived.Deep.Draws
namespace Go.Proofs.YtjhccghhinlmdabGreatDoor
open Go.RowKit

/-- Of the blocks that were there, those of S alone may have turned. -/
structure Fr (S : List Nat) (w w' : World) : Prop where
  os : w'.os = w.os
  tape : w'.tape = w.tape
  output : w'.output = w.output
  size : w.heap.size ≤ w'.heap.size
  block : ∀ k, k < w.heap.size → k ∉ S → w'.heap[k]? = w.heap[k]?

theorem Fr.refl (S : List Nat) (w : World) : Fr S w w := ⟨rfl, rfl, rfl, Nat.le_refl _, fun _ _ _ => rfl⟩

theorem Fr.trans {S S1 S2 : List Nat} {a b c : World} (h : Fr S1 a b) (k : Fr S2 b c) (h1 : ∀ i ∈ S1, i ∈ S ∨ a.heap.size ≤ i) (h2 : ∀ i ∈ S2, i ∈ S ∨ a.heap.size ≤ i) : Fr S a c :=
  ⟨k.os.trans h.os, k.tape.trans h.tape, k.output.trans h.output, Nat.le_trans h.size k.size, fun i hi hn => by
    have n1 : i ∉ S1 := fun hm => by rcases h1 i hm with h1 | h1; exact hn h1; omega
    have n2 : i ∉ S2 := fun hm => by rcases h2 i hm with h2 | h2; exact hn h2; omega
    exact (k.block i (Nat.lt_of_lt_of_le hi h.size) n2).trans (h.block i hi n1)⟩

/-- one behind the other, over the same blocks -/
theorem Fr.then {S : List Nat} {a b c : World} (h : Fr S a b) (k : Fr S b c) : Fr S a c := h.trans k (fun _ h => .inl h) (fun _ h => .inl h)

theorem Fr.mono {S S' : List Nat} {a b : World} (h : Fr S a b) (hs : ∀ i ∈ S, i ∈ S') : Fr S' a b :=
  ⟨h.os, h.tape, h.output, h.size, fun i hi hn => h.block i hi (fun hm => hn (hs i hm))⟩

theorem Fr.of_nil {S : List Nat} {a b : World} (h : Fr [] a b) : Fr S a b := h.mono (by simp)

/-- new blocks may be named among those that have turned -/
theorem Fr.weak {S S' : List Nat} {a b : World} (h : Fr S a b) (hs : ∀ i ∈ S, i ∈ S' ∨ a.heap.size ≤ i) : Fr S' a b :=
  ⟨h.os, h.tape, h.output, h.size, fun i hi hn => h.block i hi (fun hm => by rcases hs i hm with h1 | h1; exact hn h1; omega)⟩

theorem Fr.drew {S : List Nat} {a b : World} (h : Fr S a b) : Fr S a b.drew := ⟨h.os, h.tape, h.output, h.size, h.block⟩
theorem Fr.drewN {S : List Nat} {a b : World} (h : Fr S a b) (n : Nat) : Fr S a (b.drewN n) := ⟨h.os, h.tape, h.output, h.size, h.block⟩
theorem Fr.alloc {S : List Nat} {a b : World} (h : Fr S a b) (o : Obj) : Fr S a (b.alloc o) :=
  h.then ⟨rfl, rfl, rfl, by simp, fun k hk _ => Below.heap_alloc b o k hk⟩
theorem Fr.setCell {S : List Nat} {a b : World} (h : Fr S a b) {p : Addr} (hp : p.block ∈ S ∨ a.heap.size ≤ p.block) (v : Value) : Fr S a (b.setCell p v) :=
  h.trans (S2 := [p.block]) ⟨rfl, rfl, rfl, by simp, fun k _ hn => heap_setCell_other b p k v (by simpa using hn)⟩ (fun _ h => .inl h) (by simpa using hp)
theorem Fr.grown {S : List Nat} {a b c : World} {row : Option Nat} (h : Fr S a b) (hg : b.grownBy c row) (hr : ∀ k, row = some k → k ∈ S ∨ a.heap.size ≤ k) : Fr S a c :=
  h.trans (S2 := row.toList) ⟨hg.os, hg.tape, hg.output, hg.size, fun k hk hn => hg.block k hk (fun e => hn (by simp [← e]))⟩ (fun _ h => .inl h) (by simpa using hr)

theorem Fr.below {S : List Nat} {a b : World} (h : Fr S a b) {B : Nat} (hB : B ≤ a.heap.size) (hs : ∀ i ∈ S, B ≤ i) : Below B a b :=
  ⟨h.os, h.tape, h.output, h.size, fun k hk => h.block k (by omega) (fun hm => by have := hs k hm; omega)⟩

/-- Block b holds these cells, none of them frozen. -/
def Blk (w : World) (b : Nat) (vs : List Value) (ty : TypeId) : Prop := w.heap[b]? = some (.cells vs.toArray ty (0, 0))

theorem Blk.cell {w : World} {b : Nat} {vs : List Value} {ty : TypeId} (h : Blk w b vs ty) (o : Nat) : w.cell? ⟨b, o, none⟩ = vs[o]? := by
  unfold Blk at h; simp [World.cell?, h]
theorem Blk.frozen {w : World} {b : Nat} {vs : List Value} {ty : TypeId} (h : Blk w b vs ty) (o : Nat) : w.frozen? ⟨b, o, none⟩ = false := by
  unfold Blk at h; simp [World.frozen?, h]
theorem Blk.lt {w : World} {b : Nat} {vs : List Value} {ty : TypeId} (h : Blk w b vs ty) : b < w.heap.size := (Array.getElem?_eq_some_iff.1 h).1
theorem Blk.fr {w w' : World} {S : List Nat} {b : Nat} {vs : List Value} {ty : TypeId} (h : Blk w b vs ty) (hf : Fr S w w') (hn : b ∉ S) : Blk w' b vs ty := (hf.block b h.lt hn).trans h
theorem Blk.fr0 {w w' : World} {b : Nat} {vs : List Value} {ty : TypeId} (h : Blk w b vs ty) (hf : Fr [] w w') : Blk w' b vs ty := h.fr hf (by simp)
theorem Blk.drew {w : World} {b : Nat} {vs : List Value} {ty : TypeId} (h : Blk w b vs ty) : Blk w.drew b vs ty := h
theorem Blk.drewN {w : World} {b : Nat} {vs : List Value} {ty : TypeId} (h : Blk w b vs ty) (n : Nat) : Blk (w.drewN n) b vs ty := h
theorem Blk.alloc {w : World} {b : Nat} {vs : List Value} {ty : TypeId} (h : Blk w b vs ty) (o : Obj) : Blk (w.alloc o) b vs ty := (Below.heap_alloc w o b h.lt).trans h
theorem Blk.new (w : World) (vs : List Value) (ty : TypeId) : Blk (w.alloc (.cells vs.toArray ty)) w.heap.size vs ty := heap_alloc_new w _
theorem Blk.set {w : World} {b : Nat} {vs : List Value} {ty : TypeId} (h : Blk w b vs ty) (o : Nat) (v : Value) : Blk (w.setCell ⟨b, o, none⟩ v) b (vs.set o v) ty := by
  have := heap_setCell_same w b o vs.toArray ty v h
  unfold Blk; rw [this]; simp
theorem Blk.setOther {w : World} {b : Nat} {vs : List Value} {ty : TypeId} (h : Blk w b vs ty) {p : Addr} (hp : b ≠ p.block) (v : Value) : Blk (w.setCell p v) b vs ty := (heap_setCell_other w p b v hp).trans h
/-- two blocks of two types are two -/
theorem Blk.ne {w : World} {b c : Nat} {vs us : List Value} {ty tz : TypeId} (h : Blk w b vs ty) (k : Blk w c us tz) (ht : ty ≠ tz) : b ≠ c := by
  intro e; subst e; unfold Blk at h k; rw [h] at k; simp at k; exact ht k.2
theorem Blk.eq {w : World} {b : Nat} {vs us : List Value} {ty tz : TypeId} (h : Blk w b vs ty) (k : Blk w b us tz) : vs = us := by
  unfold Blk at h k; rw [h] at k; simp at k; exact k.1

theorem Blk.grown {w w' : World} {row : Option Nat} {b : Nat} {vs : List Value} {ty : TypeId} (h : Blk w b vs ty) (hg : w.grownBy w' row) (hn : some b ≠ row) : Blk w' b vs ty := (hg.block b h.lt hn).trans h

/-- what a slice owns is no block of another type -/
theorem own_ne {w : World} {base : Nat} {e : TypeId} {size : Nat} {v : Value} {n : Nat} {xs : List Value} (h : w.ownsRow base e size v n xs) {b : Nat} {us : List Value} {ty : TypeId} (k : Blk w b us ty) (ht : ty ≠ e) : some b ≠ v.ownBlock := by
  intro he
  rcases h.2 with ⟨rfl, _⟩ | ⟨g, cap, cur, rfl, _, hg, _⟩
  · simp [Value.ownBlock] at he
  · simp [Value.ownBlock] at he
    subst he
    unfold Blk at k; rw [hg] at k; simp at k; exact ht k.2.symm
/-- what is owned stays so, where its block has not turned -/
theorem own_fr {w w' : World} {S : List Nat} {base : Nat} {e : TypeId} {size : Nat} {v : Value} {n : Nat} {xs : List Value} (h : w.ownsRow base e size v n xs) (f : Fr S w w') (hn : ∀ b ∈ S, some b ≠ v.ownBlock) : w'.ownsRow base e size v n xs := by
  refine ⟨h.1, ?_⟩
  rcases h.2 with hn | ⟨g, cap, cur, rfl, hb, hg, rest⟩
  · exact .inl hn
  · refine .inr ⟨g, cap, cur, rfl, hb, ?_, rest⟩
    rw [f.block g (Array.getElem?_eq_some_iff.1 hg).1 (fun hm => hn g hm rfl)]
    exact hg
theorem own_fr0 {w w' : World} {base : Nat} {e : TypeId} {size : Nat} {v : Value} {n : Nat} {xs : List Value} (h : w.ownsRow base e size v n xs) (f : Fr [] w w') : w'.ownsRow base e size v n xs := own_fr h f (by simp)

theorem own_grown {w w' : World} {row : Option Nat} {base : Nat} {e : TypeId} {size : Nat} {v : Value} {n : Nat} {xs : List Value} (h : w.ownsRow base e size v n xs) (hg : w.grownBy w' row) (hn : ∀ b, row = some b → v.ownBlock ≠ some b) : w'.ownsRow base e size v n xs := by
  refine h.kept hg ?_
  cases row with
  | none => cases hv : v.ownBlock <;> simp
  | some b => exact .inr (hn b rfl)

/-- A row of characters with their styles, as cells of memory. -/
def flat (l : List (Int × Int)) : List Value := l.flatMap fun c => [.int .u8 c.1, .int .u8 c.2]
/-- the character and the style in a place -/
def chr (l : List (Int × Int)) (k : Nat) : Int := (l.getD k (0, 0)).1
def sty (l : List (Int × Int)) (k : Nat) : Int := (l.getD k (0, 0)).2

theorem flat_length (l : List (Int × Int)) : (flat l).length = l.length * 2 := by
  induction l with
  | nil => rfl
  | cons c l ih => simp [flat] at ih ⊢; omega
theorem flat_cons (c : Int × Int) (l : List (Int × Int)) : flat (c :: l) = .int .u8 c.1 :: .int .u8 c.2 :: flat l := by simp [flat]
theorem flat_append (l r : List (Int × Int)) : flat (l ++ r) = flat l ++ flat r := by simp [flat]
theorem flat_chr (l : List (Int × Int)) (k : Nat) (h : k < l.length) : (flat l)[k * 2]? = some (.int .u8 (chr l k)) := by
  induction l generalizing k with
  | nil => simp at h
  | cons c l ih =>
    cases k with
    | zero => simp [flat_cons, chr]
    | succ k =>
      have e : (k + 1) * 2 = k * 2 + 1 + 1 := by omega
      rw [flat_cons, e, List.getElem?_cons_succ, List.getElem?_cons_succ, ih k (by simpa using h)]
      simp [chr]
theorem flat_sty (l : List (Int × Int)) (k : Nat) (h : k < l.length) : (flat l)[k * 2 + 1]? = some (.int .u8 (sty l k)) := by
  induction l generalizing k with
  | nil => simp at h
  | cons c l ih =>
    cases k with
    | zero => simp [flat_cons, sty]
    | succ k =>
      have e : (k + 1) * 2 + 1 = (k * 2 + 1) + 1 + 1 := by omega
      rw [flat_cons, e, List.getElem?_cons_succ, List.getElem?_cons_succ, ih k (by simpa using h)]
      simp [sty]
theorem flat_set (l : List (Int × Int)) (k : Nat) (c s : Int) : ((flat l).set (k * 2) (.int .u8 c)).set (k * 2 + 1) (.int .u8 s) = flat (l.set k (c, s)) := by
  induction l generalizing k with
  | nil => simp [flat]
  | cons d l ih =>
    cases k with
    | zero => simp [flat_cons]
    | succ k =>
      have e : (k + 1) * 2 = (k * 2) + 1 + 1 := by omega
      have e1 : (k + 1) * 2 + 1 = (k * 2 + 1) + 1 + 1 := by omega
      rw [flat_cons, e1, e, List.set_cons_succ, List.set_cons_succ, List.set_cons_succ, List.set_cons_succ, ih k, List.set_cons_succ, flat_cons]

theorem hide {p : Prop} (h : p) : Hid p := h
theorem ret_int {k : IntKind} {a b : Int} (h : a = b) : Ending.returned (.int k a) = .returned (.int k b) := by rw [h]
theorem ret_bool {a b : Bool} (h : a = b) : Ending.returned (.bool a) = .returned (.bool b) := by rw [h]

end Go.Proofs.YtjhccghhinlmdabGreatDoor
