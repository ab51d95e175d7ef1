/- cells' Grid.Row: a row's characters and its styles as strings. -/
import Derived.Test.YtjhccghhinlmdabGreatDoorCellsNew
import Derived.Laws.BytesArg
namespace Go.Proofs.YtjhccghhinlmdabGreatDoor
open Go.RowKit

theorem info_u8 : (Tryz.prog.info? 5).map (fun i => (i.zero, i.size, i.bytes)) = some (some (.int .u8 0), 1, 1) := by kernel_rfl

/-- a row of the cells -/
def rowOf (W y : Int) (l : List (Int × Int)) : List (Int × Int) := (l.drop (y * W).toNat).take W.toNat
theorem rowOf_length {W H y : Int} {l : List (Int × Int)} (hl : (l.length : Int) = W * H) (w1 : 1 ≤ W) (w2 : W ≤ 40) (h2 : H ≤ 20) (hy : 0 ≤ y) (hy2 : y < H) : ((rowOf W y l).length : Int) = W := by
  have := idx_bd (W := W) (H := H) (x := W - 1) (y := y) w2 h2 (by omega) (by omega) hy hy2
  simp [rowOf]; omega
theorem rowOf_get {W y : Int} {l : List (Int × Int)} (k : Nat) (hk : (k : Int) < W) : (rowOf W y l).getD k (0, 0) = l.getD ((y * W).toNat + k) (0, 0) := by
  simp only [rowOf, List.getD_eq_getElem?_getD]
  rw [List.getElem?_take_of_lt (by omega), List.getElem?_drop]

theorem take_snoc {α : Type} (l : List α) (k : Nat) (d : α) (h : k < l.length) : l.take (k + 1) = l.take k ++ [l.getD k d] := by
  rw [List.take_succ_eq_append_getElem h, List.getD_eq_getElem?_getD, List.getElem?_eq_getElem h]; rfl

theorem one_one (a : Value) (h1 : a.oneCell' = true) : ∀ u ∈ [a], u.oneCell' = true := by
  intro u hu; simp at hu; subst hu; assumption

/-- two slices that grow side by side: what one round does to them -/
theorem two_rows {w wr w1 w2 : World} {u7 u8 : Value} {k g1 cap1 g2 cap2 : Nat} {xs ys : List Value} {e : TypeId} {o1 o2 o3 : Obj} {a b : Value}
    (hoc : wr.ownsRow w.heap.size e 1 u7 k xs) (hos : wr.ownsRow w.heap.size e 1 u8 k ys) (hd : ∀ b, u7.ownBlock = some b → u8.ownBlock ≠ some b) (f : Fr [] w wr)
    (h1 : w1.ownsRow w.heap.size e 1 (.slice (some ⟨g1, 0, none⟩) (k + 1) cap1) (k + 1) (xs ++ [a])) (hg1 : ((wr.alloc o1).alloc o2).grownBy w1 u7.ownBlock) (ha1 : u7.ownBlock = some g1 ∨ g1 = wr.heap.size + 2) (hl1 : g1 < w1.heap.size)
    (h2 : w2.ownsRow w.heap.size e 1 (.slice (some ⟨g2, 0, none⟩) (k + 1) cap2) (k + 1) (ys ++ [b])) (hg2 : (w1.alloc o3).grownBy w2 u8.ownBlock) (ha2 : u8.ownBlock = some g2 ∨ g2 = w1.heap.size + 1) :
    Fr [] w w2 ∧ w2.ownsRow w.heap.size e 1 (.slice (some ⟨g1, 0, none⟩) (k + 1) cap1) (k + 1) (xs ++ [a]) ∧ w2.ownsRow w.heap.size e 1 (.slice (some ⟨g2, 0, none⟩) (k + 1) cap2) (k + 1) (ys ++ [b]) ∧
      (∀ b, (Value.slice (some ⟨g1, 0, none⟩) (k + 1) cap1).ownBlock = some b → (Value.slice (some ⟨g2, 0, none⟩) (k + 1) cap2).ownBlock ≠ some b) := by
  have l8 : ∀ b, u8.ownBlock = some b → b < wr.heap.size := fun b hb => (hos.lt b hb).2
  have n1 : u8.ownBlock ≠ some g1 := by
    rcases ha1 with h | h
    · exact hd g1 h
    · intro he; have := l8 g1 he; omega
  refine ⟨?_, ?_, h2, ?_⟩
  · refine Fr.grown (Fr.alloc (Fr.grown ((f.alloc o1).alloc o2) hg1 ?_) o3) hg2 ?_
    · exact fun j hj => .inr (hoc.lt j hj).1
    · exact fun j hj => .inr (hos.lt j hj).1
  · refine own_grown (own_fr0 h1 ((Fr.refl _ _).alloc o3)) hg2 ?_
    intro j hj he
    simp only [Value.ownBlock, Option.some.injEq] at he
    subst he; exact n1 hj
  · intro j hj he
    simp only [Value.ownBlock, Option.some.injEq] at hj he
    subst hj
    rcases ha2 with h | h
    · rw [he] at h; exact n1 h
    · omega

/-- a slice of the call's own, as a string -/
theorem own_string {w : World} {base : Nat} {e : TypeId} {v : Value} {k : Nat} {xs : List Int} {src dst : TypeId} (h : w.ownsRow base e 1 v k (xs.map (Value.int .u8))) (hk : 0 < k) (hs : Tryz.prog.underlying src = some (.slice e)) (he : Tryz.prog.underlying e = some (.int .u8)) (hd : Tryz.prog.underlying dst = some .string) :
    ∃ g cap, v = .slice (some ⟨g, 0, none⟩) k cap ∧ ∀ w', Fr [] w w' → (convert src dst (.slice (some ⟨g, 0, none⟩) k cap)).run Tryz.prog w' = .ok (.string (strOfNums xs)) w' := by
  rcases h.2 with ⟨_, h0⟩ | ⟨g, cap, cur, rfl, hb, hg, hc1, hc2, hc3, hc4⟩
  · omega
  · refine ⟨g, cap, rfl, fun w' f => ?_⟩
    have hl := h.1
    simp at hl
    refine run_convert_bytes_arg w' src e hs he g 0 k cap xs hl ?_ dst hd
    intro i hi
    have hb' : w'.heap[g]? = some (.cells cur e (0, 0)) := by
      rw [f.block g (Array.getElem?_eq_some_iff.1 hg).1 (by simp)]; exact hg
    rw [cell_of_row w' g (0 + i) cur e (0, 0) hb']
    have e1 : (cur.toList.take (k * 1))[i]? = (xs.map (Value.int .u8))[i]? := by rw [hc4]
    rw [List.getElem?_take_of_lt (by omega)] at e1
    simp only [Nat.zero_add]
    rw [← Array.getElem?_toList, e1]
    simp [List.getD_eq_getElem?_getD, show i < xs.length by omega]

set_option maxHeartbeats 400000 in
theorem gridRow_no (y W H : Int) (w : World) (bg bc cap : Nat) (sp : List Value) (l : List (Int × Int)) (g : Grid w bg bc cap sp W H l) (h : y < 0 ∨ H ≤ y) :
    Calls Tryz.prog 41 #[.pointer (some ⟨bg, 0, none⟩), .int .i64 y] w
      fun e w' => e = .returned (.tuple #[.string ByteArray.empty, .string ByteArray.empty, .bool false]) ∧ w = w' := by
  have c1 : w.cell? ⟨bg, 1, none⟩ = some (.int .i64 H) := g.hd.cell 1
  clear g
  go_enter Tryz.func41, Tryz.ntmps41
  go_wp2
  all_goals first | (go_ret3; exact ⟨rfl, rfl⟩) | (exfalso; omega)

set_option maxHeartbeats 1000000 in
set_option maxRecDepth 100000 in
theorem gridRow_yes (y W H : Int) (w : World) (bg bc cap : Nat) (sp : List Value) (l : List (Int × Int)) (g : Grid w bg bc cap sp W H l) (hy : 0 ≤ y) (hy2 : y < H) :
    Calls Tryz.prog 41 #[.pointer (some ⟨bg, 0, none⟩), .int .i64 y] w
      fun e w' => e = .returned (.tuple #[.string (strOfNums ((rowOf W y l).map (·.1))), .string (strOfNums ((rowOf W y l).map (·.2))), .bool true]) ∧ Fr [] w w' := by
  have hw1 := g.w1
  have hw2 := g.w2
  have hh2 := g.h2
  obtain ⟨i1, i2, i3⟩ := idx_bd (x := W - 1) g.w2 g.h2 (by omega) (by omega) hy hy2
  have hl := g.len
  have hlb := g.lenBd
  have hcap := g.capLe
  have e1 : (y + 1) * W = y * W + W := by rw [Int.add_mul]; omega
  have c0 : w.cell? ⟨bg, 0, none⟩ = some (.int .i64 W) := g.hd.cell 0
  have c1 : w.cell? ⟨bg, 1, none⟩ = some (.int .i64 H) := g.hd.cell 1
  have c2 : w.cell? ⟨bg, 2, none⟩ = some (.slice (some ⟨bc, 0, none⟩) l.length cap) := g.hd.cell 2
  have i4 : y * W + W ≤ l.length := by omega
  have i5 : 0 ≤ y * W + W := by omega
  have i6 : y * W + W ≤ 800 := by omega
  obtain ⟨i0, hi, hz0, hz1, hz2⟩ := info_parts info_u8
  have HG : Hid (Grid w bg bc cap sp W H l) := g
  clear g hl
  go_enter Tryz.func41, Tryz.ntmps41
  go_wp2
  go_quiet (fail)
  go_wp2
  go_loopw [7, 8, 40] (fun vc vs i wr => ∃ k : Nat, i = .int .i64 k ∧ (k : Int) ≤ W ∧ Fr [] w wr ∧ wr.ownsRow w.heap.size 5 1 vc k (((rowOf W y l).take k).map fun c => .int .u8 c.1) ∧ wr.ownsRow w.heap.size 5 1 vs k (((rowOf W y l).take k).map fun c => .int .u8 c.2) ∧ (∀ b, vc.ownBlock = some b → vs.ownBlock ≠ some b)) (fun _ _ i _ => (3000 - intOf i).toNat)
  case atStart => exact ⟨0, rfl, by omega, (Fr.refl _ _).drewN _, World.ownsRow_nil _ _ _ _, World.ownsRow_nil _ _ _ _, by simp [Value.ownBlock]⟩
  case round =>
    obtain ⟨k, rfl, hk, f, hoc, hos, hd⟩ := hrel
    have hlen : ((rowOf W y l).length : Int) = W := rowOf_length HG.out.len HG.out.w1 HG.out.w2 HG.out.h2 hy hy2
    by_cases hend : (k : Int) < W
    · have g1 : Grid wr bg bc cap sp W H l := HG.out.fr0 f
      have hlen2 := HG.out.len
      obtain ⟨k1, k2⟩ := g1.cells ((y * W).toNat + k) (by omega)
      rw [Nat.add_mul] at k1 k2
      have ec : chr l ((y * W).toNat + k) = ((rowOf W y l).getD k (0, 0)).1 := by rw [rowOf_get k hend]; rfl
      have es : sty l ((y * W).toNat + k) = ((rowOf W y l).getD k (0, 0)).2 := by rw [rowOf_get k hend]; rfl
      have et := take_snoc (rowOf W y l) k (0, 0) (by omega)
      generalize hcell : (rowOf W y l).getD k (0, 0) = cell at *
      rw [ec] at k1
      rw [es] at k2
      have hbc := g1.row.lt
      have b1 : (k : Int) < ((y * W + W).toNat - (y * W).toNat : Nat) := by omega
      have HE : Hid ((rowOf W y l).take (k + 1) = (rowOf W y l).take k ++ [cell]) := et
      have HOC : Hid (wr.ownsRow w.heap.size 5 1 u7 k (((rowOf W y l).take k).map fun c => .int .u8 c.1)) := hoc
      have HOS : Hid (wr.ownsRow w.heap.size 5 1 u8 k (((rowOf W y l).take k).map fun c => .int .u8 c.2)) := hos
      have HD : Hid (∀ b, u7.ownBlock = some b → u8.ownBlock ≠ some b) := hd
      have hsz := f.size
      clear hoc hos hd et ec es hcell g1 hlen hlen2 i3
      go_wp2_with (first | (at_builtin; refine wpList_append_lies _ rfl (.tmp 44) (.tmp 47) 52 rfl w.heap.size 5 i0 (.int .u8 0) 1 1 Tryz.underlying52 hi hz0 hz1 hz2 rfl (by decide) u7 k (((rowOf W y l).take k).map fun c => .int .u8 c.1) rfl (own_fr0 HOC.out (by repeat first | exact Fr.refl _ _ | apply Fr.drew | apply Fr.alloc)) ⟨wr.heap.size + 1, 0, none⟩ 1 1 [.int .u8 cell.1] rfl rfl (World.news_of_block (cs := #[.int .u8 cell.1]) (t := 5) (fr := (0, 0)) (by exact heap_alloc2_new wr _ _)) (one_one _ rfl) (by omega) (by unfold maxLen; omega) (by omega) (by simp; omega) (wr.heap.size + 2) (by simp) ?_; intro g1 cap1 w1 hown1 hgrow hat hlt; have bx : Blk w1 wr.heap.size [.int .u8 cell.1, .int .u8 cell.2] 117 := ((Blk.new wr [.int .u8 cell.1, .int .u8 cell.2] 117).alloc _).grown hgrow (own_ne (own_fr0 HOC.out ((Fr.refl _ _).alloc _)) (Blk.new wr [.int .u8 cell.1, .int .u8 cell.2] 117) (by decide)); have x0 : w1.cell? ⟨wr.heap.size, 0, none⟩ = some (.int .u8 cell.1) := bx.cell 0; have x1 : w1.cell? ⟨wr.heap.size, 1, none⟩ = some (.int .u8 cell.2) := bx.cell 1; have hz3 := hgrow.size; have HOS1 : Hid (w1.ownsRow w.heap.size 5 1 u8 k (((rowOf W y l).take k).map fun c => .int .u8 c.2)) := (own_grown (own_fr0 HOS.out (((Fr.refl _ _).alloc _).alloc _)) hgrow HD.out); have H1 := hide hown1; have HG1 := hide hgrow; have HA1 := hide hat; simp only [World.size_alloc] at hz3; clear hown1 hgrow hat bx) | (at_builtin; refine wpList_append_lies _ rfl (.tmp 49) (.tmp 52) 52 rfl w.heap.size 5 i0 (.int .u8 0) 1 1 Tryz.underlying52 hi hz0 hz1 hz2 rfl (by decide) u8 k (((rowOf W y l).take k).map fun c => .int .u8 c.2) rfl (own_fr0 HOS1.out (by repeat first | exact Fr.refl _ _ | apply Fr.drew | apply Fr.alloc)) ⟨w1.heap.size, 0, none⟩ 1 1 [.int .u8 cell.2] rfl rfl (World.news_of_block (cs := #[.int .u8 cell.2]) (t := 5) (fr := (0, 0)) (by exact heap_alloc_new w1 _)) (one_one _ rfl) (by omega) (by unfold maxLen; omega) (by omega) (by simp; omega) (w1.heap.size + 1) (by simp) ?_; intro g2 cap2 w2 hown2 hgrow2 hat2 hlt2; have R := hide (two_rows HOC.out HOS.out HD.out f H1.out HG1.out HA1.out hlt hown2 hgrow2 hat2); clear hown2 hgrow2 hat2))
      go_roundw
      case rel =>
        obtain ⟨r1, r2, r3, r4⟩ := R.out
        refine ⟨k + 1, by go_num, by omega, r1, ?_, ?_, r4⟩
        · rw [HE.out, List.map_append]; exact r2
        · rw [HE.out, List.map_append]; exact r3
      case measure => simp [intOf]; omega
    · have hk' : (rowOf W y l).take k = rowOf W y l := List.take_of_length_le (by omega)
      rw [hk'] at hoc hos
      obtain ⟨gc, capc, rfl, kc⟩ := own_string (xs := (rowOf W y l).map (·.1)) (src := 52) (dst := 9) (by rw [List.map_map]; exact hoc) (by omega) Tryz.underlying52 Tryz.underlying5 Tryz.underlying9
      obtain ⟨gs, caps, rfl, ks⟩ := own_string (xs := (rowOf W y l).map (·.2)) (src := 52) (dst := 9) (by rw [List.map_map]; exact hos) (by omega) Tryz.underlying52 Tryz.underlying5 Tryz.underlying9
      have kc1 := fun n => kc (wr.drewN n) ((Fr.refl _ _).drewN n)
      have ks1 := fun n => ks (wr.drewN n) ((Fr.refl _ _).drewN n)
      have b1 : ¬ (k : Int) < ((y * W + W).toNat - (y * W).toNat : Nat) := by omega
      clear kc ks hoc hos hd hk' hlen
      go_wp2
      go_quiet (fail)
      go_wp2
      go_ret3
      exact ⟨rfl, f.drewN _⟩
end Go.Proofs.YtjhccghhinlmdabGreatDoor
