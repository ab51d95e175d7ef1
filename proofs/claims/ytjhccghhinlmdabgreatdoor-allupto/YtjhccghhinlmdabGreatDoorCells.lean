/- The calls of package cells, each as what it does to the blocks of a grid: no condition but that the grid lies there whole. -/
import Derived.Test.YtjhccghhinlmdabGreatDoorBase
import Derived.Test.YtjhccghhinlmdabGreatDoorRows
import Derived.BigQuiet
import Derived.BigRegion
import Derived.Deep.QuietTactic
import Derived.Deep.RegionWith
import Derived.Deep.LoopGhost
namespace Go.Proofs.YtjhccghhinlmdabGreatDoor
open Go.RowKit

/-- A grid lies at block bg, its cells in block bc. -/
structure Grid (w : World) (bg bc cap : Nat) (sp : List Value) (W H : Int) (l : List (Int × Int)) : Prop where
  hd : Blk w bg [.int .i64 W, .int .i64 H, .slice (some ⟨bc, 0, none⟩) l.length cap] 115
  row : Blk w bc (flat l ++ sp) 117
  w1 : 1 ≤ W
  w2 : W ≤ 40
  h1 : 1 ≤ H
  h2 : H ≤ 20
  len : (l.length : Int) = W * H
  capLe : l.length ≤ cap

theorem mul_bd {W H : Int} (w1 : 1 ≤ W) (w2 : W ≤ 40) (h1 : 1 ≤ H) (h2 : H ≤ 20) : 1 ≤ W * H ∧ W * H ≤ 800 := by
  constructor
  · have := Int.mul_le_mul w1 h1 (by omega) (by omega); omega
  · have := Int.mul_le_mul w2 h2 (by omega) (by omega); omega
theorem idx_bd {W H x y : Int} (w2 : W ≤ 40) (h2 : H ≤ 20) (hx : 0 ≤ x) (hx2 : x < W) (hy : 0 ≤ y) (hy2 : y < H) : 0 ≤ y * W ∧ y * W ≤ 800 ∧ y * W + x < W * H := by
  have a : 0 ≤ y * W := Int.mul_nonneg hy (by omega)
  have b : y * W ≤ 20 * 40 := Int.mul_le_mul (by omega) w2 (by omega) (by omega)
  have c : (y + 1) * W ≤ H * W := Int.mul_le_mul_of_nonneg_right (by omega) (by omega)
  have d : (y + 1) * W = y * W + W := by rw [Int.add_mul]; omega
  have e : H * W = W * H := Int.mul_comm _ _
  omega

theorem Grid.lenBd {w : World} {bg bc cap : Nat} {sp : List Value} {W H : Int} {l : List (Int × Int)} (g : Grid w bg bc cap sp W H l) : 1 ≤ l.length ∧ l.length ≤ 800 := by
  have := mul_bd g.w1 g.w2 g.h1 g.h2; have := g.len; omega

theorem Grid.cells {w : World} {bg bc cap : Nat} {sp : List Value} {W H : Int} {l : List (Int × Int)} (g : Grid w bg bc cap sp W H l) (k : Nat) (hk : k < l.length) :
    w.cell? ⟨bc, k * 2, none⟩ = some (.int .u8 (chr l k)) ∧ w.cell? ⟨bc, k * 2 + 1, none⟩ = some (.int .u8 (sty l k)) := by
  have hf := flat_length l
  constructor
  · rw [g.row.cell, List.getElem?_append_left (by omega), flat_chr l k hk]
  · rw [g.row.cell, List.getElem?_append_left (by omega), flat_sty l k hk]

theorem Grid.set {w : World} {bg bc cap : Nat} {sp : List Value} {W H : Int} {l : List (Int × Int)} (g : Grid w bg bc cap sp W H l) (k : Nat) (hk : k < l.length) (c s : Int) :
    Grid ((w.setCell ⟨bc, k * 2, none⟩ (.int .u8 c)).setCell ⟨bc, k * 2 + 1, none⟩ (.int .u8 s)) bg bc cap sp W H (l.set k (c, s)) := by
  have hne : bg ≠ bc := g.hd.ne g.row (by decide)
  have hf := flat_length l
  refine ⟨?_, ?_, g.w1, g.w2, g.h1, g.h2, by simpa using g.len, by simpa using g.capLe⟩
  · simpa using (g.hd.setOther (p := ⟨bc, k * 2, none⟩) hne (.int .u8 c)).setOther (p := ⟨bc, k * 2 + 1, none⟩) hne (.int .u8 s)
  · have := (g.row.set (k * 2) (.int .u8 c)).set (k * 2 + 1) (.int .u8 s)
    rwa [List.set_append_left _ _ (by omega), List.set_append_left _ _ (by rw [List.length_set]; omega), flat_set] at this

theorem Grid.fr {w w' : World} {S : List Nat} {bg bc cap : Nat} {sp : List Value} {W H : Int} {l : List (Int × Int)} (g : Grid w bg bc cap sp W H l) (f : Fr S w w') (h1 : bg ∉ S) (h2 : bc ∉ S) : Grid w' bg bc cap sp W H l :=
  ⟨g.hd.fr f h1, g.row.fr f h2, g.w1, g.w2, g.h1, g.h2, g.len, g.capLe⟩
theorem Grid.fr0 {w w' : World} {bg bc cap : Nat} {sp : List Value} {W H : Int} {l : List (Int × Int)} (g : Grid w bg bc cap sp W H l) (f : Fr [] w w') : Grid w' bg bc cap sp W H l := g.fr f (by simp) (by simp)

/-- is that a size? -/
def sizeB (a b : Int) : Bool := decide (1 ≤ a) && decide (a ≤ 40) && decide (1 ≤ b) && decide (b ≤ 20)

set_option maxHeartbeats 400000 in
theorem isSize_yes (a b : Int) (w : World) (h1 : 1 ≤ a) (h2 : a ≤ 40) (h3 : 1 ≤ b) (h4 : b ≤ 20) :
    Calls Tryz.prog 32 #[.int .i64 a, .int .i64 b] w fun e w' => e = .returned (.bool true) ∧ w = w' := by
  go_enter Tryz.func32, Tryz.ntmps32
  go_wp2
  go_ret
  exact ⟨rfl, rfl⟩

set_option maxHeartbeats 400000 in
theorem isSize_no (a b : Int) (w : World) (h : sizeB a b = false) :
    Calls Tryz.prog 32 #[.int .i64 a, .int .i64 b] w fun e w' => e = .returned (.bool false) ∧ w = w' := by
  have h' : ¬ (1 ≤ a ∧ a ≤ 40 ∧ 1 ≤ b ∧ b ≤ 20) := by simp [sizeB] at h; omega
  clear h
  go_enter Tryz.func32, Tryz.ntmps32
  go_wp2
  all_goals go_ret
  all_goals exact ⟨by simp; try omega, rfl⟩

set_option maxHeartbeats 400000 in
theorem blank_any (w : World) :
    Calls Tryz.prog 58 #[] w fun e w' => e = .returned (.agg #[.int .u8 32, .int .u8 7]) ∧ w' = w.alloc (.cells #[.int .u8 32, .int .u8 7] 117) := by
  go_enter Tryz.func58, Tryz.ntmps58
  go_wp2
  exact bodyPost_ret (v := .agg #[.int .u8 32, .int .u8 7]) (by simp [results, Tryz.results58, go_sem]) rfl ⟨rfl, rfl⟩

set_option maxHeartbeats 400000 in
theorem has_yes (x y W H : Int) (w : World) (bg : Nat) (c0 : w.cell? ⟨bg, 0, none⟩ = some (.int .i64 W)) (c1 : w.cell? ⟨bg, 1, none⟩ = some (.int .i64 H)) (hx : 0 ≤ x) (hx2 : x < W) (hy : 0 ≤ y) (hy2 : y < H) :
    Calls Tryz.prog 86 #[.pointer (some ⟨bg, 0, none⟩), .int .i64 x, .int .i64 y] w fun e w' => e = .returned (.bool true) ∧ w = w' := by
  go_enter Tryz.func86, Tryz.ntmps86
  go_wp2
  go_ret
  exact ⟨rfl, rfl⟩
set_option maxHeartbeats 400000 in
theorem has_no (x y W H : Int) (w : World) (bg : Nat) (c0 : w.cell? ⟨bg, 0, none⟩ = some (.int .i64 W)) (c1 : w.cell? ⟨bg, 1, none⟩ = some (.int .i64 H)) (h : x < 0 ∨ W ≤ x ∨ y < 0 ∨ H ≤ y) :
    Calls Tryz.prog 86 #[.pointer (some ⟨bg, 0, none⟩), .int .i64 x, .int .i64 y] w fun e w' => e = .returned (.bool false) ∧ w = w' := by
  go_enter Tryz.func86, Tryz.ntmps86
  go_wp2
  all_goals go_ret
  all_goals exact ⟨by simp; try omega, rfl⟩

set_option maxHeartbeats 400000 in
theorem put_in (x y c s W H : Int) (w : World) (bg bc cap : Nat) (sp : List Value) (l : List (Int × Int)) (g : Grid w bg bc cap sp W H l)
    (hx : 0 ≤ x) (hx2 : x < W) (hy : 0 ≤ y) (hy2 : y < H) :
    Calls Tryz.prog 65 #[.pointer (some ⟨bg, 0, none⟩), .int .i64 x, .int .i64 y, .agg #[.int .u8 c, .int .u8 s]] w
      fun e w' => e = .returned (.tuple #[]) ∧ Fr [bc] w w' ∧ Grid w' bg bc cap sp W H (l.set (y * W + x).toNat (c, s)) := by
  obtain ⟨i1, i2, i3⟩ := idx_bd g.w2 g.h2 hx hx2 hy hy2
  have hl := g.len
  have i4 : y * W + x < l.length := by omega
  have i5 := g.lenBd.2
  have i6 : y * W + x < 800 := by omega
  obtain ⟨k1, k2⟩ := g.cells (y * W + x).toNat (by omega)
  have f1 := g.row.frozen ((y * W + x).toNat * 2)
  have f2 := g.row.frozen ((y * W + x).toNat * 2 + 1)
  have c0 : w.cell? ⟨bg, 0, none⟩ = some (.int .i64 W) := g.hd.cell 0
  have c1 : w.cell? ⟨bg, 1, none⟩ = some (.int .i64 H) := g.hd.cell 1
  have c2 : w.cell? ⟨bg, 2, none⟩ = some (.slice (some ⟨bc, 0, none⟩) l.length cap) := g.hd.cell 2
  have hbg := g.hd.lt
  have hbc := g.row.lt
  have hG : Hid (Grid w bg bc cap sp W H l) := g
  have HS := hide (has_yes x y W H (w.alloc (.cells #[.int .u8 c, .int .u8 s] 117)) bg ((g.fr0 ((Fr.refl [] w).alloc _)).hd.cell 0) ((g.fr0 ((Fr.refl [] w).alloc _)).hd.cell 1) hx hx2 hy hy2)
  clear hl g
  go_enter Tryz.func65, Tryz.ntmps65
  go_wp2_with (go_at_call 86; refine HS.out.mono ?_; rintro e w' ⟨rfl, rfl⟩)
  go_region
  go_end0
  have G := (hG.out.set (y * W + x).toNat (by omega) c s).fr0 (((Fr.refl [] _).alloc (.cells #[.int .u8 c, .int .u8 s] 117)).drew)
  exact ⟨rfl, ((((Fr.refl _ _).setCell (by simp) _).setCell (by simp) _).alloc _).drew, G⟩

set_option maxHeartbeats 400000 in
theorem put_out (x y c s W H : Int) (w : World) (bg bc cap : Nat) (sp : List Value) (l : List (Int × Int)) (g : Grid w bg bc cap sp W H l)
    (h : x < 0 ∨ W ≤ x ∨ y < 0 ∨ H ≤ y) :
    Calls Tryz.prog 65 #[.pointer (some ⟨bg, 0, none⟩), .int .i64 x, .int .i64 y, .agg #[.int .u8 c, .int .u8 s]] w
      fun e w' => e = .returned (.tuple #[]) ∧ Fr [] w w' := by
  have g1 := g.fr0 ((Fr.refl [] w).alloc (.cells #[.int .u8 c, .int .u8 s] 117))
  have c0 := g1.hd.cell 0
  have c1 := g1.hd.cell 1
  simp only [List.getElem?_cons_succ, List.getElem?_cons_zero] at c0 c1
  clear g g1
  go_enter Tryz.func65, Tryz.ntmps65
  go_wp2_with (go_at_call 86; refine (has_no x y W H _ bg c0 c1 h).mono ?_; rintro e w' ⟨rfl, rfl⟩)
  exact bodyPost_ret (results_none rfl _ _ _) rfl ⟨rfl, (Fr.refl _ _).alloc _⟩

/-- the cells from the place a on, up to the place b, which stays, are blank -/
def clr (l : List (Int × Int)) (a b : Int) : List (Int × Int) := l.mapIdx fun i c => if a ≤ i ∧ (i : Int) < b then (32, 7) else c
theorem clr_length (l : List (Int × Int)) (a b : Int) : (clr l a b).length = l.length := by simp [clr]
theorem clr_same (l : List (Int × Int)) (a b : Int) (h : b ≤ a) : clr l a b = l := by
  apply List.ext_getElem (by simp [clr])
  intro i h1 h2
  simp [clr]; omega
theorem clr_step (l : List (Int × Int)) (a : Int) (k : Nat) (h : a ≤ k) : (clr l a k).set k (32, 7) = clr l a (k + 1) := by
  apply List.ext_getElem (by simp [clr])
  intro i h1 h2
  simp only [clr, List.getElem_set, List.getElem_mapIdx]
  by_cases hk : k = i
  · subst hk; simp [h]; omega
  · simp only [hk, if_false]
    have : (a ≤ (i : Int) ∧ (i : Int) < k) ↔ (a ≤ (i : Int) ∧ (i : Int) < (k : Int) + 1) := by omega
    simp only [this]
theorem clr_congr (l : List (Int × Int)) (a b a' b' : Int) (h : ∀ i : Int, 0 ≤ i → i < l.length → ((a ≤ i ∧ i < b) ↔ (a' ≤ i ∧ i < b'))) : clr l a b = clr l a' b' := by
  apply List.ext_getElem (by simp [clr])
  intro i h1 h2
  have := h i (by omega) (by simp [clr] at h1; omega)
  simp [clr, this]

set_option maxHeartbeats 1000000 in
theorem clear_any (a b W H : Int) (w : World) (bg bc cap : Nat) (sp : List Value) (l : List (Int × Int)) (g : Grid w bg bc cap sp W H l)
    (ha : 0 ≤ a) (ha2 : a ≤ 900) (_hb2 : b ≤ 2000) :
    Calls Tryz.prog 109 #[.pointer (some ⟨bg, 0, none⟩), .int .i64 a, .int .i64 b] w
      fun e w' => e = .returned (.tuple #[]) ∧ Fr [bc] w w' ∧ Grid w' bg bc cap sp W H (clr l a b) := by
  have hG : Hid (Grid w bg bc cap sp W H l) := g
  clear g
  go_enter Tryz.func109, Tryz.ntmps109
  go_wp2
  go_loopw [6] (fun i wr => ∃ k : Int, i = .int .i64 k ∧ a ≤ k ∧ k ≤ 2000 ∧ (k ≤ b ∨ k = a) ∧ Fr [bc] w wr ∧ Grid wr bg bc cap sp W H (clr l a k)) (fun i _ => (3000 - intOf i).toNat)
  case atStart => exact ⟨a, rfl, by omega, by omega, .inr rfl, Fr.refl _ _, by rw [clr_same _ _ _ (by omega)]; exact hG.out⟩
  case round =>
    obtain ⟨k, rfl, h1, h2, h3, f, g⟩ := hrel
    obtain ⟨n, rfl⟩ := Int.eq_ofNat_of_zero_le (show 0 ≤ k by omega)
    have c2 : wr.cell? ⟨bg, 2, none⟩ = some (.slice (some ⟨bc, 0, none⟩) l.length cap) := by have := g.hd.cell 2; rw [clr_length] at this; exact this
    have hbg := g.hd.lt
    have hbc := g.row.lt
    have f0 := hG.out.lenBd.2
    by_cases hend : (n : Int) < b
    · by_cases hlen : (n : Int) < l.length
      · obtain ⟨k1, k2⟩ := g.cells n (by rw [clr_length]; omega)
        have f1 := g.row.frozen (n * 2)
        have f2 := g.row.frozen (n * 2 + 1)
        have HG : Hid (Grid wr bg bc cap sp W H (clr l a n)) := g
        clear g
        go_wp2
        go_region_with (go_at_call 58; refine (blank_any _).mono ?_; rintro e w' ⟨rfl, rfl⟩)
        all_goals go_wp2
        all_goals
          go_roundw
          case rel =>
            refine ⟨n + 1, by go_num, by omega, by omega, by omega, ?_, ?_⟩
            · exact (((f.setCell (by simp) _).setCell (by simp) _).alloc _).drew
            · have G := (HG.out.set n (by rw [clr_length]; omega) 32 7).fr0 (((Fr.refl [] _).alloc (.cells #[.int .u8 32, .int .u8 7] 117)).drew)
              rw [clr_step l a n h1] at G
              exact G
          case measure => simp [intOf]; omega
      · go_wp2
        go_end0
        exact ⟨rfl, f, by rw [clr_congr l a b a n (by omega)]; exact g⟩
    · go_wp2
      go_end0
      exact ⟨rfl, f, by rw [clr_congr l a b a n (by omega)]; exact g⟩

/-- all rows up by one, W cells each: the last one is blank -/
def up (W : Int) (l : List (Int × Int)) : List (Int × Int) := l.drop W.toNat ++ List.replicate W.toNat (32, 7)
/-- the same on the way: k cells have been moved -/
def upTo (W : Nat) (l : List (Int × Int)) (k : Nat) : List (Int × Int) := (l.drop W).take k ++ l.drop k
theorem upTo_zero (W : Nat) (l : List (Int × Int)) : upTo W l 0 = l := by simp [upTo]
theorem upTo_length (W : Nat) (l : List (Int × Int)) (k : Nat) (h : k + W ≤ l.length) : (upTo W l k).length = l.length := by simp [upTo]; omega
theorem upTo_get (W : Nat) (l : List (Int × Int)) (k : Nat) (h : k + W ≤ l.length) (j : Nat) (hj : k ≤ j) : (upTo W l k).getD j (0, 0) = l.getD j (0, 0) := by
  have e : ((l.drop W).take k).length = k := by simp; omega
  simp only [upTo, List.getD_eq_getElem?_getD]
  rw [List.getElem?_append_right (by omega), e, List.getElem?_drop]
  congr 2; omega
theorem upTo_step (W : Nat) (l : List (Int × Int)) (k : Nat) (h : k + W < l.length) : (upTo W l k).set k (l.getD (k + W) (0, 0)) = upTo W l (k + 1) := by
  have e : ((l.drop W).take k).length = k := by simp; omega
  simp only [upTo]
  rw [List.set_append_right _ _ (by omega), e, Nat.sub_self, List.drop_eq_getElem_cons (by omega : k < l.length), List.set_cons_zero]
  rw [List.take_succ_eq_append_getElem (by simp; omega)]
  have e1 : l.getD (k + W) (0, 0) = l[k + W] := by simp [List.getD_eq_getElem?_getD, h]
  rw [e1]
  simp [Nat.add_comm]
theorem upTo_clr (W : Nat) (l : List (Int × Int)) (k : Nat) (h : k + W = l.length) : clr (upTo W l k) k l.length = up W l := by
  have e : ((l.drop W).take k).length = k := by simp; omega
  apply List.ext_getElem
  · simp [up, clr, upTo]; omega
  intro i h1 h2
  simp only [clr, List.getElem_mapIdx, up, upTo, List.getElem_append, e, Int.toNat_natCast, List.length_drop]
  by_cases hi : i < k
  · rw [if_neg (by omega)]
    simp only [hi, dite_true]
    rw [dif_pos (by omega)]
    simp
  · have : i < l.length := by simp [clr, upTo] at h1; omega
    rw [if_pos (by omega), dif_neg (by omega)]
    simp

set_option maxHeartbeats 1000000 in
theorem up_any (W H : Int) (w : World) (bg bc cap : Nat) (sp : List Value) (l : List (Int × Int)) (g : Grid w bg bc cap sp W H l) :
    Calls Tryz.prog 94 #[.pointer (some ⟨bg, 0, none⟩)] w
      fun e w' => e = .returned (.tuple #[]) ∧ Fr [bc] w w' ∧ Grid w' bg bc cap sp W H (up W l) := by
  have hl := g.lenBd
  have hw1 := g.w1
  have hw2 := g.w2
  have hwl : W ≤ l.length := by rw [g.len]; have := Int.mul_le_mul_of_nonneg_left g.h1 (show 0 ≤ W by omega); omega
  have c0 : w.cell? ⟨bg, 0, none⟩ = some (.int .i64 W) := g.hd.cell 0
  have c2 : w.cell? ⟨bg, 2, none⟩ = some (.slice (some ⟨bc, 0, none⟩) l.length cap) := g.hd.cell 2
  obtain ⟨m, hm⟩ := Int.eq_ofNat_of_zero_le (show 0 ≤ (l.length : Int) - W by omega)
  have HM : Hid ((l.length : Int) - W = m) := hm
  have hm1 : m ≤ 800 := by omega
  have hG : Hid (Grid w bg bc cap sp W H l) := g
  clear g hm
  go_enter Tryz.func94, Tryz.ntmps94
  go_wp2
  go_quiet (fail)
  go_wp2
  go_loopw [3] (fun i wr => ∃ k : Nat, i = .int .i64 k ∧ k ≤ m ∧ Fr [bc] w wr ∧ Grid wr bg bc cap sp W H (upTo W.toNat l k)) (fun i _ => (3000 - intOf i).toNat)
  case atStart => exact ⟨0, rfl, by omega, (Fr.refl _ _).drewN _, by rw [upTo_zero]; exact hG.out.fr0 ((Fr.refl _ _).drewN _)⟩
  case round =>
    obtain ⟨k, rfl, h1, f, g⟩ := hrel
    have hm' := HM.out
    have hlen : (upTo W.toNat l k).length = l.length := upTo_length _ _ _ (by omega)
    have d0 : wr.cell? ⟨bg, 0, none⟩ = some (.int .i64 W) := g.hd.cell 0
    have d2 : wr.cell? ⟨bg, 2, none⟩ = some (.slice (some ⟨bc, 0, none⟩) l.length cap) := by have := g.hd.cell 2; rw [hlen] at this; exact this
    have hbg := g.hd.lt
    have hbc := g.row.lt
    by_cases hend : k < m
    · obtain ⟨k1, k2⟩ := g.cells k (by omega)
      obtain ⟨k3, k4⟩ := g.cells ((k : Int) + W).toNat (by omega)
      have f1 := g.row.frozen (k * 2)
      have f2 := g.row.frozen (k * 2 + 1)
      have b1 : (k : Int) + W < l.length := by omega
      have b2 : (k : Int) < (l.length : Int) - W := by omega
      have HG : Hid (Grid wr bg bc cap sp W H (upTo W.toNat l k)) := g
      clear g hm'
      go_wp2
      go_region
      go_wp2
      go_roundw
      case rel =>
        refine ⟨k + 1, by go_num, by omega, ?_, ?_⟩
        · exact ((f.setCell (by simp) _).setCell (by simp) _).drew
        · have G := (HG.out.set k (by omega) (chr (upTo W.toNat l k) ((k : Int) + W).toNat) (sty (upTo W.toNat l k) ((k : Int) + W).toNat)).fr0 (Fr.refl [] _).drew
          have e : (chr (upTo W.toNat l k) ((k : Int) + W).toNat, sty (upTo W.toNat l k) ((k : Int) + W).toNat) = l.getD (k + W.toNat) (0, 0) := by
            have e1 : ((k : Int) + W).toNat = k + W.toNat := by omega
            rw [e1]; simp only [chr, sty]; rw [upTo_get _ _ _ (by omega) _ (by omega)]
          rw [e, upTo_step _ _ _ (by omega)] at G
          exact G
      case measure => simp [intOf]; omega
    · have b2 : ¬ (k : Int) < (l.length : Int) - W := by omega
      have HG : Hid (Grid wr bg bc cap sp W H (upTo W.toNat l k)) := g
      have hk : Hid ((k : Int) = (l.length : Int) - W) := by show (k : Int) = (l.length : Int) - W; omega
      clear g hm'
      go_wp2_with fail
      refine (clear_any _ _ W H _ bg bc cap sp _ HG.out (by omega) (by omega) (by omega)).mono ?_
      rintro e w1 ⟨rfl, f1, g1⟩
      have hk' := hk.out
      have g2 : Grid w1 bg bc cap sp W H (up W l) := by
        rw [← hk', upTo_clr _ _ _ (by omega)] at g1
        have e2 : ((W.toNat : Nat) : Int) = W := by omega
        rwa [e2] at g1
      clear g1 hk'
      go_wp2
      go_end0
      exact ⟨rfl, f.then f1, g2⟩
end Go.Proofs.YtjhccghhinlmdabGreatDoor
