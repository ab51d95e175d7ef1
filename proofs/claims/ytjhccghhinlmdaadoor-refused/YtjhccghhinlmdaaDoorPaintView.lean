/- Package views' View: what is to be seen of it is laid on a grid. -/
import Derived.Test.YtjhccghhinlmdaaDoorPaintFront
namespace Go.Proofs.YtjhccghhinlmdaaDoor
open Go.RowKit

/-- a grid of n cells, the first k as the view tells, the others blank -/
def gridK (v : V) (W : Int) (n k : Nat) : List (Int × Int) := v.gridTo W k ++ List.replicate (n - k) (32, 7)
theorem gridK_length (v : V) (W : Int) (n k : Nat) (h : k ≤ n) : (gridK v W n k).length = n := by simp [gridK, V.gridTo]; omega
theorem gridK_put (v : V) (W : Int) (n k : Nat) (h : k < n) : (gridK v W n k).set k (v.cell ((k : Int) % W) ((k : Int) / W)) = gridK v W n (k + 1) := by
  unfold gridK
  have e : (v.gridTo W k).length = k := v.gridTo_length W k
  rw [List.set_append_right _ _ (by omega), e, Nat.sub_self, V.gridTo_succ]
  obtain ⟨m, hm⟩ : ∃ m, n - k = m + 1 := ⟨n - k - 1, by omega⟩
  rw [hm, List.replicate_succ, List.set_cons_zero, show n - (k + 1) = m by omega]
  simp
theorem gridK_skip (v : V) (W : Int) (n k : Nat) (h : k < n) (hc : v.cell ((k : Int) % W) ((k : Int) / W) = (32, 7)) : gridK v W n k = gridK v W n (k + 1) := by
  unfold gridK
  rw [V.gridTo_succ, hc]
  obtain ⟨m, hm⟩ : ∃ m, n - k = m + 1 := ⟨n - k - 1, by omega⟩
  rw [hm, List.replicate_succ, show n - (k + 1) = m by omega]
  simp
theorem gridK_all (v : V) (W H : Int) : gridK v W (W * H).toNat (W * H).toNat = v.grid W H := by simp [gridK, V.grid]
theorem gridK_none (v : V) (W : Int) (n : Nat) : gridK v W n 0 = List.replicate n (32, 7) := by simp [gridK, V.gridTo]
theorem at_div {W x y : Int} (hx : 0 ≤ x) (hx2 : x < W) : (y * W + x) % W = x ∧ (y * W + x) / W = y := by
  constructor
  · rw [Int.add_comm, Int.add_mul_emod_self_right, Int.emod_eq_of_lt hx hx2]
  · rw [Int.add_comm, Int.add_mul_ediv_right _ _ (by omega), Int.ediv_eq_zero_of_lt hx hx2]; omega

/-- the parts of a view, where a grid's cells lie apart from it -/
structure Apart (bc b : Nat) (av : Option Addr) (ps : List Pane) : Prop where
  b : b ≠ bc
  a : ∀ x, av = some x → x.block ∉ [bc]
  l : ∀ p ∈ ps, p.lb ∉ [bc]

set_option maxHeartbeats 4000000 in
set_option maxRecDepth 100000 in
theorem vpaint_any (b c : Nat) (av : Option Addr) (cap : Nat) (ps : List Pane) (W H : Int) (bg bc gcap : Nat) (sp : List Value) (w : World) (h0 : w.cell? ⟨b, c, none⟩ = some (.slice av ps.length cap)) (h : PanesAt w av ps) (hn : ps.length ≤ 12)
    (G : Grid w bg bc gcap sp W H (List.replicate (W * H).toNat (32, 7))) (A : Apart bc b av ps) :
    Calls Tryd.prog 55 #[.pointer (some ⟨b, c, none⟩), .pointer (some ⟨bg, 0, none⟩)] w
      fun e w' => e = .returned (.tuple #[]) ∧ Fr [bc] w w' ∧ Grid w' bg bc gcap sp W H ((view ps).grid W H) := by
  have w1 := G.w1
  have w2 := G.w2
  have h1 := G.h1
  have h2 := G.h2
  have HB := hide (mul_bd w1 w2 h1 h2)
  have HG := hide G
  have HP := hide h
  have HA := hide A
  clear G h A
  go_enter Tryd.func55, Tryd.ntmps55
  go_wp2
  go_loopw [4] (fun i wr => ∃ y : Int, i = .int .i64 y ∧ 0 ≤ y ∧ y ≤ H ∧ Fr [bc] w wr ∧ Grid wr bg bc gcap sp W H (gridK (view ps) W (W * H).toNat (y * W).toNat)) (fun i _ => (3000 - intOf i).toNat)
  case atStart => exact ⟨0, rfl, by omega, by omega, Fr.refl _ _, by rw [show ((0 : Int) * W).toNat = 0 by simp, gridK_none]; exact HG.out⟩
  case round =>
    obtain ⟨y, rfl, y1, y2, f, g⟩ := hrel
    have q1 : wr.cell? ⟨bg, 1, none⟩ = some (.int .i64 H) := g.hd.cell 1
    have blt := g.hd.lt
    by_cases hend : y < H
    · have HGY := hide g
      clear g
      go_wp2
      go_loopw [5] (fun i wq => ∃ x : Int, i = .int .i64 x ∧ 0 ≤ x ∧ x ≤ W ∧ Fr [bc] w wq ∧ Grid wq bg bc gcap sp W H (gridK (view ps) W (W * H).toNat (y * W + x).toNat)) (fun i _ => (3000 - intOf i).toNat)
      case atStart => exact ⟨0, rfl, by omega, by omega, f, by rw [Int.add_zero]; exact HGY.out⟩
      case round =>
        rename_i wy
        obtain ⟨x, rfl, x1, x2, f2, g2⟩ := hrel
        have r0 : wr.cell? ⟨bg, 0, none⟩ = some (.int .i64 W) := g2.hd.cell 0
        have blt2 := g2.hd.lt
        have idx := idx_bd (W := W) (H := H) (x := W - 1) (y := y) w2 h2 (by omega) (by omega) y1 hend
        by_cases hx : x < W
        · have idx2 := idx_bd (W := W) (H := H) (x := x) (y := y) w2 h2 x1 hx y1 hend
          have hkn : (y * W + x).toNat < (W * H).toNat := by omega
          obtain ⟨e1, e2⟩ := at_div (W := W) (x := x) (y := y) x1 hx
          have ek : (((y * W + x).toNat : Nat) : Int) = y * W + x := by omega
          have s0 : wr.cell? ⟨b, c, none⟩ = some (.slice av ps.length cap) := by
            rw [← h0]; exact World.cell?_of_block (w := w) (f2.block b (World.block_lt_of_cell? w _ h0) (by simpa using HA.out.b))
          have FR := hide (front_any b c av cap ps x y wr s0 (HP.out.fr f2 HA.out.a HA.out.l) hn x1 (by omega) y1 (by omega))
          have HG2 := hide g2
          have SK : Hid ((view ps).best x y ps.length = none → gridK (view ps) W (W * H).toNat (y * W + x).toNat = gridK (view ps) W (W * H).toNat (y * W + (x + 1)).toNat) := by
            intro hb
            rw [gridK_skip (view ps) W _ _ hkn (by rw [ek, e1, e2]; unfold V.cell; simp only [view, List.length_map]; simp only [view] at hb; rw [hb])]
            congr 1; omega
          have PT : Hid (∀ j p, (view ps).best x y ps.length = some j → ps[j]? = some p → (gridK (view ps) W (W * H).toNat (y * W + x).toNat).set (y * W + x).toNat (p.o.cell p.off x y) = gridK (view ps) W (W * H).toNat (y * W + (x + 1)).toNat) := by
            intro j p hb hp
            have := gridK_put (view ps) W _ _ hkn
            rw [ek, e1, e2] at this
            have ec : (view ps).cell x y = p.o.cell p.off x y := by
              unfold V.cell
              have : (view ps).length = ps.length := by simp [view]
              rw [this, hb]
              simp only [view_at hp]
            rw [ec] at this
            rw [this]
            congr 1; omega
          clear g2 e1 e2 ek idx idx2 hkn
          go_wp2_with fail
          refine FR.out.mono ?_
          rintro e w3 ⟨f3, h3⟩
          have F3 := hide (f2.then f3.of_nil)
          have G3 := hide (HG2.out.fr0 f3)
          have P3 := hide ((HP.out.fr f2 HA.out.a HA.out.l).fr0 f3)
          clear HG2 FR f3 s0
          rcases h3 with ⟨hb, rfl⟩ | ⟨j, p, hb, hp, rfl⟩
          · have SK2 := hide (SK.out hb)
            clear hb SK PT
            go_wp2
            go_roundw
            case rel =>
              refine ⟨x + 1, by go_num, by omega, by omega, F3.out.alloc _, ?_⟩
              rw [← SK2.out]; exact G3.out.fr0 ((Fr.refl _ _).alloc _)
            case measure => simp [intOf]; omega
          · have PT2 := hide (PT.out j p hb hp)
            have OK3 : Hid (PaneOk w3 p) := by obtain ⟨_, _, _, k⟩ := P3.out j p hp; exact k
            clear hb hp SK PT P3
            go_wp2_with fail
            refine (pcell_any w3.heap.size 0 p x y _ (PCells.of (Blk.new w3 p.vals 94)) (OK3.out.fr ((Fr.refl [] _).alloc _) (by simp)) x1 (by omega) y1 (by omega)).mono ?_
            rintro e w4 ⟨rfl, f4⟩
            have F4 := hide (F3.out.alloc _ |>.then f4.of_nil)
            have G4 := hide (G3.out.fr0 (((Fr.refl [] _).alloc _).then f4))
            clear F3 G3 f4 OK3
            generalize p.o.cell p.off x y = cc at *
            obtain ⟨cc1, cc2⟩ := cc
            go_wp2_with fail
            refine (put_in x y cc1 cc2 W H _ bg bc gcap sp _ (G4.out.fr0 ((Fr.refl _ _).alloc _)) x1 hx y1 hend).mono ?_
            rintro e w5 ⟨rfl, f5, g5⟩
            rw [PT2.out] at g5
            have F5 := hide ((F4.out.alloc _).then f5)
            have G5 := hide g5
            clear f5 g5 F4 G4
            go_wp2
            go_roundw
            case rel => exact ⟨x + 1, by go_num, by omega, by omega, F5.out, G5.out⟩
            case measure => simp [intOf]; omega
        · have hx' : x = W := by omega
          subst hx'
          have ey : y * x + x = (y + 1) * x := by rw [Int.add_mul]; omega
          rw [ey] at g2
          have HG2 := hide g2
          clear g2 ey hx
          go_wp2
          go_roundw
          case rel => exact ⟨y + 1, by go_num, by omega, by omega, f2, HG2.out⟩
          case measure => simp [intOf]; omega
    · have hy : y = H := by omega
      subst hy
      rw [Int.mul_comm y W, gridK_all] at g
      have HG2 := hide g
      clear g
      go_wp2
      go_end0
      exact ⟨rfl, f, HG2.out⟩
end Go.Proofs.YtjhccghhinlmdaaDoor
