/- A grid's cell is told; a grid of the same size is made. -/
import Derived.Test.YtjhccghhinlmdabGreatDoorCellsNew
import Derived.Deep.RegionHeldLaw
namespace Go.Proofs.YtjhccghhinlmdabGreatDoor
open Go.RowKit

set_option maxHeartbeats 400000 in
theorem at_in (x y W H : Int) (w : World) (bg bc cap : Nat) (sp : List Value) (l : List (Int × Int)) (g : Grid w bg bc cap sp W H l)
    (hx : 0 ≤ x) (hx2 : x < W) (hy : 0 ≤ y) (hy2 : y < H) :
    Calls Tryz.prog 64 #[.pointer (some ⟨bg, 0, none⟩), .int .i64 x, .int .i64 y] w
      fun e w' => e = .returned (.agg #[.int .u8 (chr l (y * W + x).toNat), .int .u8 (sty l (y * W + x).toNat)]) ∧ Fr [] w w' := by
  obtain ⟨i1, i2, i3⟩ := idx_bd g.w2 g.h2 hx hx2 hy hy2
  have hl := g.len
  have i4 : y * W + x < l.length := by omega
  have i5 := g.lenBd.2
  have i6 : y * W + x < 800 := by omega
  obtain ⟨k1, k2⟩ := g.cells (y * W + x).toNat (by omega)
  have c0 : w.cell? ⟨bg, 0, none⟩ = some (.int .i64 W) := g.hd.cell 0
  have c1 : w.cell? ⟨bg, 1, none⟩ = some (.int .i64 H) := g.hd.cell 1
  have c2 : w.cell? ⟨bg, 2, none⟩ = some (.slice (some ⟨bc, 0, none⟩) l.length cap) := g.hd.cell 2
  have hbg := g.hd.lt
  have hbc := g.row.lt
  have HS := hide (has_yes x y W H (w.alloc (.cells #[.int .u8 0, .int .u8 0] 117)) bg ((g.fr0 ((Fr.refl [] w).alloc _)).hd.cell 0) ((g.fr0 ((Fr.refl [] w).alloc _)).hd.cell 1) hx hx2 hy hy2)
  have q7 : IntKind.i64.wrap (y * W) = y * W := by rw [IntKind.wrap_i64]; omega
  have q8 : IntKind.i64.wrap (y * W + x) = y * W + x := by rw [IntKind.wrap_i64]; omega
  clear hl g
  go_enter Tryz.func64, Tryz.ntmps64
  go_wp2_with (go_at_call 86; refine HS.out.mono ?_; rintro e w' ⟨rfl, rfl⟩)
  go_region
  go_wp2
  exact bodyPost_ret (v := .agg #[.int .u8 (chr l (y * W + x).toNat), .int .u8 (sty l (y * W + x).toNat)]) (by simp [results, Tryz.results64, go_sem]) rfl ⟨rfl, ((Fr.refl _ _).alloc _).drew⟩

set_option maxHeartbeats 400000 in
theorem gblank_any (W H : Int) (w : World) (bg bc cap : Nat) (sp : List Value) (l : List (Int × Int)) (g : Grid w bg bc cap sp W H l) :
    Calls Tryz.prog 92 #[.pointer (some ⟨bg, 0, none⟩)] w (GridPost w W H) := by
  have c0 : w.cell? ⟨bg, 0, none⟩ = some (.int .i64 W) := g.hd.cell 0
  have c1 : w.cell? ⟨bg, 1, none⟩ = some (.int .i64 H) := g.hd.cell 1
  have BG : Hid (∀ w', Fr [] w w' → Calls Tryz.prog 33 #[.int .i64 W, .int .i64 H] w' fun e w'' => w''.cell? ⟨bg, 0, none⟩ = some (.int .i64 W) ∧ w''.cell? ⟨bg, 1, none⟩ = some (.int .i64 H) ∧ GridPost w W H e w'') := by
    intro w' f'
    refine (blankGrid_any W H w' g.w1 g.w2 g.h1 g.h2).mono ?_
    rintro e w'' ⟨ng, nc, cap, sp, rfl, k1, k2, f1, h⟩
    have g2 := g.fr0 (f'.then f1)
    exact ⟨g2.hd.cell 0, g2.hd.cell 1, ng, nc, cap, sp, rfl, Nat.le_trans f'.size k1, Nat.le_trans f'.size k2, f'.then f1, h⟩
  clear g
  go_enter Tryz.func92, Tryz.ntmps92
  go_wp2
  go_region_held (fun w' => w'.cell? ⟨bg, 0, none⟩ = some (.int .i64 W) ∧ w'.cell? ⟨bg, 1, none⟩ = some (.int .i64 H)) (go_keep) ((go_at_call 33; refine (BG.out _ ?hf).mono ?_; (case hf => (repeat first | exact Fr.refl _ _ | apply Fr.drew | apply Fr.drewN)); rintro e w1 ⟨k0, k1, ng, nc, cap, sp, rfl, h⟩; have H := hide h; clear h))
  all_goals
    go_wp2
    go_ret
    exact ⟨ng, nc, cap, sp, rfl, H.out⟩

end Go.Proofs.YtjhccghhinlmdabGreatDoor
