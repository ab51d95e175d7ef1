/- cells.New: a grid of blank cells in new memory; or nothing, if that is no size. -/
import Derived.Test.YtjhccghhinlmdabGreatDoorCells
import Derived.Deep.RegionLaw
namespace Go.Proofs.YtjhccghhinlmdabGreatDoor
open Go.RowKit

theorem info_cell : (Tryz.prog.info? 117).map (fun i => (i.zero, i.size, i.bytes)) = some (some (.agg #[.int .u8 0, .int .u8 0]), 2, 2) := by kernel_rfl

theorem flat_snoc (n : Nat) : flat (List.replicate n ((32 : Int), (7 : Int))) ++ [.int .u8 32, .int .u8 7] = flat (List.replicate (n + 1) (32, 7)) := by
  rw [List.replicate_succ', flat_append]; rfl

set_option maxHeartbeats 400000 in
theorem new_no (W H : Int) (w : World) (h : sizeB W H = false) :
    Calls Tryz.prog 13 #[.int .i64 W, .int .i64 H] w fun e w' => e = .returned (.tuple #[.pointer none, .bool false]) ∧ w = w' := by
  go_enter Tryz.func13, Tryz.ntmps13
  go_wp2_with (go_at_call 32; refine (isSize_no _ _ _ h).mono ?_; rintro e w' ⟨rfl, rfl⟩)
  go_ret2
  exact ⟨rfl, rfl⟩

theorem two_one (a b : Value) (h1 : a.oneCell' = true) (h2 : b.oneCell' = true) : ∀ u ∈ [a, b], u.oneCell' = true := by
  intro u hu; simp at hu; rcases hu with rfl | rfl <;> assumption

/-- a new grid of this size is handed back -/
def GridPost (w : World) (W H : Int) (e : Ending) (w' : World) : Prop :=
  ∃ bg bc cap sp, e = .returned (.pointer (some ⟨bg, 0, none⟩)) ∧ w.heap.size ≤ bg ∧ w.heap.size ≤ bc ∧ Fr [] w w' ∧ Grid w' bg bc cap sp W H (List.replicate (W * H).toNat (32, 7))

set_option maxHeartbeats 1000000 in
set_option maxRecDepth 100000 in
theorem blankGrid_any (W H : Int) (w : World) (h1 : 1 ≤ W) (h2 : W ≤ 40) (h3 : 1 ≤ H) (h4 : H ≤ 20) :
    Calls Tryz.prog 33 #[.int .i64 W, .int .i64 H] w (GridPost w W H) := by
  obtain ⟨m1, m2⟩ := mul_bd h1 h2 h3 h4
  obtain ⟨i0, hi, hz0, hz1, hz2⟩ := info_parts info_cell
  go_enter Tryz.func33, Tryz.ntmps33
  go_wp2
  go_loopw [6] (fun i wr => ∃ (k : Nat) (v : Value), i = .int .i64 k ∧ (k : Int) ≤ W * H ∧ Fr [] w wr ∧ w.heap.size < wr.heap.size ∧ Blk wr w.heap.size [.int .i64 W, .int .i64 H, v] 115 ∧ wr.ownsRow w.heap.size 117 2 v k (flat (List.replicate k (32, 7)))) (fun i _ => (3000 - intOf i).toNat)
  case atStart => exact ⟨0, .slice none 0 0, rfl, by omega, (Fr.refl _ _).alloc _, by simp, Blk.new _ _ _, World.ownsRow_nil _ _ _ _⟩
  case round =>
    obtain ⟨k, v, rfl, hk, f, hs, hb, hown⟩ := hrel
    have c2 : wr.cell? ⟨w.heap.size, 2, none⟩ = some v := hb.cell 2
    have f2 := hb.frozen 2
    by_cases hend : (k : Int) < W * H
    · have HB : Hid (Blk wr w.heap.size [.int .i64 W, .int .i64 H, v] 115) := hb
      have HO : Hid (wr.ownsRow w.heap.size 117 2 v k (flat (List.replicate k (32, 7)))) := hown
      clear hb hown
      go_wp2
      go_region_law (first | (refine step_append_lies _ rfl (.tmp 22) (.tmp 24) 113 rfl w.heap.size 117 i0 (.agg #[.int .u8 0, .int .u8 0]) 2 2 Tryz.underlying113 hi hz0 hz1 hz2 rfl (by decide) v k (flat (List.replicate k (32, 7))) (by simp [Act.eval]) (own_fr0 HO.out (by repeat first | exact Fr.refl _ _ | apply Fr.drew | apply Fr.alloc)) ⟨wr.heap.size + 1, 0, none⟩ 1 1 [.int .u8 32, .int .u8 7] (by simp [Act.eval]) rfl (World.news_of_block (cs := #[.int .u8 32, .int .u8 7]) (t := 117) (fr := (0, 0)) (by exact heap_alloc2_new wr _ _)) (two_one _ _ rfl rfl) (by omega) (by unfold maxLen; omega) (by omega) (by simp; omega) (wr.heap.size + 2) (by simp) ?_; intro g cap w1 hown1 hgrow hat hlt; have b1 : Blk w1 w.heap.size [.int .i64 W, .int .i64 H, v] 115 := (HB.out.fr0 (by repeat first | exact Fr.refl _ _ | apply Fr.drew | apply Fr.alloc)).grown hgrow (own_ne HO.out HB.out (by decide)); have c2n : w1.cell? ⟨w.heap.size, 2, none⟩ = some v := b1.cell 2; have f2n := b1.frozen 2; have HB1 : Hid (Blk w1 w.heap.size [.int .i64 W, .int .i64 H, v] 115) := b1; have HO1 : Hid (w1.ownsRow w.heap.size 117 2 (.slice (some ⟨g, 0, none⟩) (k + 1) cap) (k + 1) (flat (List.replicate (k + 1) (32, 7)))) := (by rw [← flat_snoc]; exact hown1); have HF1 : Hid (Fr [] w w1) := (Fr.grown (by repeat first | exact f | apply Fr.drew | apply Fr.alloc) hgrow (fun j hj => .inr (HO.out.lt j hj).1)); clear b1 hown1 hgrow hat) | (go_simp; go_at_call 58; refine (blank_any _).mono ?_; rintro e w' ⟨rfl, rfl⟩))
      all_goals go_wp2
      all_goals
        go_roundw
        case rel =>
          refine ⟨k + 1, _, by go_num, by omega, HF1.out.setCell (by simp) _, ?_, HB1.out.set 2 _, own_fr (S := [w.heap.size]) HO1.out ((Fr.refl _ _).setCell (by simp) _) ?_⟩
          · have := HB1.out.lt; simpa using this
          · intro b hb; simp at hb; subst hb; exact own_ne HO1.out HB1.out (by decide)
        case measure => simp [intOf]; omega
    · have hk' : (W * H).toNat = k := by omega
      have HG : Hid (∃ bc cap sp, v = .slice (some ⟨bc, 0, none⟩) k cap ∧ w.heap.size ≤ bc ∧ Grid wr w.heap.size bc cap sp W H (List.replicate k (32, 7))) := by
        rcases hown.2 with ⟨_, h0⟩ | ⟨g, cap, cur, rfl, hbg, hg, hc1, hc2, hc3, hc4⟩
        · omega
        · refine ⟨g, cap, cur.toList.drop (k * 2), rfl, hbg, ?_, ?_, h1, h2, h3, h4, ?_, ?_⟩
          · simpa using hb
          · rw [← hc4, List.take_append_drop]; exact hg
          · simp; omega
          · simpa using hc1
      have HK : Hid ((W * H).toNat = k) := hk'
      clear hown hb c2 hk'
      go_wp2
      go_ret
      obtain ⟨bc, cap, sp, hv, hbc, g⟩ := HG.out
      exact ⟨w.heap.size, bc, cap, sp, rfl, Nat.le_refl _, hbc, f, by rw [HK.out]; exact g⟩

/-- a new grid of this size is handed back, with true -/
def NewPost (w : World) (W H : Int) (e : Ending) (w' : World) : Prop :=
  ∃ bg bc cap sp, e = .returned (.tuple #[.pointer (some ⟨bg, 0, none⟩), .bool true]) ∧ w.heap.size ≤ bg ∧ w.heap.size ≤ bc ∧ Fr [] w w' ∧ Grid w' bg bc cap sp W H (List.replicate (W * H).toNat (32, 7))

set_option maxHeartbeats 400000 in
theorem new_yes (W H : Int) (w : World) (h1 : 1 ≤ W) (h2 : W ≤ 40) (h3 : 1 ≤ H) (h4 : H ≤ 20) :
    Calls Tryz.prog 13 #[.int .i64 W, .int .i64 H] w (NewPost w W H) := by
  have BG := hide (blankGrid_any W H w h1 h2 h3 h4)
  go_enter Tryz.func13, Tryz.ntmps13
  go_wp2_with (first | (go_at_call 32; refine (isSize_yes _ _ _ (by omega) (by omega) (by omega) (by omega)).mono ?_; rintro e w' ⟨rfl, rfl⟩) | (go_at_call 33; refine BG.out.mono ?_; rintro e w1 ⟨ng, nc, cap, sp, rfl, h⟩; have H := hide h; clear h))
  go_ret2
  exact ⟨ng, nc, cap, sp, rfl, H.out⟩
end Go.Proofs.YtjhccghhinlmdabGreatDoor
