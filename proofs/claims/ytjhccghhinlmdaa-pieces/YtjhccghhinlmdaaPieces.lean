/- Two terminals that hold the same answer the same. -/
import Derived.Test.YtjhccghhinlmdaaPiecesPure
import Derived.Test.YtjhccghhinlmdaaKeepPiece
namespace Go.Proofs.Ytjhccghhinlmdaa
open Go.RowKit

set_option maxHeartbeats 2000000 in
theorem same_yes (w : World) (bt bu : Nat) (g gu : Gh) (t : T) (h : TermAt w bt g t) (k : TermAt w bu gu t) (H : Nat) (hH : t.H = H) (hH2 : H ≤ 20) :
    Calls Try.prog 13 #[.pointer (some ⟨bt, 0, none⟩), .pointer (some ⟨bu, 0, none⟩), .int .i64 H] w fun e w' => e = .returned (.bool true) ∧ Fr [] w w' := by
  have HT := hide h
  have HU := hide k
  have HH := hide hH
  clear h k hH
  go_enter Try.func13, Try.ntmps13
  go_wp2
  go_loopw [7] (fun i wr => ∃ k : Nat, i = .int .i64 k ∧ k ≤ H ∧ Fr [] w wr) (fun i _ => H - (intOf i).toNat)
  case atStart => exact ⟨0, rfl, by omega, Fr.refl _ _⟩
  case round =>
    obtain ⟨k, rfl, hk, f⟩ := hrel
    by_cases hlt : k < H
    · have hkH : (k : Int) < t.H := by rw [HH.out]; omega
      go_wp2_with fail
      refine (row_yes k _ bt g t (HT.out.fr0 f) (by omega) hkH).mono ?_
      rintro e w1 ⟨rfl, f1⟩
      have F1 := hide (f.then f1)
      clear f1
      go_wp2_with fail
      refine (row_yes k _ bu gu t (HU.out.fr0 F1.out) (by omega) hkH).mono ?_
      rintro e w2 ⟨rfl, f2⟩
      have F2 := hide (F1.out.then f2)
      clear f2
      go_wp2
      go_roundw
      case rel => exact ⟨k + 1, by go_num, by omega, F2.out⟩
      case measure => simp [intOf]; omega
    · go_wp2_with fail
      refine (cursor_any _ bt g t (HT.out.fr0 f)).mono ?_
      rintro e w1 ⟨rfl, f1⟩
      have F1 := hide (f.then f1)
      clear f1
      go_wp2_with fail
      refine (cursor_any _ bu gu t (HU.out.fr0 (F1.out.alloc _))).mono ?_
      rintro e w2 ⟨rfl, f2⟩
      have b2 := (Blk.new w1 [.int .i64 t.x, .int .i64 t.y, .bool t.shown] 33).fr0 f2
      have k0 : w2.cell? ⟨w1.heap.size, 0, none⟩ = some (.int .i64 t.x) := b2.cell 0
      have k1 : w2.cell? ⟨w1.heap.size, 1, none⟩ = some (.int .i64 t.y) := b2.cell 1
      have k2 : w2.cell? ⟨w1.heap.size, 2, none⟩ = some (.bool t.shown) := b2.cell 2
      have hlt2 := b2.lt
      have F2 := hide ((F1.out.alloc (.cells #[.int .i64 t.x, .int .i64 t.y, .bool t.shown] 33)).then f2)
      clear f2 b2
      go_wp2
      go_ret
      exact ⟨rfl, F2.out.alloc _⟩

theorem apart_step {A F F' : List Nat} {n : Nat} (h : ∀ x ∈ A, x ∉ F) (hl : ∀ x ∈ A, x < n) (hs : ∀ b ∈ F', b ∈ F ∨ n ≤ b) : ∀ x ∈ A, x ∉ F' := by
  intro x hx hm
  rcases hs x hm with h1 | h1
  · exact h x hx h1
  · have := hl x hx; omega
theorem apart_symm {A F : List Nat} (h : ∀ x ∈ A, x ∉ F) : ∀ x ∈ F, x ∉ A := fun x hx hm => h x hm hx

/-- a row of blanks; the first one with a Z ahead -/
theorem z_rows {W H : Nat} (hW : 1 ≤ W) (y : Nat) (hy : y < H) :
    (rowOf W y ((List.replicate (W * H) ((32 : Int), (7 : Int))).set 0 (90, 7))).map (·.1) = (if y = 0 then 90 :: List.replicate (W - 1) 32 else List.replicate W 32) ∧
    (rowOf W y ((List.replicate (W * H) ((32 : Int), (7 : Int))).set 0 (90, 7))).map (·.2) = List.replicate W 7 := by
  have hidx : ((y : Int) * (W : Int)).toNat = y * W := by rw [← Int.natCast_mul]; rfl
  have hg : y * W + W ≤ W * H := by
    have := Nat.mul_le_mul_right W (show y + 1 ≤ H from hy)
    rw [Nat.add_mul, Nat.one_mul, Nat.mul_comm H W] at this
    omega
  obtain ⟨m, hm⟩ : ∃ m, W * H = m + 1 := ⟨W * H - 1, by omega⟩
  unfold rowOf
  rw [hidx, Int.toNat_natCast, hm, List.replicate_succ, List.set_cons_zero]
  by_cases h0 : y = 0
  · subst h0
    obtain ⟨v, rfl⟩ : ∃ v, W = v + 1 := ⟨W - 1, by omega⟩
    simp only [Nat.zero_mul, List.drop_zero, List.take_succ_cons, List.take_replicate, List.map_cons, List.map_replicate, if_pos, Nat.add_sub_cancel]
    rw [Nat.min_eq_left (by omega), List.replicate_succ]
    exact ⟨rfl, rfl⟩
  · obtain ⟨q, hq⟩ : ∃ q, y * W = q + 1 := ⟨y * W - 1, by have := Nat.mul_le_mul (show 1 ≤ y by omega) hW; omega⟩
    rw [hq, List.drop_succ_cons, List.drop_replicate, List.take_replicate, Nat.min_eq_left (by omega), if_neg h0]
    simp
end Go.Proofs.Ytjhccghhinlmdaa
