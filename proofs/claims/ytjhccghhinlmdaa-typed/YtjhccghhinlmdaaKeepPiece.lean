/- A text's piece, with spaces for what it has not. -/
import Derived.Test.YtjhccghhinlmdaaKeep
namespace Go.Proofs.Ytjhccghhinlmdaa
open Go.RowKit

def pieceL (L : List Int) (k n : Nat) : List Int := (L.drop k).take n ++ List.replicate (n - ((L.drop k).take n).length) 32

set_option maxHeartbeats 1000000 in
set_option maxRecDepth 100000 in
theorem piece_any (s : ByteArray) (k n : Nat) (w : World) (h : s.size ≤ 140737488355328) (hk : k ≤ 281474976710656) (hn : n ≤ 1000) :
    Calls Try.prog 10 #[.string s, .int .i64 k, .int .i64 n] w fun e w' => e = .returned (.string (strOfNums (pieceL (nums s) k n))) ∧ Fr [] w w' := by
  have fin : ∀ (o : ByteArray) (m : Nat), nums o = ((nums s).drop k).take n → m = n - (nums o).length → o ++ strOfNums (List.replicate m 32) = strOfNums (pieceL (nums s) k n) := by
    intro o m h1 h2
    apply nums_inj
    have hb : ∀ c ∈ pieceL (nums s) k n, 0 ≤ c ∧ c ≤ 255 := by
      intro c hc
      unfold pieceL at hc
      rcases List.mem_append.1 hc with hc | hc
      · have := List.mem_of_mem_drop (List.mem_of_mem_take hc)
        obtain ⟨b, _, rfl⟩ := List.mem_map.1 this
        have := b.toNat_lt
        omega
      · have := List.eq_of_mem_replicate hc; omega
    rw [nums_append, nums_str _ hb, nums_str _ (fun c hc => by have := List.eq_of_mem_replicate hc; omega), h1, h2, h1]
    rfl
  have zsz : ∀ m, (strOfNums (List.replicate m (32 : Int))).size = m := fun m => by rw [strOfNums_size]; simp
  have FIN := hide fin
  have ZSZ := hide zsz
  clear fin zsz
  have hlen := nums_length s
  have HLEN := hide hlen
  clear hlen
  by_cases h1 : k < s.size
  · by_cases h2 : s.size < k + n
    · have F := hide (FIN.out (s.extract k s.size) (n - (s.size - k)) (by
        rw [nums_extract, List.take_of_length_le (by simp [HLEN.out]), List.take_of_length_le (by simp [HLEN.out]; omega)]) (by
        rw [nums_extract]; simp [HLEN.out]))
      have z := ZSZ.out (n - (s.size - k))
      go_enter Try.func10, Try.ntmps10
      go_wp2_with fail
      rw [show ((n : Int) - ((s.size - k : Nat) : Int)) = ((n - (s.size - k) : Nat) : Int) from by omega]
      refine (spaces_any (n - (s.size - k)) _ (by omega)).mono ?_
      rintro e w1 ⟨rfl, f⟩
      go_wp2
      go_ret
      exact ⟨congrArg (fun b => Ending.returned (.string b)) F.out, f⟩
    · have F := hide (FIN.out (s.extract k (k + n)) 0 (by rw [nums_extract]; congr 1; omega) (by
        rw [nums_extract]; simp [HLEN.out]; omega))
      have z := ZSZ.out 0
      go_enter Try.func10, Try.ntmps10
      go_wp2_with fail
      rw [show ((n : Int) - ((min (k + n) s.size - k : Nat) : Int)) = ((0 : Nat) : Int) from by omega]
      refine (spaces_any 0 _ (by omega)).mono ?_
      rintro e w1 ⟨rfl, f⟩
      have hz : min (k + n) s.size - k ≤ 1000 := by omega
      generalize strOfNums (List.replicate 0 (32 : Int)) = z0 at *
      go_wp2
      go_ret
      exact ⟨congrArg (fun b => Ending.returned (.string b)) F.out, f⟩
  · have F := hide (FIN.out ByteArray.empty n (by
        rw [List.drop_eq_nil_of_le (by rw [HLEN.out]; omega)]; simp [nums]) (by simp [nums]))
    have z := ZSZ.out n
    go_enter Try.func10, Try.ntmps10
    go_wp2_with fail
    refine (spaces_any n _ (by omega)).mono ?_
    rintro e w1 ⟨rfl, f⟩
    go_wp2
    go_ret
    exact ⟨congrArg (fun b => Ending.returned (.string b)) F.out, f⟩
end Go.Proofs.Ytjhccghhinlmdaa
