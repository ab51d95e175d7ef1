/- The statements' own small functions. -/
import Derived.Test.YtjhccghhinlmdaaKeepPick
namespace Go.Proofs.Ytjhccghhinlmdaa
open Go.RowKit


set_option maxHeartbeats 1000000 in
theorem spaces_any (n : Nat) (w : World) (h : n ≤ 140737488355328) :
    Calls Try.prog 14 #[.int .i64 n] w fun e w' => e = .returned (.string (strOfNums (List.replicate n 32))) ∧ Fr [] w w' := by
  have hmk := run_make_row' (P := Try.prog) 44 5 (.int .u8 0) 1 Try.underlying44 info_u8 rfl .i64 .i64 n (by omega) (by omega)
  have hl : (List.replicate n (32 : Int)).length = n := by simp
  have HL := hide hl
  clear hl
  go_enter Try.func14, Try.ntmps14
  go_wp2
  go_loopw [4] (fun i wr => ∃ k : Nat, i = .int .i64 k ∧ k ≤ n ∧ Fr [] w wr ∧ Blk wr w.heap.size (fill (List.replicate n 32) k) 5) (fun i _ => n - (intOf i).toNat)
  case atStart =>
    refine ⟨0, rfl, by omega, (Fr.refl _ _).alloc _, ?_⟩
    rw [fill_zero, HL.out, made_eq]
    exact Blk.new _ _ _
  case round =>
    obtain ⟨k, rfl, hk, f, b⟩ := hrel
    by_cases hlt : k < n
    · obtain ⟨v, hv⟩ := fill_at (List.replicate n 32) k (by rw [HL.out]; exact hlt)
      have ck : wr.cell? ⟨w.heap.size, k, none⟩ = some v := by rw [b.cell, hv]
      have fk := b.frozen k
      have HB := hide b
      clear b hv
      go_wp2
      go_roundw
      case rel =>
        refine ⟨k + 1, by go_num, by omega, f.setCell (by simp) _, ?_⟩
        have := HB.out.set k (.int .u8 32)
        have e := fill_step (List.replicate n 32) k (by rw [HL.out]; exact hlt)
        rw [show (List.replicate n (32 : Int)).getD k 0 = 32 by simp [List.getD_eq_getElem?_getD, hlt]] at e
        rw [e] at this
        exact this
      case measure => simp [intOf]; omega
    · have e : k = (List.replicate n (32 : Int)).length := by rw [HL.out]; omega
      have kc : (convert 44 9 (.slice (some ⟨w.heap.size, 0, none⟩) n n)).run Try.prog wr = .ok (.string (strOfNums (List.replicate n 32))) wr := by
        have := blk_string (cap := n) (by rw [e, fill_all] at b; exact b)
        rw [HL.out] at this
        exact this
      clear b e
      go_wp2
      go_ret
      exact ⟨rfl, f⟩

set_option maxHeartbeats 1000000 in
theorem styles_any (n : Nat) (s : Int) (w : World) (h : n ≤ 140737488355328) (hs : 0 ≤ s) (hs2 : s ≤ 255) :
    Calls Try.prog 11 #[.int .i64 n, .int .i64 s] w fun e w' => e = .returned (.string (strOfNums (List.replicate n s))) ∧ Fr [] w w' := by
  have hmk := run_make_row' (P := Try.prog) 44 5 (.int .u8 0) 1 Try.underlying44 info_u8 rfl .i64 .i64 n (by omega) (by omega)
  have hl : (List.replicate n s).length = n := by simp
  have HL := hide hl
  clear hl
  go_enter Try.func11, Try.ntmps11
  go_wp2
  go_loopw [6] (fun i wr => ∃ k : Nat, i = .int .i64 k ∧ k ≤ n ∧ Fr [] w wr ∧ Blk wr w.heap.size (fill (List.replicate n s) k) 5) (fun i _ => n - (intOf i).toNat)
  case atStart =>
    refine ⟨0, rfl, by omega, (Fr.refl _ _).alloc _, ?_⟩
    rw [fill_zero, HL.out, made_eq]
    exact Blk.new _ _ _
  case round =>
    obtain ⟨k, rfl, hk, f, b⟩ := hrel
    by_cases hlt : k < n
    · obtain ⟨v, hv⟩ := fill_at (List.replicate n s) k (by rw [HL.out]; exact hlt)
      have ck : wr.cell? ⟨w.heap.size, k, none⟩ = some v := by rw [b.cell, hv]
      have fk := b.frozen k
      have HB := hide b
      clear b hv
      go_wp2
      go_roundw
      case rel =>
        refine ⟨k + 1, by go_num, by omega, f.setCell (by simp) _, ?_⟩
        have := HB.out.set k (.int .u8 s)
        have e := fill_step (List.replicate n s) k (by rw [HL.out]; exact hlt)
        rw [show (List.replicate n s).getD k 0 = s by simp [List.getD_eq_getElem?_getD, hlt]] at e
        rw [e] at this
        exact this
      case measure => simp [intOf]; omega
    · have e : k = (List.replicate n s).length := by rw [HL.out]; omega
      have kc : (convert 44 9 (.slice (some ⟨w.heap.size, 0, none⟩) n n)).run Try.prog wr = .ok (.string (strOfNums (List.replicate n s))) wr := by
        have := blk_string (cap := n) (by rw [e, fill_all] at b; exact b)
        rw [HL.out] at this
        exact this
      clear b e
      go_wp2
      go_ret
      exact ⟨rfl, f⟩

/-- the letters that bytes are turned into -/
def lets (s : ByteArray) : List Int := (nums s).map fun c => 32 + c % 95
theorem lets_length (s : ByteArray) : (lets s).length = s.size := by unfold lets; rw [List.length_map, nums_length]
theorem lets_bd (s : ByteArray) : ∀ c ∈ lets s, 32 ≤ c ∧ c ≤ 126 := by
  intro c hc
  obtain ⟨b, _, rfl⟩ := List.mem_map.1 hc
  omega
theorem lets_get (s : ByteArray) (k : Nat) (h : k < s.size) : (lets s).getD k 0 = 32 + (s[k].toNat : Int) % 95 := by
  have := nums_get s k h
  rw [List.getD_eq_getElem?_getD] at this ⊢
  have h2 : k < (nums s).length := by rw [nums_length]; exact h
  rw [List.getElem?_eq_getElem h2] at this
  simp only [lets, List.getElem?_map, List.getElem?_eq_getElem h2, Option.map_some, Option.getD_some] at this ⊢
  rw [this]

set_option maxHeartbeats 1000000 in
theorem letters_any (s : ByteArray) (w : World) (h : s.size ≤ 140737488355328) :
    Calls Try.prog 7 #[.string s] w fun e w' => e = .returned (.string (strOfNums (lets s))) ∧ Fr [] w w' := by
  have hmk := run_make_row' (P := Try.prog) 44 5 (.int .u8 0) 1 Try.underlying44 info_u8 rfl .i64 .i64 s.size (by omega) (by omega)
  have HL := hide (lets_length s)
  go_enter Try.func7, Try.ntmps7
  go_wp2
  go_loopw [4] (fun i wr => ∃ k : Nat, i = .int .i64 k ∧ k ≤ s.size ∧ Fr [] w wr ∧ Blk wr w.heap.size (fill (lets s) k) 5) (fun i _ => s.size - (intOf i).toNat)
  case atStart =>
    refine ⟨0, rfl, by omega, (Fr.refl _ _).alloc _, ?_⟩
    rw [fill_zero, HL.out, made_eq]
    exact Blk.new _ _ _
  case round =>
    obtain ⟨k, rfl, hk, f, b⟩ := hrel
    by_cases hlt : k < s.size
    · obtain ⟨v, hv⟩ := fill_at (lets s) k (by rw [HL.out]; exact hlt)
      have ck : wr.cell? ⟨w.heap.size, k, none⟩ = some v := by rw [b.cell, hv]
      have fk := b.frozen k
      have HB := hide b
      have e := fill_step (lets s) k (by rw [HL.out]; exact hlt)
      rw [lets_get s k hlt] at e
      have HE := hide e
      clear b hv e
      go_wp2
      go_roundw
      case rel =>
        refine ⟨k + 1, by go_num, by omega, f.setCell (by simp) _, ?_⟩
        rw [← HE.out]
        exact HB.out.set k _
      case measure => simp [intOf]; omega
    · have e : k = (lets s).length := by rw [HL.out]; omega
      have kc : (convert 44 9 (.slice (some ⟨w.heap.size, 0, none⟩) s.size s.size)).run Try.prog wr = .ok (.string (strOfNums (lets s))) wr := by
        have := blk_string (cap := s.size) (by rw [e, fill_all] at b; exact b)
        rw [HL.out] at this
        exact this
      clear b e
      go_wp2
      go_ret
      exact ⟨rfl, f⟩

end Go.Proofs.Ytjhccghhinlmdaa
