/- The document's terminal: the numbers of a sequence. -/
import Derived.Test.YtjhccghhinlmdabGreatDoorRefDown
namespace Go.Proofs.YtjhccghhinlmdabGreatDoor
open Go.RowKit

set_option maxHeartbeats 2000000 in
set_option maxRecDepth 100000 in
theorem rnumbers_any (w : World) (s : ByteArray) (hx : s.size ≤ 100) :
    Calls Tryz.prog 81 #[.string s] w (NumPost w (nums s)) := by
  obtain ⟨i0, hi, hz0, hz1, hz2⟩ := info_parts info_int
  have HLEN := hide (nums_length s)
  go_enter Tryz.func81, Tryz.ntmps81
  go_wp2
  go_loopw [4, 5, 6, 7] (fun v vn vd i wr => ∃ (k : Nat) (acc : List Int) (n d : Int), i = .int .i64 k ∧ vn = .int .i64 n ∧ vd = .int .i64 d ∧ k ≤ s.size ∧ Dig n d ∧ acc.length ≤ k ∧ Hid (rn ((nums s).drop k) acc n d = numbers (nums s)) ∧ Fr [] w wr ∧ wr.ownsRow w.heap.size 3 1 v acc.length (acc.map (Value.int .i64))) (fun _ _ _ i _ => (3000 - intOf i).toNat)
  case atStart => exact ⟨0, [], 0, 0, rfl, rfl, rfl, by omega, by unfold Dig; omega, by simp, rfl, Fr.refl _ _, World.ownsRow_nil _ _ _ _⟩
  case round =>
    obtain ⟨k, acc, n, d, rfl, rfl, rfl, hk, hd, hacc, HR, f, hown⟩ := hrel
    have hbd := hd.bd
    have hsz := f.size
    by_cases hend : k < s.size
    · have hdr := drop_cons (nums s) k 0 (by rw [HLEN.out]; exact hend)
      rw [nums_get s k hend] at hdr
      have hrk := (s[k]).toNat_lt
      have HDR := hide hdr
      have HO := hide hown
      clear hdr hown
      by_cases h59 : (s[k].toNat : Int) = 59
      · have b59 : ((s[k].toNat : Int) == 59) = true := by rw [h59]; rfl
        have H59 := hide h59
        clear h59
        go_wp2_with (first | (at_builtin; refine wpList_append_lies _ rfl (.tmp 19) (.tmp 21) 99 rfl w.heap.size 3 i0 (.int .i64 0) 1 8 Tryz.underlying99 hi hz0 hz1 hz2 rfl (by decide) u4 acc.length (acc.map (Value.int .i64)) rfl (own_fr0 HO.out (by repeat first | exact Fr.refl _ _ | apply Fr.drew | apply Fr.alloc)) ⟨wr.heap.size, 0, none⟩ 1 1 [.int .i64 n] rfl rfl (World.news_of_block (cs := #[.int .i64 n]) (t := 3) (fr := (0, 0)) (by exact heap_alloc_new wr _)) (one_one _ rfl) (by omega) (by unfold maxLen; omega) (by omega) (by simp; omega) (wr.heap.size + 1) (by simp) ?_; intro g1 cap1 w1 hown1 hgrow hat hlt1; have R1 : Hid (Fr [] w w1 ∧ w1.ownsRow w.heap.size 3 1 (.slice (some ⟨g1, 0, none⟩) (acc.length + 1) cap1) (acc.length + 1) (acc.map (Value.int .i64) ++ [.int .i64 n])) := ⟨Fr.grown (f.alloc _) hgrow (fun j hj => .inr (HO.out.lt j hj).1), hown1⟩; clear hown1 hgrow hat))
        go_roundw
        case rel =>
          refine ⟨k + 1, acc ++ [n], 0, 0, by go_num, rfl, rfl, by omega, by unfold Dig; omega, by simp; omega, ?_, R1.out.1, ?_⟩
          · have := HR.out
            rw [HDR.out] at this
            simp only [rn, if_pos H59.out] at this
            exact this
          · have := R1.out.2
            simpa using this
        case measure => simp [intOf]; omega
      · have b59 : ((s[k].toNat : Int) == 59) = false := by simpa using h59
        by_cases hdg : 48 ≤ (s[k].toNat : Int) ∧ (s[k].toNat : Int) ≤ 57 ∧ d < 3
        · have HN : Hid (rn ((nums s).drop (k + 1)) acc (n * 10 + ((s[k].toNat : Int) - 48)) (d + 1) = numbers (nums s)) := by
            have := HR.out
            rw [HDR.out] at this
            simp only [rn, if_neg h59, if_pos hdg] at this
            exact this
          obtain ⟨g1, g2, g3⟩ := hdg
          have HS := hide (hd.step g1 g2 g3)
          clear h59 HR HDR hd
          go_wp2
          go_roundw
          case rel =>
            refine ⟨k + 1, acc, n * 10 + ((s[k].toNat : Int) - 48), d + 1, by go_num, ?_, by go_num, by omega, HS.out, by omega, HN.out, f, HO.out⟩
            exact congrArg (Value.int .i64) (by omega)
          case measure => simp [intOf]; omega
        · have HN : Hid (numbers (nums s) = none) := by
            have := HR.out
            rw [HDR.out] at this
            simp only [rn, if_neg h59, if_neg hdg] at this
            exact this.symm
          have h3 : (s[k].toNat : Int) < 48 ∨ (48 ≤ (s[k].toNat : Int) ∧ 57 < (s[k].toNat : Int)) ∨ (48 ≤ (s[k].toNat : Int) ∧ (s[k].toNat : Int) ≤ 57 ∧ 3 ≤ d) := by omega
          clear h59 HR HDR hd hdg
          rcases h3 with h3 | ⟨h3, h4⟩ | ⟨h3, h4, h5⟩
          all_goals
            go_wp2
            go_ret2
            exact NumPost.none f HN.out
    · have hx0 : (nums s).drop k = [] := List.drop_eq_nil_of_le (by rw [HLEN.out]; omega)
      have HN : Hid (numbers (nums s) = some (acc ++ [n])) := by
        have := HR.out
        rw [hx0] at this
        simp only [rn] at this
        exact this.symm
      have HO := hide hown
      clear hx0 HR hown hd
      go_wp2_with (first | (at_builtin; refine wpList_append_lies _ rfl (.tmp 48) (.tmp 50) 99 rfl w.heap.size 3 i0 (.int .i64 0) 1 8 Tryz.underlying99 hi hz0 hz1 hz2 rfl (by decide) u4 acc.length (acc.map (Value.int .i64)) rfl (own_fr0 HO.out (by repeat first | exact Fr.refl _ _ | apply Fr.drew | apply Fr.alloc)) ⟨wr.heap.size, 0, none⟩ 1 1 [.int .i64 n] rfl rfl (World.news_of_block (cs := #[.int .i64 n]) (t := 3) (fr := (0, 0)) (by exact heap_alloc_new wr _)) (one_one _ rfl) (by omega) (by unfold maxLen; omega) (by omega) (by simp; omega) (wr.heap.size + 1) (by simp) ?_; intro g1 cap1 w1 hown1 hgrow hat hlt1; have R1 : Hid (Fr [] w w1 ∧ w1.ownsRow w.heap.size 3 1 (.slice (some ⟨g1, 0, none⟩) (acc.length + 1) cap1) (acc.length + 1) (acc.map (Value.int .i64) ++ [.int .i64 n])) := ⟨Fr.grown (f.alloc _) hgrow (fun j hj => .inr (HO.out.lt j hj).1), hown1⟩; clear hown1 hgrow hat))
      go_ret2
      have e1 : (acc ++ [n]).length = acc.length + 1 := by simp
      have := NumPost.some (cap := cap1) R1.out.1 HN.out (R1.out.2.lt g1 rfl).1 (by rw [e1, List.map_append]; exact R1.out.2)
      rw [e1] at this
      exact this
end Go.Proofs.YtjhccghhinlmdabGreatDoor
