/- The document's terminal is fed. -/
import Derived.Test.YtjhccghhinlmdabGreatDoorRefOn
namespace Go.Proofs.YtjhccghhinlmdabGreatDoor
open Go.RowKit

def R.eat (r : R) (c : Int) : R := if r.begun.size = 0 then r.takes c else r.goesOn c
def R.feed (r : R) (l : List Int) : R := l.foldl R.eat r

theorem R.down_begun (r : R) : r.down.begun = r.begun := by unfold R.down; split <;> rfl
theorem R.takes_begun (r : R) (c : Int) : (r.takes c).begun = if c = 27 then ⟨#[27]⟩ else r.begun := by
  unfold R.takes
  by_cases h : c = 27
  · simp [h]
  · simp only [if_neg h]
    (repeat' split) <;> first | rfl | (simp only [R.down_begun]) | skip
    unfold R.onward R.put R.fresh
    (repeat' split) <;> first | rfl | (simp only [R.down_begun])
theorem R.ends_begun (r : R) (l : List Int) (c : Int) : (r.ends l c).begun = r.begun := by
  unfold R.ends
  split
  · rfl
  · unfold R.query; split <;> rfl
  · unfold R.does
    (repeat' split) <;> rfl
theorem size_esc : (⟨#[27]⟩ : ByteArray).size = 1 := rfl
theorem size_open : (⟨#[91]⟩ : ByteArray).size = 1 := rfl
theorem size_none : (⟨#[]⟩ : ByteArray).size = 0 := rfl
theorem size_str1 (c : Int) : (strOfNums [c]).size = 1 := by rw [strOfNums_size]; rfl
theorem R.eat_size (r : R) (c : Int) : (r.eat c).begun.size ≤ r.begun.size + 1 := by
  unfold R.eat
  split
  · rw [R.takes_begun]
    split
    · rw [size_esc]; omega
    · omega
  · unfold R.goesOn
    (repeat' split) <;> simp only [R.ends_begun, ByteArray.size_append, size_esc, size_open, size_none, size_str1] <;> omega
theorem R.feed_size (l : List Int) : ∀ r : R, (r.feed l).begun.size ≤ r.begun.size + l.length := by
  induction l with
  | nil => intro r; simp [R.feed]
  | cons c l ih =>
    intro r
    have h1 := ih (r.eat c)
    have h2 := R.eat_size r c
    simp only [R.feed, List.foldl_cons, List.length_cons] at *
    omega

set_option maxHeartbeats 2000000 in
set_option maxRecDepth 100000 in
theorem rfeed_any (s : ByteArray) (w : World) (b : Nat) (g : RGh) (r : R) (h : RefAt w b g r) (hs : r.begun.size + s.size ≤ 2305843009213693952) :
    Calls Tryz.prog 17 #[.pointer (some ⟨b, 0, none⟩), .string s] w fun e w' => e = .returned (.int .i64 0) ∧ RUpd b g (r.feed (nums s)) w w' := by
  have HT := hide h
  clear h
  go_enter Tryz.func17, Tryz.ntmps17
  go_wp2
  go_loopw [5] (fun i wr => ∃ k : Nat, i = .int .i64 k ∧ k ≤ s.size ∧ RUpd b g (r.feed ((nums s).take k)) w wr) (fun i _ => s.size - (intOf i).toNat)
  case atStart => exact ⟨0, rfl, by omega, RUpd.of HT.out (Fr.refl _ _)⟩
  case round =>
    obtain ⟨k, rfl, hk, hu⟩ := hrel
    by_cases hlt : k < s.size
    · have HE := hide (show r.feed ((nums s).take (k + 1)) = (r.feed ((nums s).take k)).eat (s[k].toNat : Int) by
        rw [take_snoc (nums s) k 0 (by rw [nums_length]; exact hlt), nums_get s k hlt]; simp [R.feed])
      have hsz := R.feed_size ((nums s).take k) r
      rw [List.length_take, nums_length] at hsz
      obtain ⟨g1, t1, f1, s1⟩ := hu
      obtain ⟨d0, d1, d2, d3, d4, d5, d6, d7, d8⟩ := t1.cells
      have T1 := hide t1
      have FS := hide (And.intro f1 s1)
      have hby := (s[k]).toNat_lt
      clear t1 f1 s1 d0 d1 d2 d3 d4 d5 d6 d7
      generalize r.feed ((nums s).take k) = rk at *
      by_cases hz : rk.begun.size = 0
      · have hne : rk.begun.toList.isEmpty = true := by rw [bytes_empty]; simp [hz]
        have HZ := hide hz
        clear hz
        go_wp2_with (go_at_call 36; refine (takes_any _ _ b g1 _ T1.out).mono ?_; rintro e w2 ⟨rfl, u2⟩; have U2 : Hid (RUpd b g (r.feed ((nums s).take (k + 1))) w w2) := (by rw [HE.out, R.eat, if_pos HZ.out]; exact RUpd.via FS.out.1 FS.out.2 u2); clear u2)
        go_roundw
        case rel => exact ⟨k + 1, by go_num, by omega, U2.out⟩
        case measure => simp [intOf]; omega
      · have hne : rk.begun.toList.isEmpty = false := by rw [bytes_empty]; simpa using hz
        have HZ := hide hz
        have HZ1 : Hid (1 ≤ rk.begun.size ∧ rk.begun.size ≤ 2305843009213693952) := ⟨by omega, by omega⟩
        clear hz
        go_wp2_with (go_at_call 37; refine (goesOn_any _ _ b g1 _ T1.out (by omega) (by omega) HZ1.out.1 HZ1.out.2).mono ?_; rintro e w2 ⟨rfl, u2⟩; have U2 : Hid (RUpd b g (r.feed ((nums s).take (k + 1))) w w2) := (by rw [HE.out, R.eat, if_neg HZ.out]; exact RUpd.via FS.out.1 FS.out.2 u2); clear u2)
        go_roundw
        case rel => exact ⟨k + 1, by go_num, by omega, U2.out⟩
        case measure => simp [intOf]; omega
    · have E := hide (show (nums s).take k = nums s from List.take_of_length_le (by rw [nums_length]; omega))
      have U := hide hu
      clear hu
      go_wp2
      go_ret
      exact ⟨rfl, by rw [← E.out]; exact U.out⟩

set_option maxHeartbeats 400000 in
theorem rfeed_nil (s : ByteArray) (w : World) :
    Calls Tryz.prog 17 #[.pointer none, .string s] w fun e w' => e = .returned (.int .i64 1) ∧ w = w' := by
  go_enter Tryz.func17, Tryz.ntmps17
  go_wp2
  go_ret
  exact ⟨rfl, rfl⟩
end Go.Proofs.YtjhccghhinlmdabGreatDoor
