/- The brush walked: it moves, and takes another pen. -/
import Derived.Test.YtjhccghhinlmdaaDoorBrush
namespace Go.Proofs.YtjhccghhinlmdaaDoor
open Go.RowKit

theorem nums_mk1 (a b : ByteArray) (x y : Int) (ha : nums a = dig (y + 1)) (hb : nums b = dig (x + 1)) : nums (⟨#[27, 91]⟩ ++ a ++ ⟨#[59]⟩ ++ b ++ ⟨#[72]⟩) = moveL x y := by
  rw [nums_append, nums_append, nums_append, nums_append, ha, hb]
  simp [moveL, nums]
theorem size_of_nums {s : ByteArray} {l : List Int} {n : Nat} (h : nums s = l) (hl : l.length ≤ n) : s.size ≤ n := by rw [← nums_length, h]; exact hl

set_option maxHeartbeats 2000000 in
set_option maxRecDepth 100000 in
theorem bmove_any (x y : Int) (w : World) (base bb : Nat) (b : B) (h : BrAt w base bb b) (hl : b.bytes.length ≤ 99000) (x0 : 0 ≤ x) (x1 : x < 99) (y0 : 0 ≤ y) (y1 : y < 99) :
    Calls Tryd.prog 73 #[.pointer (some ⟨bb, 0, none⟩), .int .i64 x, .int .i64 y] w fun e w' => e = .returned (.tuple #[]) ∧ Keeps base w w' ∧ BrAt w' base bb (b.moveTo x y) := by
  have c1 : w.cell? ⟨bb, 1, none⟩ = some (.int .i64 b.x) := by obtain ⟨v, hb, _⟩ := h.row; exact hb.cell 1
  have c2 : w.cell? ⟨bb, 2, none⟩ = some (.int .i64 b.y) := by obtain ⟨v, hb, _⟩ := h.row; exact hb.cell 2
  have HB := hide h
  have hge := h.ge
  have lt := h.lt
  clear h
  by_cases hs : x = b.x ∧ y = b.y
  · have E := hide (show b.moveTo x y = b by unfold B.moveTo; rw [if_pos hs])
    have q1 : (x == b.x) = true := by simpa using hs.1
    have q2 : (y == b.y) = true := by simpa using hs.2
    clear hs
    go_enter Tryd.func73, Tryd.ntmps73
    go_wp2
    exact bodyPost_ret (results_none rfl _ _ _) rfl ⟨rfl, Keeps.refl _ _, by rw [E.out]; exact HB.out⟩
  · have E := hide (show b.moveTo x y = ⟨b.bytes ++ moveL x y, x, y, b.pen⟩ by unfold B.moveTo; rw [if_neg hs])
    have hne : (x == b.x) = false ∨ ((x == b.x) = true ∧ (y == b.y) = false) := by
      by_cases hx : x = b.x
      · exact .inr ⟨by simpa using hx, by simp; intro hy; exact hs ⟨hx, hy⟩⟩
      · exact .inl (by simpa using hx)
    clear hs
    have ML := hide (moveL_len x y)
    have i1 := hide (itoa_any (y + 1) (by omega) (by omega) w)
    have i2 := hide (itoa_any (x + 1) (by omega) (by omega) w)
    rcases hne with q1 | ⟨q1, q2⟩
    all_goals
      go_enter Tryd.func73, Tryd.ntmps73
      go_wp2_with fail
      refine i1.out.mono ?_
      rintro e w' ⟨wc, s1, hs1, rfl⟩
      subst wc
      have S1 := hide hs1
      clear hs1
      go_wp2_with fail
      refine i2.out.mono ?_
      rintro e w' ⟨wc, s2, hs2, rfl⟩
      subst wc
      have S2 := hide hs2
      clear hs2
      have z1 : s1.size ≤ 2 := size_of_nums S1.out (dig_len _)
      have z2 : s2.size ≤ 2 := size_of_nums S2.out (dig_len _)
      have NM := hide (nums_mk1 s1 s2 x y S1.out S2.out)
      have AD := hide (badd_any (⟨#[27, 91]⟩ ++ s1 ++ ⟨#[59]⟩ ++ s2 ++ ⟨#[72]⟩) w base bb b HB.out (by omega) (size_of_nums NM.out (by have := ML.out; omega)))
      rw [NM.out] at AD
      go_wp2_with fail
      refine AD.out.mono ?_
      rintro e w1 ⟨rfl, l1, b1⟩
      obtain ⟨⟨v1, k1, o1⟩, _⟩ := b1
      have d1 : w1.cell? ⟨bb, 1, none⟩ = some (.int .i64 b.x) := k1.cell 1
      have d2 : w1.cell? ⟨bb, 2, none⟩ = some (.int .i64 b.y) := k1.cell 2
      have z1 := k1.frozen 1
      have z2 := k1.frozen 2
      have lt1 := k1.lt
      have L1 := hide l1
      have K1 := hide k1
      have O1 := hide o1
      clear l1 k1 o1
      go_wp2
      go_end0
      rw [E.out]
      refine ⟨rfl, (L1.out.set hge K1.out _).set hge (K1.out.set 1 _) _, ⟨v1, (K1.out.set 1 _).set 2 _, ?_⟩, hge⟩
      exact own_fr (S := [bb]) O1.out (((Fr.refl _ _).setCell (.inl (by simp)) _).setCell (.inl (by simp)) _) (by intro x hx; simp at hx; subst hx; exact own_ne O1.out K1.out (by decide))

theorem nums_mk2 (a b : ByteArray) (s : Int) (ha : nums a = [if s < 8 then 48 else 49]) (hb : nums b = dig (30 + s % 8)) : nums (⟨#[27, 91]⟩ ++ a ++ ⟨#[59]⟩ ++ b ++ ⟨#[109]⟩) = penL s := by
  rw [nums_append, nums_append, nums_append, nums_append, ha, hb]
  simp [penL, penP, nums]

set_option maxHeartbeats 2000000 in
set_option maxRecDepth 100000 in
theorem bpen_any (s : Int) (w : World) (base bb : Nat) (b : B) (h : BrAt w base bb b) (hl : b.bytes.length ≤ 99000) (s0 : 0 ≤ s) (s1 : s ≤ 15) :
    Calls Tryd.prog 74 #[.pointer (some ⟨bb, 0, none⟩), .int .u8 s] w fun e w' => e = .returned (.tuple #[]) ∧ Keeps base w w' ∧ BrAt w' base bb (b.setPen s) := by
  have c3 : w.cell? ⟨bb, 3, none⟩ = some (.int .u8 b.pen) := by obtain ⟨v, hb, _⟩ := h.row; exact hb.cell 3
  have HB := hide h
  have hge := h.ge
  have lt := h.lt
  clear h
  by_cases hs : s = b.pen
  · have E := hide (show b.setPen s = b by unfold B.setPen; rw [if_pos hs])
    have bq : (s == b.pen) = true := by simpa using hs
    go_enter Tryd.func74, Tryd.ntmps74
    go_wp2
    exact bodyPost_ret (results_none rfl _ _ _) rfl ⟨rfl, Keeps.refl _ _, by rw [E.out]; exact HB.out⟩
  · have E := hide (show b.setPen s = ⟨b.bytes ++ penL s, b.x, b.y, s⟩ by unfold B.setPen; rw [if_neg hs])
    have PL := hide (penL_len s)
    have i1 := hide (itoa_any (30 + s % 8) (by omega) (by omega) w)
    have NM := hide (fun a b => nums_mk2 a b s)
    have DG : Hid (nums ⟨#[48]⟩ = [48] ∧ nums ⟨#[49]⟩ = [49]) := ⟨by decide, by decide⟩
    have bq : (s == b.pen) = false := by simpa using hs
    by_cases h8 : s < 8
    · rw [if_pos h8] at NM
      go_enter Tryd.func74, Tryd.ntmps74
      go_wp2_with fail
      refine i1.out.mono ?_
      rintro e w' ⟨wc, t1, ht1, rfl⟩
      subst wc
      have S1 := hide ht1
      clear ht1
      have z1 : t1.size ≤ 2 := size_of_nums S1.out (dig_len _)
      have NM := hide (NM.out ⟨#[48]⟩ t1 DG.out.1 S1.out)
      have AD := hide (badd_any (⟨#[27, 91]⟩ ++ ⟨#[48]⟩ ++ ⟨#[59]⟩ ++ t1 ++ ⟨#[109]⟩) w base bb b HB.out (by omega) (size_of_nums NM.out (by have := PL.out; omega)))
      rw [NM.out] at AD
      go_wp2_with fail
      refine AD.out.mono ?_
      rintro e w1 ⟨rfl, l1, b1⟩
      obtain ⟨⟨v1, k1, o1⟩, _⟩ := b1
      have d3 : w1.cell? ⟨bb, 3, none⟩ = some (.int .u8 b.pen) := k1.cell 3
      have z3 := k1.frozen 3
      have lt1 := k1.lt
      have L1 := hide l1
      have K1 := hide k1
      have O1 := hide o1
      clear l1 k1 o1
      go_wp2
      go_end0
      rw [E.out]
      refine ⟨rfl, L1.out.set hge K1.out _, ⟨v1, K1.out.set 3 _, ?_⟩, hge⟩
      exact own_fr (S := [bb]) O1.out ((Fr.refl _ _).setCell (.inl (by simp)) _) (by intro x hx; simp at hx; subst hx; exact own_ne O1.out K1.out (by decide))
    · rw [if_neg h8] at NM
      go_enter Tryd.func74, Tryd.ntmps74
      go_wp2_with fail
      refine i1.out.mono ?_
      rintro e w' ⟨wc, t1, ht1, rfl⟩
      subst wc
      have S1 := hide ht1
      clear ht1
      have z1 : t1.size ≤ 2 := size_of_nums S1.out (dig_len _)
      have NM := hide (NM.out ⟨#[49]⟩ t1 DG.out.2 S1.out)
      have AD := hide (badd_any (⟨#[27, 91]⟩ ++ ⟨#[49]⟩ ++ ⟨#[59]⟩ ++ t1 ++ ⟨#[109]⟩) w base bb b HB.out (by omega) (size_of_nums NM.out (by have := PL.out; omega)))
      rw [NM.out] at AD
      go_wp2_with fail
      refine AD.out.mono ?_
      rintro e w1 ⟨rfl, l1, b1⟩
      obtain ⟨⟨v1, k1, o1⟩, _⟩ := b1
      have d3 : w1.cell? ⟨bb, 3, none⟩ = some (.int .u8 b.pen) := k1.cell 3
      have z3 := k1.frozen 3
      have lt1 := k1.lt
      have L1 := hide l1
      have K1 := hide k1
      have O1 := hide o1
      clear l1 k1 o1
      go_wp2
      go_end0
      rw [E.out]
      refine ⟨rfl, L1.out.set hge K1.out _, ⟨v1, K1.out.set 3 _, ?_⟩, hge⟩
      exact own_fr (S := [bb]) O1.out ((Fr.refl _ _).setCell (.inl (by simp)) _) (by intro x hx; simp at hx; subst hx; exact own_ne O1.out K1.out (by decide))
end Go.Proofs.YtjhccghhinlmdaaDoor
