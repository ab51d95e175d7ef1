import Derived.Test.YtjhccghhinlmdaaGreatDoorPackBrush
import Derived.Test.YtjhccghhinlmdaaGreatDoorPackPaintView
/- The brush walked: it moves, and takes another pen. -/
namespace Go.Proofs.YtjhccghhinlmdaaGreatDoor
open Go.RowKit

theorem nums_mk1 (a b : ByteArray) (x y : Int) (ha : nums a = dig (y + 1)) (hb : nums b = dig (x + 1)) : nums (⟨#[27, 91]⟩ ++ a ++ ⟨#[59]⟩ ++ b ++ ⟨#[72]⟩) = moveL x y := by
  rw [nums_append, nums_append, nums_append, nums_append, ha, hb]
  simp [moveL, nums]
theorem size_of_nums {s : ByteArray} {l : List Int} {n : Nat} (h : nums s = l) (hl : l.length ≤ n) : s.size ≤ n := by rw [← nums_length, h]; exact hl

set_option maxHeartbeats 2000000 in
set_option maxRecDepth 100000 in
theorem bmove_any (x y : Int) (w : World) (base bb : Nat) (b : B) (h : BrAt w base bb b) (hl : b.bytes.length ≤ 99000) (x0 : 0 ≤ x) (x1 : x < 99) (y0 : 0 ≤ y) (y1 : y < 99) :
    Calls Tryz.prog 118 #[.pointer (some ⟨bb, 0, none⟩), .int .i64 x, .int .i64 y] w fun e w' => e = .returned (.tuple #[]) ∧ Keeps base w w' ∧ BrAt w' base bb (b.moveTo x y) := by
  have c1 : w.cell? ⟨bb, 1, none⟩ = some (.int .i64 b.x) := by obtain ⟨v, hb, _⟩ := h.row; exact hb.cell 1
  have c2 : w.cell? ⟨bb, 2, none⟩ = some (.int .i64 b.y) := by obtain ⟨v, hb, _⟩ := h.row; exact hb.cell 2
  have HB := hide h
  have hge := h.ge
  have lt := h.lt
  clear h
  by_cases hs : x = b.x ∧ y = b.y
  · have E := hide (show b.moveTo x y = b by unfold B.moveTo; rw [if_pos hs])
    have q1 : (x == b.x) = true := by simpa using hs.1
    have q2 : (y == b.y) = true := by simpa using hs.2
    clear hs
    go_enter Tryz.func118, Tryz.ntmps118
    go_wp2
    exact bodyPost_ret (results_none rfl _ _ _) rfl ⟨rfl, Keeps.refl _ _, by rw [E.out]; exact HB.out⟩
  · have E := hide (show b.moveTo x y = ⟨b.bytes ++ moveL x y, x, y, b.pen⟩ by unfold B.moveTo; rw [if_neg hs])
    have hne : (x == b.x) = false ∨ ((x == b.x) = true ∧ (y == b.y) = false) := by
      by_cases hx : x = b.x
      · exact .inr ⟨by simpa using hx, by simp; intro hy; exact hs ⟨hx, hy⟩⟩
      · exact .inl (by simpa using hx)
    clear hs
    have ML := hide (moveL_len x y)
    have i1 := hide (itoa_any (y + 1) (by omega) (by omega) w)
    have i2 := hide (itoa_any (x + 1) (by omega) (by omega) w)
    rcases hne with q1 | ⟨q1, q2⟩
    all_goals
      go_enter Tryz.func118, Tryz.ntmps118
      go_wp2_with fail
      refine i1.out.mono ?_
      rintro e w' ⟨wc, s1, hs1, rfl⟩
      subst wc
      have S1 := hide hs1
      clear hs1
      go_wp2_with fail
      refine i2.out.mono ?_
      rintro e w' ⟨wc, s2, hs2, rfl⟩
      subst wc
      have S2 := hide hs2
      clear hs2
      have z1 : s1.size ≤ 2 := size_of_nums S1.out (dig_len _)
      have z2 : s2.size ≤ 2 := size_of_nums S2.out (dig_len _)
      have NM := hide (nums_mk1 s1 s2 x y S1.out S2.out)
      have AD := hide (badd_any (⟨#[27, 91]⟩ ++ s1 ++ ⟨#[59]⟩ ++ s2 ++ ⟨#[72]⟩) w base bb b HB.out (by omega) (size_of_nums NM.out (by have := ML.out; omega)))
      rw [NM.out] at AD
      go_wp2_with fail
      refine AD.out.mono ?_
      rintro e w1 ⟨rfl, l1, b1⟩
      obtain ⟨⟨v1, k1, o1⟩, _⟩ := b1
      have d1 : w1.cell? ⟨bb, 1, none⟩ = some (.int .i64 b.x) := k1.cell 1
      have d2 : w1.cell? ⟨bb, 2, none⟩ = some (.int .i64 b.y) := k1.cell 2
      have z1 := k1.frozen 1
      have z2 := k1.frozen 2
      have lt1 := k1.lt
      have L1 := hide l1
      have K1 := hide k1
      have O1 := hide o1
      clear l1 k1 o1
      go_wp2
      go_end0
      rw [E.out]
      refine ⟨rfl, (L1.out.set hge K1.out _).set hge (K1.out.set 1 _) _, ⟨v1, (K1.out.set 1 _).set 2 _, ?_⟩, hge⟩
      exact own_fr (S := [bb]) O1.out (((Fr.refl _ _).setCell (.inl (by simp)) _).setCell (.inl (by simp)) _) (by intro x hx; simp at hx; subst hx; exact own_ne O1.out K1.out (by decide))

theorem nums_mk2 (a b : ByteArray) (s : Int) (ha : nums a = [if s < 8 then 48 else 49]) (hb : nums b = dig (30 + s % 8)) : nums (⟨#[27, 91]⟩ ++ a ++ ⟨#[59]⟩ ++ b ++ ⟨#[109]⟩) = penL s := by
  rw [nums_append, nums_append, nums_append, nums_append, ha, hb]
  simp [penL, penP, nums]

set_option maxHeartbeats 2000000 in
set_option maxRecDepth 100000 in
theorem bpen_any (s : Int) (w : World) (base bb : Nat) (b : B) (h : BrAt w base bb b) (hl : b.bytes.length ≤ 99000) (s0 : 0 ≤ s) (s1 : s ≤ 15) :
    Calls Tryz.prog 119 #[.pointer (some ⟨bb, 0, none⟩), .int .u8 s] w fun e w' => e = .returned (.tuple #[]) ∧ Keeps base w w' ∧ BrAt w' base bb (b.setPen s) := by
  have c3 : w.cell? ⟨bb, 3, none⟩ = some (.int .u8 b.pen) := by obtain ⟨v, hb, _⟩ := h.row; exact hb.cell 3
  have HB := hide h
  have hge := h.ge
  have lt := h.lt
  clear h
  by_cases hs : s = b.pen
  · have E := hide (show b.setPen s = b by unfold B.setPen; rw [if_pos hs])
    have bq : (s == b.pen) = true := by simpa using hs
    go_enter Tryz.func119, Tryz.ntmps119
    go_wp2
    exact bodyPost_ret (results_none rfl _ _ _) rfl ⟨rfl, Keeps.refl _ _, by rw [E.out]; exact HB.out⟩
  · have E := hide (show b.setPen s = ⟨b.bytes ++ penL s, b.x, b.y, s⟩ by unfold B.setPen; rw [if_neg hs])
    have PL := hide (penL_len s)
    have i1 := hide (itoa_any (30 + s % 8) (by omega) (by omega) w)
    have NM := hide (fun a b => nums_mk2 a b s)
    have DG : Hid (nums ⟨#[48]⟩ = [48] ∧ nums ⟨#[49]⟩ = [49]) := ⟨by decide, by decide⟩
    have bq : (s == b.pen) = false := by simpa using hs
    by_cases h8 : s < 8
    · rw [if_pos h8] at NM
      go_enter Tryz.func119, Tryz.ntmps119
      go_wp2_with fail
      refine i1.out.mono ?_
      rintro e w' ⟨wc, t1, ht1, rfl⟩
      subst wc
      have S1 := hide ht1
      clear ht1
      have z1 : t1.size ≤ 2 := size_of_nums S1.out (dig_len _)
      have NM := hide (NM.out ⟨#[48]⟩ t1 DG.out.1 S1.out)
      have AD := hide (badd_any (⟨#[27, 91]⟩ ++ ⟨#[48]⟩ ++ ⟨#[59]⟩ ++ t1 ++ ⟨#[109]⟩) w base bb b HB.out (by omega) (size_of_nums NM.out (by have := PL.out; omega)))
      rw [NM.out] at AD
      go_wp2_with fail
      refine AD.out.mono ?_
      rintro e w1 ⟨rfl, l1, b1⟩
      obtain ⟨⟨v1, k1, o1⟩, _⟩ := b1
      have d3 : w1.cell? ⟨bb, 3, none⟩ = some (.int .u8 b.pen) := k1.cell 3
      have z3 := k1.frozen 3
      have lt1 := k1.lt
      have L1 := hide l1
      have K1 := hide k1
      have O1 := hide o1
      clear l1 k1 o1
      go_wp2
      go_end0
      rw [E.out]
      refine ⟨rfl, L1.out.set hge K1.out _, ⟨v1, K1.out.set 3 _, ?_⟩, hge⟩
      exact own_fr (S := [bb]) O1.out ((Fr.refl _ _).setCell (.inl (by simp)) _) (by intro x hx; simp at hx; subst hx; exact own_ne O1.out K1.out (by decide))
    · rw [if_neg h8] at NM
      go_enter Tryz.func119, Tryz.ntmps119
      go_wp2_with fail
      refine i1.out.mono ?_
      rintro e w' ⟨wc, t1, ht1, rfl⟩
      subst wc
      have S1 := hide ht1
      clear ht1
      have z1 : t1.size ≤ 2 := size_of_nums S1.out (dig_len _)
      have NM := hide (NM.out ⟨#[49]⟩ t1 DG.out.2 S1.out)
      have AD := hide (badd_any (⟨#[27, 91]⟩ ++ ⟨#[49]⟩ ++ ⟨#[59]⟩ ++ t1 ++ ⟨#[109]⟩) w base bb b HB.out (by omega) (size_of_nums NM.out (by have := PL.out; omega)))
      rw [NM.out] at AD
      go_wp2_with fail
      refine AD.out.mono ?_
      rintro e w1 ⟨rfl, l1, b1⟩
      obtain ⟨⟨v1, k1, o1⟩, _⟩ := b1
      have d3 : w1.cell? ⟨bb, 3, none⟩ = some (.int .u8 b.pen) := k1.cell 3
      have z3 := k1.frozen 3
      have lt1 := k1.lt
      have L1 := hide l1
      have K1 := hide k1
      have O1 := hide o1
      clear l1 k1 o1
      go_wp2
      go_end0
      rw [E.out]
      refine ⟨rfl, L1.out.set hge K1.out _, ⟨v1, K1.out.set 3 _, ?_⟩, hge⟩
      exact own_fr (S := [bb]) O1.out ((Fr.refl _ _).setCell (.inl (by simp)) _) (by intro x hx; simp at hx; subst hx; exact own_ne O1.out K1.out (by decide))
end Go.Proofs.YtjhccghhinlmdaaGreatDoor
/- The brush walked: the cells that are to be others are written. -/
namespace Go.Proofs.YtjhccghhinlmdaaGreatDoor
open Go.RowKit

theorem getD_cell (l : List (Int × Int)) (i : Nat) (h : i < l.length) : l.getD i (32, 7) = (chr l i, sty l i) := by
  simp [chr, sty, List.getD_eq_getElem?_getD, h]
theorem B.upto_len' (W : Int) (f g : List (Int × Int)) (n : Nat) (h : n ≤ 800) : (B.upto W f g n).bytes.length ≤ 12800 := by
  have h1 := B.upto_len W f g n
  have h2 := others_le f g n
  omega
set_option maxHeartbeats 4000000 in
set_option maxRecDepth 100000 in
theorem bpaint_any (w : World) (base bb : Nat) (W H : Int) (fg fc fcap : Nat) (fsp : List Value) (f : List (Int × Int)) (gg gc gcap : Nat) (gsp : List Value) (g : List (Int × Int))
    (h : BrAt w base bb B.first) (GF : Grid w fg fc fcap fsp W H f) (GG : Grid w gg gc gcap gsp W H g) (l1 : fg < base) (l2 : fc < base) (l3 : gg < base) (l4 : gc < base) (hc : Chars g) :
    Calls Tryz.prog 108 #[.pointer (some ⟨bb, 0, none⟩), .pointer (some ⟨fg, 0, none⟩), .pointer (some ⟨gg, 0, none⟩)] w
      fun e w' => e = .returned (.tuple #[]) ∧ Keeps base w w' ∧ BrAt w' base bb (B.paint W H f g) := by
  have w1 := GF.w1
  have w2 := GF.w2
  have h1 := GF.h1
  have h2 := GF.h2
  have HB := hide (mul_bd w1 w2 h1 h2)
  have HF := hide GF
  have HG := hide GG
  have HR := hide h
  have HC := hide hc
  clear GF GG h hc
  go_enter Tryz.func108, Tryz.ntmps108
  go_wp2
  go_loopw [6] (fun i wr => ∃ y : Int, i = .int .i64 y ∧ 0 ≤ y ∧ y ≤ H ∧ Keeps base w wr ∧ BrAt wr base bb (B.upto W f g (y * W).toNat)) (fun i _ => (3000 - intOf i).toNat)
  case atStart => exact ⟨0, rfl, by omega, by omega, Keeps.refl _ _, by rw [show ((0 : Int) * W).toNat = 0 by simp]; exact HR.out⟩
  case round =>
    obtain ⟨y, rfl, y1, y2, lo, br⟩ := hrel
    have gy := HG.out.below lo.below l3 l4
    have q1 : wr.cell? ⟨gg, 1, none⟩ = some (.int .i64 H) := gy.hd.cell 1
    have blt := gy.hd.lt
    clear gy
    by_cases hend : y < H
    · have HBY := hide br
      have HLY := hide lo
      clear br lo
      go_wp2
      go_loopw [7] (fun i wq => ∃ x : Int, i = .int .i64 x ∧ 0 ≤ x ∧ x ≤ W ∧ Keeps base w wq ∧ BrAt wq base bb (B.upto W f g (y * W + x).toNat)) (fun i _ => (3000 - intOf i).toNat)
      case atStart => exact ⟨0, rfl, by omega, by omega, HLY.out, by rw [Int.add_zero]; exact HBY.out⟩
      case round =>
        rename_i wy
        obtain ⟨x, rfl, x1, x2, lo, br⟩ := hrel
        have gx := HG.out.below lo.below l3 l4
        have fx := HF.out.below lo.below l1 l2
        have r0 : wr.cell? ⟨gg, 0, none⟩ = some (.int .i64 W) := gx.hd.cell 0
        have blt2 := gx.hd.lt
        by_cases hx : x < W
        · have idx := idx_bd (W := W) (H := H) (x := x) (y := y) w2 h2 x1 hx y1 hend
          obtain ⟨k, hk⟩ := Int.eq_ofNat_of_zero_le (show 0 ≤ y * W + x by omega)
          have hk' : (y * W + x).toNat = k := by omega
          obtain ⟨e1, e2⟩ := at_div (W := W) (x := x) (y := y) x1 hx
          rw [hk] at e1 e2
          have hkl : (k : Int) < W * H := by omega
          have fl := fx.len
          have gl := gx.len
          have AF := hide (at_in x y W H wr fg fc fcap fsp f fx x1 hx y1 hend)
          have AG := hide (fun w' (fr : Fr [] wr w') => at_in x y W H w' gg gc gcap gsp g (gx.fr0 fr) x1 hx y1 hend)
          rw [hk'] at AF AG br
          have cg := getD_cell g k (by omega)
          have cf := getD_cell f k (by omega)
          have hm : g.getD k (32, 7) ∈ g := by simp [List.getD_eq_getElem?_getD, show k < g.length by omega]
          obtain ⟨m1, m2, m3, m4⟩ := HC.out _ hm
          rw [cg] at m1 m2 m3 m4
          have BL := hide (B.upto_len' W f g k (by have := HB.out; omega))
          have NX : Hid (∀ b : B, B.upto W f g k = b → B.upto W f g (y * W + (x + 1)).toNat = if (chr g k, sty g k) = (chr f k, sty f k) then b else ((b.moveTo x y).setPen (sty g k)).write (chr g k)) := by
            intro b hb
            rw [show (y * W + (x + 1)).toNat = k + 1 by omega, B.upto_succ, hb]
            unfold B.cell
            rw [cg, cf, e1, e2]
          have BR := hide br
          have LO := hide lo
          clear br lo gx fx e1 e2 hk hk' hkl cg cf hm fl gl idx
          generalize chr g k = gc1 at *
          generalize sty g k = gs1 at *
          generalize chr f k = fc1 at *
          generalize sty f k = fs1 at *
          generalize B.upto W f g k = b at *
          go_wp2_with fail
          refine AF.out.mono ?_
          rintro e w3 ⟨rfl, f3⟩
          have F3 := hide f3
          clear f3 r0
          go_wp2_with fail
          refine (AG.out _ (F3.out.alloc _)).mono ?_
          rintro e w4 ⟨rfl, f4⟩
          have F4 : Hid (Fr [] wr w4) := (F3.out.alloc _).then f4
          have BX : Hid (Blk w4 w3.heap.size [.int .u8 fc1, .int .u8 fs1] 117) := (Blk.new w3 _ _).fr0 f4
          have k0 : w4.cell? ⟨w3.heap.size, 0, none⟩ = some (.int .u8 fc1) := BX.out.cell 0
          have k1 : w4.cell? ⟨w3.heap.size, 1, none⟩ = some (.int .u8 fs1) := BX.out.cell 1
          have lt4 := BX.out.lt
          clear f4 AF AG
          by_cases hs : gc1 = fc1 ∧ gs1 = fs1
          · have E : Hid (B.upto W f g (y * W + (x + 1)).toNat = b) := by show _ = _; rw [NX.out b rfl, if_pos (by rw [hs.1, hs.2])]
            obtain ⟨rfl, rfl⟩ := hs
            go_wp2
            go_roundw
            case rel => exact ⟨x + 1, by go_num, by omega, by omega, LO.out.trans ((F4.out.alloc _).keeps (by have := BR.out.lt; have := BR.out.ge; omega)), by rw [E.out]; exact BR.out.fr0 (F4.out.alloc _)⟩
            case measure => simp [intOf]; omega
          · have E : Hid (B.upto W f g (y * W + (x + 1)).toNat = ((b.moveTo x y).setPen gs1).write gc1) := by show _ = _; rw [NX.out b rfl, if_neg (by intro h; simp at h; exact hs h)]
            have hne : (gc1 == fc1) = false ∨ ((gc1 == fc1) = true ∧ (gs1 == fs1) = false) := by
              by_cases hx : gc1 = fc1
              · exact .inr ⟨by simpa using hx, by simp; intro hy; exact hs ⟨hx, hy⟩⟩
              · exact .inl (by simpa using hx)
            have MX : Hid ((b.moveTo x y).x = x) := by
              show _ = _
              unfold B.moveTo; split
              · rename_i h; exact h.1.symm
              · rfl
            have PX : Hid (((b.moveTo x y).setPen gs1).x = x) := by
              show _ = _
              rw [show ((b.moveTo x y).setPen gs1).x = (b.moveTo x y).x by unfold B.setPen; split <;> rfl]; exact MX.out
            have L1 := hide (B.moveTo_len b x y)
            have L2 := hide (B.setPen_len (b.moveTo x y) gs1)
            have BR4 : Hid (BrAt (w4.alloc (.cells #[.int .u8 gc1, .int .u8 gs1] 117)) base bb b) := BR.out.fr0 (F4.out.alloc _)
            have LO4 : Hid (Keeps base w (w4.alloc (.cells #[.int .u8 gc1, .int .u8 gs1] 117))) := LO.out.trans ((F4.out.alloc _).keeps (by have := BR.out.lt; have := BR.out.ge; omega))
            clear hs
            rcases hne with q1 | ⟨q1, q2⟩
            all_goals
              go_wp2_with fail
              refine (bmove_any x y _ base bb b BR4.out (by have := BL.out; omega) x1 (by omega) y1 (by omega)).mono ?_
              rintro e w5 ⟨rfl, l5, b5⟩
              have k5 := l5.blk _ _ _ (Blk.new w4 [.int .u8 gc1, .int .u8 gs1] 117) (by decide) (by decide)
              have s50 : w5.cell? ⟨w4.heap.size, 0, none⟩ = some (.int .u8 gc1) := k5.cell 0
              have s51 : w5.cell? ⟨w4.heap.size, 1, none⟩ = some (.int .u8 gs1) := k5.cell 1
              have lt5 := k5.lt
              have K5 := hide k5
              have L5 := hide (LO4.out.trans l5)
              have B5 := hide b5
              clear k5 l5 b5
              go_wp2_with fail
              refine (bpen_any gs1 _ base bb _ B5.out (by have := BL.out; have := L1.out; omega) m3 m4).mono ?_
              rintro e w6 ⟨rfl, l6, b6⟩
              have k6 := l6.blk _ _ _ K5.out (by decide) (by decide)
              have s60 : w6.cell? ⟨w4.heap.size, 0, none⟩ = some (.int .u8 gc1) := k6.cell 0
              have lt6 := k6.lt
              have L6 := hide (L5.out.trans l6)
              have B6 := hide b6
              clear k6 l6 b6 L5 B5 K5
              go_wp2_with fail
              refine (bwrite_any gc1 _ base bb _ B6.out (by have := BL.out; have := L1.out; have := L2.out; omega) (by rw [PX.out]; omega) (by rw [PX.out]; omega)).mono ?_
              rintro e w7 ⟨rfl, l7, b7⟩
              have L7 := hide (L6.out.trans l7)
              have B7 := hide b7
              clear l7 b7 L6 B6
              go_wp2
              go_roundw
              case rel => exact ⟨x + 1, by go_num, by omega, by omega, L7.out, by rw [E.out]; exact B7.out⟩
              case measure => simp [intOf]; omega
        · have hx' : x = W := by omega
          subst hx'
          have ey : y * x + x = (y + 1) * x := by rw [Int.add_mul]; omega
          rw [ey] at br
          have BR := hide br
          clear br ey hx gx fx
          go_wp2
          go_roundw
          case rel => exact ⟨y + 1, by go_num, by omega, by omega, lo, BR.out⟩
          case measure => simp [intOf]; omega
    · have hy : y = H := by omega
      subst hy
      have BR := hide br
      have BL := hide (B.upto_len' W f g (y * W).toNat (by have := HB.out; rw [Int.mul_comm]; omega))
      clear br
      go_wp2_with fail
      refine (bpen_any 7 _ base bb _ BR.out (by have := BL.out; omega) (by decide) (by decide)).mono ?_
      rintro e w3 ⟨rfl, l3, b3⟩
      have E : Hid (B.paint W y f g = (B.upto W f g (y * W).toNat).setPen 7) := by show _ = _; unfold B.paint; rw [Int.mul_comm]
      have L3 := hide (lo.trans l3)
      have B3 := hide b3
      clear l3 b3
      go_wp2
      go_end0
      exact ⟨rfl, L3.out, by rw [E.out]; exact B3.out⟩
end Go.Proofs.YtjhccghhinlmdaaGreatDoor
/- The brush walked: the cursor is set; one screen is turned into another, and a whole one is painted. -/
namespace Go.Proofs.YtjhccghhinlmdaaGreatDoor
open Go.RowKit

/-- a cursor, as it is handed over -/
def Cur.val (c : Cur) : Value := .agg #[.int .i64 c.x, .int .i64 c.y, .bool c.shown]
theorem nums_show : nums ⟨#[27, 91, 63, 50, 53, 104]⟩ = showL := by decide
theorem nums_hide : nums ⟨#[27, 91, 63, 50, 53, 108]⟩ = hideL := by decide

set_option maxHeartbeats 2000000 in
set_option maxRecDepth 100000 in
theorem bcursor_any (cx cy dx dy : Int) (cs ds : Bool) (w : World) (base bb : Nat) (b : B) (h : BrAt w base bb b) (hl : b.bytes.length ≤ 98000) (hd : ds = true → 0 ≤ dx ∧ dx < 99 ∧ 0 ≤ dy ∧ dy < 99) :
    Calls Tryz.prog 109 #[.pointer (some ⟨bb, 0, none⟩), .agg #[.int .i64 cx, .int .i64 cy, .bool cs], .agg #[.int .i64 dx, .int .i64 dy, .bool ds]] w
      fun e w' => e = .returned (.tuple #[]) ∧ Keeps base w w' ∧ ∃ b', BrAt w' base bb b' ∧ b'.bytes = b.cursor ⟨cx, cy, cs⟩ ⟨dx, dy, ds⟩ := by
  have hge := h.ge
  have lt := h.lt
  have f1 : Fr [] w (w.alloc (.cells #[.int .i64 cx, .int .i64 cy, .bool cs] 66)) := (Fr.refl _ _).alloc _
  have f2 := f1.alloc (.cells #[.int .i64 dx, .int .i64 dy, .bool ds] 66)
  have F2 := hide f2
  have k1 : Blk ((w.alloc (.cells #[.int .i64 cx, .int .i64 cy, .bool cs] 66)).alloc (.cells #[.int .i64 dx, .int .i64 dy, .bool ds] 66)) w.heap.size [.int .i64 cx, .int .i64 cy, .bool cs] 66 := (Blk.new w _ _).alloc _
  have k2 : Blk ((w.alloc (.cells #[.int .i64 cx, .int .i64 cy, .bool cs] 66)).alloc (.cells #[.int .i64 dx, .int .i64 dy, .bool ds] 66)) (w.heap.size + 1) [.int .i64 dx, .int .i64 dy, .bool ds] 66 := by
    have := Blk.new (w.alloc (.cells #[.int .i64 cx, .int .i64 cy, .bool cs] 66)) [.int .i64 dx, .int .i64 dy, .bool ds] 66
    simpa using this
  have K1 := hide k1
  have K2 := hide k2
  have H2 := hide (h.fr0 f2)
  have KP := hide (f2.keeps (base := base) (by omega))
  clear f1 f2 k1 k2 h
  have ML := hide (B.moveTo_len b dx dy)
  cases ds
  · clear hd
    cases cs
    · have E : Hid (b.cursor ⟨cx, cy, false⟩ ⟨dx, dy, false⟩ = b.bytes) := by show _ = _; simp [B.cursor]
      go_enter Tryz.func109, Tryz.ntmps109
      go_wp2
      go_end0
      exact ⟨rfl, KP.out, b, H2.out, E.out.symm⟩
    · have E : Hid (b.cursor ⟨cx, cy, true⟩ ⟨dx, dy, false⟩ = b.bytes ++ hideL) := by show _ = _; simp [B.cursor]
      have AD := hide (badd_any ⟨#[27, 91, 63, 50, 53, 108]⟩ _ base bb b H2.out (by omega) (by decide))
      rw [nums_hide] at AD
      go_enter Tryz.func109, Tryz.ntmps109
      go_wp2_with fail
      refine AD.out.mono ?_
      rintro e w3 ⟨rfl, l3, b3⟩
      have L3 := hide (KP.out.trans l3)
      have B3 := hide b3
      clear l3 b3
      go_wp2
      go_end0
      exact ⟨rfl, L3.out, _, B3.out, E.out.symm⟩
  · obtain ⟨d1, d2, d3, d4⟩ := hd rfl
    have MV := hide (bmove_any dx dy _ base bb b H2.out (by omega) d1 d2 d3 d4)
    cases cs
    · have E : Hid (b.cursor ⟨cx, cy, false⟩ ⟨dx, dy, true⟩ = (b.moveTo dx dy).bytes ++ showL) := by show _ = _; simp [B.cursor]
      have NS := hide nums_show
      go_enter Tryz.func109, Tryz.ntmps109
      go_wp2_with fail
      refine MV.out.mono ?_
      rintro e w3 ⟨rfl, l3, b3⟩
      have j1 := l3.blk _ _ _ K1.out (by decide) (by decide)
      have j2 := l3.blk _ _ _ K2.out (by decide) (by decide)
      have c12 : w3.cell? ⟨w.heap.size, 2, none⟩ = some (.bool false) := j1.cell 2
      have c22 : w3.cell? ⟨w.heap.size + 1, 2, none⟩ = some (.bool true) := j2.cell 2
      have lt3 := j2.lt
      have J1 := hide j1
      have J2 := hide j2
      have AD := hide (badd_any ⟨#[27, 91, 63, 50, 53, 104]⟩ _ base bb _ b3 (by have := ML.out; omega) (by decide))
      rw [NS.out] at AD
      have L3 := hide (KP.out.trans l3)
      clear l3 b3 j1 j2
      go_wp2_with fail
      refine AD.out.mono ?_
      rintro e w4 ⟨rfl, l4, b4⟩
      have j1 := l4.blk _ _ _ J1.out (by decide) (by decide)
      have c14 : w4.cell? ⟨w.heap.size, 2, none⟩ = some (.bool false) := j1.cell 2
      have L4 := hide (L3.out.trans l4)
      have B4 := hide b4
      clear l4 b4 j1
      go_wp2
      go_end0
      exact ⟨rfl, L4.out, _, B4.out, E.out.symm⟩
    · have E : Hid (b.cursor ⟨cx, cy, true⟩ ⟨dx, dy, true⟩ = (b.moveTo dx dy).bytes) := by show _ = _; simp [B.cursor]
      go_enter Tryz.func109, Tryz.ntmps109
      go_wp2_with fail
      refine MV.out.mono ?_
      rintro e w3 ⟨rfl, l3, b3⟩
      have j1 := l3.blk _ _ _ K1.out (by decide) (by decide)
      have j2 := l3.blk _ _ _ K2.out (by decide) (by decide)
      have c12 : w3.cell? ⟨w.heap.size, 2, none⟩ = some (.bool true) := j1.cell 2
      have c22 : w3.cell? ⟨w.heap.size + 1, 2, none⟩ = some (.bool true) := j2.cell 2
      have lt3 := j2.lt
      have L3 := hide (KP.out.trans l3)
      have B3 := hide b3
      clear l3 b3 j1 j2
      go_wp2
      go_end0
      exact ⟨rfl, L3.out, _, B3.out, E.out.symm⟩

theorem Fr.thenBelow {B : Nat} {a b c : World} (f : Fr [] a b) (h : Below B b c) (hB : a.heap.size ≤ B) : Fr [] a c :=
  ⟨h.os.trans f.os, h.tape.trans f.tape, h.output.trans f.output, Nat.le_trans f.size h.size, fun k hk hn => (h.block k (by omega)).trans (f.block k hk hn)⟩
/-- a slice of the call's own, as a string, whatever its length -/
theorem own_str {w : World} {base : Nat} {e : TypeId} {v : Value} {k : Nat} {xs : List Int} {src dst : TypeId} (h : w.ownsRow base e 1 v k (xs.map (Value.int .u8))) (hs : Tryz.prog.underlying src = some (.slice e)) (he : Tryz.prog.underlying e = some (.int .u8)) (hd : Tryz.prog.underlying dst = some .string) :
    ∃ sa sc, v = .slice sa k sc ∧ ∀ w', Fr [] w w' → (convert src dst (.slice sa k sc)).run Tryz.prog w' = .ok (.string (strOfNums xs)) w' := by
  rcases Nat.eq_zero_or_pos k with h0 | h0
  · subst h0
    have hx : xs = [] := by have := h.1; simp at this; exact this
    subst hx
    rcases h.2 with ⟨rfl, _⟩ | ⟨g, cap, cur, rfl, _⟩
    · refine ⟨none, 0, rfl, fun w' _ => ?_⟩
      rw [run_convert_bytes_nil w' src e hs he 0 0 dst hd]; rfl
    · exact ⟨_, _, rfl, fun w' _ => run_convert_bytes_arg w' src e hs he g 0 0 cap [] rfl (fun i hi => by omega) dst hd⟩
  · obtain ⟨g, cap, rfl, hc⟩ := own_string h h0 hs he hd
    exact ⟨_, _, rfl, hc⟩
theorem cur_ne {c d : Cur} (h : c ≠ d) : (c.x == d.x) = false ∨ ((c.x == d.x) = true ∧ (c.y == d.y) = false) ∨ ((c.x == d.x) = true ∧ (c.y == d.y) = true ∧ (c.shown == d.shown) = false) := by
  by_cases h1 : c.x = d.x
  · by_cases h2 : c.y = d.y
    · refine .inr (.inr ⟨by simpa using h1, by simpa using h2, ?_⟩)
      simp; intro h3; exact h (by cases c; cases d; simp_all)
    · exact .inr (.inl ⟨by simpa using h1, by simpa using h2⟩)
  · exact .inl (by simpa using h1)
theorem cursor_bytes_len (b : B) (c d : Cur) (h : b.bytes.length ≤ 13000) : (b.cursor c d).length ≤ 14000 := by have := b.cursor_len c d; omega

set_option maxHeartbeats 4000000 in
set_option maxRecDepth 100000 in
theorem bchange_any (w : World) (W H : Int) (fg fc fcap : Nat) (fsp : List Value) (f : List (Int × Int)) (gg gc gcap : Nat) (gsp : List Value) (g : List (Int × Int)) (c d : Cur)
    (GF : Grid w fg fc fcap fsp W H f) (GG : Grid w gg gc gcap gsp W H g) (hc : Chars g) (hd : d.shown = true → 0 ≤ d.x ∧ d.x < W ∧ 0 ≤ d.y ∧ d.y < H) :
    Calls Tryz.prog 94 #[.agg #[.pointer (some ⟨fg, 0, none⟩), .int .i64 c.x, .int .i64 c.y, .bool c.shown], .agg #[.pointer (some ⟨gg, 0, none⟩), .int .i64 d.x, .int .i64 d.y, .bool d.shown]] w
      fun e w' => e = .returned (.string (strOfNums (change W H f g c d))) ∧ Fr [] w w' := by
  have b1 := GF.hd.lt
  have b2 := GF.row.lt
  have b3 := GG.hd.lt
  have b4 := GG.row.lt
  have hw := GF.w2
  have hh := GF.h2
  have mb := hide (mul_bd GF.w1 GF.w2 GF.h1 GF.h2)
  have PL : Hid ((B.paint W H f g).bytes.length ≤ 13000) := by
    show _ ≤ _
    have h1 := B.paint_len W H f g
    have h2 := others_le f g (W * H).toNat
    have := mb.out
    omega
  have f3 := hide ((((Fr.refl [] w).alloc (.cells #[.pointer (some ⟨fg, 0, none⟩), .int .i64 c.x, .int .i64 c.y, .bool c.shown] 128)).alloc (.cells #[.pointer (some ⟨gg, 0, none⟩), .int .i64 d.x, .int .i64 d.y, .bool d.shown] 128)).alloc (.cells #[.slice none 0 0, .int .i64 (-1), .int .i64 (-1), .int .u8 7] 157))
  have k1 := hide (((Blk.new w [.pointer (some ⟨fg, 0, none⟩), .int .i64 c.x, .int .i64 c.y, .bool c.shown] 128).alloc (.cells #[.pointer (some ⟨gg, 0, none⟩), .int .i64 d.x, .int .i64 d.y, .bool d.shown] 128)).alloc (.cells #[.slice none 0 0, .int .i64 (-1), .int .i64 (-1), .int .u8 7] 157))
  have k2 : Hid (Blk (((w.alloc (.cells #[.pointer (some ⟨fg, 0, none⟩), .int .i64 c.x, .int .i64 c.y, .bool c.shown] 128)).alloc (.cells #[.pointer (some ⟨gg, 0, none⟩), .int .i64 d.x, .int .i64 d.y, .bool d.shown] 128)).alloc (.cells #[.slice none 0 0, .int .i64 (-1), .int .i64 (-1), .int .u8 7] 157)) (w.heap.size + 1) [.pointer (some ⟨gg, 0, none⟩), .int .i64 d.x, .int .i64 d.y, .bool d.shown] 128) := by
    have := (Blk.new (w.alloc (.cells #[.pointer (some ⟨fg, 0, none⟩), .int .i64 c.x, .int .i64 c.y, .bool c.shown] 128)) [.pointer (some ⟨gg, 0, none⟩), .int .i64 d.x, .int .i64 d.y, .bool d.shown] 128).alloc (.cells #[.slice none 0 0, .int .i64 (-1), .int .i64 (-1), .int .u8 7] 157)
    exact hide (by simpa using this)
  have B0 : Hid (BrAt (((w.alloc (.cells #[.pointer (some ⟨fg, 0, none⟩), .int .i64 c.x, .int .i64 c.y, .bool c.shown] 128)).alloc (.cells #[.pointer (some ⟨gg, 0, none⟩), .int .i64 d.x, .int .i64 d.y, .bool d.shown] 128)).alloc (.cells #[.slice none 0 0, .int .i64 (-1), .int .i64 (-1), .int .u8 7] 157)) (w.heap.size + 2) (w.heap.size + 2) B.first) := by
    refine ⟨⟨.slice none 0 0, ?_, World.ownsRow_nil _ _ _ _⟩, Nat.le_refl _⟩
    show Blk _ _ [.slice none 0 0, .int .i64 (-1), .int .i64 (-1), .int .u8 7] 157
    have := Blk.new ((w.alloc (.cells #[.pointer (some ⟨fg, 0, none⟩), .int .i64 c.x, .int .i64 c.y, .bool c.shown] 128)).alloc (.cells #[.pointer (some ⟨gg, 0, none⟩), .int .i64 d.x, .int .i64 d.y, .bool d.shown] 128)) [.slice none 0 0, .int .i64 (-1), .int .i64 (-1), .int .u8 7] 157
    simpa using this
  have PA := hide (bpaint_any _ (w.heap.size + 2) (w.heap.size + 2) W H fg fc fcap fsp f gg gc gcap gsp g B0.out (GF.fr0 f3.out) (GG.fr0 f3.out) (by omega) (by omega) (by omega) (by omega) hc)
  have CH : Hid (change W H f g c d = if (B.paint W H f g).bytes = [] ∧ c = d then [] else (B.paint W H f g).cursor c d) := rfl
  have CE : Hid (∀ h : c ≠ d, _) := fun h => cur_ne h
  clear GF GG hc B0
  generalize B.paint W H f g = b at *
  generalize change W H f g c d = out at *
  obtain ⟨cx, cy, cs⟩ := c
  obtain ⟨dx, dy, ds⟩ := d
  have CU := hide (fun w' base bb (h : BrAt w' base bb b) => bcursor_any cx cy dx dy cs ds w' base bb b h (by have := PL.out; omega) (by intro h; have := hd h; simp only [] at this; omega))
  clear hd
  simp only [] at *
  go_enter Tryz.func94, Tryz.ntmps94
  go_wp2_with fail
  refine PA.out.mono ?_
  rintro e w4 ⟨rfl, l4, b4'⟩
  have j1 := l4.blk _ _ _ k1.out (by decide) (by decide)
  have j2 := l4.blk _ _ _ k2.out (by decide) (by decide)
  have a1 : w4.cell? ⟨w.heap.size, 1, none⟩ = some (.int .i64 cx) := j1.cell 1
  have a2 : w4.cell? ⟨w.heap.size, 2, none⟩ = some (.int .i64 cy) := j1.cell 2
  have a3 : w4.cell? ⟨w.heap.size, 3, none⟩ = some (.bool cs) := j1.cell 3
  have e1 : w4.cell? ⟨w.heap.size + 1, 1, none⟩ = some (.int .i64 dx) := j2.cell 1
  have e2 : w4.cell? ⟨w.heap.size + 1, 2, none⟩ = some (.int .i64 dy) := j2.cell 2
  have e3 : w4.cell? ⟨w.heap.size + 1, 3, none⟩ = some (.bool ds) := j2.cell 3
  obtain ⟨v, hb, ho⟩ := b4'.row
  obtain ⟨sa, sc, rfl, kc⟩ := own_str (src := 52) (dst := 9) ho Tryz.underlying52 Tryz.underlying5 Tryz.underlying9
  have v0 : w4.cell? ⟨w.heap.size + 2, 0, none⟩ = some (.slice sa b.bytes.length sc) := hb.cell 0
  have lt4 := hb.lt
  have B4 := hide b4'
  have F4 := hide (f3.out.thenBelow l4.below (by omega))
  have kc4 := kc w4 (Fr.refl _ _)
  have pl := PL.out
  clear j1 j2 hb ho b4' l4 kc PA k1 k2 f3
  by_cases hz : b.bytes.length = 0
  · have hb0 : b.bytes = [] := List.eq_nil_of_length_eq_zero hz
    rw [hz] at v0 kc4
    by_cases hcd : (⟨cx, cy, cs⟩ : Cur) = ⟨dx, dy, ds⟩
    · have OUT : Hid (out = b.bytes) := by show _ = _; rw [CH.out, if_pos ⟨hb0, hcd⟩, hb0]
      injection hcd with h1 h2 h3
      subst h1 h2 h3
      clear hb0 CH CE CU
      go_wp2
      go_ret
      exact ⟨ret_str (by rw [OUT.out]), F4.out⟩
    · have OUT : Hid (out = b.cursor ⟨cx, cy, cs⟩ ⟨dx, dy, ds⟩) := by show _ = _; rw [CH.out, if_neg (fun h => hcd h.2)]
      have hne := CE.out hcd
      clear hb0 CH CE hcd
      have CUW := hide (CU.out w4 _ _ B4.out)
      clear CU
      rcases hne with q1 | ⟨q1, q2⟩ | ⟨q1, q2, q3⟩
      all_goals
        go_wp2_with fail
        refine CUW.out.mono ?_
        rintro e w5 ⟨rfl, l5, b5, hb5, hby⟩
        obtain ⟨v5, hb6, ho5⟩ := hb5.row
        obtain ⟨sa5, sc5, rfl, kc5⟩ := own_str (src := 52) (dst := 9) ho5 Tryz.underlying52 Tryz.underlying5 Tryz.underlying9
        have v50 : w5.cell? ⟨w.heap.size + 2, 0, none⟩ = some (.slice sa5 b5.bytes.length sc5) := hb6.cell 0
        have lt5 := hb6.lt
        have kc6 := kc5 w5 (Fr.refl _ _)
        have F5 := hide (F4.out.thenBelow l5.below (by omega))
        have HBY := hide hby
        clear hb6 ho5 kc5 hb5 l5 hby CUW
        go_wp2
        go_ret
        exact ⟨ret_str (by rw [OUT.out, HBY.out]), F5.out⟩
  · have OUT : Hid (out = b.cursor ⟨cx, cy, cs⟩ ⟨dx, dy, ds⟩) := by show _ = _; rw [CH.out, if_neg (fun h => hz (by rw [h.1]; rfl))]
    have hpos : 0 < b.bytes.length := by omega
    have CUW := hide (CU.out w4 _ _ B4.out)
    clear CH CE CU hz
    go_wp2_with fail
    refine CUW.out.mono ?_
    rintro e w5 ⟨rfl, l5, b5, hb5, hby⟩
    obtain ⟨v5, hb6, ho5⟩ := hb5.row
    obtain ⟨sa5, sc5, rfl, kc5⟩ := own_str (src := 52) (dst := 9) ho5 Tryz.underlying52 Tryz.underlying5 Tryz.underlying9
    have v50 : w5.cell? ⟨w.heap.size + 2, 0, none⟩ = some (.slice sa5 b5.bytes.length sc5) := hb6.cell 0
    have lt5 := hb6.lt
    have kc6 := kc5 w5 (Fr.refl _ _)
    have F5 := hide (F4.out.thenBelow l5.below (by omega))
    have HBY := hide hby
    clear hb6 ho5 kc5 hb5 l5 hby CUW
    go_wp2
    go_ret
    exact ⟨ret_str (by rw [OUT.out, HBY.out]), F5.out⟩
end Go.Proofs.YtjhccghhinlmdaaGreatDoor
/- The brush walked: a whole screen. -/
namespace Go.Proofs.YtjhccghhinlmdaaGreatDoor
open Go.RowKit

theorem str_app (s : ByteArray) (l : List Int) (hs : AreBytes (nums s)) (hl : AreBytes l) : s ++ strOfNums l = strOfNums (nums s ++ l) := by
  apply nums_inj
  rw [nums_append, nums_str l hl, nums_str _ (hs.append hl)]
theorem str_size (l : List Int) : (strOfNums l).size = l.length := by
  have : (strOfNums l).data.toList.length = l.length := by rw [strOfNums_data]; simp
  simpa using this
theorem nums_wipe : nums ⟨#[27, 91, 109, 27, 91, 50, 74, 27, 91, 63, 50, 53, 108]⟩ = wipeL := by decide
theorem whole_str (W H : Int) (w1 : 1 ≤ W) (w2 : W ≤ 40) (h1 : 1 ≤ H) (h2 : H ≤ 20) (g : List (Int × Int)) (hc : Chars g) (d : Cur) (hd : d.shown = true → 0 ≤ d.x ∧ d.x < W ∧ 0 ≤ d.y ∧ d.y < H) :
    (⟨#[27, 91, 109, 27, 91, 50, 74, 27, 91, 63, 50, 53, 108]⟩ : ByteArray) ++ strOfNums (change W H (List.replicate (W * H).toNat (32, 7)) g ⟨0, 0, false⟩ d) = strOfNums (whole W H g d) := by
  rw [str_app _ _ (by rw [nums_wipe]; exact wipeL_bytes) (change_bytes w1 w2 h1 h2 _ g hc _ d hd), nums_wipe]; rfl

set_option maxHeartbeats 2000000 in
set_option maxRecDepth 100000 in
theorem bwhole_any (w : World) (W H : Int) (gg gc gcap : Nat) (gsp : List Value) (g : List (Int × Int)) (d : Cur)
    (GG : Grid w gg gc gcap gsp W H g) (hc : Chars g) (hd : d.shown = true → 0 ≤ d.x ∧ d.x < W ∧ 0 ≤ d.y ∧ d.y < H) :
    Calls Tryz.prog 79 #[.agg #[.pointer (some ⟨gg, 0, none⟩), .int .i64 d.x, .int .i64 d.y, .bool d.shown]] w
      fun e w' => e = .returned (.string (strOfNums (whole W H g d))) ∧ Fr [] w w' := by
  have WS := hide (whole_str W H GG.w1 GG.w2 GG.h1 GG.h2 g hc d hd)
  have SZ : Hid ((strOfNums (change W H (List.replicate (W * H).toNat (32, 7)) g ⟨0, 0, false⟩ d)).size ≤ 100000) := by
    show _ ≤ _
    rw [str_size]
    have h1 := change_len W H (List.replicate (W * H).toNat (32, 7)) g ⟨0, 0, false⟩ d
    have h2 := others_le (List.replicate (W * H).toNat (32, 7)) g (W * H).toNat
    have := mul_bd GG.w1 GG.w2 GG.h1 GG.h2
    omega
  have F1 : Hid (Fr [] w (w.alloc (.cells #[.pointer (some ⟨gg, 0, none⟩), .int .i64 d.x, .int .i64 d.y, .bool d.shown] 128))) := (Fr.refl _ _).alloc _
  have BL := hide (gblank_any W H _ gg gc gcap gsp g (GG.fr0 F1.out))
  have HG := hide GG
  have HC := hide hc
  have HD := hide hd
  clear GG hc hd
  go_enter Tryz.func79, Tryz.ntmps79
  go_wp2_with fail
  refine BL.out.mono ?_
  rintro e w2 ⟨ng, nc, cap, sp, rfl, n1, n2, f2, h2⟩
  have K2 := (Blk.new w [.pointer (some ⟨gg, 0, none⟩), .int .i64 d.x, .int .i64 d.y, .bool d.shown] 128).fr0 f2
  have a0 : w2.cell? ⟨w.heap.size, 0, none⟩ = some (.pointer (some ⟨gg, 0, none⟩)) := K2.cell 0
  have a1 : w2.cell? ⟨w.heap.size, 1, none⟩ = some (.int .i64 d.x) := K2.cell 1
  have a2 : w2.cell? ⟨w.heap.size, 2, none⟩ = some (.int .i64 d.y) := K2.cell 2
  have a3 : w2.cell? ⟨w.heap.size, 3, none⟩ = some (.bool d.shown) := K2.cell 3
  have lt2 := K2.lt
  have F2 := hide (F1.out.then f2)
  have FA : Hid (Fr [] w2 (w2.alloc (.cells #[.pointer (some ⟨ng, 0, none⟩), .int .i64 0, .int .i64 0, .bool false] 128))) := (Fr.refl _ _).alloc _
  have CH := hide (bchange_any _ W H ng nc cap sp _ gg gc gcap gsp g ⟨0, 0, false⟩ d (h2.fr0 FA.out) ((HG.out.fr0 F2.out).fr0 FA.out) HC.out HD.out)
  clear K2 h2 f2 BL n1 n2
  go_wp2_with fail
  refine CH.out.mono ?_
  rintro e w3 ⟨rfl, f3⟩
  have F3 := hide ((F2.out.alloc _).then f3)
  clear f3 CH
  have sz := SZ.out
  generalize strOfNums (change W H (List.replicate (W * H).toNat (32, 7)) g ⟨0, 0, false⟩ d) = rest at *
  go_wp2
  go_ret
  exact ⟨ret_str WS.out, F3.out⟩
end Go.Proofs.YtjhccghhinlmdaaGreatDoor
/- The program's painter: where it lies, what is to stand on its terminal, and what brings its grid up to the view. -/
namespace Go.Proofs.YtjhccghhinlmdaaGreatDoor
open Go.RowKit

/-- a painter as plain data -/
structure Pt where
  W : Int
  H : Int
  v : V
  cx : Int
  cy : Int
/-- does the cursor's place lie on the screen? -/
def Pt.on (m : Pt) : Bool := decide (0 ≤ m.cx) && decide (m.cx < m.W) && decide (0 ≤ m.cy) && decide (m.cy < m.H)
/-- the cursor as it is to be seen -/
def Pt.cur (m : Pt) : Cur := ⟨if m.on then m.cx else 0, if m.on then m.cy else 0, m.on⟩
def Pt.grid (m : Pt) : List (Int × Int) := m.v.grid m.W m.H
theorem Pt.cur_on (m : Pt) : m.cur.shown = true → 0 ≤ m.cur.x ∧ m.cur.x < m.W ∧ 0 ≤ m.cur.y ∧ m.cur.y < m.H := by
  intro h
  have h : m.on = true := h
  simp only [Pt.cur, h, if_true]
  simp [Pt.on] at h
  omega
/-- the bytes that turn the terminal of one painter into that of another -/
def Pt.told (m m' : Pt) : List Int := change m'.W m'.H m.grid m'.grid m.cur m'.cur
def Pt.whole (m : Pt) : List Int := Proofs.YtjhccghhinlmdaaGreatDoor.whole m.W m.H m.grid m.cur
/-- where its parts lie -/
structure PGh where
  bg : Nat
  bc : Nat
  gcap : Nat
  sp : List Value
  pv : Value
  ps : List Pane
def pfoot (b : Nat) (g : PGh) : List Nat := b :: g.bg :: g.bc :: (g.pv.ownBlock.toList ++ g.ps.map Pane.lb)
/-- a painter lies at block b; its grid's cells are l -/
structure PntRaw (w : World) (b : Nat) (g : PGh) (m : Pt) (l : List (Int × Int)) : Prop where
  st : Blk w b [.pointer (some ⟨g.bg, 0, none⟩), g.pv, .int .i64 m.cx, .int .i64 m.cy] 98
  gr : Grid w g.bg g.bc g.gcap g.sp m.W m.H l
  pn : PanesIn 0 w g.pv g.ps
  vw : view g.ps = m.v
  ok : m.v.Ok
/-- a painter lies at block b -/
def PntAt (w : World) (b : Nat) (g : PGh) (m : Pt) : Prop := PntRaw w b g m (m.v.grid m.W m.H)

theorem PntRaw.fr {w w' : World} {S : List Nat} {b : Nat} {g : PGh} {m : Pt} {l : List (Int × Int)} (h : PntRaw w b g m l) (f : Fr S w w') (hs : ∀ x ∈ pfoot b g, x ∉ S) : PntRaw w' b g m l := by
  simp only [pfoot, List.mem_cons, List.mem_append, Option.mem_toList, List.mem_map] at hs
  refine ⟨h.st.fr f (hs _ (.inl rfl)), h.gr.fr f (hs _ (.inr (.inl rfl))) (hs _ (.inr (.inr (.inl rfl)))), h.pn.fr f ?_ ?_, h.vw, h.ok⟩
  · exact fun x hx => hs x (.inr (.inr (.inr (.inl hx))))
  · exact fun p hp => hs _ (.inr (.inr (.inr (.inr ⟨p, hp, rfl⟩))))
theorem PntRaw.fr0 {w w' : World} {b : Nat} {g : PGh} {m : Pt} {l : List (Int × Int)} (h : PntRaw w b g m l) (f : Fr [] w w') : PntRaw w' b g m l := h.fr f (by simp)
theorem PntRaw.len {w : World} {b : Nat} {g : PGh} {m : Pt} {l : List (Int × Int)} (h : PntRaw w b g m l) : g.ps.length ≤ 12 := by
  have := h.ok.n; rw [← h.vw] at this; simpa [view] using this
theorem own_pane {w : World} {base : Nat} {v : Value} {ps : List Pane} (h : PanesIn base w v ps) {x : Nat} (hx : v.ownBlock = some x) : ∃ us, Blk w x us 140 := by
  rcases h.row with ⟨rfl, _⟩ | ⟨g, cap, sp, rfl, hb, _⟩
  · simp [Value.ownBlock] at hx
  · simp [Value.ownBlock] at hx; subst hx; exact ⟨_, hb⟩
/-- a painter's panes lie apart from a block of another type -/
theorem PanesIn.apart {w : World} {base : Nat} {v : Value} {ps : List Pane} (h : PanesIn base w v ps) {x : Nat} {us : List Value} {ty : TypeId} (hx : Blk w x us ty) (h1 : ty ≠ 140) (h2 : ty ≠ 9) : (∀ g, v.ownBlock = some g → g ∉ [x]) ∧ ∀ p ∈ ps, p.lb ∉ [x] := by
  constructor
  · intro g hg
    obtain ⟨vs, hv⟩ := own_pane h hg
    simpa using hv.ne hx (fun e => h1 e.symm)
  · intro p hp
    simpa using (h.ok p hp).1.ls.ne hx (fun e => h2 e.symm)
theorem PntRaw.lt {w : World} {b : Nat} {g : PGh} {m : Pt} {l : List (Int × Int)} (h : PntRaw w b g m l) : ∀ x ∈ pfoot b g, x < w.heap.size := by
  intro x hx
  simp only [pfoot, List.mem_cons, List.mem_append, Option.mem_toList, List.mem_map] at hx
  rcases hx with rfl | rfl | rfl | hx | ⟨p, hp, rfl⟩
  · exact h.st.lt
  · exact h.gr.hd.lt
  · exact h.gr.row.lt
  · obtain ⟨us, hu⟩ := own_pane h.pn hx; exact hu.lt
  · exact (h.pn.ok p hp).1.ls.lt

/-- what a call leaves: the painter is m' now, its parts old or new; no other block has turned -/
def PUpd (b : Nat) (g : PGh) (m' : Pt) (w w' : World) : Prop := ∃ g', PntAt w' b g' m' ∧ Fr (pfoot b g) w w' ∧ ∀ x ∈ pfoot b g', x ∈ pfoot b g ∨ w.heap.size ≤ x

theorem slice_own {sa : Option Addr} {n cap : Nat} {a : Addr} (ha : sa = some a) (h0 : a.spot = none) : (Value.slice sa n cap).ownBlock = some a.block := by
  subst ha; obtain ⟨b, o, s⟩ := a; simp only at h0; subst h0; rfl

/-- the painter has a new grid, which lies in new memory -/
def NewGrid (b : Nat) (g : PGh) (m : Pt) (w w' : World) : Prop :=
  ∃ bg bc cap sp, w.heap.size ≤ bg ∧ w.heap.size ≤ bc ∧ Fr [b] w w' ∧ PntAt w' b { g with bg := bg, bc := bc, gcap := cap, sp := sp } m
theorem NewGrid.foot {b : Nat} {g : PGh} {m : Pt} {w w' : World} (h : NewGrid b g m w w') : PUpd b g m w w' := by
  obtain ⟨bg, bc, cap, sp, h1, h2, f, p⟩ := h
  refine ⟨_, p, f.mono (by intro i hi; simp at hi; subst hi; simp [pfoot]), ?_⟩
  intro x hx
  simp only [pfoot, List.mem_cons] at hx
  rcases hx with rfl | rfl | rfl | hx
  · exact .inl (by simp [pfoot])
  · exact .inr h1
  · exact .inr h2
  · exact .inl (by simp only [pfoot, List.mem_cons]; exact .inr (.inr (.inr hx)))

set_option maxHeartbeats 2000000 in
set_option maxRecDepth 100000 in
theorem paint_any (w : World) (b : Nat) (g : PGh) (m : Pt) (l : List (Int × Int)) (h : PntRaw w b g m l) :
    Calls Tryz.prog 78 #[.pointer (some ⟨b, 0, none⟩)] w fun e w' => e = .returned (.tuple #[]) ∧ NewGrid b g m w w' := by
  have c0 : w.cell? ⟨b, 0, none⟩ = some (.pointer (some ⟨g.bg, 0, none⟩)) := h.st.cell 0
  have BL := hide (gblank_any m.W m.H w g.bg g.bc g.gcap g.sp l h.gr)
  have H := hide h
  clear h
  go_enter Tryz.func78, Tryz.ntmps78
  go_wp2_with fail
  refine BL.out.mono ?_
  rintro e w1 ⟨bg, bc, cap, sp, rfl, n1, n2, f1, hg⟩
  have p1 := H.out.fr0 f1
  have s0 : w1.cell? ⟨b, 0, none⟩ = some (.pointer (some ⟨g.bg, 0, none⟩)) := p1.st.cell 0
  have z0 := p1.st.frozen 0
  have lt1 := p1.st.lt
  have P2 : PntRaw (w1.setCell ⟨b, 0, none⟩ (.pointer (some ⟨bg, 0, none⟩))) b { g with bg := bg, bc := bc, gcap := cap, sp := sp } m (List.replicate (m.W * m.H).toNat (32, 7)) := by
    have f : Fr [b] w1 (w1.setCell ⟨b, 0, none⟩ (.pointer (some ⟨bg, 0, none⟩))) := (Fr.refl _ _).setCell (.inl (by simp)) _
    have ap := p1.pn.apart p1.st (by decide) (by decide)
    exact ⟨p1.st.set 0 _, hg.fr f (by simpa using hg.hd.ne p1.st (by decide)) (by simpa using hg.row.ne p1.st (by decide)), p1.pn.fr f ap.1 ap.2, p1.vw, p1.ok⟩
  have F2 : Hid (Fr [b] w (w1.setCell ⟨b, 0, none⟩ (.pointer (some ⟨bg, 0, none⟩)))) := (f1.of_nil).setCell (.inl (by simp)) _
  have NG : Hid (w.heap.size ≤ bg ∧ w.heap.size ≤ bc) := ⟨n1, n2⟩
  have PP : Hid (∀ w', Fr [] (w1.setCell ⟨b, 0, none⟩ (.pointer (some ⟨bg, 0, none⟩))) w' → Calls Tryz.prog 96 #[.pointer (some ⟨b, 1, none⟩), .pointer (some ⟨bg, 0, none⟩)] w' fun e w'' => e = .returned (.tuple #[]) ∧ w''.cell? ⟨b, 0, none⟩ = some (.pointer (some ⟨bg, 0, none⟩)) ∧ Fr [bc] w' w'' ∧ PntAt w'' b { g with bg := bg, bc := bc, gcap := cap, sp := sp } m) := by
    intro w' f'
    have h' := P2.fr0 f'
    obtain ⟨av, pcap, hv, hat⟩ := h'.pn.at'
    have nb : b ≠ bc := h'.st.ne h'.gr.row (by decide)
    have ap := h'.pn.apart h'.gr.row (by decide) (by decide)
    refine (vpaint_any b 1 av pcap g.ps m.W m.H bg bc cap sp w' (by rw [← hv]; exact h'.st.cell 1) hat h'.len h'.gr ⟨nb, ?_, ap.2⟩).mono ?_
    · intro x hx
      rcases h'.pn.row with ⟨hv0, hp0⟩ | ⟨q, cp, sp, hv0, hb, _⟩
      · rw [hv0] at hv; simp at hv; rw [hx] at hv; simp at hv
      · rw [hv0, hx] at hv; simp at hv
        have := ap.1 q (by rw [hv0]; rfl)
        rw [← hv.1]; exact this
    · rintro e w'' ⟨he, f2, g2⟩
      have ev : view g.ps = m.v := h'.vw
      rw [ev] at g2
      have st2 := h'.st.fr f2 (by simpa using nb)
      exact ⟨he, st2.cell 0, f2, st2, g2, h'.pn.fr f2 ap.1 ap.2, h'.vw, h'.ok⟩
  have k0 : (w1.setCell ⟨b, 0, none⟩ (.pointer (some ⟨bg, 0, none⟩))).cell? ⟨b, 0, none⟩ = some (.pointer (some ⟨bg, 0, none⟩)) := P2.st.cell 0
  have K0 := hide k0
  clear p1 f1 hg n1 n2 P2 BL k0
  go_wp2
  generalize w1.setCell ⟨b, 0, none⟩ (.pointer (some ⟨bg, 0, none⟩)) = wz at *
  have k0 := K0.out
  go_region_held (fun w' => w'.cell? ⟨b, 0, none⟩ = some (.pointer (some ⟨bg, 0, none⟩))) (go_keep) ((go_at_call 96; refine (PP.out _ ?hf).mono ?_; (case hf => (repeat first | exact Fr.refl _ _ | apply Fr.drew | apply Fr.drewN)); rintro e w2 ⟨rfl, k3, f2, h2⟩; have F3 : Hid (Fr [b] w w2) := (((F2.out).drew).trans f2 (fun i hi => .inl hi) (by intro i hi; simp at hi; subst hi; exact .inr NG.out.2)); have H2 := hide h2; clear f2 h2))
  all_goals
    go_wp2
    go_end0
    exact ⟨rfl, bg, bc, cap, sp, NG.out.1, NG.out.2, F3.out, H2.out⟩
end Go.Proofs.YtjhccghhinlmdaaGreatDoor
/- The program's painter: what is to stand on its terminal; the bytes that bring it there. -/
namespace Go.Proofs.YtjhccghhinlmdaaGreatDoor
open Go.RowKit


set_option maxHeartbeats 2000000 in
set_option maxRecDepth 100000 in
theorem screen_any (w : World) (b : Nat) (g : PGh) (m : Pt) (l : List (Int × Int)) (h : PntRaw w b g m l) :
    Calls Tryz.prog 73 #[.pointer (some ⟨b, 0, none⟩)] w fun e w' => e = .returned (.agg #[.pointer (some ⟨g.bg, 0, none⟩), .int .i64 m.cur.x, .int .i64 m.cur.y, .bool m.cur.shown]) ∧ Fr [] w w' := by
  have c0 : w.cell? ⟨b, 0, none⟩ = some (.pointer (some ⟨g.bg, 0, none⟩)) := h.st.cell 0
  have c2 : w.cell? ⟨b, 2, none⟩ = some (.int .i64 m.cx) := h.st.cell 2
  have c3 : w.cell? ⟨b, 3, none⟩ = some (.int .i64 m.cy) := h.st.cell 3
  have bl := h.st.lt
  have HS := hide h.gr
  clear h
  by_cases on : m.on = true
  · have ec : m.cur = ⟨m.cx, m.cy, true⟩ := by simp [Pt.cur, on]
    rw [ec]
    have ON : Hid (0 ≤ m.cx ∧ m.cx < m.W ∧ 0 ≤ m.cy ∧ m.cy < m.H) := by
      simp [Pt.on] at on
      exact ⟨on.1.1.1, on.1.1.2, on.1.2, on.2⟩
    have HY : Hid (∀ w', Fr [] w w' → Calls Tryz.prog 89 #[.pointer (some ⟨g.bg, 0, none⟩), .int .i64 m.cx, .int .i64 m.cy] w' fun e w'' => e = .returned (.bool true) ∧ w'' = w') := by
      intro w' f
      have g' := HS.out.fr0 f
      exact (has_yes m.cx m.cy m.W m.H w' g.bg (g'.hd.cell 0) (g'.hd.cell 1) ON.out.1 ON.out.2.1 ON.out.2.2.1 ON.out.2.2.2).mono fun e w'' ⟨h1, h2⟩ => ⟨h1, h2.symm⟩
    clear on ec HS
    go_enter Tryz.func73, Tryz.ntmps73
    go_wp2
    go_quiet ((go_at_call 89; exact Calls.quiet_of_same (HY.out _ (by repeat first | exact Fr.refl _ _ | apply Fr.drew | apply Fr.drewN | apply Fr.alloc))))
    go_wp2
    go_region
    go_wp2
    refine bodyPost_ret (v := .agg #[.pointer (some ⟨g.bg, 0, none⟩), .int .i64 m.cx, .int .i64 m.cy, .bool true]) (by simp [results, Tryz.results73, go_sem]) rfl ?_
    refine ⟨rfl, ?_⟩
    repeat first | with_reducible exact Fr.refl _ _ | with_reducible apply Fr.drewN | with_reducible apply Fr.drew | with_reducible apply Fr.alloc | (with_reducible refine Fr.setCell ?_ (.inr (by simp)) _)
  · have off : m.on = false := by simpa using on
    have ec : m.cur = ⟨0, 0, false⟩ := by simp [Pt.cur, off]
    rw [ec]
    have ON : Hid (m.cx < 0 ∨ m.W ≤ m.cx ∨ m.cy < 0 ∨ m.H ≤ m.cy) := by
      show _ ∨ _
      simp [Pt.on] at off
      omega
    have HY : Hid (∀ w', Fr [] w w' → Calls Tryz.prog 89 #[.pointer (some ⟨g.bg, 0, none⟩), .int .i64 m.cx, .int .i64 m.cy] w' fun e w'' => e = .returned (.bool false) ∧ w'' = w') := by
      intro w' f
      have g' := HS.out.fr0 f
      exact (has_no m.cx m.cy m.W m.H w' g.bg (g'.hd.cell 0) (g'.hd.cell 1) ON.out).mono fun e w'' ⟨h1, h2⟩ => ⟨h1, h2.symm⟩
    clear on off ec HS
    go_enter Tryz.func73, Tryz.ntmps73
    go_wp2
    go_quiet ((go_at_call 89; exact Calls.quiet_of_same (HY.out _ (by repeat first | exact Fr.refl _ _ | apply Fr.drew | apply Fr.drewN | apply Fr.alloc))))
    go_wp2
    refine bodyPost_ret (v := .agg #[.pointer (some ⟨g.bg, 0, none⟩), .int .i64 0, .int .i64 0, .bool false]) (by simp [results, Tryz.results73, go_sem]) rfl ?_
    refine ⟨rfl, ?_⟩
    repeat first | with_reducible exact Fr.refl _ _ | with_reducible apply Fr.drewN | with_reducible apply Fr.drew | with_reducible apply Fr.alloc | (with_reducible refine Fr.setCell ?_ (.inr (by simp)) _)

set_option maxHeartbeats 2000000 in
set_option maxRecDepth 100000 in
/-- the painter has a new grid; what came back is the bytes that turn the screen that was into the one that is -/
theorem pchange_any (w : World) (b : Nat) (g : PGh) (m : Pt) (l : List (Int × Int)) (h : PntRaw w b g m l) (fg fc fcap : Nat) (fsp : List Value) (f : List (Int × Int)) (GF : Grid w fg fc fcap fsp m.W m.H f) (x y : Int) (s : Bool) :
    Calls Tryz.prog 74 #[.pointer (some ⟨b, 0, none⟩), .agg #[.pointer (some ⟨fg, 0, none⟩), .int .i64 x, .int .i64 y, .bool s]] w
      fun e w' => e = .returned (.string (strOfNums (change m.W m.H f (m.v.grid m.W m.H) ⟨x, y, s⟩ m.cur))) ∧ NewGrid b g m w w' := by
  have F1 : Hid (Fr [] w (w.alloc (.cells #[.pointer (some ⟨fg, 0, none⟩), .int .i64 x, .int .i64 y, .bool s] 128))) := (Fr.refl _ _).alloc _
  have PA := hide (paint_any _ b g m l (h.fr0 F1.out))
  have nb : Hid (b ≠ w.heap.size ∧ b ≠ fg ∧ b ≠ fc) := ⟨by have := h.st.lt; omega, h.st.ne GF.hd (by decide), h.st.ne GF.row (by decide)⟩
  have CB := hide m.cur_on
  have HG := hide GF
  clear h GF
  go_enter Tryz.func74, Tryz.ntmps74
  go_wp2_with fail
  refine PA.out.mono ?_
  rintro e w2 ⟨rfl, bg, bc, cap, sp, n1, n2, f2, p2⟩
  have K2 := (Blk.new w [.pointer (some ⟨fg, 0, none⟩), .int .i64 x, .int .i64 y, .bool s] 128).fr f2 (by simpa using nb.out.1.symm)
  have GF2 := hide ((HG.out.fr0 F1.out).fr f2 (by simpa using nb.out.2.1.symm) (by simpa using nb.out.2.2.symm))
  have F2 := hide ((F1.out.of_nil).then f2)
  have N2 : Hid (w.heap.size ≤ bg ∧ w.heap.size ≤ bc) := ⟨by simp at n1; omega, by simp at n2; omega⟩
  have SC := hide (screen_any _ b _ m _ p2)
  have P2 := hide p2
  have K2H := hide K2
  clear K2 f2 n1 n2 p2 PA
  go_wp2_with fail
  refine SC.out.mono ?_
  rintro e w3 ⟨rfl, f3⟩
  have K3 := K2H.out.fr0 f3
  have a0 : w3.cell? ⟨w.heap.size, 0, none⟩ = some (.pointer (some ⟨fg, 0, none⟩)) := K3.cell 0
  have a1 : w3.cell? ⟨w.heap.size, 1, none⟩ = some (.int .i64 x) := K3.cell 1
  have a2 : w3.cell? ⟨w.heap.size, 2, none⟩ = some (.int .i64 y) := K3.cell 2
  have a3 : w3.cell? ⟨w.heap.size, 3, none⟩ = some (.bool s) := K3.cell 3
  have lt3 := K3.lt
  have FA : Hid (Fr [] w2 (w3.alloc (.cells #[.pointer (some ⟨bg, 0, none⟩), .int .i64 m.cur.x, .int .i64 m.cur.y, .bool m.cur.shown] 128))) := f3.alloc _
  have P3 := P2.out.fr0 FA.out
  have CH := hide (bchange_any _ m.W m.H fg fc fcap fsp f bg bc cap sp (m.v.grid m.W m.H) ⟨x, y, s⟩ m.cur (GF2.out.fr0 FA.out) P3.gr (P3.ok.chars _ _) CB.out)
  clear K3 f3 SC P3
  go_wp2_with fail
  refine CH.out.mono ?_
  rintro e w4 ⟨rfl, f4⟩
  have F4 := hide ((F2.out.then FA.out.of_nil).then f4.of_nil)
  have P4 := hide (P2.out.fr0 (FA.out.then f4))
  clear f4 CH
  go_wp2
  go_ret
  exact ⟨rfl, bg, bc, cap, sp, N2.out.1, N2.out.2, F4.out, P4.out⟩
end Go.Proofs.YtjhccghhinlmdaaGreatDoor
/- The program's painter: its calls. -/
namespace Go.Proofs.YtjhccghhinlmdaaGreatDoor
open Go.RowKit

theorem PanesIn.weak {base : Nat} {w : World} {v : Value} {ps : List Pane} (h : PanesIn base w v ps) : PanesIn 0 w v ps := by
  refine ⟨?_, fun p hp => ⟨(h.ok p hp).1, Nat.zero_le _⟩⟩
  rcases h.row with h0 | ⟨g, cap, sp, rfl, hb, _⟩
  · exact .inl h0
  · exact .inr ⟨g, cap, sp, rfl, hb, Nat.zero_le _⟩
theorem PanesIn.slice {base : Nat} {w : World} {v : Value} {ps : List Pane} (h : PanesIn base w v ps) : ∃ sa sc, v = .slice sa ps.length sc := by
  rcases h.row with ⟨rfl, rfl⟩ | ⟨g, cap, sp, rfl, _, _⟩
  · exact ⟨_, _, rfl⟩
  · exact ⟨_, _, rfl⟩
theorem PanesIn.ge {base : Nat} {w : World} {v : Value} {ps : List Pane} (h : PanesIn base w v ps) : ∀ x ∈ v.ownBlock.toList ++ ps.map Pane.lb, base ≤ x := by
  intro x hx
  simp only [List.mem_append, Option.mem_toList, List.mem_map] at hx
  rcases hx with hx | ⟨p, hp, rfl⟩
  · rcases h.row with ⟨rfl, _⟩ | ⟨g, cap, sp, rfl, _, hg⟩
    · simp [Value.ownBlock] at hx
    · simp [Value.ownBlock] at hx; subst hx; exact hg
  · exact (h.ok p hp).2

/-- the painter has another view and another place of its cursor -/
theorem PntRaw.newView {w : World} {b base : Nat} {g : PGh} {m : Pt} {l : List (Int × Int)} {v : Value} {qs : List Pane} {v' : V} (h : PntRaw w b g m l) (hq : PanesIn base w v qs) (hv : view qs = v') (hok : v'.Ok) (cx cy : Int) :
    PntRaw (((w.setCell ⟨b, 1, none⟩ v).setCell ⟨b, 2, none⟩ (.int .i64 cx)).setCell ⟨b, 3, none⟩ (.int .i64 cy)) b { g with pv := v, ps := qs } { m with v := v', cx := cx, cy := cy } l ∧ Fr [b] w (((w.setCell ⟨b, 1, none⟩ v).setCell ⟨b, 2, none⟩ (.int .i64 cx)).setCell ⟨b, 3, none⟩ (.int .i64 cy)) := by
  have f : Fr [b] w (((w.setCell ⟨b, 1, none⟩ v).setCell ⟨b, 2, none⟩ (.int .i64 cx)).setCell ⟨b, 3, none⟩ (.int .i64 cy)) := (((Fr.refl _ _).setCell (.inl (by simp)) _).setCell (.inl (by simp)) _).setCell (.inl (by simp)) _
  have ap := hq.apart h.st (by decide) (by decide)
  refine ⟨⟨((h.st.set 1 v).set 2 _).set 3 _, h.gr.fr f ?_ ?_, (hq.weak).fr f ap.1 ap.2, hv, hok⟩, f⟩
  · simpa using h.gr.hd.ne h.st (by decide)
  · simpa using h.gr.row.ne h.st (by decide)

/-- a new grid behind a view that has turned -/
theorem PUpd.of {w w1 w2 : World} {b : Nat} {g g1 : PGh} {m : Pt} (f : Fr (pfoot b g) w w1) (hb : g1.bg = g.bg) (hc : g1.bc = g.bc) (hs : ∀ x ∈ g1.pv.ownBlock.toList ++ g1.ps.map Pane.lb, x ∈ pfoot b g ∨ w.heap.size ≤ x) (u : NewGrid b g1 m w1 w2) : PUpd b g m w w2 := by
  obtain ⟨g2, p2, f2, s2⟩ := u.foot
  have fs : ∀ x ∈ pfoot b g1, x ∈ pfoot b g ∨ w.heap.size ≤ x := by
    intro x hx
    simp only [pfoot, List.mem_cons, hb, hc] at hx
    rcases hx with rfl | rfl | rfl | hx
    · exact .inl (by simp [pfoot])
    · exact .inl (by simp [pfoot])
    · exact .inl (by simp [pfoot])
    · exact hs x hx
  refine ⟨g2, p2, f.trans f2 (fun i hi => .inl hi) fs, fun x hx => ?_⟩
  rcases s2 x hx with h | h
  · exact fs x h
  · exact .inr (Nat.le_trans f.size h)

set_option maxHeartbeats 2000000 in
set_option maxRecDepth 100000 in
theorem show_yes (w : World) (b : Nat) (g : PGh) (m : Pt) (h : PntAt w b g m) (wa : Option Addr) (ws : List Win) (n wcap : Nat) (cx cy : Int) (hw : WinsAt w wa ws) (hn : ws.length = n) (hcap : n ≤ wcap) (hsz : ∀ o ∈ ws, o.text.size ≤ 9223372036854775807) (he : errV ws = 0) :
    Calls Tryz.prog 49 #[.pointer (some ⟨b, 0, none⟩), .slice wa n wcap, .agg #[.int .i64 cx, .int .i64 cy]] w fun e w' => e = .returned (.tuple #[.string (strOfNums (m.told { m with v := m.v.next ws, cx := cx, cy := cy })), .int .i64 0]) ∧ PUpd b g { m with v := m.v.next ws, cx := cx, cy := cy } w w' := by
  obtain ⟨av, cap, hv, hat⟩ := h.pn.at'
  have FA : Hid (Fr [] w (w.alloc (.cells #[.int .i64 cx, .int .i64 cy] 96))) := (Fr.refl _ _).alloc _
  have hc1 := (h.fr0 FA.out).st.cell 1
  simp only [List.getElem?_cons_succ, List.getElem?_cons_zero] at hc1
  rw [hv] at hc1
  have NX := hide (next_yes b 1 av cap g.ps wa ws n wcap _ hc1 (hat.fr0 FA.out) h.len (hw.fr FA.out (by simp)) hn hcap hsz he)
  have HOK := hide (V.ok_next m.v he)
  have H := hide h
  have B0 : Hid (Blk (w.alloc (.cells #[.int .i64 cx, .int .i64 cy] 96)) w.heap.size [.int .i64 cx, .int .i64 cy] 96) := Blk.new _ _ _
  have blt : b < w.heap.size := h.st.lt
  clear h hat hw hsz he hc1
  go_enter Tryz.func49, Tryz.ntmps49
  go_wp2_with fail
  refine NX.out.mono ?_
  rintro e w1 ⟨v, qs, rfl, hq1, hq2, f1⟩
  obtain ⟨sa, sc, rfl⟩ := hq2.slice
  have F1 : Hid (Fr [] w w1) := FA.out.then f1
  have F1p := hide f1
  have HQ1 := hide hq1
  have HQ2 := hide hq2
  have SC := hide (screen_any (w1.alloc (.cells #[.slice sa qs.length sc] 94)) b g m _ (H.out.fr0 (F1.out.alloc _)))
  clear f1 hq1 hq2 NX FA hv
  go_wp2_with fail
  refine SC.out.mono ?_
  rintro e w2 ⟨rfl, f2⟩
  have F2 : Hid (Fr [] w w2) := (F1.out.alloc _).then f2
  have BV := (Blk.new w1 [.slice sa qs.length sc] 94).fr0 f2
  have v0 : w2.cell? ⟨w1.heap.size, 0, none⟩ = some (.slice sa qs.length sc) := BV.cell 0
  have vlt := BV.lt
  have B2 := B0.out.fr0 ((F1p.out.alloc _).then f2)
  have k0 : w2.cell? ⟨w.heap.size, 0, none⟩ = some (.int .i64 cx) := B2.cell 0
  have k1 : w2.cell? ⟨w.heap.size, 1, none⟩ = some (.int .i64 cy) := B2.cell 1
  have h2 := H.out.fr0 F2.out
  have s1 : ∃ u, w2.cell? ⟨b, 1, none⟩ = some u := ⟨_, h2.st.cell 1⟩
  have s2 : w2.cell? ⟨b, 2, none⟩ = some (.int .i64 m.cx) := h2.st.cell 2
  have s3 : w2.cell? ⟨b, 3, none⟩ = some (.int .i64 m.cy) := h2.st.cell 3
  obtain ⟨u1, s1⟩ := s1
  have z1 := h2.st.frozen 1
  have z2 := h2.st.frozen 2
  have z3 := h2.st.frozen 3
  have bl2 : b < w2.heap.size := h2.st.lt
  have bl3 : w.heap.size < w2.heap.size := B2.lt
  have bl1 := F1.out.size
  have ne1 : b ≠ w.heap.size := by omega
  have ne2 : w.heap.size ≠ b := by omega
  have ne3 : b ≠ w1.heap.size := by omega
  have ne4 : w1.heap.size ≠ b := by omega
  have q2 := HQ2.out.fr (((Fr.refl [] _).alloc _).then f2) (by simp) (by simp)
  have NV := hide (h2.newView (v' := m.v.next ws) q2 (by rw [HQ1.out, H.out.vw]) HOK.out cx cy)
  have GE := hide HQ2.out.ge
  clear B2 BV h2 q2 f2 SC HQ1 HQ2 F1p B0
  have NVA := hide (NV.out.1.fr0 ((Fr.refl _ _).alloc (.cells #[.pointer (some ⟨g.bg, 0, none⟩), .int .i64 m.cur.x, .int .i64 m.cur.y, .bool m.cur.shown] 128)))
  have CH := hide (pchange_any _ b _ _ _ NVA.out g.bg g.bc g.gcap g.sp _ NVA.out.gr m.cur.x m.cur.y m.cur.shown)
  go_wp2_with fail
  refine CH.out.mono ?_
  rintro e w3 ⟨rfl, u3⟩
  have U3 : Hid (PUpd b g { m with v := m.v.next ws, cx := cx, cy := cy } w w3) := by
    refine PUpd.of (g1 := { g with pv := .slice sa qs.length sc, ps := qs }) (((F2.out.of_nil).then (NV.out.2.mono (by intro i hi; simp at hi; subst hi; simp [pfoot]))).alloc _) rfl rfl ?_ u3
    intro x hx
    have := GE.out x hx
    simp only [World.size_alloc] at this
    exact .inr (by omega)
  clear u3 CH
  go_wp2
  go_ret2
  exact ⟨rfl, U3.out⟩

set_option maxHeartbeats 1000000 in
set_option maxRecDepth 100000 in
theorem show_no (w : World) (b : Nat) (wa : Option Addr) (ws : List Win) (n wcap : Nat) (cx cy : Int) (hw : WinsAt w wa ws) (hn : ws.length = n) (hcap : n ≤ wcap) (hl : n ≤ 9223372036854775807) (hsz : ∀ o ∈ ws, o.text.size ≤ 9223372036854775807) (he : errV ws ≠ 0) :
    Calls Tryz.prog 49 #[.pointer (some ⟨b, 0, none⟩), .slice wa n wcap, .agg #[.int .i64 cx, .int .i64 cy]] w fun e w' => e = .returned (.tuple #[.string ByteArray.empty, .int .i64 (errV ws)]) ∧ Fr [] w w' := by
  have FA : Hid (Fr [] w (w.alloc (.cells #[.int .i64 cx, .int .i64 cy] 96))) := (Fr.refl _ _).alloc _
  have NX := hide (next_no (some ⟨b, 1, none⟩) wa ws n wcap _ (hw.fr FA.out (by simp)) hn hcap hl hsz he)
  have be : (errV ws == 0) = false := by simpa using he
  clear hw hsz he
  generalize errV ws = er at *
  go_enter Tryz.func49, Tryz.ntmps49
  go_wp2_with fail
  refine NX.out.mono ?_
  rintro e w1 ⟨rfl, f1⟩
  have F1 : Hid (Fr [] w w1) := FA.out.then f1
  clear f1 NX FA
  go_wp2
  go_ret2
  exact ⟨rfl, F1.out.alloc _⟩
set_option maxHeartbeats 1000000 in
theorem show_nil (w : World) (wa : Option Addr) (n wcap : Nat) (cx cy : Int) :
    Calls Tryz.prog 49 #[.pointer none, .slice wa n wcap, .agg #[.int .i64 cx, .int .i64 cy]] w fun e w' => e = .returned (.tuple #[.string ByteArray.empty, .int .i64 1]) ∧ Fr [] w w' := by
  go_enter Tryz.func49, Tryz.ntmps49
  go_wp2
  go_ret2
  exact ⟨rfl, (Fr.refl _ _).alloc _⟩

/-- a window of the view has been scrolled; the grid has not been painted -/
theorem PntRaw.scrolled {w w' : World} {b : Nat} {g : PGh} {m : Pt} {l : List (Int × Int)} {qs : List Pane} {v' : V} (h : PntRaw w b g m l) (f : Fr g.pv.ownBlock.toList w w') (hq : PanesIn 0 w' g.pv qs) (hv : view qs = v') (hok : v'.Ok) :
    PntRaw w' b { g with ps := qs } { m with v := v' } l := by
  have off : ∀ {x us ty}, Blk w x us ty → ty ≠ 140 → x ∉ g.pv.ownBlock.toList := by
    intro x us ty hx ht hm
    obtain ⟨vs, hv⟩ := own_pane h.pn (Option.mem_toList.1 hm)
    exact (hx.ne hv ht) rfl
  exact ⟨h.st.fr f (off h.st (by decide)), h.gr.fr f (off h.gr.hd (by decide)) (off h.gr.row (by decide)), hq, hv, hok⟩

set_option maxHeartbeats 2000000 in
set_option maxRecDepth 100000 in
theorem scroll_yes (w : World) (b : Nat) (g : PGh) (m : Pt) (h : PntAt w b g m) (key n : Int) (i : Nat) (hi : m.v.idx key = some i) (n1 : -500 ≤ n) (n2 : n ≤ 500) :
    Calls Tryz.prog 52 #[.pointer (some ⟨b, 0, none⟩), .int .i64 key, .int .i64 n] w fun e w' => e = .returned (.tuple #[.string (strOfNums (m.told { m with v := m.v.scroll i n })), .int .i64 0]) ∧ PUpd b g { m with v := m.v.scroll i n } w w' := by
  have HOK := hide (V.ok_scroll h.ok i (V.idx_lt hi) n)
  have H := hide h
  have HI := hide hi
  have SC := hide (screen_any w b g m _ h)
  have SZ := hide h.lt
  clear h hi
  go_enter Tryz.func52, Tryz.ntmps52
  go_wp2_with fail
  refine SC.out.mono ?_
  rintro e w1 ⟨rfl, f1⟩
  have F1 : Hid (Fr [] w (w1.alloc (.cells #[.pointer (some ⟨g.bg, 0, none⟩), .int .i64 m.cur.x, .int .i64 m.cur.y, .bool m.cur.shown] 128))) := f1.alloc _
  have p1 := H.out.fr0 F1.out
  have VS := hide (vscroll_yes b 1 g.pv g.ps key n i 0 _ (p1.st.cell 1) p1.pn p1.len (by rw [p1.vw]; exact HI.out) n1 n2)
  have W1 := hide f1.size
  have P1 := hide p1
  clear f1 p1 SC
  go_wp2_with fail
  refine VS.out.mono ?_
  rintro e w2 ⟨rfl, qs, hv, hq, f2, hlb, hlen⟩
  have P2 := hide (P1.out.scrolled (v' := m.v.scroll i n) f2 hq (by rw [hv, P1.out.vw]) HOK.out)
  have NB : w1.heap.size ∉ g.pv.ownBlock.toList := fun hm => by
    have := SZ.out w1.heap.size (by simp only [pfoot, List.mem_cons, List.mem_append]; exact .inr (.inr (.inr (.inl hm))))
    have := W1.out; omega
  have K2 := (Blk.new w1 [.pointer (some ⟨g.bg, 0, none⟩), .int .i64 m.cur.x, .int .i64 m.cur.y, .bool m.cur.shown] 128).fr f2 NB
  have a0 : w2.cell? ⟨w1.heap.size, 0, none⟩ = some (.pointer (some ⟨g.bg, 0, none⟩)) := K2.cell 0
  have a1 : w2.cell? ⟨w1.heap.size, 1, none⟩ = some (.int .i64 m.cur.x) := K2.cell 1
  have a2 : w2.cell? ⟨w1.heap.size, 2, none⟩ = some (.int .i64 m.cur.y) := K2.cell 2
  have a3 : w2.cell? ⟨w1.heap.size, 3, none⟩ = some (.bool m.cur.shown) := K2.cell 3
  have klt := K2.lt
  have F2 : Hid (Fr (pfoot b g) w w2) := (F1.out.of_nil).then (f2.mono (by intro i hi; simp only [pfoot, List.mem_cons, List.mem_append]; exact .inr (.inr (.inr (.inl hi)))))
  have LB := hide hlb
  have CH := hide (pchange_any _ b _ _ _ P2.out g.bg g.bc g.gcap g.sp _ P2.out.gr m.cur.x m.cur.y m.cur.shown)
  clear hv hq f2 hlb hlen K2 NB VS
  go_wp2_with fail
  refine CH.out.mono ?_
  rintro e w3 ⟨rfl, u3⟩
  have U3 : Hid (PUpd b g { m with v := m.v.scroll i n } w w3) := by
    refine PUpd.of (g1 := { g with ps := qs }) F2.out rfl rfl ?_ u3
    intro x hx
    simp only [LB.out] at hx
    exact .inl (by simp only [pfoot, List.mem_cons]; exact .inr (.inr (.inr hx)))
  clear u3 CH
  go_wp2
  go_ret2
  exact ⟨rfl, U3.out⟩
set_option maxHeartbeats 1000000 in
set_option maxRecDepth 100000 in
theorem scroll_none (w : World) (b : Nat) (g : PGh) (m : Pt) (h : PntAt w b g m) (key n : Int) (hi : m.v.idx key = none) :
    Calls Tryz.prog 52 #[.pointer (some ⟨b, 0, none⟩), .int .i64 key, .int .i64 n] w fun e w' => e = .returned (.tuple #[.string ByteArray.empty, .int .i64 4]) ∧ Fr [] w w' := by
  have H := hide h
  have SC := hide (screen_any w b g m _ h)
  have HI := hide hi
  clear h hi
  go_enter Tryz.func52, Tryz.ntmps52
  go_wp2_with fail
  refine SC.out.mono ?_
  rintro e w1 ⟨rfl, f1⟩
  have F1 : Hid (Fr [] w (w1.alloc (.cells #[.pointer (some ⟨g.bg, 0, none⟩), .int .i64 m.cur.x, .int .i64 m.cur.y, .bool m.cur.shown] 128))) := f1.alloc _
  have p1 := H.out.fr0 F1.out
  obtain ⟨av, cap, hv, hat⟩ := p1.pn.at'
  have VS := hide (vscroll_no b 1 av cap g.ps key n _ (by rw [← hv]; exact p1.st.cell 1) hat p1.len (by rw [p1.vw]; exact HI.out))
  clear f1 p1 SC hv hat
  go_wp2_with fail
  refine VS.out.mono ?_
  rintro e w2 ⟨rfl, wc⟩
  subst wc
  go_wp2
  go_ret2
  exact ⟨rfl, F1.out⟩
set_option maxHeartbeats 1000000 in
set_option maxRecDepth 100000 in
theorem scroll_far (w : World) (b : Nat) (g : PGh) (m : Pt) (h : PntAt w b g m) (key n : Int) (i : Nat) (hi : m.v.idx key = some i) (hf : n < -500 ∨ 500 < n) :
    Calls Tryz.prog 52 #[.pointer (some ⟨b, 0, none⟩), .int .i64 key, .int .i64 n] w fun e w' => e = .returned (.tuple #[.string ByteArray.empty, .int .i64 8]) ∧ Fr [] w w' := by
  have H := hide h
  have SC := hide (screen_any w b g m _ h)
  have HI := hide hi
  have HF := hide hf
  clear h hi hf
  go_enter Tryz.func52, Tryz.ntmps52
  go_wp2_with fail
  refine SC.out.mono ?_
  rintro e w1 ⟨rfl, f1⟩
  have F1 : Hid (Fr [] w (w1.alloc (.cells #[.pointer (some ⟨g.bg, 0, none⟩), .int .i64 m.cur.x, .int .i64 m.cur.y, .bool m.cur.shown] 128))) := f1.alloc _
  have p1 := H.out.fr0 F1.out
  obtain ⟨av, cap, hv, hat⟩ := p1.pn.at'
  have VS := hide (vscroll_far b 1 av cap g.ps key n i _ (by rw [← hv]; exact p1.st.cell 1) hat p1.len (by rw [p1.vw]; exact HI.out) HF.out)
  clear f1 p1 SC hv hat
  go_wp2_with fail
  refine VS.out.mono ?_
  rintro e w2 ⟨rfl, wc⟩
  subst wc
  go_wp2
  go_ret2
  exact ⟨rfl, F1.out⟩
theorem scroll_nil (w : World) (key n : Int) :
    Calls Tryz.prog 52 #[.pointer none, .int .i64 key, .int .i64 n] w fun e w' => e = .returned (.tuple #[.string ByteArray.empty, .int .i64 1]) ∧ w = w' := by
  go_enter Tryz.func52, Tryz.ntmps52
  go_wp2
  go_ret2
  exact ⟨rfl, rfl⟩

set_option maxHeartbeats 2000000 in
set_option maxRecDepth 100000 in
theorem predraw_any (w : World) (b : Nat) (g : PGh) (m : Pt) (h : PntAt w b g m) :
    Calls Tryz.prog 56 #[.pointer (some ⟨b, 0, none⟩)] w fun e w' => e = .returned (.tuple #[.string (strOfNums m.whole), .int .i64 0]) ∧ Fr [] w w' := by
  have SC := hide (screen_any w b g m _ h)
  have H := hide h
  have CB := hide m.cur_on
  clear h
  go_enter Tryz.func56, Tryz.ntmps56
  go_wp2_with fail
  refine SC.out.mono ?_
  rintro e w1 ⟨rfl, f1⟩
  have F1 : Hid (Fr [] w (w1.alloc (.cells #[.pointer (some ⟨g.bg, 0, none⟩), .int .i64 m.cur.x, .int .i64 m.cur.y, .bool m.cur.shown] 128))) := f1.alloc _
  have p1 := H.out.fr0 F1.out
  have WH := hide (bwhole_any _ m.W m.H g.bg g.bc g.gcap g.sp (m.v.grid m.W m.H) m.cur p1.gr (p1.ok.chars _ _) CB.out)
  clear f1 p1 SC
  go_wp2_with fail
  refine WH.out.mono ?_
  rintro e w2 ⟨rfl, f2⟩
  have F2 := hide (F1.out.then f2)
  clear f2 WH
  go_wp2
  go_ret2
  exact ⟨rfl, F2.out⟩
theorem predraw_nil (w : World) :
    Calls Tryz.prog 56 #[.pointer none] w fun e w' => e = .returned (.tuple #[.string ByteArray.empty, .int .i64 1]) ∧ w = w' := by
  go_enter Tryz.func56, Tryz.ntmps56
  go_wp2
  go_ret2
  exact ⟨rfl, rfl⟩

set_option maxHeartbeats 2000000 in
set_option maxRecDepth 100000 in
theorem presize_yes (w : World) (b : Nat) (g : PGh) (m : Pt) (h : PntAt w b g m) (a c : Int) (h1 : 1 ≤ a) (h2 : a ≤ 40) (h3 : 1 ≤ c) (h4 : c ≤ 20) :
    Calls Tryz.prog 54 #[.pointer (some ⟨b, 0, none⟩), .int .i64 a, .int .i64 c] w fun e w' => e = .returned (.tuple #[.string (strOfNums (Pt.whole { m with W := a, H := c })), .int .i64 0]) ∧ PUpd b g { m with W := a, H := c } w w' := by
  have H := hide h
  clear h
  go_enter Tryz.func54, Tryz.ntmps54
  go_wp2_with fail
  refine (new_yes _ _ _ h1 h2 h3 h4).mono ?_
  rintro e w1 ⟨bg, bc, cap, sp, rfl, hbg, hbc, f1, hg⟩
  have p1 := H.out.fr0 f1
  have s0 : w1.cell? ⟨b, 0, none⟩ = some (.pointer (some ⟨g.bg, 0, none⟩)) := p1.st.cell 0
  have z0 := p1.st.frozen 0
  have P2 : Hid (PntRaw (w1.setCell ⟨b, 0, none⟩ (.pointer (some ⟨bg, 0, none⟩))) b { g with bg := bg, bc := bc, gcap := cap, sp := sp } { m with W := a, H := c } (List.replicate (a * c).toNat (32, 7))) := by
    have f : Fr [b] w1 (w1.setCell ⟨b, 0, none⟩ (.pointer (some ⟨bg, 0, none⟩))) := (Fr.refl _ _).setCell (.inl (by simp)) _
    have ap := p1.pn.apart p1.st (by decide) (by decide)
    exact ⟨p1.st.set 0 _, hg.fr f (by simpa using hg.hd.ne p1.st (by decide)) (by simpa using hg.row.ne p1.st (by decide)), p1.pn.fr f ap.1 ap.2, p1.vw, p1.ok⟩
  have F2 : Hid (Fr [b] w (w1.setCell ⟨b, 0, none⟩ (.pointer (some ⟨bg, 0, none⟩)))) := (f1.of_nil).setCell (.inl (by simp)) _
  clear p1 f1 hg hbg hbc
  go_wp2_with fail
  refine (paint_any _ b _ _ _ P2.out).mono ?_
  rintro e w2 ⟨rfl, bg2, bc2, cap2, sp2, n1, n2, f2, p2⟩
  have U2 : PUpd b g { m with W := a, H := c } w w2 := by
    have sz := F2.out.size
    refine ⟨_, p2, (F2.out.then f2).mono (by intro i hi; simp at hi; subst hi; simp [pfoot]), ?_⟩
    intro x hx
    simp only [pfoot, List.mem_cons] at hx
    rcases hx with rfl | rfl | rfl | hx
    · exact .inl (by simp [pfoot])
    · exact .inr (by omega)
    · exact .inr (by omega)
    · exact .inl (by simp only [pfoot, List.mem_cons]; exact .inr (.inr (.inr hx)))
  have RD := hide (predraw_any _ b _ _ p2)
  have U2H := hide U2
  clear f2 p2 n1 n2 U2
  go_wp2_with fail
  refine RD.out.mono ?_
  rintro e w3 ⟨rfl, f3⟩
  have U3 : Hid (PUpd b g { m with W := a, H := c } w w3) := by
    obtain ⟨g', p', f', s'⟩ := U2H.out
    exact ⟨g', p'.fr0 f3, f'.then f3.of_nil, s'⟩
  clear f3 RD
  go_wp2
  go_ret2
  exact ⟨rfl, U3.out⟩
theorem presize_no (w : World) (pb : Addr) (a c : Int) (hz : sizeB a c = false) :
    Calls Tryz.prog 54 #[.pointer (some pb), .int .i64 a, .int .i64 c] w fun e w' => e = .returned (.tuple #[.string ByteArray.empty, .int .i64 2]) ∧ w = w' := by
  go_enter Tryz.func54, Tryz.ntmps54
  go_wp2_with (go_at_call 16; refine (new_no _ _ _ hz).mono ?_; rintro e w' ⟨rfl, rfl⟩)
  go_ret2
  exact ⟨rfl, rfl⟩
theorem presize_nil (w : World) (a c : Int) :
    Calls Tryz.prog 54 #[.pointer none, .int .i64 a, .int .i64 c] w fun e w' => e = .returned (.tuple #[.string ByteArray.empty, .int .i64 1]) ∧ w = w' := by
  go_enter Tryz.func54, Tryz.ntmps54
  go_wp2
  go_ret2
  exact ⟨rfl, rfl⟩

set_option maxHeartbeats 1000000 in
theorem prow_yes (w : World) (b : Nat) (g : PGh) (m : Pt) (h : PntAt w b g m) (y : Int) (hy : 0 ≤ y) (hy2 : y < m.H) :
    Calls Tryz.prog 57 #[.pointer (some ⟨b, 0, none⟩), .int .i64 y] w fun e w' => e = .returned (.tuple #[.string (strOfNums ((rowOf m.W y (m.v.grid m.W m.H)).map (·.1))), .string (strOfNums ((rowOf m.W y (m.v.grid m.W m.H)).map (·.2))), .int .i64 0]) ∧ Fr [] w w' := by
  have s0 : w.cell? ⟨b, 0, none⟩ = some (.pointer (some ⟨g.bg, 0, none⟩)) := h.st.cell 0
  have GR := hide (gridRow_yes y m.W m.H w g.bg g.bc g.gcap g.sp _ h.gr hy hy2)
  clear h
  go_enter Tryz.func57, Tryz.ntmps57
  go_wp2_with (go_at_call 44; refine GR.out.mono ?_; rintro e w1 ⟨rfl, f1⟩)
  go_ret3
  exact ⟨rfl, f1⟩
set_option maxHeartbeats 1000000 in
theorem prow_no (w : World) (b : Nat) (g : PGh) (m : Pt) (h : PntAt w b g m) (y : Int) (hy : y < 0 ∨ m.H ≤ y) :
    Calls Tryz.prog 57 #[.pointer (some ⟨b, 0, none⟩), .int .i64 y] w fun e w' => e = .returned (.tuple #[.string ByteArray.empty, .string ByteArray.empty, .int .i64 8]) ∧ w = w' := by
  have s0 : w.cell? ⟨b, 0, none⟩ = some (.pointer (some ⟨g.bg, 0, none⟩)) := h.st.cell 0
  have GR := hide (gridRow_no y m.W m.H w g.bg g.bc g.gcap g.sp _ h.gr hy)
  clear h hy
  go_enter Tryz.func57, Tryz.ntmps57
  go_wp2_with (go_at_call 44; refine GR.out.mono ?_; rintro e w1 ⟨rfl, rfl⟩)
  go_ret3
  exact ⟨rfl, rfl⟩
theorem prow_nil (w : World) (y : Int) :
    Calls Tryz.prog 57 #[.pointer none, .int .i64 y] w fun e w' => e = .returned (.tuple #[.string ByteArray.empty, .string ByteArray.empty, .int .i64 1]) ∧ w = w' := by
  go_enter Tryz.func57, Tryz.ntmps57
  go_wp2
  go_ret3
  exact ⟨rfl, rfl⟩

/-- a new painter of this size is handed back -/
def PntPost (w : World) (W H : Int) (e : Ending) (w' : World) : Prop :=
  ∃ b g, e = .returned (.tuple #[.pointer (some ⟨b, 0, none⟩), .int .i64 0]) ∧ (∀ x ∈ pfoot b g, w.heap.size ≤ x) ∧ Fr [] w w' ∧ PntAt w' b g ⟨W, H, [], 0, 0⟩
theorem grid_nil (W H : Int) : V.grid [] W H = List.replicate (W * H).toNat (32, 7) := by
  unfold V.grid V.gridTo
  apply List.ext_getElem
  · simp
  · intro i h1 h2; simp [V.cell, V.best]
set_option maxHeartbeats 1000000 in
set_option maxRecDepth 100000 in
theorem newPainter_yes (W H : Int) (w : World) (h1 : 1 ≤ W) (h2 : W ≤ 40) (h3 : 1 ≤ H) (h4 : H ≤ 20) :
    Calls Tryz.prog 28 #[.int .i64 W, .int .i64 H] w (PntPost w W H) := by
  go_enter Tryz.func28, Tryz.ntmps28
  go_wp2_with fail
  refine (new_yes _ _ _ h1 h2 h3 h4).mono ?_
  rintro e w1 ⟨bg, bc, cap, sp, rfl, hbg, hbc, f1, hg⟩
  have HG := hide hg
  have F1 := hide f1
  have NG : Hid (w.heap.size ≤ bg ∧ w.heap.size ≤ bc) := ⟨hbg, hbc⟩
  clear hg f1 hbg hbc
  go_wp2
  go_ret2
  refine ⟨w1.heap.size, ⟨bg, bc, cap, sp, .slice none 0 0, []⟩, rfl, ?_, F1.out.alloc _, Blk.new _ _ _, ?_, ⟨.inl ⟨rfl, rfl⟩, by simp⟩, rfl, V.ok_nil⟩
  · intro x hx
    simp only [pfoot, List.mem_cons, Value.ownBlock, Option.toList, List.map_nil, List.append_nil, List.not_mem_nil, or_false] at hx
    have := F1.out.size
    rcases hx with rfl | rfl | rfl
    · exact this
    · exact NG.out.1
    · exact NG.out.2
  · show Grid _ bg bc cap sp W H (V.grid [] W H)
    rw [grid_nil]
    exact HG.out.fr0 ((Fr.refl _ _).alloc _)
theorem newPainter_no (W H : Int) (w : World) (h : sizeB W H = false) :
    Calls Tryz.prog 28 #[.int .i64 W, .int .i64 H] w fun e w' => e = .returned (.tuple #[.pointer none, .int .i64 2]) ∧ w = w' := by
  go_enter Tryz.func28, Tryz.ntmps28
  go_wp2_with (go_at_call 16; refine (new_no _ _ _ h).mono ?_; rintro e w' ⟨rfl, rfl⟩)
  go_ret2
  exact ⟨rfl, rfl⟩
end Go.Proofs.YtjhccghhinlmdaaGreatDoor
/- The document's painter (package repaintref): its lines, and what a window has in a place. -/
namespace Go.Proofs.YtjhccghhinlmdaaGreatDoor
open Go.RowKit

set_option maxHeartbeats 2000000 in
set_option maxRecDepth 100000 in
theorem rlines_any (s : ByteArray) (n : Int) (w : World) (hs : s.size ≤ 400) :
    Calls Tryz.prog 70 #[.string s, .int .i64 n] w (CutPost w s n) := by
  obtain ⟨i0, hi, hz0, hz1, hz2⟩ := info_parts info_string
  go_enter Tryz.func70, Tryz.ntmps70
  go_wp2
  go_loopw [5, 6, 7] (fun u i j wr => ∃ k : Nat, j = .int .i64 k ∧ k ≤ s.size ∧ i = .int .i64 ((cutS s n k).1 : Nat) ∧ wr.ownsRow w.heap.size 9 1 u (cutS s n k).2.length ((cutS s n k).2.map Value.string) ∧ Fr [] w wr) (fun _ _ j _ => (3000 - intOf j).toNat)
  case atStart => exact ⟨0, rfl, by omega, rfl, World.ownsRow_nil _ _ _ _, Fr.refl _ _⟩
  case round =>
    obtain ⟨k, rfl, hk, rfl, hown, f⟩ := hrel
    have q1 := cutS_first s n k
    have q2 := cutS_length s n k
    have hsz := f.size
    by_cases hend : k < s.size
    · have E := hide (byteAt_eq s k hend)
      have hby := (s[k]).toNat_lt
      have S1 : Hid (cutS s n (k + 1) = if byteAt s k = 10 then (k + 1, (cutS s n k).2 ++ [s.extract (cutS s n k).1 k]) else if (k : Int) - (cutS s n k).1 = n then (k, (cutS s n k).2 ++ [s.extract (cutS s n k).1 k]) else cutS s n k) := rfl
      generalize cutS s n k = ck at *
      obtain ⟨a, l⟩ := ck
      simp only at q1 q2 hown
      have HO := hide hown
      clear hown
      by_cases h10 : (s[k].toNat : Int) = 10
      · have HN : Hid (cutS s n (k + 1) = (k + 1, l ++ [s.extract a k])) := by
          show _ = _; rw [S1.out, E.out, if_pos h10]
        clear S1
        go_wp2_with (at_builtin; refine wpList_append_lies _ rfl (.tmp 18) (.tmp 23) 122 rfl w.heap.size 9 i0 (.string ByteArray.empty) 1 16 Tryz.underlying122 hi hz0 hz1 hz2 rfl (by decide) u5 l.length (l.map Value.string) rfl (own_fr0 HO.out ((Fr.refl _ _).alloc _)) ⟨wr.heap.size, 0, none⟩ 1 1 [.string (s.extract a k)] rfl rfl (World.news_of_block (cs := #[.string (s.extract a k)]) (t := 9) (fr := (0, 0)) (by exact heap_alloc_new wr _)) (one_one _ rfl) (by omega) (by unfold maxLen; omega) (by omega) (by simp; omega) (wr.heap.size + 1) (by simp) ?_; intro g1 cap1 w1 hown1 hgrow hat hlt1; have F1 : Hid (Fr [] w w1) := own_more (Nat.le_refl _) f HO.out hgrow; have HO1 := hide hown1; clear hown1 hgrow hat)
        go_roundw
        case rel =>
          refine ⟨k + 1, by go_num, by omega, ?_, ?_, F1.out⟩
          · rw [HN.out]; go_num
          · rw [HN.out]; simpa using HO1.out
        case measure => simp [intOf]; omega
      · have b10 : ((s[k].toNat : Int) == 10) = false := by simpa using h10
        by_cases hw : (k : Int) - a = n
        · have HN : Hid (cutS s n (k + 1) = (k, l ++ [s.extract a k])) := by
            show _ = _; rw [S1.out, E.out, if_neg h10, if_pos hw]
          have bw : ((k : Int) - a == n) = true := by simpa using hw
          clear S1 h10 hw
          go_wp2_with (at_builtin; refine wpList_append_lies _ rfl (.tmp 32) (.tmp 37) 122 rfl w.heap.size 9 i0 (.string ByteArray.empty) 1 16 Tryz.underlying122 hi hz0 hz1 hz2 rfl (by decide) u5 l.length (l.map Value.string) rfl (own_fr0 HO.out ((Fr.refl _ _).alloc _)) ⟨wr.heap.size, 0, none⟩ 1 1 [.string (s.extract a k)] rfl rfl (World.news_of_block (cs := #[.string (s.extract a k)]) (t := 9) (fr := (0, 0)) (by exact heap_alloc_new wr _)) (one_one _ rfl) (by omega) (by unfold maxLen; omega) (by omega) (by simp; omega) (wr.heap.size + 1) (by simp) ?_; intro g1 cap1 w1 hown1 hgrow hat hlt1; have F1 : Hid (Fr [] w w1) := own_more (Nat.le_refl _) f HO.out hgrow; have HO1 := hide hown1; clear hown1 hgrow hat)
          go_roundw
          case rel =>
            refine ⟨k + 1, by go_num, by omega, ?_, ?_, F1.out⟩
            · rw [HN.out]
            · rw [HN.out]; simpa using HO1.out
          case measure => simp [intOf]; omega
        · have HN : Hid (cutS s n (k + 1) = (a, l)) := by
            show _ = _; rw [S1.out, E.out, if_neg h10, if_neg hw]
          have bw : ((k : Int) - a == n) = false := by simpa using hw
          clear S1 h10 hw
          go_wp2
          go_roundw
          case rel =>
            refine ⟨k + 1, by go_num, by omega, ?_, ?_, f⟩
            · rw [HN.out]
            · rw [HN.out]; exact HO.out
          case measure => simp [intOf]; omega
    · have hk' : k = s.size := by omega
      subst hk'
      have HN : Hid (cutF s n = (cutS s n s.size).2 ++ [s.extract (cutS s n s.size).1 s.size]) := rfl
      generalize cutS s n s.size = ck at *
      obtain ⟨a, l⟩ := ck
      simp only at q1 q2 hown
      have HO := hide hown
      clear hown hend
      go_wp2_with (at_builtin; refine wpList_append_lies _ rfl (.tmp 40) (.tmp 44) 122 rfl w.heap.size 9 i0 (.string ByteArray.empty) 1 16 Tryz.underlying122 hi hz0 hz1 hz2 rfl (by decide) u5 l.length (l.map Value.string) rfl (own_fr0 HO.out ((Fr.refl _ _).alloc _)) ⟨wr.heap.size, 0, none⟩ 1 1 [.string (s.extract a s.size)] rfl rfl (World.news_of_block (cs := #[.string (s.extract a s.size)]) (t := 9) (fr := (0, 0)) (by exact heap_alloc_new wr _)) (one_one _ rfl) (by omega) (by unfold maxLen; omega) (by omega) (by simp; omega) (wr.heap.size + 1) (by simp) ?_; intro g1 cap1 w1 hown1 hgrow hat hlt1; have F1 : Hid (Fr [] w w1) := own_more (Nat.le_refl _) f HO.out hgrow; have HO1 := hide hown1; clear hown1 hgrow hat)
      go_ret
      have hl : (cutF s n).length = l.length + 1 := by rw [HN.out]; simp
      obtain ⟨L1, L2⟩ := LinesAt.own (ls := cutF s n) (n := l.length + 1) (g := g1) (cap := cap1) (w := w1) (base := w.heap.size) hl.symm (by have := HO1.out; rw [HN.out]; simpa using this)
      exact ⟨g1, cap1, by rw [hl]; rfl, L2, L1, F1.out⟩

def Win.most (o : Win) : Int := if ((cutF o.text o.w).length : Int) - o.h < 0 then 0 else ((cutF o.text o.w).length : Int) - o.h
theorem Win.fits_most (o : Win) (n : Int) (h : 0 ≤ n) : o.fits n = if n < o.most then n else o.most := by
  unfold Win.fits Win.most
  (repeat' split) <;> omega
theorem Win.most_bd (o : Win) (ok : o.Ok) : 0 ≤ o.most ∧ o.most ≤ 401 := by
  have := (cutF_length o.text o.w).2
  have := ok.t
  have := ok.h1
  unfold Win.most
  split <;> omega

set_option maxHeartbeats 1000000 in
set_option maxRecDepth 100000 in
theorem greatest_any (o : Win) (w : World) (ok : o.Ok) :
    Calls Tryz.prog 76 #[.agg #[.int .i64 o.key, .int .i64 o.x, .int .i64 o.y, .int .i64 o.w, .int .i64 o.h, .int .i64 o.layer, .int .i64 o.style, .string o.text]] w fun e w' => e = .returned (.int .i64 o.most) ∧ Fr [] w w' := by
  have l1 := cutF_length o.text o.w
  have l2 := ok.t
  have l3 := ok.h1
  have l4 := ok.h2
  have LN := hide (fun w' => rlines_any o.text o.w w' l2)
  have HM : Hid (o.most = if ((cutF o.text o.w).length : Int) - o.h < 0 then 0 else ((cutF o.text o.w).length : Int) - o.h) := rfl
  clear ok
  go_enter Tryz.func76, Tryz.ntmps76
  go_wp2_with fail
  refine (LN.out _).mono ?_
  rintro e w1 ⟨g, cap, rfl, h1, h2, f1⟩
  have B := (Blk.new w o.vals 104).fr0 f1
  have c4 : w1.cell? ⟨w.heap.size, 4, none⟩ = some (.int .i64 o.h) := B.cell 4
  have F : Hid (Fr [] w w1) := ((Fr.refl _ _).alloc _).then f1
  clear B f1 h1 h2 LN
  generalize (cutF o.text o.w).length = L at *
  by_cases h : (L : Int) - o.h < 0
  · have E : Hid (o.most = 0) := by show _ = _; rw [HM.out, if_pos h]
    clear HM
    go_wp2
    go_ret
    exact ⟨ret_int E.out.symm, F.out⟩
  · have E : Hid (o.most = (L : Int) - o.h) := by show _ = _; rw [HM.out, if_neg h]
    clear HM
    go_wp2
    go_ret
    exact ⟨ret_int E.out.symm, F.out⟩

set_option maxHeartbeats 1000000 in
set_option maxRecDepth 100000 in
theorem rcell_any (o : Win) (off x y : Int) (w : World) (ok : o.Ok) (x1 : 0 ≤ x) (x2 : x ≤ 1000) (y1 : 0 ≤ y) (y2 : y ≤ 1000) (o1 : 0 ≤ off) (o2 : off ≤ 401) :
    Calls Tryz.prog 47 #[.agg #[.int .i64 o.key, .int .i64 o.x, .int .i64 o.y, .int .i64 o.w, .int .i64 o.h, .int .i64 o.layer, .int .i64 o.style, .string o.text], .int .i64 off, .int .i64 x, .int .i64 y] w fun e w' => e = .returned (.agg #[.int .u8 (charF (cutF o.text o.w) x (y + off)), .int .i64 o.style]) ∧ Fr [] w w' := by
  have l1 := cutF_length o.text o.w
  have l2 := ok.t
  have LN := hide (fun w' => rlines_any o.text o.w w' l2)
  have HC : Hid (charF (cutF o.text o.w) x (y + off) = if y + off < 0 ∨ ((cutF o.text o.w).length : Int) ≤ y + off ∨ x < 0 ∨ ((lineAt (cutF o.text o.w) (y + off)).size : Int) ≤ x then 32 else shownC (byteAt (lineAt (cutF o.text o.w) (y + off)) x.toNat)) := rfl
  clear ok
  go_enter Tryz.func47, Tryz.ntmps47
  go_wp2_with fail
  refine (LN.out _).mono ?_
  rintro e w1 ⟨g, cap, rfl, h1, h2, f1⟩
  have B := ((Blk.new w o.vals 104).alloc (.cells #[.int .u8 0, .int .i64 0] 84)).fr0 f1
  have B2 := (Blk.new (w.alloc (.cells o.vals.toArray 104)) [.int .u8 0, .int .i64 0] 84).fr0 f1
  rw [World.size_alloc] at B2
  have c6 : w1.cell? ⟨w.heap.size, 6, none⟩ = some (.int .i64 o.style) := B.cell 6
  have r0 : w1.cell? ⟨w.heap.size + 1, 0, none⟩ = some (.int .u8 0) := B2.cell 0
  have r1 : w1.cell? ⟨w.heap.size + 1, 1, none⟩ = some (.int .i64 0) := B2.cell 1
  have z0 := B2.frozen 0
  have z1 := B2.frozen 1
  have F : Hid (Fr [] w w1) := (((Fr.refl _ _).alloc _).alloc _).then f1
  have LA := hide h2
  have glt : g < w1.heap.size := h2.lt
  clear B B2 f1 h1 h2 LN
  have fin : ∀ c : Int, charF (cutF o.text o.w) x (y + off) = c → (Ending.returned (.agg #[.int .u8 c, .int .i64 o.style]) = .returned (.agg #[.int .u8 (charF (cutF o.text o.w) x (y + off)), .int .i64 o.style]) ∧ Fr [] w ((w1.setCell ⟨w.heap.size + 1, 0, none⟩ (.int .u8 c)).setCell ⟨w.heap.size + 1, 1, none⟩ (.int .i64 o.style))) := by
    intro c hc
    exact ⟨by rw [hc], (F.out.setCell (.inr (by simp)) _).setCell (.inr (by simp)) _⟩
  have FIN := hide fin
  clear fin
  by_cases hn : y + off < ((cutF o.text o.w).length : Int)
  · obtain ⟨k, hk⟩ := Int.eq_ofNat_of_zero_le (show 0 ≤ y + off by omega)
    have hkl : k < (cutF o.text o.w).length := by omega
    have cl : w1.cell? ⟨g, (y + off).toNat, none⟩ = some (.string (lineAt (cutF o.text o.w) (y + off))) := LA.out.cell (by
      simp [lineAt, List.getD_eq_getElem?_getD, show (y + off).toNat < (cutF o.text o.w).length by omega])
    generalize lineAt (cutF o.text o.w) (y + off) = ln at *
    by_cases hx : x < (ln.size : Int)
    · obtain ⟨j, rfl⟩ := Int.eq_ofNat_of_zero_le x1
      have hj : j < ln.size := by omega
      have E : charF (cutF o.text o.w) j (y + off) = shownC (ln[j].toNat : Int) := by
        rw [HC.out, if_neg (by omega)]; simp only [Int.toNat_natCast]; rw [byteAt_eq ln j hj]
      have hby := (ln[j]).toNat_lt
      by_cases h7 : (ln[j].toNat : Int) < 32
      · have E2 := hide (FIN.out 63 (by rw [E]; unfold shownC; rw [if_pos (.inl h7)]))
        clear E HC FIN LA hk
        go_wp2
        refine bodyPost_ret (v := .agg #[.int .u8 63, .int .i64 o.style]) (by simp [results, Tryz.results47, go_sem, r0, r1]) rfl ?_
        exact E2.out
      · by_cases h8 : 126 < (ln[j].toNat : Int)
        · have E2 := hide (FIN.out 63 (by rw [E]; unfold shownC; rw [if_pos (.inr h8)]))
          clear E HC FIN LA hk
          go_wp2
          refine bodyPost_ret (v := .agg #[.int .u8 63, .int .i64 o.style]) (by simp [results, Tryz.results47, go_sem, r0, r1]) rfl ?_
          exact E2.out
        · have E2 := hide (FIN.out (ln[j].toNat : Int) (by rw [E]; unfold shownC; rw [if_neg (by omega)]))
          clear E HC FIN LA hk
          go_wp2
          refine bodyPost_ret (v := .agg #[.int .u8 (ln[j].toNat : Int), .int .i64 o.style]) (by simp [results, Tryz.results47, go_sem, r0, r1]) rfl ?_
          exact E2.out
    · have E2 := hide (FIN.out 32 (by rw [HC.out, if_pos (by omega)]))
      clear HC FIN LA hk
      go_wp2
      refine bodyPost_ret (v := .agg #[.int .u8 32, .int .i64 o.style]) (by simp [results, Tryz.results47, go_sem, r0, r1]) rfl ?_
      exact E2.out
  · have E2 := hide (FIN.out 32 (by rw [HC.out, if_pos (by omega)]))
    clear HC FIN LA
    go_wp2
    refine bodyPost_ret (v := .agg #[.int .u8 32, .int .i64 o.style]) (by simp [results, Tryz.results47, go_sem, r0, r1]) rfl ?_
    exact E2.out
end Go.Proofs.YtjhccghhinlmdaaGreatDoor
