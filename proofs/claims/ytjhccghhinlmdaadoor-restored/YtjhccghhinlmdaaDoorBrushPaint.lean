/- The brush walked: the cells that are to be others are written. -/
import Derived.Test.YtjhccghhinlmdaaDoorBrushMove
import Derived.Test.YtjhccghhinlmdaaDoorPaintView
namespace Go.Proofs.YtjhccghhinlmdaaDoor
open Go.RowKit

theorem getD_cell (l : List (Int × Int)) (i : Nat) (h : i < l.length) : l.getD i (32, 7) = (chr l i, sty l i) := by
  simp [chr, sty, List.getD_eq_getElem?_getD, h]
theorem B.upto_len' (W : Int) (f g : List (Int × Int)) (n : Nat) (h : n ≤ 800) : (B.upto W f g n).bytes.length ≤ 12800 := by
  have h1 := B.upto_len W f g n
  have h2 := others_le f g n
  omega
set_option maxHeartbeats 4000000 in
set_option maxRecDepth 100000 in
theorem bpaint_any (w : World) (base bb : Nat) (W H : Int) (fg fc fcap : Nat) (fsp : List Value) (f : List (Int × Int)) (gg gc gcap : Nat) (gsp : List Value) (g : List (Int × Int))
    (h : BrAt w base bb B.first) (GF : Grid w fg fc fcap fsp W H f) (GG : Grid w gg gc gcap gsp W H g) (l1 : fg < base) (l2 : fc < base) (l3 : gg < base) (l4 : gc < base) (hc : Chars g) :
    Calls Tryd.prog 62 #[.pointer (some ⟨bb, 0, none⟩), .pointer (some ⟨fg, 0, none⟩), .pointer (some ⟨gg, 0, none⟩)] w
      fun e w' => e = .returned (.tuple #[]) ∧ Keeps base w w' ∧ BrAt w' base bb (B.paint W H f g) := by
  have w1 := GF.w1
  have w2 := GF.w2
  have h1 := GF.h1
  have h2 := GF.h2
  have HB := hide (mul_bd w1 w2 h1 h2)
  have HF := hide GF
  have HG := hide GG
  have HR := hide h
  have HC := hide hc
  clear GF GG h hc
  go_enter Tryd.func62, Tryd.ntmps62
  go_wp2
  go_loopw [6] (fun i wr => ∃ y : Int, i = .int .i64 y ∧ 0 ≤ y ∧ y ≤ H ∧ Keeps base w wr ∧ BrAt wr base bb (B.upto W f g (y * W).toNat)) (fun i _ => (3000 - intOf i).toNat)
  case atStart => exact ⟨0, rfl, by omega, by omega, Keeps.refl _ _, by rw [show ((0 : Int) * W).toNat = 0 by simp]; exact HR.out⟩
  case round =>
    obtain ⟨y, rfl, y1, y2, lo, br⟩ := hrel
    have gy := HG.out.below lo.below l3 l4
    have q1 : wr.cell? ⟨gg, 1, none⟩ = some (.int .i64 H) := gy.hd.cell 1
    have blt := gy.hd.lt
    clear gy
    by_cases hend : y < H
    · have HBY := hide br
      have HLY := hide lo
      clear br lo
      go_wp2
      go_loopw [7] (fun i wq => ∃ x : Int, i = .int .i64 x ∧ 0 ≤ x ∧ x ≤ W ∧ Keeps base w wq ∧ BrAt wq base bb (B.upto W f g (y * W + x).toNat)) (fun i _ => (3000 - intOf i).toNat)
      case atStart => exact ⟨0, rfl, by omega, by omega, HLY.out, by rw [Int.add_zero]; exact HBY.out⟩
      case round =>
        rename_i wy
        obtain ⟨x, rfl, x1, x2, lo, br⟩ := hrel
        have gx := HG.out.below lo.below l3 l4
        have fx := HF.out.below lo.below l1 l2
        have r0 : wr.cell? ⟨gg, 0, none⟩ = some (.int .i64 W) := gx.hd.cell 0
        have blt2 := gx.hd.lt
        by_cases hx : x < W
        · have idx := idx_bd (W := W) (H := H) (x := x) (y := y) w2 h2 x1 hx y1 hend
          obtain ⟨k, hk⟩ := Int.eq_ofNat_of_zero_le (show 0 ≤ y * W + x by omega)
          have hk' : (y * W + x).toNat = k := by omega
          obtain ⟨e1, e2⟩ := at_div (W := W) (x := x) (y := y) x1 hx
          rw [hk] at e1 e2
          have hkl : (k : Int) < W * H := by omega
          have fl := fx.len
          have gl := gx.len
          have AF := hide (at_in x y W H wr fg fc fcap fsp f fx x1 hx y1 hend)
          have AG := hide (fun w' (fr : Fr [] wr w') => at_in x y W H w' gg gc gcap gsp g (gx.fr0 fr) x1 hx y1 hend)
          rw [hk'] at AF AG br
          have cg := getD_cell g k (by omega)
          have cf := getD_cell f k (by omega)
          have hm : g.getD k (32, 7) ∈ g := by simp [List.getD_eq_getElem?_getD, show k < g.length by omega]
          obtain ⟨m1, m2, m3, m4⟩ := HC.out _ hm
          rw [cg] at m1 m2 m3 m4
          have BL := hide (B.upto_len' W f g k (by have := HB.out; omega))
          have NX : Hid (∀ b : B, B.upto W f g k = b → B.upto W f g (y * W + (x + 1)).toNat = if (chr g k, sty g k) = (chr f k, sty f k) then b else ((b.moveTo x y).setPen (sty g k)).write (chr g k)) := by
            intro b hb
            rw [show (y * W + (x + 1)).toNat = k + 1 by omega, B.upto_succ, hb]
            unfold B.cell
            rw [cg, cf, e1, e2]
          have BR := hide br
          have LO := hide lo
          clear br lo gx fx e1 e2 hk hk' hkl cg cf hm fl gl idx
          generalize chr g k = gc1 at *
          generalize sty g k = gs1 at *
          generalize chr f k = fc1 at *
          generalize sty f k = fs1 at *
          generalize B.upto W f g k = b at *
          go_wp2_with fail
          refine AF.out.mono ?_
          rintro e w3 ⟨rfl, f3⟩
          have F3 := hide f3
          clear f3 r0
          go_wp2_with fail
          refine (AG.out _ (F3.out.alloc _)).mono ?_
          rintro e w4 ⟨rfl, f4⟩
          have F4 : Hid (Fr [] wr w4) := (F3.out.alloc _).then f4
          have BX : Hid (Blk w4 w3.heap.size [.int .u8 fc1, .int .u8 fs1] 104) := (Blk.new w3 _ _).fr0 f4
          have k0 : w4.cell? ⟨w3.heap.size, 0, none⟩ = some (.int .u8 fc1) := BX.out.cell 0
          have k1 : w4.cell? ⟨w3.heap.size, 1, none⟩ = some (.int .u8 fs1) := BX.out.cell 1
          have lt4 := BX.out.lt
          clear f4 AF AG
          by_cases hs : gc1 = fc1 ∧ gs1 = fs1
          · have E : Hid (B.upto W f g (y * W + (x + 1)).toNat = b) := by show _ = _; rw [NX.out b rfl, if_pos (by rw [hs.1, hs.2])]
            obtain ⟨rfl, rfl⟩ := hs
            go_wp2
            go_roundw
            case rel => exact ⟨x + 1, by go_num, by omega, by omega, LO.out.trans ((F4.out.alloc _).keeps (by have := BR.out.lt; have := BR.out.ge; omega)), by rw [E.out]; exact BR.out.fr0 (F4.out.alloc _)⟩
            case measure => simp [intOf]; omega
          · have E : Hid (B.upto W f g (y * W + (x + 1)).toNat = ((b.moveTo x y).setPen gs1).write gc1) := by show _ = _; rw [NX.out b rfl, if_neg (by intro h; simp at h; exact hs h)]
            have hne : (gc1 == fc1) = false ∨ ((gc1 == fc1) = true ∧ (gs1 == fs1) = false) := by
              by_cases hx : gc1 = fc1
              · exact .inr ⟨by simpa using hx, by simp; intro hy; exact hs ⟨hx, hy⟩⟩
              · exact .inl (by simpa using hx)
            have MX : Hid ((b.moveTo x y).x = x) := by
              show _ = _
              unfold B.moveTo; split
              · rename_i h; exact h.1.symm
              · rfl
            have PX : Hid (((b.moveTo x y).setPen gs1).x = x) := by
              show _ = _
              rw [show ((b.moveTo x y).setPen gs1).x = (b.moveTo x y).x by unfold B.setPen; split <;> rfl]; exact MX.out
            have L1 := hide (B.moveTo_len b x y)
            have L2 := hide (B.setPen_len (b.moveTo x y) gs1)
            have BR4 : Hid (BrAt (w4.alloc (.cells #[.int .u8 gc1, .int .u8 gs1] 104)) base bb b) := BR.out.fr0 (F4.out.alloc _)
            have LO4 : Hid (Keeps base w (w4.alloc (.cells #[.int .u8 gc1, .int .u8 gs1] 104))) := LO.out.trans ((F4.out.alloc _).keeps (by have := BR.out.lt; have := BR.out.ge; omega))
            clear hs
            rcases hne with q1 | ⟨q1, q2⟩
            all_goals
              go_wp2_with fail
              refine (bmove_any x y _ base bb b BR4.out (by have := BL.out; omega) x1 (by omega) y1 (by omega)).mono ?_
              rintro e w5 ⟨rfl, l5, b5⟩
              have k5 := l5.blk _ _ _ (Blk.new w4 [.int .u8 gc1, .int .u8 gs1] 104) (by decide) (by decide)
              have s50 : w5.cell? ⟨w4.heap.size, 0, none⟩ = some (.int .u8 gc1) := k5.cell 0
              have s51 : w5.cell? ⟨w4.heap.size, 1, none⟩ = some (.int .u8 gs1) := k5.cell 1
              have lt5 := k5.lt
              have K5 := hide k5
              have L5 := hide (LO4.out.trans l5)
              have B5 := hide b5
              clear k5 l5 b5
              go_wp2_with fail
              refine (bpen_any gs1 _ base bb _ B5.out (by have := BL.out; have := L1.out; omega) m3 m4).mono ?_
              rintro e w6 ⟨rfl, l6, b6⟩
              have k6 := l6.blk _ _ _ K5.out (by decide) (by decide)
              have s60 : w6.cell? ⟨w4.heap.size, 0, none⟩ = some (.int .u8 gc1) := k6.cell 0
              have lt6 := k6.lt
              have L6 := hide (L5.out.trans l6)
              have B6 := hide b6
              clear k6 l6 b6 L5 B5 K5
              go_wp2_with fail
              refine (bwrite_any gc1 _ base bb _ B6.out (by have := BL.out; have := L1.out; have := L2.out; omega) (by rw [PX.out]; omega) (by rw [PX.out]; omega)).mono ?_
              rintro e w7 ⟨rfl, l7, b7⟩
              have L7 := hide (L6.out.trans l7)
              have B7 := hide b7
              clear l7 b7 L6 B6
              go_wp2
              go_roundw
              case rel => exact ⟨x + 1, by go_num, by omega, by omega, L7.out, by rw [E.out]; exact B7.out⟩
              case measure => simp [intOf]; omega
        · have hx' : x = W := by omega
          subst hx'
          have ey : y * x + x = (y + 1) * x := by rw [Int.add_mul]; omega
          rw [ey] at br
          have BR := hide br
          clear br ey hx gx fx
          go_wp2
          go_roundw
          case rel => exact ⟨y + 1, by go_num, by omega, by omega, lo, BR.out⟩
          case measure => simp [intOf]; omega
    · have hy : y = H := by omega
      subst hy
      have BR := hide br
      have BL := hide (B.upto_len' W f g (y * W).toNat (by have := HB.out; rw [Int.mul_comm]; omega))
      clear br
      go_wp2_with fail
      refine (bpen_any 7 _ base bb _ BR.out (by have := BL.out; omega) (by decide) (by decide)).mono ?_
      rintro e w3 ⟨rfl, l3, b3⟩
      have E : Hid (B.paint W y f g = (B.upto W f g (y * W).toNat).setPen 7) := by show _ = _; unfold B.paint; rw [Int.mul_comm]
      have L3 := hide (lo.trans l3)
      have B3 := hide b3
      clear l3 b3
      go_wp2
      go_end0
      exact ⟨rfl, L3.out, by rw [E.out]; exact B3.out⟩
end Go.Proofs.YtjhccghhinlmdaaDoor
