/- The brush walked: a whole screen. -/
import Derived.Test.YtjhccghhinlmdaaDoorBrushChange
namespace Go.Proofs.YtjhccghhinlmdaaDoor
open Go.RowKit

theorem str_app (s : ByteArray) (l : List Int) (hs : AreBytes (nums s)) (hl : AreBytes l) : s ++ strOfNums l = strOfNums (nums s ++ l) := by
  apply nums_inj
  rw [nums_append, nums_str l hl, nums_str _ (hs.append hl)]
theorem str_size (l : List Int) : (strOfNums l).size = l.length := by
  have : (strOfNums l).data.toList.length = l.length := by rw [strOfNums_data]; simp
  simpa using this
theorem nums_wipe : nums ⟨#[27, 91, 109, 27, 91, 50, 74, 27, 91, 63, 50, 53, 108]⟩ = wipeL := by decide
theorem whole_str (W H : Int) (w1 : 1 ≤ W) (w2 : W ≤ 40) (h1 : 1 ≤ H) (h2 : H ≤ 20) (g : List (Int × Int)) (hc : Chars g) (d : Cur) (hd : d.shown = true → 0 ≤ d.x ∧ d.x < W ∧ 0 ≤ d.y ∧ d.y < H) :
    (⟨#[27, 91, 109, 27, 91, 50, 74, 27, 91, 63, 50, 53, 108]⟩ : ByteArray) ++ strOfNums (change W H (List.replicate (W * H).toNat (32, 7)) g ⟨0, 0, false⟩ d) = strOfNums (whole W H g d) := by
  rw [str_app _ _ (by rw [nums_wipe]; exact wipeL_bytes) (change_bytes w1 w2 h1 h2 _ g hc _ d hd), nums_wipe]; rfl

set_option maxHeartbeats 2000000 in
set_option maxRecDepth 100000 in
theorem bwhole_any (w : World) (W H : Int) (gg gc gcap : Nat) (gsp : List Value) (g : List (Int × Int)) (d : Cur)
    (GG : Grid w gg gc gcap gsp W H g) (hc : Chars g) (hd : d.shown = true → 0 ≤ d.x ∧ d.x < W ∧ 0 ≤ d.y ∧ d.y < H) :
    Calls Tryd.prog 43 #[.agg #[.pointer (some ⟨gg, 0, none⟩), .int .i64 d.x, .int .i64 d.y, .bool d.shown]] w
      fun e w' => e = .returned (.string (strOfNums (whole W H g d))) ∧ Fr [] w w' := by
  have WS := hide (whole_str W H GG.w1 GG.w2 GG.h1 GG.h2 g hc d hd)
  have SZ : Hid ((strOfNums (change W H (List.replicate (W * H).toNat (32, 7)) g ⟨0, 0, false⟩ d)).size ≤ 100000) := by
    show _ ≤ _
    rw [str_size]
    have h1 := change_len W H (List.replicate (W * H).toNat (32, 7)) g ⟨0, 0, false⟩ d
    have h2 := others_le (List.replicate (W * H).toNat (32, 7)) g (W * H).toNat
    have := mul_bd GG.w1 GG.w2 GG.h1 GG.h2
    omega
  have F1 : Hid (Fr [] w (w.alloc (.cells #[.pointer (some ⟨gg, 0, none⟩), .int .i64 d.x, .int .i64 d.y, .bool d.shown] 76))) := (Fr.refl _ _).alloc _
  have BL := hide (gblank_any W H _ gg gc gcap gsp g (GG.fr0 F1.out))
  have HG := hide GG
  have HC := hide hc
  have HD := hide hd
  clear GG hc hd
  go_enter Tryd.func43, Tryd.ntmps43
  go_wp2_with fail
  refine BL.out.mono ?_
  rintro e w2 ⟨ng, nc, cap, sp, rfl, n1, n2, f2, h2⟩
  have K2 := (Blk.new w [.pointer (some ⟨gg, 0, none⟩), .int .i64 d.x, .int .i64 d.y, .bool d.shown] 76).fr0 f2
  have a0 : w2.cell? ⟨w.heap.size, 0, none⟩ = some (.pointer (some ⟨gg, 0, none⟩)) := K2.cell 0
  have a1 : w2.cell? ⟨w.heap.size, 1, none⟩ = some (.int .i64 d.x) := K2.cell 1
  have a2 : w2.cell? ⟨w.heap.size, 2, none⟩ = some (.int .i64 d.y) := K2.cell 2
  have a3 : w2.cell? ⟨w.heap.size, 3, none⟩ = some (.bool d.shown) := K2.cell 3
  have lt2 := K2.lt
  have F2 := hide (F1.out.then f2)
  have FA : Hid (Fr [] w2 (w2.alloc (.cells #[.pointer (some ⟨ng, 0, none⟩), .int .i64 0, .int .i64 0, .bool false] 76))) := (Fr.refl _ _).alloc _
  have CH := hide (bchange_any _ W H ng nc cap sp _ gg gc gcap gsp g ⟨0, 0, false⟩ d (h2.fr0 FA.out) ((HG.out.fr0 F2.out).fr0 FA.out) HC.out HD.out)
  clear K2 h2 f2 BL n1 n2
  go_wp2_with fail
  refine CH.out.mono ?_
  rintro e w3 ⟨rfl, f3⟩
  have F3 := hide ((F2.out.alloc _).then f3)
  clear f3 CH
  have sz := SZ.out
  generalize strOfNums (change W H (List.replicate (W * H).toNat (32, 7)) g ⟨0, 0, false⟩ d) = rest at *
  go_wp2
  go_ret
  exact ⟨ret_str WS.out, F3.out⟩
end Go.Proofs.YtjhccghhinlmdaaDoor
