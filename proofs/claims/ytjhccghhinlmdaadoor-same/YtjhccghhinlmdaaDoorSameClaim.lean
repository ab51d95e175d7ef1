/- PROVED: repaintkeep.Same answers true for every width, height and two windows, and leaves its arguments as they were; no condition beyond the form's own reach, and that the tables of Go's library that the row lists hold what the program's text lays (the card ties them). -/
import Derived.Test.YtjhccghhinlmdaaDoorKeepRM
import Derived.Test.YtjhccghhinlmdaaDoorSamePure
import Derived.Test.YtjhccghhinlmdaaDoorPaintCheck
import Derived.ProofKit
import Derived.OpenShut
import Derived.ShutString
import Derived.SizedLaws
import Derived.Deep.Slices
import Derived.Test.YtjhccghhinlmdaaDoorRows
import Derived.Test.YtjhccghhinlmdaaDoorFrontsWalk
import Derived.Deep.DeepHandedRow
import Derived.SevenTiedAt
import Derived.LaidMore
import Derived.Test.YtjhccghhinlmdaaDoorCards
import Derived.Test.YtjhccghhinlmdaaDoorTie
/- Same walked: what is shown already costs nothing. -/
namespace Go.Proofs.YtjhccghhinlmdaaDoor
open Go.RowKit

set_option maxHeartbeats 4000000 in
set_option maxRecDepth 100000 in
theorem same_any (a c : Int) (o q : Win) (w : World) (ho : o.In) (hq : q.In) (a1 : -9223372036854775808 ≤ a) (a2 : a ≤ 9223372036854775807) (c1 : -9223372036854775808 ≤ c) (c2 : c ≤ 9223372036854775807) :
    Calls Tryd.prog 7 #[.int .i64 a, .int .i64 c, .agg #[.int .i64 o.key, .int .i64 o.x, .int .i64 o.y, .int .i64 o.w, .int .i64 o.h, .int .i64 o.layer, .int .i64 o.style, .string o.text], .agg #[.int .i64 q.key, .int .i64 q.x, .int .i64 q.y, .int .i64 q.w, .int .i64 q.h, .int .i64 q.layer, .int .i64 q.style, .string q.text]] w fun e w' => e = .returned (.bool true) ∧ Fr [] w w' := by
  have OP := hide (opened_any a c ((w.alloc (.cells #[.int .i64 o.key, .int .i64 o.x, .int .i64 o.y, .int .i64 o.w, .int .i64 o.h, .int .i64 o.layer, .int .i64 o.style, .string o.text] 23)).alloc (.cells #[.int .i64 q.key, .int .i64 q.x, .int .i64 q.y, .int .i64 q.w, .int .i64 q.h, .int .i64 q.layer, .int .i64 q.style, .string q.text] 23)) a1 a2 c1 c2)
  have pw := pickI_bd a 40 (by decide)
  have ph := pickI_bd c 20 (by decide)
  have wn1 : 1 ≤ 1 + pickI a 40 := by omega
  have wn2 : 1 + pickI a 40 ≤ 40 := by omega
  have hn1 : 1 ≤ 1 + pickI c 20 := by omega
  have hn2 : 1 + pickI c 20 ≤ 20 := by omega
  generalize 1 + pickI a 40 = Wn at *
  generalize 1 + pickI c 20 = Hn at *
  clear pw ph
  have FO := hide (fun w' => fit_in o 1 w' ho)
  have FQ := hide (fun w' => fit_in q 2 w' hq)
  have oka := fitW_ok o 1 (by decide) (by decide)
  have okb := fitW_ok q 2 (by decide) (by decide)
  have ka : (fitW o 1).key = 1 := rfl
  have kb : (fitW q 2).key = 2 := rfl
  generalize fitW o 1 = A at *
  generalize fitW q 2 = B at *
  have EV := hide (errV_two A B oka okb (by rw [ka, kb]; decide))
  have EF := hide (errV_far A B oka okb ka kb)
  have NF := hide (next_far A B ka kb)
  have NK := hide (next_back A B ka kb)
  have TS : Hid (∀ x ∈ [farW, A, B], x.text.size ≤ 9223372036854775807) := by
    intro x hx
    simp at hx
    rcases hx with rfl | rfl | rfl
    · exact (by decide : (14 : Nat) ≤ 9223372036854775807)
    · have := oka.t; omega
    · have := okb.t; omega
  have TS2 : Hid (∀ x ∈ [A, B], x.text.size ≤ 9223372036854775807) := fun x hx => TS.out x (List.mem_cons_of_mem _ hx)
  have OKV : Hid (V.Ok [(A, 0), (B, 0)]) := by
    have := V.ok_next [] EV.out
    rw [next_nil] at this; exact this
  clear ho hq oka okb ka kb
  go_enter Tryd.func7, Tryd.ntmps7
  go_wp2_with fail
  refine OP.out.mono ?_
  rintro e w1 ⟨b, g, bt, gt, rfl, n1, n2, n3, f1, p1, t1⟩
  have R1 := hide (RoomPost.rm (((Fr.refl [] w).alloc _).alloc _) n1 n2 n3 f1 p1 t1)
  have BO := hide (((Blk.new w o.vals 23).alloc (.cells #[.int .i64 q.key, .int .i64 q.x, .int .i64 q.y, .int .i64 q.w, .int .i64 q.h, .int .i64 q.layer, .int .i64 q.style, .string q.text] 23)).fr0 f1)
  have BQ : Hid (Blk w1 (w.heap.size + 1) q.vals 23) := by
    have := (Blk.new (w.alloc (.cells #[.int .i64 o.key, .int .i64 o.x, .int .i64 o.y, .int .i64 o.w, .int .i64 o.h, .int .i64 o.layer, .int .i64 o.style, .string o.text] 23)) q.vals 23).fr0 f1
    rw [World.size_alloc] at this; exact this
  obtain ⟨oc0, oc1, oc2, oc3, oc4, oc5, oc6, oc7⟩ := BO.out.win
  have lt1 := BO.out.lt
  clear n1 n2 n3 f1 p1 t1 OP
  go_wp2_with fail
  refine (FO.out _).mono ?_
  rintro e w2 ⟨rfl, f2⟩
  have FX := ((Fr.refl [] w1).alloc (.cells #[.pointer (some ⟨b, 0, none⟩), .pointer (some ⟨bt, 0, none⟩), .int .i64 Wn, .int .i64 Hn] 27)).then f2
  have BR2 : Hid (Blk w2 w1.heap.size [.pointer (some ⟨b, 0, none⟩), .pointer (some ⟨bt, 0, none⟩), .int .i64 Wn, .int .i64 Hn] 27) := (Blk.new w1 _ _).fr0 f2
  have R2 := hide (R1.out.fr0 FX)
  have BQ2 := hide (BQ.out.fr0 FX)
  obtain ⟨qc0, qc1, qc2, qc3, qc4, qc5, qc6, qc7⟩ := BQ2.out.win
  have lt2 := BQ2.out.lt
  have lt2b := BR2.out.lt
  clear oc0 oc1 oc2 oc3 oc4 oc5 oc6 oc7 f2 FX R1 BQ BO
  go_wp2_with fail
  refine (FQ.out _).mono ?_
  rintro e w3 ⟨rfl, f3⟩
  have FX := ((Fr.refl [] w2).alloc (.cells #[.int .i64 A.key, .int .i64 A.x, .int .i64 A.y, .int .i64 A.w, .int .i64 A.h, .int .i64 A.layer, .int .i64 A.style, .string A.text] 23)).then f3
  have R3 := hide (R2.out.fr0 FX)
  have BR3 := hide (BR2.out.fr0 FX)
  have BA3 : Hid (Blk w3 w2.heap.size A.vals 23) := (Blk.new w2 _ _).fr0 f3
  obtain ⟨rc0, rc1, rc2, rc3⟩ := BR3.out.four
  obtain ⟨ac0, ac1, ac2, ac3, ac4, ac5, ac6, ac7⟩ := BA3.out.win
  have lt3 := BR3.out.lt
  have lt4 := BA3.out.lt
  clear qc0 qc1 qc2 qc3 qc4 qc5 qc6 qc7 f3 FX R2 BQ2 BR2
  have FF : Hid (Fr [] w3 ((w3.alloc (.cells #[.int .i64 B.key, .int .i64 B.x, .int .i64 B.y, .int .i64 B.w, .int .i64 B.h, .int .i64 B.layer, .int .i64 B.style, .string B.text] 23)).alloc (.cells #[.int .i64 A.key, .int .i64 A.x, .int .i64 A.y, .int .i64 A.w, .int .i64 A.h, .int .i64 A.layer, .int .i64 A.style, .string A.text, .int .i64 B.key, .int .i64 B.x, .int .i64 B.y, .int .i64 B.w, .int .i64 B.h, .int .i64 B.layer, .int .i64 B.style, .string B.text] 23))) := ((Fr.refl _ _).alloc _).alloc _
  have WS : Hid (WinsAt ((w3.alloc (.cells #[.int .i64 B.key, .int .i64 B.x, .int .i64 B.y, .int .i64 B.w, .int .i64 B.h, .int .i64 B.layer, .int .i64 B.style, .string B.text] 23)).alloc (.cells #[.int .i64 A.key, .int .i64 A.x, .int .i64 A.y, .int .i64 A.w, .int .i64 A.h, .int .i64 A.layer, .int .i64 A.style, .string A.text, .int .i64 B.key, .int .i64 B.x, .int .i64 B.y, .int .i64 B.w, .int .i64 B.h, .int .i64 B.layer, .int .i64 B.style, .string B.text] 23)) (some ⟨w3.heap.size + 1, 0, none⟩) [A, B]) := by
    have := Blk.new (w3.alloc (.cells #[.int .i64 B.key, .int .i64 B.x, .int .i64 B.y, .int .i64 B.w, .int .i64 B.h, .int .i64 B.layer, .int .i64 B.style, .string B.text] 23)) (A.vals ++ B.vals) 23
    rw [World.size_alloc] at this
    exact wins_two this
  have R3F := hide (R3.out.fr0 FF.out)
  have BB3 := hide ((Blk.new w3 B.vals 23).alloc (.cells #[.int .i64 A.key, .int .i64 A.x, .int .i64 A.y, .int .i64 A.w, .int .i64 A.h, .int .i64 A.layer, .int .i64 A.style, .string A.text, .int .i64 B.key, .int .i64 B.x, .int .i64 B.y, .int .i64 B.w, .int .i64 B.h, .int .i64 B.layer, .int .i64 B.style, .string B.text] 23))
  have SH := hide (shows_yes _ b g _ bt gt _ R3F.out.r Wn Hn (some ⟨w3.heap.size + 1, 0, none⟩) [A, B] 2 2 WS.out rfl (by decide) TS2.out EV.out)
  simp only [next_nil, List.map_cons, List.map_nil] at SH
  have SN := hide ((shown_new Wn Hn wn1 wn2 hn1 hn2).told ⟨Wn, Hn, [(A, 0), (B, 0)], 0, 0⟩ rfl rfl OKV.out)
  generalize (T.new Wn Hn).feed (Pt.told ⟨Wn, Hn, [], 0, 0⟩ ⟨Wn, Hn, [(A, 0), (B, 0)], 0, 0⟩) = t4 at *
  go_wp2_with fail
  refine SH.out.mono ?_
  rintro e w4 ⟨rfl, u4⟩
  obtain ⟨g4, gt4, R4, K4⟩ := R3F.out.upd u4
  have BR4 := hide (K4 _ _ _ (BR3.out.fr0 FF.out) (by decide) (by decide))
  have BA4 := hide (K4 _ _ _ (BA3.out.fr0 FF.out) (by decide) (by decide))
  have BB4 := hide (K4 _ _ _ BB3.out (by decide) (by decide))
  have AL := hide (alike_yes w4 b g4 _ bt gt4 _ R4.r SN.out)
  have R4H := hide R4
  clear u4 K4 R4 SH WS R3F BB3 FF R3 BR3 BA3 rc0 rc1 rc2 rc3 ac0 ac1 ac2 ac3 ac4 ac5 ac6 ac7
  obtain ⟨rc0, rc1, rc2, rc3⟩ := BR4.out.four
  go_wp2_with fail
  refine AL.out.mono ?_
  rintro e w5 ⟨rfl, f5⟩
  have R5 := hide (R4H.out.fr0 f5)
  have BR5 := hide (BR4.out.fr0 f5)
  have BA5 := hide (BA4.out.fr0 f5)
  have BB5 := hide (BB4.out.fr0 f5)
  clear f5 R4H BR4 BA4 BB4 AL rc0 rc1 rc2 rc3
  obtain ⟨rc0, rc1, rc2, rc3⟩ := BR5.out.four
  obtain ⟨ac0, ac1, ac2, ac3, ac4, ac5, ac6, ac7⟩ := BA5.out.win
  obtain ⟨bc0, bc1, bc2, bc3, bc4, bc5, bc6, bc7⟩ := BB5.out.win
  have l5a := BR5.out.lt
  have l5b := BA5.out.lt
  have l5c := BB5.out.lt
  have FF : Hid (Fr [] w5 (w5.alloc (.cells #[.int .i64 A.key, .int .i64 A.x, .int .i64 A.y, .int .i64 A.w, .int .i64 A.h, .int .i64 A.layer, .int .i64 A.style, .string A.text, .int .i64 B.key, .int .i64 B.x, .int .i64 B.y, .int .i64 B.w, .int .i64 B.h, .int .i64 B.layer, .int .i64 B.style, .string B.text] 23))) := (Fr.refl _ _).alloc _
  have R5F := hide (R5.out.fr0 FF.out)
  have SH := hide (show_yes _ b g4 _ R5F.out.r.p (some ⟨w5.heap.size, 0, none⟩) [A, B] 2 2 0 0 (wins_two (Blk.new w5 (A.vals ++ B.vals) 23)) rfl (by decide) TS2.out EV.out)
  simp only [next_two, told_same Wn Hn _ _ rfl, str_none'] at SH
  go_wp2_with fail
  refine SH.out.mono ?_
  rintro e w6 ⟨rfl, u6⟩
  obtain ⟨g6, gt6, R6, K6⟩ := R5F.out.upd (R5F.out.r.painter u6)
  have BR6 := hide (K6 _ _ _ (BR5.out.fr0 FF.out) (by decide) (by decide))
  have BA6 := hide (K6 _ _ _ (BA5.out.fr0 FF.out) (by decide) (by decide))
  have BB6 := hide (K6 _ _ _ (BB5.out.fr0 FF.out) (by decide) (by decide))
  have R6H := hide R6
  clear u6 K6 R6 SH R5F FF R5 BR5 BA5 BB5 l5a l5b l5c rc0 rc1 rc2 rc3 ac0 ac1 ac2 ac3 ac4 ac5 ac6 ac7 bc0 bc1 bc2 bc3 bc4 bc5 bc6 bc7
  obtain ⟨rc0, rc1, rc2, rc3⟩ := BR6.out.four
  obtain ⟨ac0, ac1, ac2, ac3, ac4, ac5, ac6, ac7⟩ := BA6.out.win
  obtain ⟨bc0, bc1, bc2, bc3, bc4, bc5, bc6, bc7⟩ := BB6.out.win
  have l6a := BR6.out.lt
  have l6b := BA6.out.lt
  have l6c := BB6.out.lt
  have FF : Hid (Fr [] w6 ((w6.alloc (.cells farW.vals.toArray 23)).alloc (.cells (farW.vals ++ A.vals ++ B.vals).toArray 23))) := ((Fr.refl _ _).alloc _).alloc _
  have R6F := hide (R6H.out.fr0 FF.out)
  have WS : Hid (WinsAt ((w6.alloc (.cells farW.vals.toArray 23)).alloc (.cells (farW.vals ++ A.vals ++ B.vals).toArray 23)) (some ⟨w6.heap.size + 1, 0, none⟩) [farW, A, B]) := by
    have := Blk.new (w6.alloc (.cells farW.vals.toArray 23)) (farW.vals ++ A.vals ++ B.vals) 23
    rw [World.size_alloc] at this
    exact wins_three this
  have SH := hide (show_yes _ b g6 _ R6F.out.r.p (some ⟨w6.heap.size + 1, 0, none⟩) [farW, A, B] 3 3 0 0 WS.out rfl (by decide) TS.out EF.out)
  simp only [NF.out, told_same Wn Hn _ _ (grid_far A B Wn Hn wn1).symm, str_none'] at SH
  go_wp2_with fail
  refine SH.out.mono ?_
  rintro e w7 ⟨rfl, u7⟩
  obtain ⟨g7, gt7, R7, K7⟩ := R6F.out.upd (R6F.out.r.painter u7)
  have BR7 := hide (K7 _ _ _ (BR6.out.fr0 FF.out) (by decide) (by decide))
  have BA7 := hide (K7 _ _ _ (BA6.out.fr0 FF.out) (by decide) (by decide))
  have BB7 := hide (K7 _ _ _ (BB6.out.fr0 FF.out) (by decide) (by decide))
  have R7H := hide R7
  clear u7 K7 R7 SH R6F WS FF R6H BR6 BA6 BB6 l6a l6b l6c rc0 rc1 rc2 rc3 ac0 ac1 ac2 ac3 ac4 ac5 ac6 ac7 bc0 bc1 bc2 bc3 bc4 bc5 bc6 bc7
  obtain ⟨rc0, rc1, rc2, rc3⟩ := BR7.out.four
  obtain ⟨ac0, ac1, ac2, ac3, ac4, ac5, ac6, ac7⟩ := BA7.out.win
  obtain ⟨bc0, bc1, bc2, bc3, bc4, bc5, bc6, bc7⟩ := BB7.out.win
  have l7a := BR7.out.lt
  have l7b := BA7.out.lt
  have l7c := BB7.out.lt
  have FF : Hid (Fr [] w7 (w7.alloc (.cells #[.int .i64 A.key, .int .i64 A.x, .int .i64 A.y, .int .i64 A.w, .int .i64 A.h, .int .i64 A.layer, .int .i64 A.style, .string A.text, .int .i64 B.key, .int .i64 B.x, .int .i64 B.y, .int .i64 B.w, .int .i64 B.h, .int .i64 B.layer, .int .i64 B.style, .string B.text] 23))) := (Fr.refl _ _).alloc _
  have R7F := hide (R7H.out.fr0 FF.out)
  have SH := hide (show_yes _ b g7 _ R7F.out.r.p (some ⟨w7.heap.size, 0, none⟩) [A, B] 2 2 0 0 (wins_two (Blk.new w7 (A.vals ++ B.vals) 23)) rfl (by decide) TS2.out EV.out)
  simp only [NK.out, told_same Wn Hn _ _ (grid_far A B Wn Hn wn1), str_none'] at SH
  go_wp2_with fail
  refine SH.out.mono ?_
  rintro e w8 ⟨rfl, u8⟩
  obtain ⟨g8, gt8, R8, _⟩ := R7F.out.upd (R7F.out.r.painter u8)
  have F8 := hide R8.f
  clear u8 R8
  go_wp2
  go_ret
  exact ⟨rfl, F8.out⟩
end Go.Proofs.YtjhccghhinlmdaaDoor
/- A window as it comes in: its eight cells. -/
namespace Go.Proofs.YtjhccghhinlmdaaDoor
open Go.ChangeShapes Go.WideShapes Go.ChangeAt Go.RowKit Go.Deep

theorem laidOut' : laidOutB Tryd.prog = true := by kernel_rfl
theorem cells_window : Tryd.prog.cellsOf 23 = 8 := by kernel_rfl
theorem cells_int' : Tryd.prog.cellsOf 3 = 1 := by kernel_rfl
theorem cells_str' : Tryd.prog.cellsOf 9 = 1 := by kernel_rfl
theorem eight {α : Type} (l : List α) (h : l.length = 8) : ∃ a b c d e f g i, l = [a, b, c, d, e, f, g, i] := by
  match l, h with
  | [a, b, c, d, e, f, g, i], _ => exact ⟨a, b, c, d, e, f, g, i, rfl⟩
theorem int_bd {n : Int} (h : (Lit.int .i64 n).wf = true) : -9223372036854775808 ≤ n ∧ n ≤ 9223372036854775807 := by
  simpa [Lit.wf, IntKind.min, IntKind.max, IntKind.signed, IntKind.bits] using h

/-- a window whose numbers lie in the machine's range -/
structure Win.Wf (o : Win) : Prop where
  k : -9223372036854775808 ≤ o.key ∧ o.key ≤ 9223372036854775807
  x : -9223372036854775808 ≤ o.x ∧ o.x ≤ 9223372036854775807
  y : -9223372036854775808 ≤ o.y ∧ o.y ≤ 9223372036854775807
  w : -9223372036854775808 ≤ o.w ∧ o.w ≤ 9223372036854775807
  h : -9223372036854775808 ≤ o.h ∧ o.h ≤ 9223372036854775807
  l : -9223372036854775808 ≤ o.layer ∧ o.layer ≤ 9223372036854775807
  s : -9223372036854775808 ≤ o.style ∧ o.style ≤ 9223372036854775807

theorem win_cells {H : Type} {enc : TypeId × Value → H} {w : World} {spare : Nat → Bool} {held : Bool} {fuel : Nat} {cs : List Value} {y : DataW H × List MemPlace} (h : DataW.trod enc Tryd.prog w 0 spare held fuel 23 cs = some y) :
    ∃ o : Win, cs = o.vals ∧ o.Wf ∧ y.1 = .agg [.lit (.int .i64 o.key), .lit (.int .i64 o.x), .lit (.int .i64 o.y), .lit (.int .i64 o.w), .lit (.int .i64 o.h), .lit (.int .i64 o.layer), .lit (.int .i64 o.style), .lit (.string o.text.data.toList)] := by
  obtain ⟨xs, m, rfl, hy, hl, hxl, hf⟩ := DataW.trod_struct Tryd.underlying23 h
  rw [cells_window] at hl
  obtain ⟨c0, c1, c2, c3, c4, c5, c6, c7, rfl⟩ := eight cs hl
  obtain ⟨y0, y1, y2, y3, y4, y5, y6, y7, rfl⟩ := eight xs hxl
  have g0 := hf 0 _ rfl
  have g1 := hf 1 _ rfl
  have g2 := hf 2 _ rfl
  have g3 := hf 3 _ rfl
  have g4 := hf 4 _ rfl
  have g5 := hf 5 _ rfl
  have g6 := hf 6 _ rfl
  have g7 := hf 7 _ rfl
  simp [cells_int', cells_str'] at g0 g1 g2 g3 g4 g5 g6 g7
  obtain ⟨a0, e0, z0, w0⟩ := DataW.trod_int Tryd.underlying3 g0
  obtain ⟨a1, e1, z1, w1⟩ := DataW.trod_int Tryd.underlying3 g1
  obtain ⟨a2, e2, z2, w2⟩ := DataW.trod_int Tryd.underlying3 g2
  obtain ⟨a3, e3, z3, w3⟩ := DataW.trod_int Tryd.underlying3 g3
  obtain ⟨a4, e4, z4, w4⟩ := DataW.trod_int Tryd.underlying3 g4
  obtain ⟨a5, e5, z5, w5⟩ := DataW.trod_int Tryd.underlying3 g5
  obtain ⟨a6, e6, z6, w6⟩ := DataW.trod_int Tryd.underlying3 g6
  obtain ⟨s, e7, z7, _⟩ := DataW.trod_string Tryd.underlying9 g7
  simp only [List.cons.injEq, and_true] at e0 e1 e2 e3 e4 e5 e6 e7
  subst e0 e1 e2 e3 e4 e5 e6 e7
  refine ⟨⟨a0, a1, a2, a3, a4, a5, a6, s⟩, rfl, ⟨int_bd w0, int_bd w1, int_bd w2, int_bd w3, int_bd w4, int_bd w5, int_bd w6⟩, ?_⟩
  rw [hy, z0, z1, z2, z3, z4, z5, z6, z7]
  rfl
/-- the text of a window that comes in by value -/
theorem sized_win {H : Type} {ts : List TypeId} {ds : List (DataW H)} (h : (DataW.weightsEach Tryd.prog ts ds).all (· ≤ reachBytes) = true) {j : Nat} {o : Win} (ht : ts[j]? = some 23)
    (hd : ds[j]? = some (.agg [.lit (.int .i64 o.key), .lit (.int .i64 o.x), .lit (.int .i64 o.y), .lit (.int .i64 o.w), .lit (.int .i64 o.h), .lit (.int .i64 o.layer), .lit (.int .i64 o.style), .lit (.string o.text.data.toList)])) : o.text.size ≤ 140737488351232 := by
  have := List.all_eq_true.1 h _ (DataW.weights_mem_each ht hd o.text.data.toList.length (by simp [DataW.weights, Tryd.underlying23, DataW.weightsEach]))
  have h2 : o.text.data.toList.length ≤ reachBytes := by simpa using this
  rw [Array.length_toList] at h2
  exact h2
set_option maxRecDepth 100000 in
/-- a window by value -/
theorem win_arg {H : Type} {enc : TypeId × Value → H} {w : World} {base : Nat} {r : Reach} {v : Value} {d : DataW H} {p : List MemPlace} (hok : Value.okWide Tryd.prog w r base 23 v) (h : DataW.Trod enc Tryd.prog w 0 (fun _ => true) true 23 v d p) :
    ∃ o : Win, v = .agg #[.int .i64 o.key, .int .i64 o.x, .int .i64 o.y, .int .i64 o.w, .int .i64 o.h, .int .i64 o.layer, .int .i64 o.style, .string o.text] ∧ o.Wf ∧ d = .agg [.lit (.int .i64 o.key), .lit (.int .i64 o.x), .lit (.int .i64 o.y), .lit (.int .i64 o.w), .lit (.int .i64 o.h), .lit (.int .i64 o.layer), .lit (.int .i64 o.style), .lit (.string o.text.data.toList)] := by
  obtain ⟨cs, rfl, _⟩ := okWide_struct Tryd.underlying23 hok
  obtain ⟨fuel, hf⟩ := h
  obtain ⟨o, h1, h2, h3⟩ := win_cells hf
  refine ⟨o, ?_, h2, h3⟩
  have : cs.toList = o.vals := by simpa [Value.cells] using h1
  congr 1
  rw [← Array.toArray_toList (xs := cs), this]
  rfl
end Go.Proofs.YtjhccghhinlmdaaDoor
/- What the rows that list tables share: the witness's window, the frame of a card. -/
namespace Go.Proofs.YtjhccghhinlmdaaDoor
open Go.ChangeShapes Go.WideShapes Go.ChangeAt Go.RowKit Go.Deep

/-- a window of noughts -/
def zeroWin : Value := .agg #[.int .i64 0, .int .i64 0, .int .i64 0, .int .i64 0, .int .i64 0, .int .i64 0, .int .i64 0, .string ByteArray.empty]
def zeroD {H : Type} : DataW H := .agg [.lit (.int .i64 0), .lit (.int .i64 0), .lit (.int .i64 0), .lit (.int .i64 0), .lit (.int .i64 0), .lit (.int .i64 0), .lit (.int .i64 0), .lit (.string [])]
theorem in_of {o : Win} (h : o.Wf) (ht : o.text.size ≤ 140737488351232) : o.In :=
  ⟨h.x.1, h.x.2, h.y.1, h.y.2, h.w.1, h.w.2, h.h.1, h.h.2, h.l.1, h.l.2, h.s.1, h.s.2, by omega⟩
theorem noStandIn (l : List TypeId) (hall : (l.all fun u => !Tryd.prog.wantsStandIn u) = true) (t : TypeId) (hm : t ∈ l) : Tryd.prog.wantsStandIn t = false := by
  simpa using List.all_eq_true.1 hall t hm
end Go.Proofs.YtjhccghhinlmdaaDoor
namespace Go.Proofs.YtjhccghhinlmdaaDoor.same
open Go.ChangeShapes Go.WideShapes Go.ChangeAt Go.RowKit Go.Deep

theorem own : ownKnob Tryd.prog.godebug = none := by kernel_rfl

set_option maxRecDepth 100000 in
theorem contract (H : Type) (enc : TypeId × Value → H) (W : World) (base : Nat) (args : Array Value) (ds gs : List (DataW H)) (before : List MemPlace)
    (hval : ∀ (j : Nat) t v, Tryd.f7.params[j]? = some t → args[j]? = some v → Value.okWide Tryd.prog W .any base t v)
    (hW : DataW.Whole enc Tryd.prog Tryd.f7.params.toList Rows.sameSpec.vars false W args.toList ds gs before)
    (hsz : (DataW.weightsEach Tryd.prog (Tryd.f7.params.toList ++ Rows.sameSpec.plain.varTypes Tryd.prog) (ds ++ gs)).all (· ≤ reachBytes) = true) :
    Calls Tryd.prog 7 args W fun e W' => ∃ v, e = .returned v ∧ Rows.sameSpec.post enc Tryd.prog Tryd.f7 false true false false W args v W' := by
  have hW' := hW
  obtain ⟨p, q, hA0, hV, rfl, hfz, hnd⟩ := hW
  have hA : DataW.TrodAll enc Tryd.prog W 0 (fun _ => true) true Tryd.f7.params.toList args.toList ds p := hA0
  rw [Tryd.params7] at hA hval hsz
  obtain ⟨v0, vs0, d0, ds0, p0, q0, hargs, rfl, rfl, h0, r0⟩ := trodAll_cons hA
  obtain ⟨v1, vs1, d1, ds1, p1, q1, rfl, rfl, rfl, h1, r1⟩ := trodAll_cons r0
  obtain ⟨v2, vs2, d2, ds2, p2, q2, rfl, rfl, rfl, h2, r2⟩ := trodAll_cons r1
  obtain ⟨v3, vs3, d3, ds3, p3, q3, rfl, rfl, rfl, h3, r3⟩ := trodAll_cons r2
  obtain ⟨rfl, rfl, rfl⟩ := trodAll_nil r3
  obtain rfl : args = #[v0, v1, v2, v3] := by cases args; simp_all
  obtain ⟨rfl, rfl⟩ := trodVars_none hV
  have k2 := h2
  have k3 := h3
  simp only [List.append_nil] at hW'
  have hlt : ∀ x ∈ p0 ++ (p1 ++ (p2 ++ (p3))), x.block < W.heap.size := fun x hx => by simpa using hW'.lt x (by simpa using hx)
  obtain ⟨a0, rfl, rfl, rfl, w0⟩ := open_int Tryd.underlying3 (hval 0 3 v0 rfl rfl) h0
  obtain ⟨a1, rfl, rfl, rfl, w1⟩ := open_int Tryd.underlying3 (hval 1 3 v1 rfl rfl) h1
  obtain ⟨o2, rfl, w2, rfl⟩ := win_arg (hval 2 23 v2 rfl rfl) h2
  obtain ⟨o3, rfl, w3, rfl⟩ := win_arg (hval 3 23 v3 rfl rfl) h3
  have s2 := sized_win (o := o2) hsz (j := 2) rfl rfl
  have s3 := sized_win (o := o3) hsz (j := 3) rfl rfl
  clear hA0 hsz
  have b0 := int_bd w0
  have b1 := int_bd w1
  refine (same_any a0 a1 o2 o3 W (in_of w2 s2) (in_of w3 s3) b0.1 b0.2 b1.1 b1.2).mono fun e W' ⟨he, hg⟩ => ?_
  subst he
  have hb := hg.below (B := W.heap.size) (Nat.le_refl _) (by simp)
  exact ⟨_, rfl, _, _, _, [], _, [], hW', trodAll_cons_mk (shut_bool Tryd.underlying4 _) trodAll_mk0,
    trodAll_cons_mk (shut_int Tryd.underlying3 w0) (trodAll_cons_mk (shut_int Tryd.underlying3 w1) (trodAll_cons_mk (Below.trod laidOut' (by kernel_rfl) (of_decide_eq_true (by kernel_rfl)) k2 hb (fun x hx => hlt x (by simp [hx]))) (trodAll_cons_mk (Below.trod laidOut' (by kernel_rfl) (of_decide_eq_true (by kernel_rfl)) k3 hb (fun x hx => hlt x (by simp [hx]))) trodAll_mk0))), rfl, hb.frame _, fun h => by cases h⟩

theorem laid_met (os : Os) : laidMet Tryd.prog Rows.sameRow.laid ((World.doorLaid Tryd.prog 400 os).forCall (fun _ _ => 0) ⟨#[], #[.int .i64 0, .int .i64 0, zeroWin, zeroWin], []⟩).memory :=
  laidMet_of_run' 8 (by kernel_rfl) (by kernel_rfl)
theorem reads (os : Os) {H : Type} (enc : TypeId × Value → H) : ∃ places, DataW.whole enc Tryd.prog ((World.doorLaid Tryd.prog 400 os).forCall (fun _ _ => 0) ⟨#[], #[.int .i64 0, .int .i64 0, zeroWin, zeroWin], []⟩).memory Tryd.f7.params.toList Rows.sameSpec.vars false #[Value.int .i64 0, .int .i64 0, zeroWin, zeroWin].toList 8 = some ([.lit (.int .i64 0), .lit (.int .i64 0), zeroD, zeroD], [], places) :=
  ⟨[], by kernel_rfl⟩

set_option maxRecDepth 100000 in
theorem lifted (os : Os) (started : os.Started) (H : Type) (enc : TypeId × Value → H) (F : Stop.Interp) :
    ReturnsInHanded {} Tryd.checked os 7 .any ((OpenSpec.ofChange Rows.sameSpec).preRow enc Tryd.prog Tryd.f7 Rows.sameRow.domain false Rows.sameRow.laid) (((OpenSpec.ofChange Rows.sameSpec).at F).post enc Tryd.prog Tryd.f7 false true false false) := by
  obtain ⟨places, hx⟩ := reads os enc
  refine returnsInHanded_of_row (C := Tryd.checked) (s := OpenSpec.ofChange Rows.sameSpec) own started (by kernel_rfl) Tryd.func7
    (witness_row_at (enc := enc) (C := Tryd.checked) false (World.doorLaid Tryd.prog 400 os) #[.int .i64 0, .int .i64 0, zeroWin, zeroWin] rfl (by kernel_rfl) (by kernel_rfl) (by kernel_rfl)
      (OpenSpec.preRow_of_cond 8 hx (by kernel_rfl) (fun k hk => by cases hk) (by kernel_rfl) (laid_met os))) ?_
  intro W base args ds gs before hval hW _ _ hsz _ _ _
  exact contract H enc W base args ds gs before hval hW hsz

theorem said : Rows.SameSaid :=
  OpenClaim.holds_of_cond 7 Tryd.f7 rfl rfl rfl rfl rfl rfl rfl ⟨rfl, rfl, rfl, rfl, rfl⟩ rfl rfl rfl rfl rfl (by kernel_rfl) Tryd.func7 (by kernel_rfl)
    (of_decide_eq_true (by kernel_rfl)) (by unfold Func.isWrapper; first | (rw [if_pos (by decide +kernel)]; kernel_rfl) | (rw [if_neg (by decide +kernel)]; exact ⟨rfl, rfl⟩))
    (fun os started H enc _ F => by rw [OpenClaim.pre_eq_preRow]; exact lifted os started H enc F)

theorem plain (f : FuncId) (fn : Func) (hf : Tryd.pinned.checked.prog.funcNamed "repaint/repaintkeep.Same" = some f) (hfn : Tryd.pinned.checked.prog.funcs[f]? = some fn) :
    false = Tryd.pinned.checked.prog.looks [] ∧ ∀ (j : Nat) t, fn.params[j]? = some t → Tryd.pinned.checked.prog.wantsStandIn t = false := by
  obtain rfl : f = 7 := Option.some.inj ((show Tryd.prog.funcNamed "repaint/repaintkeep.Same" = some 7 by kernel_rfl).symm.trans hf) |>.symm
  obtain rfl : fn = Tryd.f7 := (Option.some.inj (Tryd.func7.symm.trans hfn)).symm
  refine ⟨by kernel_rfl, fun j t ht => ?_⟩
  rw [Tryd.params7] at ht
  exact noStandIn [3, 3, 23, 23] (by kernel_rfl) t (by simpa using Array.mem_of_getElem? ht)

theorem card : Rows.SameCardSaid :=
  Claim7.holds_tied_plain_at .later [] _ _ _ _ said (fun _ h => by cases h) (by kernel_rfl) (fun _ h => by cases h) same_row_tie rfl ⟨rfl, rfl⟩ (by kernel_rfl) rfl plain (by kernel_rfl)
end Go.Proofs.YtjhccghhinlmdaaDoor.same
namespace Go.Proofs.YtjhccghhinlmdaaDoor
theorem same_holds : Rows.SameCardSaid := same.card
#print axioms same_holds
end Go.Proofs.YtjhccghhinlmdaaDoor
