/- Fronts walked: two windows are shown, each cell is that of the one in front. -/
import Derived.Test.YtjhccghhinlmdaaDoorKeepLooked
import Derived.Test.YtjhccghhinlmdaaDoorKeepRoom
import Derived.Test.YtjhccghhinlmdaaDoorKeepFit
import Derived.Test.YtjhccghhinlmdaaDoorCutPure
namespace Go.Proofs.YtjhccghhinlmdaaDoor
open Go.RowKit

/-- a window whose numbers lie in the machine's range -/
structure Win.In (o : Win) : Prop where
  x1 : -9223372036854775808 ≤ o.x
  x2 : o.x ≤ 9223372036854775807
  y1 : -9223372036854775808 ≤ o.y
  y2 : o.y ≤ 9223372036854775807
  w1 : -9223372036854775808 ≤ o.w
  w2 : o.w ≤ 9223372036854775807
  h1 : -9223372036854775808 ≤ o.h
  h2 : o.h ≤ 9223372036854775807
  l1 : -9223372036854775808 ≤ o.layer
  l2 : o.layer ≤ 9223372036854775807
  s1 : -9223372036854775808 ≤ o.style
  s2 : o.style ≤ 9223372036854775807
  t : o.text.size ≤ 140737488355328
theorem fit_in (o : Win) (key : Int) (w : World) (h : o.In) :
    Calls Tryd.prog 10 #[.agg #[.int .i64 o.key, .int .i64 o.x, .int .i64 o.y, .int .i64 o.w, .int .i64 o.h, .int .i64 o.layer, .int .i64 o.style, .string o.text], .int .i64 key] w fun e w' => e = .returned (.agg #[.int .i64 (fitW o key).key, .int .i64 (fitW o key).x, .int .i64 (fitW o key).y, .int .i64 (fitW o key).w, .int .i64 (fitW o key).h, .int .i64 (fitW o key).layer, .int .i64 (fitW o key).style, .string (fitW o key).text]) ∧ Fr [] w w' :=
  fit_any o key w h.t h.x1 h.x2 h.y1 h.y2 h.w1 h.w2 h.h1 h.h2 h.l1 h.l2 h.s1 h.s2

/-- a row of two fitted windows, as it is to be seen -/
theorem row_two (a b : Win) (oka : a.Ok) (okb : b.Ok) (ha : ∀ k, k < a.text.size → byteAt a.text k ≠ 10) (hb : ∀ k, k < b.text.size → byteAt b.text k ≠ 10) (W H : Nat) (y : Int) (hy : 0 ≤ y) (hy2 : y < H) : rowOf W y (V.grid [(a, 0), (b, 0)] W H) = lookR a b W y := by
  rw [rowOf_grid _ W H y hy hy2]
  unfold lookR
  apply List.map_congr_left
  intro x _
  rw [view_two a b oka okb ha hb]
  rfl

set_option maxHeartbeats 4000000 in
set_option maxRecDepth 100000 in
theorem fronts_any (a c : Int) (o q : Win) (w : World) (ho : o.In) (hq : q.In) (a1 : -9223372036854775808 ≤ a) (a2 : a ≤ 9223372036854775807) (c1 : -9223372036854775808 ≤ c) (c2 : c ≤ 9223372036854775807) :
    Calls Tryd.prog 3 #[.int .i64 a, .int .i64 c, .agg #[.int .i64 o.key, .int .i64 o.x, .int .i64 o.y, .int .i64 o.w, .int .i64 o.h, .int .i64 o.layer, .int .i64 o.style, .string o.text], .agg #[.int .i64 q.key, .int .i64 q.x, .int .i64 q.y, .int .i64 q.w, .int .i64 q.h, .int .i64 q.layer, .int .i64 q.style, .string q.text]] w fun e w' => e = .returned (.bool true) ∧ Fr [] w w' := by
  have OP := hide (opened_any a c ((w.alloc (.cells #[.int .i64 o.key, .int .i64 o.x, .int .i64 o.y, .int .i64 o.w, .int .i64 o.h, .int .i64 o.layer, .int .i64 o.style, .string o.text] 23)).alloc (.cells #[.int .i64 q.key, .int .i64 q.x, .int .i64 q.y, .int .i64 q.w, .int .i64 q.h, .int .i64 q.layer, .int .i64 q.style, .string q.text] 23)) a1 a2 c1 c2)
  have pw := pickI_bd a 40 (by decide)
  have ph := pickI_bd c 20 (by decide)
  obtain ⟨Wn, hWn⟩ := Int.eq_ofNat_of_zero_le (show 0 ≤ 1 + pickI a 40 by omega)
  obtain ⟨Hn, hHn⟩ := Int.eq_ofNat_of_zero_le (show 0 ≤ 1 + pickI c 20 by omega)
  have wn1 : 1 ≤ Wn := by omega
  have wn2 : Wn ≤ 40 := by omega
  have hn1 : 1 ≤ Hn := by omega
  have hn2 : Hn ≤ 20 := by omega
  rw [hWn, hHn] at OP
  clear hWn hHn pw ph
  have FO := hide (fun w' => fit_in o 1 w' ho)
  have FQ := hide (fun w' => fit_in q 999 w' hq)
  have oka := fitW_ok o 1 (by decide) (by decide)
  have okb := fitW_ok q 999 (by decide) (by decide)
  have pla : ∀ k, k < (fitW o 1).text.size → byteAt (fitW o 1).text k ≠ 10 := fun k hk => fitT_plain o.text k hk
  have plb : ∀ k, k < (fitW q 999).text.size → byteAt (fitW q 999).text k ≠ 10 := fun k hk => fitT_plain q.text k hk
  have hkk : (fitW o 1).key ≠ (fitW q 999).key := by show (1 : Int) ≠ 999; decide
  generalize fitW o 1 = A at *
  generalize fitW q 999 = B at *
  have EV := hide (errV_two A B oka okb hkk)
  have OKA := hide oka
  have OKB := hide okb
  have RT := hide (fun y hy hy2 => row_two A B oka okb pla plb Wn Hn y hy hy2)
  clear pla plb hkk ho hq oka okb
  go_enter Tryd.func3, Tryd.ntmps3
  go_wp2_with fail
  refine OP.out.mono ?_
  rintro e w1 ⟨b, g, bt, gt, rfl, n1, n2, n3, f1, p1, t1⟩
  have LT := hide p1.lt
  have GE := hide n1
  have F1 : Hid (Fr [] w w1) := (((Fr.refl _ _).alloc _).alloc _).then f1
  have BO := hide (((Blk.new w o.vals 23).alloc (.cells #[.int .i64 q.key, .int .i64 q.x, .int .i64 q.y, .int .i64 q.w, .int .i64 q.h, .int .i64 q.layer, .int .i64 q.style, .string q.text] 23)).fr0 f1)
  have BQ : Hid (Blk w1 (w.heap.size + 1) q.vals 23) := by
    have := (Blk.new (w.alloc (.cells #[.int .i64 o.key, .int .i64 o.x, .int .i64 o.y, .int .i64 o.w, .int .i64 o.h, .int .i64 o.layer, .int .i64 o.style, .string o.text] 23)) q.vals 23).fr0 f1
    rw [World.size_alloc] at this; exact this
  have oc0 : w1.cell? ⟨w.heap.size, 0, none⟩ = some (.int .i64 o.key) := BO.out.cell 0
  have oc1 : w1.cell? ⟨w.heap.size, 1, none⟩ = some (.int .i64 o.x) := BO.out.cell 1
  have oc2 : w1.cell? ⟨w.heap.size, 2, none⟩ = some (.int .i64 o.y) := BO.out.cell 2
  have oc3 : w1.cell? ⟨w.heap.size, 3, none⟩ = some (.int .i64 o.w) := BO.out.cell 3
  have oc4 : w1.cell? ⟨w.heap.size, 4, none⟩ = some (.int .i64 o.h) := BO.out.cell 4
  have oc5 : w1.cell? ⟨w.heap.size, 5, none⟩ = some (.int .i64 o.layer) := BO.out.cell 5
  have oc6 : w1.cell? ⟨w.heap.size, 6, none⟩ = some (.int .i64 o.style) := BO.out.cell 6
  have oc7 : w1.cell? ⟨w.heap.size, 7, none⟩ = some (.string o.text) := BO.out.cell 7
  have lt1 := BO.out.lt
  have P1 := hide p1
  clear n1 n2 n3 f1 p1 t1 OP
  go_wp2_with fail
  refine (FO.out _).mono ?_
  rintro e w2 ⟨rfl, f2⟩
  have BR2 : Hid (Blk w2 w1.heap.size [.pointer (some ⟨b, 0, none⟩), .pointer (some ⟨bt, 0, none⟩), .int .i64 (Wn : Int), .int .i64 (Hn : Int)] 27) := (Blk.new w1 _ _).fr0 f2
  have F2 : Hid (Fr [] w w2) := (F1.out.alloc _).then f2
  have P2 := hide (P1.out.fr0 (((Fr.refl _ _).alloc _).then f2))
  have BQ2 := hide (BQ.out.fr0 (((Fr.refl _ _).alloc _).then f2))
  have qc0 : w2.cell? ⟨w.heap.size + 1, 0, none⟩ = some (.int .i64 q.key) := BQ2.out.cell 0
  have qc1 : w2.cell? ⟨w.heap.size + 1, 1, none⟩ = some (.int .i64 q.x) := BQ2.out.cell 1
  have qc2 : w2.cell? ⟨w.heap.size + 1, 2, none⟩ = some (.int .i64 q.y) := BQ2.out.cell 2
  have qc3 : w2.cell? ⟨w.heap.size + 1, 3, none⟩ = some (.int .i64 q.w) := BQ2.out.cell 3
  have qc4 : w2.cell? ⟨w.heap.size + 1, 4, none⟩ = some (.int .i64 q.h) := BQ2.out.cell 4
  have qc5 : w2.cell? ⟨w.heap.size + 1, 5, none⟩ = some (.int .i64 q.layer) := BQ2.out.cell 5
  have qc6 : w2.cell? ⟨w.heap.size + 1, 6, none⟩ = some (.int .i64 q.style) := BQ2.out.cell 6
  have qc7 : w2.cell? ⟨w.heap.size + 1, 7, none⟩ = some (.string q.text) := BQ2.out.cell 7
  have lt2 := BQ2.out.lt
  have lt2b := BR2.out.lt
  clear oc0 oc1 oc2 oc3 oc4 oc5 oc6 oc7 f2 P1 BQ BO F1
  go_wp2_with fail
  refine (FQ.out _).mono ?_
  rintro e w3 ⟨rfl, f3⟩
  have F3 : Hid (Fr [] w w3) := (F2.out.alloc _).then f3
  have P3 := hide (P2.out.fr0 (((Fr.refl _ _).alloc _).then f3))
  have BR3 := hide (BR2.out.fr0 (((Fr.refl _ _).alloc _).then f3))
  have BA3 : Hid (Blk w3 w2.heap.size A.vals 23) := (Blk.new w2 _ _).fr0 f3
  have rc0 : w3.cell? ⟨w1.heap.size, 0, none⟩ = some (.pointer (some ⟨b, 0, none⟩)) := BR3.out.cell 0
  have rc1 : w3.cell? ⟨w1.heap.size, 1, none⟩ = some (.pointer (some ⟨bt, 0, none⟩)) := BR3.out.cell 1
  have rc2 : w3.cell? ⟨w1.heap.size, 2, none⟩ = some (.int .i64 (Wn : Int)) := BR3.out.cell 2
  have rc3 : w3.cell? ⟨w1.heap.size, 3, none⟩ = some (.int .i64 (Hn : Int)) := BR3.out.cell 3
  have ac0 : w3.cell? ⟨w2.heap.size, 0, none⟩ = some (.int .i64 A.key) := BA3.out.cell 0
  have ac1 : w3.cell? ⟨w2.heap.size, 1, none⟩ = some (.int .i64 A.x) := BA3.out.cell 1
  have ac2 : w3.cell? ⟨w2.heap.size, 2, none⟩ = some (.int .i64 A.y) := BA3.out.cell 2
  have ac3 : w3.cell? ⟨w2.heap.size, 3, none⟩ = some (.int .i64 A.w) := BA3.out.cell 3
  have ac4 : w3.cell? ⟨w2.heap.size, 4, none⟩ = some (.int .i64 A.h) := BA3.out.cell 4
  have ac5 : w3.cell? ⟨w2.heap.size, 5, none⟩ = some (.int .i64 A.layer) := BA3.out.cell 5
  have ac6 : w3.cell? ⟨w2.heap.size, 6, none⟩ = some (.int .i64 A.style) := BA3.out.cell 6
  have ac7 : w3.cell? ⟨w2.heap.size, 7, none⟩ = some (.string A.text) := BA3.out.cell 7
  have lt3 := BR3.out.lt
  have lt4 := BA3.out.lt
  clear qc0 qc1 qc2 qc3 qc4 qc5 qc6 qc7 f3 P2 BQ2 BR2 F2
  have FF : Hid (Fr [] w3 ((w3.alloc (.cells #[.int .i64 B.key, .int .i64 B.x, .int .i64 B.y, .int .i64 B.w, .int .i64 B.h, .int .i64 B.layer, .int .i64 B.style, .string B.text] 23)).alloc (.cells #[.int .i64 A.key, .int .i64 A.x, .int .i64 A.y, .int .i64 A.w, .int .i64 A.h, .int .i64 A.layer, .int .i64 A.style, .string A.text, .int .i64 B.key, .int .i64 B.x, .int .i64 B.y, .int .i64 B.w, .int .i64 B.h, .int .i64 B.layer, .int .i64 B.style, .string B.text] 23))) := ((Fr.refl _ _).alloc _).alloc _
  have WS : Hid (WinsAt ((w3.alloc (.cells #[.int .i64 B.key, .int .i64 B.x, .int .i64 B.y, .int .i64 B.w, .int .i64 B.h, .int .i64 B.layer, .int .i64 B.style, .string B.text] 23)).alloc (.cells #[.int .i64 A.key, .int .i64 A.x, .int .i64 A.y, .int .i64 A.w, .int .i64 A.h, .int .i64 A.layer, .int .i64 A.style, .string A.text, .int .i64 B.key, .int .i64 B.x, .int .i64 B.y, .int .i64 B.w, .int .i64 B.h, .int .i64 B.layer, .int .i64 B.style, .string B.text] 23)) (some ⟨w3.heap.size + 1, 0, none⟩) [A, B]) := by
    have := Blk.new (w3.alloc (.cells #[.int .i64 B.key, .int .i64 B.x, .int .i64 B.y, .int .i64 B.w, .int .i64 B.h, .int .i64 B.layer, .int .i64 B.style, .string B.text] 23)) (A.vals ++ B.vals) 23
    rw [World.size_alloc] at this
    exact wins_two this
  have SH := hide (show_yes _ b g _ (P3.out.fr0 FF.out) (some ⟨w3.heap.size + 1, 0, none⟩) [A, B] 2 2 0 0 WS.out rfl (by decide) (by intro x hx; simp at hx; rcases hx with rfl | rfl; (have := OKA.out.t; omega); (have := OKB.out.t; omega)) EV.out)
  go_wp2_with fail
  refine SH.out.mono ?_
  rintro e w4 ⟨rfl, g4, p4, f4, s4⟩
  have NB : Hid (∀ x, w1.heap.size ≤ x → x ∉ pfoot b g) := fun x hx hm => by have := LT.out x hm; omega
  have s12 : w1.heap.size ≤ w2.heap.size := by omega
  have s23 : w2.heap.size ≤ w3.heap.size := by omega
  have BR4 := hide ((BR3.out.fr0 FF.out).fr f4 (NB.out _ (Nat.le_refl _)))
  have BA4 := hide ((BA3.out.fr0 FF.out).fr f4 (NB.out _ s12))
  have BB4 := hide (((Blk.new w3 B.vals 23).alloc (.cells #[.int .i64 A.key, .int .i64 A.x, .int .i64 A.y, .int .i64 A.w, .int .i64 A.h, .int .i64 A.layer, .int .i64 A.style, .string A.text, .int .i64 B.key, .int .i64 B.x, .int .i64 B.y, .int .i64 B.w, .int .i64 B.h, .int .i64 B.layer, .int .i64 B.style, .string B.text] 23)).fr f4 (NB.out _ (by omega)))
  have P4 : Hid (PntAt w4 b g4 ⟨(Wn : Int), (Hn : Int), [(A, 0), (B, 0)], 0, 0⟩) := by
    have := p4
    rw [next_nil] at this
    exact this
  have F4 : Hid (Fr [] w w4) := (F3.out.then FF.out).trans f4 (by simp) (fun i hi => .inr (by have := GE.out i hi; simp at this; omega))
  clear p4 f4 s4 SH WS EV P3 BA3 BR3 FF rc0 rc1 rc2 rc3 ac0 ac1 ac2 ac3 ac4 ac5 ac6 ac7
  go_wp2
  go_loopw [15] (fun i wr => ∃ y : Nat, i = .int .i64 y ∧ y ≤ Hn ∧ Fr [] w4 wr) (fun i _ => (3000 - intOf i).toNat)
  case atStart => exact ⟨0, rfl, by omega, Fr.refl _ _⟩
  case round =>
    obtain ⟨y, rfl, hy, f5⟩ := hrel
    have BR5 := BR4.out.fr0 f5
    have BA5 := BA4.out.fr0 f5
    have BB5 := BB4.out.fr0 f5
    have rc0 : wr.cell? ⟨w1.heap.size, 0, none⟩ = some (.pointer (some ⟨b, 0, none⟩)) := BR5.cell 0
    have rc1 : wr.cell? ⟨w1.heap.size, 1, none⟩ = some (.pointer (some ⟨bt, 0, none⟩)) := BR5.cell 1
    have rc2 : wr.cell? ⟨w1.heap.size, 2, none⟩ = some (.int .i64 (Wn : Int)) := BR5.cell 2
    have rc3 : wr.cell? ⟨w1.heap.size, 3, none⟩ = some (.int .i64 (Hn : Int)) := BR5.cell 3
    have ac0 : wr.cell? ⟨w2.heap.size, 0, none⟩ = some (.int .i64 A.key) := BA5.cell 0
    have ac1 : wr.cell? ⟨w2.heap.size, 1, none⟩ = some (.int .i64 A.x) := BA5.cell 1
    have ac2 : wr.cell? ⟨w2.heap.size, 2, none⟩ = some (.int .i64 A.y) := BA5.cell 2
    have ac3 : wr.cell? ⟨w2.heap.size, 3, none⟩ = some (.int .i64 A.w) := BA5.cell 3
    have ac4 : wr.cell? ⟨w2.heap.size, 4, none⟩ = some (.int .i64 A.h) := BA5.cell 4
    have ac5 : wr.cell? ⟨w2.heap.size, 5, none⟩ = some (.int .i64 A.layer) := BA5.cell 5
    have ac6 : wr.cell? ⟨w2.heap.size, 6, none⟩ = some (.int .i64 A.style) := BA5.cell 6
    have ac7 : wr.cell? ⟨w2.heap.size, 7, none⟩ = some (.string A.text) := BA5.cell 7
    have bc0 : wr.cell? ⟨w3.heap.size, 0, none⟩ = some (.int .i64 B.key) := BB5.cell 0
    have bc1 : wr.cell? ⟨w3.heap.size, 1, none⟩ = some (.int .i64 B.x) := BB5.cell 1
    have bc2 : wr.cell? ⟨w3.heap.size, 2, none⟩ = some (.int .i64 B.y) := BB5.cell 2
    have bc3 : wr.cell? ⟨w3.heap.size, 3, none⟩ = some (.int .i64 B.w) := BB5.cell 3
    have bc4 : wr.cell? ⟨w3.heap.size, 4, none⟩ = some (.int .i64 B.h) := BB5.cell 4
    have bc5 : wr.cell? ⟨w3.heap.size, 5, none⟩ = some (.int .i64 B.layer) := BB5.cell 5
    have bc6 : wr.cell? ⟨w3.heap.size, 6, none⟩ = some (.int .i64 B.style) := BB5.cell 6
    have bc7 : wr.cell? ⟨w3.heap.size, 7, none⟩ = some (.string B.text) := BB5.cell 7
    have HR5 := hide BR5
    clear BR5 BA5 BB5
    by_cases hend : y < Hn
    · have b1 : (y : Int) < Hn := by omega
      go_wp2_with fail
      refine (looked_any A B Wn y wr OKA.out OKB.out wn2 (by omega) (by omega)).mono ?_
      rintro e w6 ⟨rfl, f6⟩
      have BR6 := HR5.out.fr0 f6
      have sc0 : w6.cell? ⟨w1.heap.size, 0, none⟩ = some (.pointer (some ⟨b, 0, none⟩)) := BR6.cell 0
      have sc1 : w6.cell? ⟨w1.heap.size, 1, none⟩ = some (.pointer (some ⟨bt, 0, none⟩)) := BR6.cell 1
      have sc2 : w6.cell? ⟨w1.heap.size, 2, none⟩ = some (.int .i64 (Wn : Int)) := BR6.cell 2
      have sc3 : w6.cell? ⟨w1.heap.size, 3, none⟩ = some (.int .i64 (Hn : Int)) := BR6.cell 3
      have PR := hide (prow_yes w6 b g4 _ (P4.out.fr0 (f5.then f6)) y (by omega) b1)
      simp only [] at PR
      rw [RT.out y (by omega) b1] at PR
      have F6 := hide (f5.then f6)
      clear BR6 f6 rc0 rc1 rc2 rc3 ac0 ac1 ac2 ac3 ac4 ac5 ac6 ac7 bc0 bc1 bc2 bc3 bc4 bc5 bc6 bc7
      go_wp2_with fail
      refine PR.out.mono ?_
      rintro e w7 ⟨rfl, f7⟩
      have F7 := hide (F6.out.then f7)
      clear f7
      go_wp2
      go_roundw
      case rel => exact ⟨y + 1, by go_num, by omega, F7.out⟩
      case measure => simp [intOf]; omega
    · have b1 : ¬ (y : Int) < Hn := by omega
      go_wp2
      go_ret
      exact ⟨rfl, F4.out.then f5⟩
end Go.Proofs.YtjhccghhinlmdaaDoor
