/- PROVED: repaintkeep.Restored answers true for every width, height, two windows, bytes and another width and height, and leaves its arguments as they were; no condition beyond the form's own reach, and that the tables of Go's library that the row lists hold what the program's text lays (the card ties them). -/
import Derived.Test.YtjhccghhinlmdaaDoorKeepRM
import Derived.Test.YtjhccghhinlmdaaDoorSamePure
import Derived.Test.YtjhccghhinlmdaaDoorBase
import Derived.Test.YtjhccghhinlmdaaDoorTermFeed
import Derived.Test.YtjhccghhinlmdaaDoorCellsAt
import Derived.Deep.RegionHeldLaw
import Derived.Test.YtjhccghhinlmdaaDoorPaintCheck
import Derived.ProofKit
import Derived.OpenShut
import Derived.ShutString
import Derived.SizedLaws
import Derived.Deep.Slices
import Derived.Test.YtjhccghhinlmdaaDoorRows
import Derived.Test.YtjhccghhinlmdaaDoorFrontsWalk
import Derived.Deep.DeepHandedRow
import Derived.SevenTiedAt
import Derived.LaidMore
import Derived.Test.YtjhccghhinlmdaaDoorCards
import Derived.Test.YtjhccghhinlmdaaDoorTie
/- Told walked: the bytes of two views, one behind the other, show the second on the program's own terminal. -/
namespace Go.Proofs.YtjhccghhinlmdaaDoor
open Go.RowKit

/-- the view of two windows, behind one of two others -/
theorem next_over (a b c d : Win) : V.next [(a, 0), (b, 0)] [c, d] = [(c, 0), (d, 0)] := by
  have h : ∀ k : Int, V.offOf [(a, 0), (b, 0)] k = 0 := by
    intro k; simp only [V.offOf]; split <;> (try rfl); split <;> rfl
  simp [V.next, h, fits_zero]
theorem cur_corner (W H : Int) (v : V) (w1 : 1 ≤ W) (h1 : 1 ≤ H) : Pt.cur ⟨W, H, v, 0, 0⟩ = ⟨0, 0, true⟩ := by
  have on : Pt.on ⟨W, H, v, 0, 0⟩ = true := by simp [Pt.on]; omega
  simp [Pt.cur, on]
/-- the cursor in the corner -/
theorem Shown.corner {t : T} {W H : Int} {v : V} (h : Shown t ⟨W, H, v, 0, 0⟩) : t.x = 0 ∧ t.y = 0 ∧ t.shown = true := by
  have e := cur_corner W H v h.w1 h.h1
  have h1 := h.at'
  have h2 := h.shown
  rw [e] at h1 h2
  exact ⟨(h1 rfl).1, (h1 rfl).2.1, h2⟩
theorem ok_two {a b : Win} (h : errV [a, b] = 0) : V.Ok [(a, 0), (b, 0)] := by
  have := V.ok_next [] h
  rw [next_nil] at this; exact this

set_option maxHeartbeats 8000000 in
set_option maxRecDepth 100000 in
theorem told_any (a c : Int) (o q r s : Win) (w : World) (ho : o.In) (hq : q.In) (hr : r.In) (hs : s.In) (a1 : -9223372036854775808 ≤ a) (a2 : a ≤ 9223372036854775807) (c1 : -9223372036854775808 ≤ c) (c2 : c ≤ 9223372036854775807) :
    Calls Tryd.prog 6 #[.int .i64 a, .int .i64 c, .agg #[.int .i64 o.key, .int .i64 o.x, .int .i64 o.y, .int .i64 o.w, .int .i64 o.h, .int .i64 o.layer, .int .i64 o.style, .string o.text], .agg #[.int .i64 q.key, .int .i64 q.x, .int .i64 q.y, .int .i64 q.w, .int .i64 q.h, .int .i64 q.layer, .int .i64 q.style, .string q.text], .agg #[.int .i64 r.key, .int .i64 r.x, .int .i64 r.y, .int .i64 r.w, .int .i64 r.h, .int .i64 r.layer, .int .i64 r.style, .string r.text], .agg #[.int .i64 s.key, .int .i64 s.x, .int .i64 s.y, .int .i64 s.w, .int .i64 s.h, .int .i64 s.layer, .int .i64 s.style, .string s.text]] w fun e w' => e = .returned (.bool true) ∧ Fr [] w w' := by
  have OP := hide (opened_any a c ((((w.alloc (.cells #[.int .i64 o.key, .int .i64 o.x, .int .i64 o.y, .int .i64 o.w, .int .i64 o.h, .int .i64 o.layer, .int .i64 o.style, .string o.text] 23)).alloc (.cells #[.int .i64 q.key, .int .i64 q.x, .int .i64 q.y, .int .i64 q.w, .int .i64 q.h, .int .i64 q.layer, .int .i64 q.style, .string q.text] 23)).alloc (.cells #[.int .i64 r.key, .int .i64 r.x, .int .i64 r.y, .int .i64 r.w, .int .i64 r.h, .int .i64 r.layer, .int .i64 r.style, .string r.text] 23)).alloc (.cells #[.int .i64 s.key, .int .i64 s.x, .int .i64 s.y, .int .i64 s.w, .int .i64 s.h, .int .i64 s.layer, .int .i64 s.style, .string s.text] 23)) a1 a2 c1 c2)
  have pw := pickI_bd a 40 (by decide)
  have ph := pickI_bd c 20 (by decide)
  obtain ⟨Wn, hWn⟩ := Int.eq_ofNat_of_zero_le (show 0 ≤ 1 + pickI a 40 by omega)
  obtain ⟨Hn, hHn⟩ := Int.eq_ofNat_of_zero_le (show 0 ≤ 1 + pickI c 20 by omega)
  have wn1 : 1 ≤ Wn := by omega
  have wn2 : Wn ≤ 40 := by omega
  have hn1 : 1 ≤ Hn := by omega
  have hn2 : Hn ≤ 20 := by omega
  rw [hWn, hHn] at OP
  clear hWn hHn pw ph
  have FO := hide (fun w' => fit_in o 1 w' ho)
  have FQ := hide (fun w' => fit_in q 2 w' hq)
  have FR := hide (fun w' => fit_in r 2 w' hr)
  have FS := hide (fun w' => fit_in s 3 w' hs)
  have oka := fitW_ok o 1 (by decide) (by decide)
  have okb := fitW_ok q 2 (by decide) (by decide)
  have okc := fitW_ok r 2 (by decide) (by decide)
  have okd := fitW_ok s 3 (by decide) (by decide)
  have plc : ∀ k, k < (fitW r 2).text.size → byteAt (fitW r 2).text k ≠ 10 := fun k hk => fitT_plain r.text k hk
  have pld : ∀ k, k < (fitW s 3).text.size → byteAt (fitW s 3).text k ≠ 10 := fun k hk => fitT_plain s.text k hk
  have k1 : (fitW o 1).key ≠ (fitW q 2).key := by show (1 : Int) ≠ 2; decide
  have k2 : (fitW r 2).key ≠ (fitW s 3).key := by show (2 : Int) ≠ 3; decide
  generalize fitW o 1 = A at *
  generalize fitW q 2 = B at *
  generalize fitW r 2 = C at *
  generalize fitW s 3 = D at *
  have EV1 := hide (errV_two A B oka okb k1)
  have EV2 := hide (errV_two C D okc okd k2)
  have OKC := hide okc
  have OKD := hide okd
  have RT := hide (fun y hy hy2 => row_two C D okc okd plc pld Wn Hn y hy hy2)
  have TS1 : Hid (∀ x ∈ [A, B], x.text.size ≤ 9223372036854775807) := by
    intro x hx; simp at hx; rcases hx with rfl | rfl
    · have := oka.t; omega
    · have := okb.t; omega
  have TS2 : Hid (∀ x ∈ [C, D], x.text.size ≤ 9223372036854775807) := by
    intro x hx; simp at hx; rcases hx with rfl | rfl
    · have := okc.t; omega
    · have := okd.t; omega
  clear plc pld k1 k2 ho hq hr hs oka okb okc okd
  have iw1 : (1 : Int) ≤ (Wn : Int) := by omega
  have iw2 : (Wn : Int) ≤ 40 := by omega
  have ih1 : (1 : Int) ≤ (Hn : Int) := by omega
  have ih2 : (Hn : Int) ≤ 20 := by omega
  go_enter Tryd.func6, Tryd.ntmps6
  go_wp2_with fail
  refine OP.out.mono ?_
  rintro e w1 ⟨b, g, bt, gt, rfl, n1, n2, n3, f1, p1, t1⟩
  have R1 := hide (RoomPost.rm (((((Fr.refl [] w).alloc _).alloc _).alloc _).alloc _) n1 n2 n3 f1 p1 t1)
  have BO1 : Blk w1 w.heap.size o.vals 23 := ((((Blk.new w o.vals 23).alloc (.cells #[.int .i64 q.key, .int .i64 q.x, .int .i64 q.y, .int .i64 q.w, .int .i64 q.h, .int .i64 q.layer, .int .i64 q.style, .string q.text] 23)).alloc (.cells #[.int .i64 r.key, .int .i64 r.x, .int .i64 r.y, .int .i64 r.w, .int .i64 r.h, .int .i64 r.layer, .int .i64 r.style, .string r.text] 23)).alloc (.cells #[.int .i64 s.key, .int .i64 s.x, .int .i64 s.y, .int .i64 s.w, .int .i64 s.h, .int .i64 s.layer, .int .i64 s.style, .string s.text] 23)).fr0 f1
  have BQ1 : Blk w1 (w.heap.size + 1) q.vals 23 := by
    have := (((Blk.new (w.alloc (.cells #[.int .i64 o.key, .int .i64 o.x, .int .i64 o.y, .int .i64 o.w, .int .i64 o.h, .int .i64 o.layer, .int .i64 o.style, .string o.text] 23)) q.vals 23).alloc (.cells #[.int .i64 r.key, .int .i64 r.x, .int .i64 r.y, .int .i64 r.w, .int .i64 r.h, .int .i64 r.layer, .int .i64 r.style, .string r.text] 23)).alloc (.cells #[.int .i64 s.key, .int .i64 s.x, .int .i64 s.y, .int .i64 s.w, .int .i64 s.h, .int .i64 s.layer, .int .i64 s.style, .string s.text] 23)).fr0 f1
    rw [World.size_alloc] at this; exact this
  have BR1 : Blk w1 (w.heap.size + 1 + 1) r.vals 23 := by
    have := ((Blk.new ((w.alloc (.cells #[.int .i64 o.key, .int .i64 o.x, .int .i64 o.y, .int .i64 o.w, .int .i64 o.h, .int .i64 o.layer, .int .i64 o.style, .string o.text] 23)).alloc (.cells #[.int .i64 q.key, .int .i64 q.x, .int .i64 q.y, .int .i64 q.w, .int .i64 q.h, .int .i64 q.layer, .int .i64 q.style, .string q.text] 23)) r.vals 23).alloc (.cells #[.int .i64 s.key, .int .i64 s.x, .int .i64 s.y, .int .i64 s.w, .int .i64 s.h, .int .i64 s.layer, .int .i64 s.style, .string s.text] 23)).fr0 f1
    rw [World.size_alloc, World.size_alloc] at this; exact this
  have BS1 : Blk w1 (w.heap.size + 1 + 1 + 1) s.vals 23 := by
    have := (Blk.new (((w.alloc (.cells #[.int .i64 o.key, .int .i64 o.x, .int .i64 o.y, .int .i64 o.w, .int .i64 o.h, .int .i64 o.layer, .int .i64 o.style, .string o.text] 23)).alloc (.cells #[.int .i64 q.key, .int .i64 q.x, .int .i64 q.y, .int .i64 q.w, .int .i64 q.h, .int .i64 q.layer, .int .i64 q.style, .string q.text] 23)).alloc (.cells #[.int .i64 r.key, .int .i64 r.x, .int .i64 r.y, .int .i64 r.w, .int .i64 r.h, .int .i64 r.layer, .int .i64 r.style, .string r.text] 23)) s.vals 23).fr0 f1
    rw [World.size_alloc, World.size_alloc, World.size_alloc] at this; exact this
  have FX : Hid (Fr [] w1 (w1.alloc (.cells #[.pointer (some ⟨b, 0, none⟩), .pointer (some ⟨bt, 0, none⟩), .int .i64 (Wn : Int), .int .i64 (Hn : Int)] 27))) := (Fr.refl _ _).alloc _
  have BRm := hide (Blk.new w1 [.pointer (some ⟨b, 0, none⟩), .pointer (some ⟨bt, 0, none⟩), .int .i64 (Wn : Int), .int .i64 (Hn : Int)] 27)
  have BO := hide (BO1.fr0 FX.out)
  have BQ := hide (BQ1.fr0 FX.out)
  have BR := hide (BR1.fr0 FX.out)
  have BS := hide (BS1.fr0 FX.out)
  have R2 := hide (R1.out.fr0 FX.out)
  clear n1 n2 n3 f1 p1 t1 OP BO1 BQ1 BR1 BS1 R1 FX
  go_wp2
  generalize w1.alloc (.cells #[.pointer (some ⟨b, 0, none⟩), .pointer (some ⟨bt, 0, none⟩), .int .i64 (Wn : Int), .int .i64 (Hn : Int)] 27) = wa at *
  generalize w1.heap.size = rb at *
  generalize w.heap.size + 1 + 1 + 1 = sb at *
  generalize w.heap.size + 1 + 1 = rrb at *
  generalize w.heap.size + 1 = qb at *
  generalize w.heap.size = ob at *
  have SC : Hid (∀ w', Blk w' rb [.pointer (some ⟨b, 0, none⟩), .pointer (some ⟨bt, 0, none⟩), .int .i64 (Wn : Int), .int .i64 (Hn : Int)] 27 → Blk w' ob o.vals 23 → Blk w' qb q.vals 23 → w'.cell? ⟨rb, 0, none⟩ = some (.pointer (some ⟨b, 0, none⟩)) ∧ w'.cell? ⟨rb, 1, none⟩ = some (.pointer (some ⟨bt, 0, none⟩)) ∧ w'.cell? ⟨rb, 2, none⟩ = some (.int .i64 (Wn : Int)) ∧ w'.cell? ⟨rb, 3, none⟩ = some (.int .i64 (Hn : Int)) ∧ w'.cell? ⟨ob, 0, none⟩ = some (.int .i64 o.key) ∧ w'.cell? ⟨ob, 1, none⟩ = some (.int .i64 o.x) ∧ w'.cell? ⟨ob, 2, none⟩ = some (.int .i64 o.y) ∧ w'.cell? ⟨ob, 3, none⟩ = some (.int .i64 o.w) ∧ w'.cell? ⟨ob, 4, none⟩ = some (.int .i64 o.h) ∧ w'.cell? ⟨ob, 5, none⟩ = some (.int .i64 o.layer) ∧ w'.cell? ⟨ob, 6, none⟩ = some (.int .i64 o.style) ∧ w'.cell? ⟨ob, 7, none⟩ = some (.string o.text) ∧ w'.cell? ⟨qb, 0, none⟩ = some (.int .i64 q.key) ∧ w'.cell? ⟨qb, 1, none⟩ = some (.int .i64 q.x) ∧ w'.cell? ⟨qb, 2, none⟩ = some (.int .i64 q.y) ∧ w'.cell? ⟨qb, 3, none⟩ = some (.int .i64 q.w) ∧ w'.cell? ⟨qb, 4, none⟩ = some (.int .i64 q.h) ∧ w'.cell? ⟨qb, 5, none⟩ = some (.int .i64 q.layer) ∧ w'.cell? ⟨qb, 6, none⟩ = some (.int .i64 q.style) ∧ w'.cell? ⟨qb, 7, none⟩ = some (.string q.text)) := by
    intro w' h1 h2 h3
    obtain ⟨i0, i1, i2, i3⟩ := h1.four
    obtain ⟨j0, j1, j2, j3, j4, j5, j6, j7⟩ := h2.win
    obtain ⟨k0, k1, k2, k3, k4, k5, k6, k7⟩ := h3.win
    exact ⟨i0, i1, i2, i3, j0, j1, j2, j3, j4, j5, j6, j7, k0, k1, k2, k3, k4, k5, k6, k7⟩
  obtain ⟨ka0, ka1, ka2, ka3, ka4, ka5, ka6, ka7, ka8, ka9, ka10, ka11, ka12, ka13, ka14, ka15, ka16, ka17, ka18, ka19⟩ := SC.out wa BRm.out BO.out BQ.out
  have la1 := BRm.out.lt
  have la2 := BO.out.lt
  have la3 := BQ.out.lt
  have SH : Hid (∀ w' lb, Fr [] wa w' → WinsAt w' (some ⟨lb, 0, none⟩) [A, B] → Calls Tryd.prog 16 #[.agg #[.pointer (some ⟨b, 0, none⟩), .pointer (some ⟨bt, 0, none⟩), .int .i64 (Wn : Int), .int .i64 (Hn : Int)], .slice (some ⟨lb, 0, none⟩) 2 2] w' fun e w'' => e = .returned (.bool true) ∧ (w''.cell? ⟨rb, 0, none⟩ = some (.pointer (some ⟨b, 0, none⟩)) ∧ w''.cell? ⟨rb, 1, none⟩ = some (.pointer (some ⟨bt, 0, none⟩)) ∧ w''.cell? ⟨rb, 2, none⟩ = some (.int .i64 (Wn : Int)) ∧ w''.cell? ⟨rb, 3, none⟩ = some (.int .i64 (Hn : Int)) ∧ w''.cell? ⟨ob, 0, none⟩ = some (.int .i64 o.key) ∧ w''.cell? ⟨ob, 1, none⟩ = some (.int .i64 o.x) ∧ w''.cell? ⟨ob, 2, none⟩ = some (.int .i64 o.y) ∧ w''.cell? ⟨ob, 3, none⟩ = some (.int .i64 o.w) ∧ w''.cell? ⟨ob, 4, none⟩ = some (.int .i64 o.h) ∧ w''.cell? ⟨ob, 5, none⟩ = some (.int .i64 o.layer) ∧ w''.cell? ⟨ob, 6, none⟩ = some (.int .i64 o.style) ∧ w''.cell? ⟨ob, 7, none⟩ = some (.string o.text) ∧ w''.cell? ⟨qb, 0, none⟩ = some (.int .i64 q.key) ∧ w''.cell? ⟨qb, 1, none⟩ = some (.int .i64 q.x) ∧ w''.cell? ⟨qb, 2, none⟩ = some (.int .i64 q.y) ∧ w''.cell? ⟨qb, 3, none⟩ = some (.int .i64 q.w) ∧ w''.cell? ⟨qb, 4, none⟩ = some (.int .i64 q.h) ∧ w''.cell? ⟨qb, 5, none⟩ = some (.int .i64 q.layer) ∧ w''.cell? ⟨qb, 6, none⟩ = some (.int .i64 q.style) ∧ w''.cell? ⟨qb, 7, none⟩ = some (.string q.text)) ∧ (∃ g1 gt1, RM w w'' b g1 ⟨(Wn : Int), (Hn : Int), [(A, 0), (B, 0)], 0, 0⟩ bt gt1 ((T.new (Wn : Int) (Hn : Int)).feed (Pt.told ⟨(Wn : Int), (Hn : Int), [], 0, 0⟩ ⟨(Wn : Int), (Hn : Int), [(A, 0), (B, 0)], 0, 0⟩))) ∧ Blk w'' rb [.pointer (some ⟨b, 0, none⟩), .pointer (some ⟨bt, 0, none⟩), .int .i64 (Wn : Int), .int .i64 (Hn : Int)] 27 ∧ Blk w'' rrb r.vals 23 ∧ Blk w'' sb s.vals 23) := by
    intro w' lb f' hw'
    have R' := R2.out.fr0 f'
    have SH := shows_yes w' b g _ bt gt _ R'.r (Wn : Int) (Hn : Int) (some ⟨lb, 0, none⟩) [A, B] 2 2 hw' rfl (by decide) TS1.out EV1.out
    simp only [next_nil, List.map_cons, List.map_nil] at SH
    refine SH.mono ?_
    rintro e w'' ⟨he, u⟩
    obtain ⟨g4, gt4, R4, K4⟩ := R'.upd u
    have B1 := K4 _ _ _ (BRm.out.fr0 f') (by decide) (by decide)
    exact ⟨he, SC.out w'' B1 (K4 _ _ _ (BO.out.fr0 f') (by decide) (by decide)) (K4 _ _ _ (BQ.out.fr0 f') (by decide) (by decide)), ⟨g4, gt4, R4⟩, B1, K4 _ _ _ (BR.out.fr0 f') (by decide) (by decide), K4 _ _ _ (BS.out.fr0 f') (by decide) (by decide)⟩
  go_region_held (fun w' => w'.cell? ⟨rb, 0, none⟩ = some (.pointer (some ⟨b, 0, none⟩)) ∧ w'.cell? ⟨rb, 1, none⟩ = some (.pointer (some ⟨bt, 0, none⟩)) ∧ w'.cell? ⟨rb, 2, none⟩ = some (.int .i64 (Wn : Int)) ∧ w'.cell? ⟨rb, 3, none⟩ = some (.int .i64 (Hn : Int)) ∧ w'.cell? ⟨ob, 0, none⟩ = some (.int .i64 o.key) ∧ w'.cell? ⟨ob, 1, none⟩ = some (.int .i64 o.x) ∧ w'.cell? ⟨ob, 2, none⟩ = some (.int .i64 o.y) ∧ w'.cell? ⟨ob, 3, none⟩ = some (.int .i64 o.w) ∧ w'.cell? ⟨ob, 4, none⟩ = some (.int .i64 o.h) ∧ w'.cell? ⟨ob, 5, none⟩ = some (.int .i64 o.layer) ∧ w'.cell? ⟨ob, 6, none⟩ = some (.int .i64 o.style) ∧ w'.cell? ⟨ob, 7, none⟩ = some (.string o.text) ∧ w'.cell? ⟨qb, 0, none⟩ = some (.int .i64 q.key) ∧ w'.cell? ⟨qb, 1, none⟩ = some (.int .i64 q.x) ∧ w'.cell? ⟨qb, 2, none⟩ = some (.int .i64 q.y) ∧ w'.cell? ⟨qb, 3, none⟩ = some (.int .i64 q.w) ∧ w'.cell? ⟨qb, 4, none⟩ = some (.int .i64 q.h) ∧ w'.cell? ⟨qb, 5, none⟩ = some (.int .i64 q.layer) ∧ w'.cell? ⟨qb, 6, none⟩ = some (.int .i64 q.style) ∧ w'.cell? ⟨qb, 7, none⟩ = some (.string q.text)) (go_keep) ((first | (go_at_call_of 10 (Value.string o.text); refine (FO.out _).mono ?_; rintro e wb ⟨rfl, fb⟩; have FB : Hid (Fr [] wa wb) := (by refine Fr.then ?_ fb; repeat first | exact Fr.refl _ _ | apply Fr.drew | apply Fr.drewN); obtain ⟨kb0, kb1, kb2, kb3, kb4, kb5, kb6, kb7, kb8, kb9, kb10, kb11, kb12, kb13, kb14, kb15, kb16, kb17, kb18, kb19⟩ := SC.out wb (BRm.out.fr0 FB.out) (BO.out.fr0 FB.out) (BQ.out.fr0 FB.out); clear fb) | (go_at_call_of 10 (Value.string q.text); refine (FQ.out _).mono ?_; rintro e wc ⟨rfl, fc⟩; have FC : Hid (Fr [] wa wc) := (FB.out.then fc); obtain ⟨kc0, kc1, kc2, kc3, kc4, kc5, kc6, kc7, kc8, kc9, kc10, kc11, kc12, kc13, kc14, kc15, kc16, kc17, kc18, kc19⟩ := SC.out wc (BRm.out.fr0 FC.out) (BO.out.fr0 FC.out) (BQ.out.fr0 FC.out); have lc1 := (BRm.out.fr0 FC.out).lt; have lc2 := (BO.out.fr0 FC.out).lt; have lc3 := (BQ.out.fr0 FC.out).lt; clear fc) | (go_at_call 16; refine (SH.out _ _ (FC.out.alloc _) (wins_two (Blk.new wc (A.vals ++ B.vals) 23))).mono ?_; rintro e wd ⟨rfl, hS2, hD⟩; obtain ⟨kd0, kd1, kd2, kd3, kd4, kd5, kd6, kd7, kd8, kd9, kd10, kd11, kd12, kd13, kd14, kd15, kd16, kd17, kd18, kd19⟩ := hS2; have HD := hide hD; clear hD)))
  obtain ⟨⟨g4, gt4, R4⟩, BRm4, BR4, BS4⟩ := HD.out
  have R4H := hide R4
  have BRmH := hide BRm4
  have BRH := hide BR4
  have BSH := hide BS4
  clear HD R4 BRm4 BR4 BS4 SH R2 BRm BO BQ BR BS kd0 kd1 kd2 kd3 kd4 kd5 kd6 kd7 kd8 kd9 kd10 kd11 kd12 kd13 kd14 kd15 kd16 kd17 kd18 kd19
  have SN1 := hide ((shown_new (Wn : Int) (Hn : Int) iw1 iw2 ih1 ih2).told ⟨(Wn : Int), (Hn : Int), [(A, 0), (B, 0)], 0, 0⟩ rfl rfl (ok_two EV1.out))
  generalize (T.new (Wn : Int) (Hn : Int)).feed (Pt.told ⟨(Wn : Int), (Hn : Int), [], 0, 0⟩ ⟨(Wn : Int), (Hn : Int), [(A, 0), (B, 0)], 0, 0⟩) = t4 at *
  obtain ⟨rc0, rc1, rc2, rc3, rc4, rc5, rc6, rc7⟩ := BRH.out.win
  have ld1 := BRH.out.lt
  go_wp2_with fail
  refine (FR.out _).mono ?_
  rintro e we ⟨rfl, fe⟩
  have R5 := hide (R4H.out.fr0 fe)
  have BRm5 := hide (BRmH.out.fr0 fe)
  have BS5 := hide (BSH.out.fr0 fe)
  obtain ⟨sc0, sc1, sc2, sc3, sc4, sc5, sc6, sc7⟩ := BS5.out.win
  have ld2 := BS5.out.lt
  clear fe R4H BRmH BSH BRH rc0 rc1 rc2 rc3 rc4 rc5 rc6 rc7 ld1
  go_wp2_with fail
  refine (FS.out _).mono ?_
  rintro e wf ⟨rfl, ff⟩
  have FX := ((Fr.refl [] we).alloc (.cells #[.int .i64 C.key, .int .i64 C.x, .int .i64 C.y, .int .i64 C.w, .int .i64 C.h, .int .i64 C.layer, .int .i64 C.style, .string C.text] 23)).then ff
  have R6 := hide (R5.out.fr0 FX)
  have BRm6 := hide (BRm5.out.fr0 FX)
  have BC6 : Hid (Blk wf we.heap.size C.vals 23) := (Blk.new we _ _).fr0 ff
  clear FX ff R5 BRm5 BS5 sc0 sc1 sc2 sc3 sc4 sc5 sc6 sc7 ld2
  obtain ⟨mc0, mc1, mc2, mc3⟩ := BRm6.out.four
  obtain ⟨cc0, cc1, cc2, cc3, cc4, cc5, cc6, cc7⟩ := BC6.out.win
  have le1 := BRm6.out.lt
  have le2 := BC6.out.lt
  have FF : Hid (Fr [] wf ((wf.alloc (.cells #[.int .i64 D.key, .int .i64 D.x, .int .i64 D.y, .int .i64 D.w, .int .i64 D.h, .int .i64 D.layer, .int .i64 D.style, .string D.text] 23)).alloc (.cells #[.int .i64 C.key, .int .i64 C.x, .int .i64 C.y, .int .i64 C.w, .int .i64 C.h, .int .i64 C.layer, .int .i64 C.style, .string C.text, .int .i64 D.key, .int .i64 D.x, .int .i64 D.y, .int .i64 D.w, .int .i64 D.h, .int .i64 D.layer, .int .i64 D.style, .string D.text] 23))) := ((Fr.refl _ _).alloc _).alloc _
  have WS : Hid (WinsAt ((wf.alloc (.cells #[.int .i64 D.key, .int .i64 D.x, .int .i64 D.y, .int .i64 D.w, .int .i64 D.h, .int .i64 D.layer, .int .i64 D.style, .string D.text] 23)).alloc (.cells #[.int .i64 C.key, .int .i64 C.x, .int .i64 C.y, .int .i64 C.w, .int .i64 C.h, .int .i64 C.layer, .int .i64 C.style, .string C.text, .int .i64 D.key, .int .i64 D.x, .int .i64 D.y, .int .i64 D.w, .int .i64 D.h, .int .i64 D.layer, .int .i64 D.style, .string D.text] 23)) (some ⟨wf.heap.size + 1, 0, none⟩) [C, D]) := by
    have := Blk.new (wf.alloc (.cells #[.int .i64 D.key, .int .i64 D.x, .int .i64 D.y, .int .i64 D.w, .int .i64 D.h, .int .i64 D.layer, .int .i64 D.style, .string D.text] 23)) (C.vals ++ D.vals) 23
    rw [World.size_alloc] at this
    exact wins_two this
  have R6F := hide (R6.out.fr0 FF.out)
  have BD6 := hide ((Blk.new wf D.vals 23).alloc (.cells #[.int .i64 C.key, .int .i64 C.x, .int .i64 C.y, .int .i64 C.w, .int .i64 C.h, .int .i64 C.layer, .int .i64 C.style, .string C.text, .int .i64 D.key, .int .i64 D.x, .int .i64 D.y, .int .i64 D.w, .int .i64 D.h, .int .i64 D.layer, .int .i64 D.style, .string D.text] 23))
  have SH := hide (shows_yes _ b g4 _ bt gt4 _ R6F.out.r (Wn : Int) (Hn : Int) (some ⟨wf.heap.size + 1, 0, none⟩) [C, D] 2 2 WS.out rfl (by decide) TS2.out EV2.out)
  simp only [next_over] at SH
  have SN2 := hide (SN1.out.told ⟨(Wn : Int), (Hn : Int), [(C, 0), (D, 0)], 0, 0⟩ rfl rfl (ok_two EV2.out))
  generalize t4.feed (Pt.told ⟨(Wn : Int), (Hn : Int), [(A, 0), (B, 0)], 0, 0⟩ ⟨(Wn : Int), (Hn : Int), [(C, 0), (D, 0)], 0, 0⟩) = t7 at *
  go_wp2_with fail
  refine SH.out.mono ?_
  rintro e w7 ⟨rfl, u7⟩
  obtain ⟨g7, gt7, R7, K7⟩ := R6F.out.upd u7
  have BRm7 := hide (K7 _ _ _ (BRm6.out.fr0 FF.out) (by decide) (by decide))
  have BC7 := hide (K7 _ _ _ (BC6.out.fr0 FF.out) (by decide) (by decide))
  have BD7 := hide (K7 _ _ _ BD6.out (by decide) (by decide))
  have R7H := hide R7
  have CO := hide SN2.out.corner
  have TW := hide SN2.out.w
  have TH := hide SN2.out.h
  have TC := hide SN2.out.cells
  clear u7 K7 R7 SH WS R6F BD6 FF R6 BRm6 BC6 mc0 mc1 mc2 mc3 cc0 cc1 cc2 cc3 cc4 cc5 cc6 cc7 le1 le2
  go_wp2
  go_loopw [19] (fun i wr => ∃ y : Nat, i = .int .i64 y ∧ y ≤ Hn ∧ Fr [] w7 wr) (fun i _ => (3000 - intOf i).toNat)
  case atStart => exact ⟨0, rfl, by omega, Fr.refl _ _⟩
  case round =>
    obtain ⟨y, rfl, hy, f8⟩ := hrel
    have BRm8 := hide (BRm7.out.fr0 f8)
    have BC8 := BC7.out.fr0 f8
    have BD8 := BD7.out.fr0 f8
    have F8 := hide f8
    obtain ⟨mc0, mc1, mc2, mc3⟩ := BRm8.out.four
    obtain ⟨cc0, cc1, cc2, cc3, cc4, cc5, cc6, cc7⟩ := BC8.win
    obtain ⟨dc0, dc1, dc2, dc3, dc4, dc5, dc6, dc7⟩ := BD8.win
    have l8 := BRm8.out.lt
    clear BC8 BD8 f8
    by_cases hend : y < Hn
    · have b1 : (y : Int) < Hn := by omega
      go_wp2_with fail
      refine (looked_any C D Wn y wr OKC.out OKD.out wn2 (by omega) (by omega)).mono ?_
      rintro e w9 ⟨rfl, f9⟩
      have F9 := hide (F8.out.then f9)
      have BRm9 := BRm8.out.fr0 f9
      clear mc0 mc1 mc2 mc3 cc0 cc1 cc2 cc3 cc4 cc5 cc6 cc7 dc0 dc1 dc2 dc3 dc4 dc5 dc6 dc7 l8 f9
      obtain ⟨nc0, nc1, nc2, nc3⟩ := BRm9.four
      have l9 := BRm9.lt
      have RD := hide (reads_yes y w9 bt gt7 t7 (R7H.out.fr0 F9.out).r.t (by omega) (by rw [TH.out]; exact b1) (strOfNums ((lookR C D Wn y).map (·.1))) (strOfNums ((lookR C D Wn y).map (·.2))) (by rw [TW.out, TC.out, ← RT.out y (by omega) b1]; rfl) (by rw [TW.out, TC.out, ← RT.out y (by omega) b1]; rfl))
      clear BRm9
      go_wp2_with fail
      refine RD.out.mono ?_
      rintro e w10 ⟨rfl, f10⟩
      have F10 := hide (F9.out.then f10)
      clear f10
      go_wp2
      go_roundw
      case rel => exact ⟨y + 1, by go_num, by omega, F10.out⟩
      case measure => simp [intOf]; omega
    · have b1 : ¬ (y : Int) < Hn := by omega
      have CU := hide (cursor_any wr bt gt7 t7 (R7H.out.fr0 F8.out).r.t)
      rw [CO.out.1, CO.out.2.1, CO.out.2.2] at CU
      go_wp2_with fail
      refine CU.out.mono ?_
      rintro e w9 ⟨rfl, f9⟩
      have F9 := hide (R7H.out.f.then (F8.out.then f9))
      clear f9
      go_wp2
      go_ret
      exact ⟨rfl, F9.out.alloc _⟩
end Go.Proofs.YtjhccghhinlmdaaDoor
/- A screen of another size: the cells that both have stay, the others are blank. Plain lists. -/
namespace Go.Proofs.YtjhccghhinlmdaaDoor

/-- the cells of a screen of w columns and h rows once those ahead of column x of row y have been carried over from one of W columns and H rows -/
def tn (W H : Int) (l : List (Int × Int)) (w h y x : Int) : List (Int × Int) :=
  (List.range (w * h).toNat).map fun (i : Nat) => if ((i : Int) / w < y ∨ ((i : Int) / w = y ∧ (i : Int) % w < x)) ∧ (i : Int) / w < H ∧ (i : Int) % w < W then (chr l (W * ((i : Int) / w) + (i : Int) % w).toNat, sty l (W * ((i : Int) / w) + (i : Int) % w).toNat) else (32, 7)
theorem tn_length (W H : Int) (l : List (Int × Int)) (w h y x : Int) : (tn W H l w h y x).length = (w * h).toNat := by simp [tn]
theorem tn_eq {W H : Int} {l : List (Int × Int)} {w h y x y' x' : Int} (H0 : ∀ i : Nat, i < (w * h).toNat → (i : Int) / w < H → (i : Int) % w < W → (((i : Int) / w < y ∨ ((i : Int) / w = y ∧ (i : Int) % w < x)) ↔ ((i : Int) / w < y' ∨ ((i : Int) / w = y' ∧ (i : Int) % w < x')))) : tn W H l w h y x = tn W H l w h y' x' := by
  unfold tn
  apply List.map_congr_left
  intro i hi
  rw [List.mem_range] at hi
  by_cases h1 : (i : Int) / w < H ∧ (i : Int) % w < W
  · simp only [H0 i hi h1.1 h1.2]
  · rw [if_neg (fun h => h1 h.2), if_neg (fun h => h1 h.2)]
theorem div_bd {w h : Int} {i : Nat} (hw : 1 ≤ w) (_hh : 1 ≤ h) (hi : i < (w * h).toNat) : 0 ≤ (i : Int) / w ∧ (i : Int) / w < h ∧ 0 ≤ (i : Int) % w ∧ (i : Int) % w < w ∧ (i : Int) = w * ((i : Int) / w) + (i : Int) % w := by
  have h0 : (i : Int) < h * w := by rw [Int.mul_comm]; omega
  exact ⟨Int.ediv_nonneg (by omega) (by omega), (Int.ediv_lt_iff_lt_mul (by omega)).2 h0, Int.emod_nonneg _ (by omega), Int.emod_lt_of_pos _ (by omega), (Int.mul_ediv_add_emod _ _).symm⟩
theorem tn_zero {W H : Int} {l : List (Int × Int)} {w h : Int} (hw : 1 ≤ w) (hh : 1 ≤ h) : tn W H l w h 0 0 = List.replicate (w * h).toNat (32, 7) := by
  apply List.ext_getElem (by simp [tn])
  intro i h1 h2
  rw [tn_length] at h1
  have := div_bd hw hh h1
  simp only [tn, List.getElem_map, List.getElem_range, List.getElem_replicate]
  rw [if_neg (by omega)]
/-- a column that one of the two has not, or a row that the new one has not -/
theorem tn_skip {W H : Int} {l : List (Int × Int)} {w h y x : Int} (hw : 1 ≤ w) (hh : 1 ≤ h) (ho : w ≤ x ∨ W ≤ x ∨ h ≤ y) : tn W H l w h y x = tn W H l w h y (x + 1) := by
  apply tn_eq
  intro i hi h1 h2
  have := div_bd hw hh hi
  omega
theorem tn_row {W H : Int} {l : List (Int × Int)} {w h y x : Int} (hw : 1 ≤ w) (hh : 1 ≤ h) (ho : w ≤ x ∨ W ≤ x) : tn W H l w h y x = tn W H l w h (y + 1) 0 := by
  apply tn_eq
  intro i hi h1 h2
  have := div_bd hw hh hi
  omega
theorem tn_end {W H : Int} {l : List (Int × Int)} {w h y : Int} (hw : 1 ≤ w) (hh : 1 ≤ h) (ho : h ≤ y ∨ H ≤ y) : tn W H l w h y 0 = tn W H l w h H 0 := by
  apply tn_eq
  intro i hi h1 h2
  have := div_bd hw hh hi
  omega
theorem tn_in {W H : Int} {l : List (Int × Int)} {w h y x : Int} (hw : 1 ≤ w) (hh : 1 ≤ h) (hx : 0 ≤ x) (hx1 : x < w) (hx2 : x < W) (hy2 : y < H) (k m : Nat) (hk : (k : Int) = w * y + x) (hm : (m : Int) = W * y + x) :
    (tn W H l w h y x).set k (chr l m, sty l m) = tn W H l w h y (x + 1) := by
  apply List.ext_getElem (by simp [tn])
  intro i h1 h2
  rw [tn_length] at h2
  have d := div_bd hw hh h2
  by_cases e : k = i
  · subst e
    have q1 : (k : Int) / w = y := by
      rw [hk, Int.mul_add_ediv_left _ _ (by omega), Int.ediv_eq_zero_of_lt hx hx1]; omega
    have q2 : (k : Int) % w = x := by
      rw [hk, Int.mul_add_emod_self_left, Int.emod_eq_of_lt hx hx1]
    rw [List.getElem_set_self]
    simp only [tn, List.getElem_map, List.getElem_range]
    rw [if_pos (by omega), q1, q2, ← hm]
    simp
  · rw [List.getElem_set_ne e]
    simp only [tn, List.getElem_map, List.getElem_range]
    by_cases q : (i : Int) / w = y ∧ (i : Int) % w = x
    · exfalso; apply e
      rw [q.1, q.2] at d
      omega
    · have : (((i : Int) / w < y ∨ ((i : Int) / w = y ∧ (i : Int) % w < x)) ↔ ((i : Int) / w < y ∨ ((i : Int) / w = y ∧ (i : Int) % w < x + 1))) := by omega
      simp only [this]
end Go.Proofs.YtjhccghhinlmdaaDoor
/- The program's terminal gets another size. -/
namespace Go.Proofs.YtjhccghhinlmdaaDoor
open Go.RowKit

theorem resized_no (a c : Int) (w : World) (p : Value) (h : sizeB a c = false) :
    Calls Tryd.prog 44 #[p, .int .i64 a, .int .i64 c] w fun e w' => e = .returned (.tuple #[.pointer none, .bool false]) ∧ w = w' := by
  go_enter Tryd.func44, Tryd.ntmps44
  go_wp2_with (go_at_call 39; refine (new_no _ _ _ h).mono ?_; rintro e w' ⟨rfl, rfl⟩)
  go_ret2
  exact ⟨rfl, rfl⟩

def ResPost (w : World) (W H : Int) (l : List (Int × Int)) (a c : Int) (e : Ending) (w' : World) : Prop :=
  ∃ bg bc cap sp, e = .returned (.tuple #[.pointer (some ⟨bg, 0, none⟩), .bool true]) ∧ w.heap.size ≤ bg ∧ w.heap.size ≤ bc ∧ Fr [] w w' ∧ Grid w' bg bc cap sp a c (tn W H l a c H 0)

set_option maxHeartbeats 4000000 in
set_option maxRecDepth 100000 in
theorem resized_yes (a c : Int) (w : World) (bg bc cap : Nat) (sp : List Value) (W H : Int) (l : List (Int × Int)) (g : Grid w bg bc cap sp W H l) (h1 : 1 ≤ a) (h2 : a ≤ 40) (h3 : 1 ≤ c) (h4 : c ≤ 20) :
    Calls Tryd.prog 44 #[.pointer (some ⟨bg, 0, none⟩), .int .i64 a, .int .i64 c] w (ResPost w W H l a c) := by
  have w1 := g.w1
  have w2 := g.w2
  have e1 := g.h1
  have e2 := g.h2
  have HG := hide g
  have blt := g.hd.lt
  have blt2 := g.row.lt
  clear g
  go_enter Tryd.func44, Tryd.ntmps44
  go_wp2_with fail
  refine (new_yes _ _ _ h1 h2 h3 h4).mono ?_
  rintro e v1 ⟨ng, nc, ncap, nsp, rfl, hng, hnc, f1, hn⟩
  have hn' : Grid v1 ng nc ncap nsp a c (tn W H l a c 0 0) := by rw [tn_zero h1 h3]; exact hn
  have HN := hide hn'
  clear hn hn'
  go_wp2
  go_loopw [10] (fun i wr => ∃ k : Nat, i = .int .i64 k ∧ (k : Int) ≤ H ∧ Fr [] w wr ∧ Grid wr ng nc ncap nsp a c (tn W H l a c k 0)) (fun i _ => (3000 - intOf i).toNat)
  case atStart => exact ⟨0, rfl, by omega, f1, HN.out⟩
  case round =>
    obtain ⟨k, rfl, hk, f, hr⟩ := hrel
    have hg := HG.out.fr0 f
    have c0 : wr.cell? ⟨bg, 0, none⟩ = some (.int .i64 W) := hg.hd.cell 0
    have c1 : wr.cell? ⟨bg, 1, none⟩ = some (.int .i64 H) := hg.hd.cell 1
    have HR := hide hr
    clear hr hg
    by_cases hend : (k : Int) < H
    · go_wp2
      go_loopw [11] (fun i ws => ∃ j : Nat, i = .int .i64 j ∧ (j : Int) ≤ W ∧ Fr [] w ws ∧ Grid ws ng nc ncap nsp a c (tn W H l a c k j)) (fun i _ => (3000 - intOf i).toNat)
      case atStart => exact ⟨0, rfl, by omega, f, HR.out⟩
      case round =>
        obtain ⟨j, rfl, hj, fs, hs⟩ := hrel
        have hg := HG.out.fr0 fs
        have s0 : wr.cell? ⟨bg, 0, none⟩ = some (.int .i64 W) := hg.hd.cell 0
        have s2 : wr.cell? ⟨bg, 2, none⟩ = some (.slice (some ⟨bc, 0, none⟩) l.length cap) := hg.hd.cell 2
        have HS := hide hs
        clear hs c0 c1
        by_cases hje : (j : Int) < W
        · obtain ⟨q1, q2, q3⟩ := idx_bd (W := W) (H := H) (x := j) (y := k) w2 e2 (by omega) hje (by omega) hend
          have AT := hide (at_in j k W H wr bg bc cap sp l hg (by omega) hje (by omega) hend)
          clear hg q1 q2 q3
          by_cases hin : (j : Int) < a ∧ (k : Int) < c
          · have TI := hide (tn_in (H := H) (l := l) (h := c) (y := k) h1 h3 (by omega) hin.1 hje hend (k * a + j).toNat (k * W + j).toNat (by have := Int.mul_nonneg (show 0 ≤ (k : Int) by omega) (show 0 ≤ a by omega); rw [Int.mul_comm a]; omega) (by have := Int.mul_nonneg (show 0 ≤ (k : Int) by omega) (show 0 ≤ W by omega); rw [Int.mul_comm W]; omega))
            have HIN : Hid ((j : Int) < a ∧ (k : Int) < c ∧ 0 ≤ (j : Int) ∧ 0 ≤ (k : Int)) := ⟨hin.1, hin.2, by omega, by omega⟩
            clear hin
            go_wp2_with fail
            refine AT.out.mono ?_
            rintro e w3 ⟨rfl, f3⟩
            have F3 := hide f3
            clear f3 s0 s2
            generalize chr l (k * W + j).toNat = cc at *
            generalize sty l (k * W + j).toNat = ss at *
            go_wp2_with fail
            refine (put_in j k cc ss a c _ ng nc ncap nsp (tn W H l a c k j) (HS.out.fr0 (F3.out.alloc _)) HIN.out.2.2.1 HIN.out.1 HIN.out.2.2.2 HIN.out.2.1).mono ?_
            rintro e w4 ⟨rfl, k1, k2⟩
            have FS : Hid (Fr [] w w4) := ((fs.then F3.out).alloc _).trans k1 (by simp) (fun i hi => .inr (by simp at hi; omega))
            have K2 := hide k2
            clear k1 k2
            go_wp2
            go_roundw
            case rel => exact ⟨j + 1, by go_num, by omega, FS.out, by have := K2.out; rw [TI.out] at this; exact this⟩
            case measure => simp [intOf]; omega
          · have TK := hide (tn_skip (W := W) (H := H) (l := l) (w := a) (h := c) (y := k) (x := j) h1 h3 (by omega))
            have HIN : Hid ((j : Int) < 0 ∨ a ≤ j ∨ (k : Int) < 0 ∨ c ≤ k) := by show _ ∨ _; omega
            clear hin
            go_wp2_with fail
            refine AT.out.mono ?_
            rintro e w3 ⟨rfl, f3⟩
            have F3 := hide f3
            clear f3 s0 s2
            generalize chr l (k * W + j).toNat = cc at *
            generalize sty l (k * W + j).toNat = ss at *
            go_wp2_with fail
            refine (put_out j k cc ss a c _ ng nc ncap nsp (tn W H l a c k j) (HS.out.fr0 (F3.out.alloc _)) HIN.out).mono ?_
            rintro e w4 ⟨rfl, k1⟩
            have F4 : Hid (Fr [] wr w4) := (F3.out.alloc _).then k1
            clear k1
            go_wp2
            go_roundw
            case rel => exact ⟨j + 1, by go_num, by omega, fs.then F4.out, by have := HS.out; rw [TK.out] at this; exact this.fr0 F4.out⟩
            case measure => simp [intOf]; omega
        · have TR := hide (tn_row (W := W) (H := H) (l := l) (w := a) (h := c) (y := k) (x := j) h1 h3 (by omega))
          clear hg
          go_wp2
          go_roundw
          case rel => exact ⟨k + 1, by go_num, by omega, fs, by have := HS.out; rw [TR.out] at this; exact this⟩
          case measure => simp [intOf]; omega
    · have e : (k : Int) = H := by omega
      have E := hide e
      go_wp2
      go_ret2
      exact ⟨ng, nc, ncap, nsp, rfl, hng, hnc, f, by have := HR.out; rw [E.out] at this; exact this⟩

set_option maxHeartbeats 1000000 in
theorem moveTo_raw (x y : Int) (w : World) (bt : Nat) (g : Gh) (t : T) (hs : Blk w bt (stOf g t) 87) (gr : Grid w g.bg g.bc g.cap g.sp t.W t.H t.cells) :
    Calls Tryd.prog 45 #[.pointer (some ⟨bt, 0, none⟩), .int .i64 x, .int .i64 y] w
      fun e w' => e = .returned (.tuple #[]) ∧ w' = ((w.setCell ⟨bt, 1, none⟩ (.int .i64 (within x t.W))).setCell ⟨bt, 2, none⟩ (.int .i64 (within y t.H))).setCell ⟨bt, 4, none⟩ (.bool false) := by
  have c0 : w.cell? ⟨bt, 0, none⟩ = some (.pointer (some ⟨g.bg, 0, none⟩)) := hs.cell 0
  have c1 : w.cell? ⟨bt, 1, none⟩ = some (.int .i64 t.x) := hs.cell 1
  have c2 : w.cell? ⟨bt, 2, none⟩ = some (.int .i64 t.y) := hs.cell 2
  have c4 : w.cell? ⟨bt, 4, none⟩ = some (.bool t.full) := hs.cell 4
  have d0 : w.cell? ⟨g.bg, 0, none⟩ = some (.int .i64 t.W) := gr.hd.cell 0
  have d1 : w.cell? ⟨g.bg, 1, none⟩ = some (.int .i64 t.H) := gr.hd.cell 1
  have n1 : bt ≠ g.bg := hs.ne gr.hd (by decide)
  have n2 := n1.symm
  have f1 := hs.frozen 1
  have f2 := hs.frozen 2
  have f4 := hs.frozen 4
  have w1 := gr.w1
  have w2 := gr.w2
  have h1 := gr.h1
  have h2 := gr.h2
  clear hs gr
  go_enter Tryd.func45, Tryd.ntmps45
  go_wp2_with (go_at_call 59; refine (within_any _ _ _ (by omega) (by omega)).mono ?_; rintro e w' ⟨rfl, rfl⟩)
  go_end0
  exact ⟨rfl, rfl⟩

def T.resized (t : T) (a c : Int) : T := { t with W := a, H := c, cells := tn t.W t.H t.cells a c t.H 0, x := within t.x a, y := within t.y c, full := false }
theorem T.resized_ok {t : T} (o : t.Ok) {a c : Int} (h1 : 1 ≤ a) (h3 : 1 ≤ c) : (t.resized a c).Ok := by
  refine ⟨?_, ?_, ?_, ?_, o.c0, o.c1, o.s0, o.s1, o.p1, o.p2⟩
  all_goals simp only [T.resized, within]
  all_goals (repeat' split) <;> omega

theorem resize_nil (a c : Int) (w : World) :
    Calls Tryd.prog 29 #[.pointer none, .int .i64 a, .int .i64 c] w fun e w' => e = .returned (.int .i64 1) ∧ w = w' := by
  go_enter Tryd.func29, Tryd.ntmps29
  go_wp2
  go_ret
  exact ⟨rfl, rfl⟩
set_option maxHeartbeats 400000 in
theorem resize_no (a c : Int) (w : World) (bt : Nat) (g : Gh) (t : T) (h : TermAt w bt g t) (hz : sizeB a c = false) :
    Calls Tryd.prog 29 #[.pointer (some ⟨bt, 0, none⟩), .int .i64 a, .int .i64 c] w fun e w' => e = .returned (.int .i64 2) ∧ w = w' := by
  obtain ⟨c0, c1, c2, c3, c4, c5, c6, c7, c8, d0, d1⟩ := h.cells
  clear h c1 c2 c3 c4 c5 c6 c7 c8 d0 d1
  go_enter Tryd.func29, Tryd.ntmps29
  go_wp2_with (go_at_call 44; refine (resized_no _ _ _ _ hz).mono ?_; rintro e w' ⟨rfl, rfl⟩)
  go_ret
  exact ⟨rfl, rfl⟩

set_option maxHeartbeats 2000000 in
set_option maxRecDepth 100000 in
theorem resize_yes (a c : Int) (w : World) (bt : Nat) (g : Gh) (t : T) (h : TermAt w bt g t) (h1 : 1 ≤ a) (h2 : a ≤ 40) (h3 : 1 ≤ c) (h4 : c ≤ 20) :
    Calls Tryd.prog 29 #[.pointer (some ⟨bt, 0, none⟩), .int .i64 a, .int .i64 c] w fun e w' => e = .returned (.int .i64 0) ∧ Upd bt g (t.resized a c) w w' := by
  obtain ⟨c0, c1, c2, c3, c4, c5, c6, c7, c8, d0, d1⟩ := h.cells
  have HT := hide h
  have blt := h.st.lt
  clear h c1 c2 c3 c4 c5 c6 c7 c8 d0 d1
  go_enter Tryd.func29, Tryd.ntmps29
  go_wp2_with fail
  refine (resized_yes _ _ _ _ _ _ _ _ _ _ HT.out.gr h1 h2 h3 h4).mono ?_
  rintro e v1 ⟨bg, bc, cap, sp, rfl, hbg, hbc, f1, gr⟩
  have st1 := HT.out.st.fr0 f1
  have q0 : v1.cell? ⟨bt, 0, none⟩ = some (.pointer (some ⟨g.bg, 0, none⟩)) := st1.cell 0
  have q1 : v1.cell? ⟨bt, 1, none⟩ = some (.int .i64 t.x) := st1.cell 1
  have q2 : v1.cell? ⟨bt, 2, none⟩ = some (.int .i64 t.y) := st1.cell 2
  have z0 := st1.frozen 0
  have G1 : Hid (Blk (v1.setCell ⟨bt, 0, none⟩ (.pointer (some ⟨bg, 0, none⟩))) bt (stOf ⟨bg, bc, cap, sp, g.pv⟩ { t with W := a, H := c, cells := tn t.W t.H t.cells a c t.H 0 }) 87 ∧ Grid (v1.setCell ⟨bt, 0, none⟩ (.pointer (some ⟨bg, 0, none⟩))) bg bc cap sp a c (tn t.W t.H t.cells a c t.H 0)) :=
    ⟨st1.set 0 _, gr.fr ((Fr.refl [bt] _).setCell (p := ⟨bt, 0, none⟩) (by simp) _) (by simp; omega) (by simp; omega)⟩
  have S1 := hide st1
  have GR := hide gr
  clear st1 gr
  go_upto_region 7 with (fail)
  go_region_with (go_at_call 45; refine (moveTo_raw _ _ _ bt ⟨bg, bc, cap, sp, g.pv⟩ { t with W := a, H := c, cells := tn t.W t.H t.cells a c t.H 0 } ?ha ?hb).mono ?_; (case ha => exact G1.out.1.drew); (case hb => exact G1.out.2.fr0 (Fr.refl _ _).drew); rintro e w' ⟨rfl, rfl⟩)
  all_goals go_wp2
  all_goals go_ret
  all_goals
    refine ⟨rfl, ⟨bg, bc, cap, sp, g.pv⟩, ⟨?_, ?_, ?_, T.resized_ok HT.out.ok h1 h3⟩, ?_, ?_⟩
    · exact (((S1.out.set 0 (.pointer (some ⟨bg, 0, none⟩))).set 1 (.int .i64 (within t.x a))).set 2 (.int .i64 (within t.y c))).set 4 (.bool false)
    · exact GR.out.fr (S := [bt]) (((((Fr.refl [bt] _).setCell (p := ⟨bt, 0, none⟩) (by simp) _).setCell (p := ⟨bt, 1, none⟩) (by simp) _).setCell (p := ⟨bt, 2, none⟩) (by simp) _).setCell (p := ⟨bt, 4, none⟩) (by simp) _).drew (by simp; omega) (by simp; omega)
    · exact own_fr (S := [bt]) HT.out.pr (((((f1.of_nil.setCell (p := ⟨bt, 0, none⟩) (by simp) _).setCell (p := ⟨bt, 1, none⟩) (by simp) _).setCell (p := ⟨bt, 2, none⟩) (by simp) _).setCell (p := ⟨bt, 4, none⟩) (by simp) _).drew) (by intro b hb; simp at hb; subst hb; exact own_ne HT.out.pr HT.out.st (by decide))
    · exact ((((((f1.of_nil (S := [bt])).setCell (p := ⟨bt, 0, none⟩) (by simp) _).setCell (p := ⟨bt, 1, none⟩) (by simp) _).setCell (p := ⟨bt, 2, none⟩) (by simp) _).setCell (p := ⟨bt, 4, none⟩) (by simp) _).drew).mono (by simp [foot])
    · intro x hx
      simp only [foot, List.mem_cons] at hx ⊢
      rcases hx with rfl | rfl | rfl | hx
      · exact .inl (.inl rfl)
      · exact .inr hbg
      · exact .inr hbc
      · exact .inl (.inr (.inr (.inr hx)))
end Go.Proofs.YtjhccghhinlmdaaDoor
/- Restored walked: whatever else the terminal was fed, Redraw and Resize bring the right rows and the cursor back. -/
namespace Go.Proofs.YtjhccghhinlmdaaDoor
open Go.RowKit

/-- behind any bytes a terminal still takes a whole screen -/
theorem cln_feed {t : T} (h : t.Cln) (ok : t.Ok) (l : List Int) : (t.feed l).Cln := (T.feed_cln l t h ⟨ok.s0, ok.s1⟩).1
theorem RM.set {w0 w : World} {b : Nat} {g : PGh} {m : Pt} {bt : Nat} {gt : Gh} {t : T} (h : RM w0 w b g m bt gt t) {c : Nat} {us : List Value} {ty : TypeId} (hb : Blk w c us ty) (h1 : ty ∉ pTy) (h2 : ty ∉ tTy) (hc : w0.heap.size ≤ c) (o : Nat) (v : Value) : RM w0 (w.setCell ⟨c, o, none⟩ v) b g m bt gt t := by
  have f : Fr [c] w (w.setCell ⟨c, o, none⟩ v) := (Fr.refl _ _).setCell (.inl (by simp)) _
  have off := h.r.off hb h1 h2
  exact ⟨h.r.fr f (fun x hx hm => by simp at hm; subst hm; exact off hx), h.f.trans f (by simp) (by intro i hi; simp at hi; subst hi; exact .inr hc), h.ge⟩
theorem Shown.wholeT {w : World} {bt : Nat} {gt : Gh} {t : T} {m : Pt} (ht : TermAt w bt gt t) (hc : t.Cln) (hW : t.W = m.W) (hH : t.H = m.H) (ok : m.v.Ok) : Shown (t.feed m.whole) m :=
  Shown.whole hc hW hH (hW ▸ ht.gr.w1) (hW ▸ ht.gr.w2) (hH ▸ ht.gr.h1) (hH ▸ ht.gr.h2) (by rw [← hW, ← hH]; exact ht.gr.len) ok

set_option maxHeartbeats 8000000 in
set_option maxRecDepth 100000 in
theorem restored_any (a c : Int) (o q : Win) (ns : ByteArray) (v k : Int) (w : World) (ho : o.In) (hq : q.In) (hns : ns.size ≤ 140737488351232) (a1 : -9223372036854775808 ≤ a) (a2 : a ≤ 9223372036854775807) (c1 : -9223372036854775808 ≤ c) (c2 : c ≤ 9223372036854775807) (v1 : -9223372036854775808 ≤ v) (v2 : v ≤ 9223372036854775807) (k1 : -9223372036854775808 ≤ k) (k2 : k ≤ 9223372036854775807) :
    Calls Tryd.prog 8 #[.int .i64 a, .int .i64 c, .agg #[.int .i64 o.key, .int .i64 o.x, .int .i64 o.y, .int .i64 o.w, .int .i64 o.h, .int .i64 o.layer, .int .i64 o.style, .string o.text], .agg #[.int .i64 q.key, .int .i64 q.x, .int .i64 q.y, .int .i64 q.w, .int .i64 q.h, .int .i64 q.layer, .int .i64 q.style, .string q.text], .string ns, .int .i64 v, .int .i64 k] w fun e w' => e = .returned (.bool true) ∧ Fr [] w w' := by
  have OP := hide (opened_any a c ((w.alloc (.cells #[.int .i64 o.key, .int .i64 o.x, .int .i64 o.y, .int .i64 o.w, .int .i64 o.h, .int .i64 o.layer, .int .i64 o.style, .string o.text] 23)).alloc (.cells #[.int .i64 q.key, .int .i64 q.x, .int .i64 q.y, .int .i64 q.w, .int .i64 q.h, .int .i64 q.layer, .int .i64 q.style, .string q.text] 23)) a1 a2 c1 c2)
  have pw := pickI_bd a 40 (by decide)
  have ph := pickI_bd c 20 (by decide)
  have wn1 : 1 ≤ 1 + pickI a 40 := by omega
  have wn2 : 1 + pickI a 40 ≤ 40 := by omega
  have hn1 : 1 ≤ 1 + pickI c 20 := by omega
  have hn2 : 1 + pickI c 20 ≤ 20 := by omega
  generalize 1 + pickI a 40 = Wn at *
  generalize 1 + pickI c 20 = Hn at *
  clear pw ph
  have PV := hide (fun w' => pick_any v 40 w' v1 v2 (by decide) (by decide))
  have PK := hide (fun w' => pick_any k 20 w' k1 k2 (by decide) (by decide))
  have pv := pickI_bd v 40 (by decide)
  have pk := pickI_bd k 20 (by decide)
  obtain ⟨Vm, hVm⟩ := Int.eq_ofNat_of_zero_le pv.1
  obtain ⟨Km, hKm⟩ := Int.eq_ofNat_of_zero_le pk.1
  rw [hVm] at PV pv
  rw [hKm] at PK pk
  have vm2 : Vm < 40 := by omega
  have km2 : Km < 20 := by omega
  clear hVm hKm pv pk
  have FO := hide (fun w' => fit_in o 1 w' ho)
  have FQ := hide (fun w' => fit_in q 2 w' hq)
  have oka := fitW_ok o 1 (by decide) (by decide)
  have okb := fitW_ok q 2 (by decide) (by decide)
  have pla : ∀ k, k < (fitW o 1).text.size → byteAt (fitW o 1).text k ≠ 10 := fun k hk => fitT_plain o.text k hk
  have plb : ∀ k, k < (fitW q 2).text.size → byteAt (fitW q 2).text k ≠ 10 := fun k hk => fitT_plain q.text k hk
  have kk : (fitW o 1).key ≠ (fitW q 2).key := by show (1 : Int) ≠ 2; decide
  generalize fitW o 1 = A at *
  generalize fitW q 2 = B at *
  have EV := hide (errV_two A B oka okb kk)
  have OKA := hide oka
  have OKB := hide okb
  have OKV := hide (ok_two EV.out)
  have RT : Hid (∀ y : Int, 0 ≤ y → y < ((1 + Km : Nat) : Int) → rowOf ((1 + Vm : Nat) : Int) y (V.grid [(A, 0), (B, 0)] ((1 + Vm : Nat) : Int) ((1 + Km : Nat) : Int)) = lookR A B (1 + Vm) y) := fun y hy hy2 => row_two A B oka okb pla plb (1 + Vm) (1 + Km) y hy hy2
  have TS : Hid (∀ x ∈ [A, B], x.text.size ≤ 9223372036854775807) := by
    intro x hx; simp at hx; rcases hx with rfl | rfl
    · have := oka.t; omega
    · have := okb.t; omega
  clear pla plb kk ho hq oka okb
  have WO1 := hide (Pt.whole_ok ⟨Wn, Hn, [(A, 0), (B, 0)], 0, 0⟩ OKV.out wn1 wn2 hn1 hn2)
  obtain ⟨Wm, hWm⟩ : ∃ n : Nat, n = 1 + Vm := ⟨_, rfl⟩
  obtain ⟨Hm, hHm⟩ : ∃ n : Nat, n = 1 + Km := ⟨_, rfl⟩
  rw [← hWm, ← hHm] at RT
  have eW : (1 : Int) + (Vm : Int) = (Wm : Int) := by omega
  have eH : (1 : Int) + (Km : Int) = (Hm : Int) := by omega
  have wm1 : (1 : Int) ≤ (Wm : Int) := by omega
  have wm2 : (Wm : Int) ≤ 40 := by omega
  have hm1 : (1 : Int) ≤ (Hm : Int) := by omega
  have hm2 : (Hm : Int) ≤ 20 := by omega
  have EW := hide eW
  have EH := hide eH
  clear hWm hHm eW eH
  have WO2 := hide (Pt.whole_ok ⟨(Wm : Int), (Hm : Int), [(A, 0), (B, 0)], 0, 0⟩ OKV.out wm1 wm2 hm1 hm2)
  go_enter Tryd.func8, Tryd.ntmps8
  go_wp2_with fail
  refine OP.out.mono ?_
  rintro e w1 ⟨b, g, bt, gt, rfl, n1, n2, n3, f1, p1, t1⟩
  have R1 := hide (RoomPost.rm (((Fr.refl [] w).alloc _).alloc _) n1 n2 n3 f1 p1 t1)
  have BO := hide (((Blk.new w o.vals 23).alloc (.cells #[.int .i64 q.key, .int .i64 q.x, .int .i64 q.y, .int .i64 q.w, .int .i64 q.h, .int .i64 q.layer, .int .i64 q.style, .string q.text] 23)).fr0 f1)
  have BQ : Hid (Blk w1 (w.heap.size + 1) q.vals 23) := by
    have := (Blk.new (w.alloc (.cells #[.int .i64 o.key, .int .i64 o.x, .int .i64 o.y, .int .i64 o.w, .int .i64 o.h, .int .i64 o.layer, .int .i64 o.style, .string o.text] 23)) q.vals 23).fr0 f1
    rw [World.size_alloc] at this; exact this
  obtain ⟨oc0, oc1, oc2, oc3, oc4, oc5, oc6, oc7⟩ := BO.out.win
  have lt1 := BO.out.lt
  have RBG : Hid (w.heap.size ≤ w1.heap.size) := R1.out.f.size
  clear n1 n2 n3 f1 p1 t1 OP
  go_wp2_with fail
  refine (FO.out _).mono ?_
  rintro e w2 ⟨rfl, f2⟩
  have FX := ((Fr.refl [] w1).alloc (.cells #[.pointer (some ⟨b, 0, none⟩), .pointer (some ⟨bt, 0, none⟩), .int .i64 Wn, .int .i64 Hn] 27)).then f2
  have BR2 : Hid (Blk w2 w1.heap.size [.pointer (some ⟨b, 0, none⟩), .pointer (some ⟨bt, 0, none⟩), .int .i64 Wn, .int .i64 Hn] 27) := (Blk.new w1 _ _).fr0 f2
  have R2 := hide (R1.out.fr0 FX)
  have BQ2 := hide (BQ.out.fr0 FX)
  obtain ⟨qc0, qc1, qc2, qc3, qc4, qc5, qc6, qc7⟩ := BQ2.out.win
  have lt2 := BQ2.out.lt
  have lt2b := BR2.out.lt
  clear oc0 oc1 oc2 oc3 oc4 oc5 oc6 oc7 f2 FX R1 BQ BO
  go_wp2_with fail
  refine (FQ.out _).mono ?_
  rintro e w3 ⟨rfl, f3⟩
  have FX := ((Fr.refl [] w2).alloc (.cells #[.int .i64 A.key, .int .i64 A.x, .int .i64 A.y, .int .i64 A.w, .int .i64 A.h, .int .i64 A.layer, .int .i64 A.style, .string A.text] 23)).then f3
  have R3 := hide (R2.out.fr0 FX)
  have BR3 := hide (BR2.out.fr0 FX)
  have BA3 : Hid (Blk w3 w2.heap.size A.vals 23) := (Blk.new w2 _ _).fr0 f3
  obtain ⟨rc0, rc1, rc2, rc3⟩ := BR3.out.four
  obtain ⟨ac0, ac1, ac2, ac3, ac4, ac5, ac6, ac7⟩ := BA3.out.win
  have lt3 := BR3.out.lt
  have lt4 := BA3.out.lt
  clear qc0 qc1 qc2 qc3 qc4 qc5 qc6 qc7 f3 FX R2 BQ2 BR2 lt1 lt2 lt2b
  have FF : Hid (Fr [] w3 ((w3.alloc (.cells #[.int .i64 B.key, .int .i64 B.x, .int .i64 B.y, .int .i64 B.w, .int .i64 B.h, .int .i64 B.layer, .int .i64 B.style, .string B.text] 23)).alloc (.cells #[.int .i64 A.key, .int .i64 A.x, .int .i64 A.y, .int .i64 A.w, .int .i64 A.h, .int .i64 A.layer, .int .i64 A.style, .string A.text, .int .i64 B.key, .int .i64 B.x, .int .i64 B.y, .int .i64 B.w, .int .i64 B.h, .int .i64 B.layer, .int .i64 B.style, .string B.text] 23))) := ((Fr.refl _ _).alloc _).alloc _
  have WS : Hid (WinsAt ((w3.alloc (.cells #[.int .i64 B.key, .int .i64 B.x, .int .i64 B.y, .int .i64 B.w, .int .i64 B.h, .int .i64 B.layer, .int .i64 B.style, .string B.text] 23)).alloc (.cells #[.int .i64 A.key, .int .i64 A.x, .int .i64 A.y, .int .i64 A.w, .int .i64 A.h, .int .i64 A.layer, .int .i64 A.style, .string A.text, .int .i64 B.key, .int .i64 B.x, .int .i64 B.y, .int .i64 B.w, .int .i64 B.h, .int .i64 B.layer, .int .i64 B.style, .string B.text] 23)) (some ⟨w3.heap.size + 1, 0, none⟩) [A, B]) := by
    have := Blk.new (w3.alloc (.cells #[.int .i64 B.key, .int .i64 B.x, .int .i64 B.y, .int .i64 B.w, .int .i64 B.h, .int .i64 B.layer, .int .i64 B.style, .string B.text] 23)) (A.vals ++ B.vals) 23
    rw [World.size_alloc] at this
    exact wins_two this
  have R3F := hide (R3.out.fr0 FF.out)
  have BB3 := hide ((Blk.new w3 B.vals 23).alloc (.cells #[.int .i64 A.key, .int .i64 A.x, .int .i64 A.y, .int .i64 A.w, .int .i64 A.h, .int .i64 A.layer, .int .i64 A.style, .string A.text, .int .i64 B.key, .int .i64 B.x, .int .i64 B.y, .int .i64 B.w, .int .i64 B.h, .int .i64 B.layer, .int .i64 B.style, .string B.text] 23))
  have SH := hide (shows_yes _ b g _ bt gt _ R3F.out.r Wn Hn (some ⟨w3.heap.size + 1, 0, none⟩) [A, B] 2 2 WS.out rfl (by decide) TS.out EV.out)
  simp only [next_nil, List.map_cons, List.map_nil] at SH
  have SN := hide ((shown_new Wn Hn wn1 wn2 hn1 hn2).told ⟨Wn, Hn, [(A, 0), (B, 0)], 0, 0⟩ rfl rfl OKV.out)
  generalize (T.new Wn Hn).feed (Pt.told ⟨Wn, Hn, [], 0, 0⟩ ⟨Wn, Hn, [(A, 0), (B, 0)], 0, 0⟩) = t4 at *
  go_wp2_with fail
  refine SH.out.mono ?_
  rintro e w4 ⟨rfl, u4⟩
  obtain ⟨g4, gt4, R4, K4⟩ := R3F.out.upd u4
  have BR4 := hide (K4 _ _ _ (BR3.out.fr0 FF.out) (by decide) (by decide))
  have BA4 := hide (K4 _ _ _ (BA3.out.fr0 FF.out) (by decide) (by decide))
  have BB4 := hide (K4 _ _ _ BB3.out (by decide) (by decide))
  have R4H := hide R4
  clear u4 K4 R4 SH WS R3F BB3 FF R3 BR3 BA3 rc0 rc1 rc2 rc3 ac0 ac1 ac2 ac3 ac4 ac5 ac6 ac7 lt3 lt4
  generalize w1.heap.size = rb at *
  generalize w2.heap.size = ab at *
  generalize w3.heap.size = bb at *
  clear w1 w2 w3
  obtain ⟨rc0, rc1, rc2, rc3⟩ := BR4.out.four
  have rl := BR4.out.lt
  -- the noise
  have C5 := hide (cln_feed SN.out.cln R4H.out.r.t.ok (nums ns))
  have W5 := hide ((T.feed_WH (nums ns) t4).1.trans SN.out.w)
  have H5 := hide ((T.feed_WH (nums ns) t4).2.trans SN.out.h)
  have FD := hide (rfeeds_any Wn Hn ns w4 b g4 _ bt gt4 t4 R4H.out.r (by omega))
  generalize t4.feed (nums ns) = t5 at *
  go_wp2_with fail
  refine FD.out.mono ?_
  rintro e w5 ⟨rfl, u5⟩
  obtain ⟨g5, gt5, R5, K5⟩ := R4H.out.upd u5
  have BR5 := hide (K5 _ _ _ BR4.out (by decide) (by decide))
  have BA5 := hide (K5 _ _ _ BA4.out (by decide) (by decide))
  have BB5 := hide (K5 _ _ _ BB4.out (by decide) (by decide))
  have R5H := hide R5
  clear u5 K5 R5 FD R4H BR4 BA4 BB4 SN rc0 rc1 rc2 rc3 rl
  obtain ⟨rc0, rc1, rc2, rc3⟩ := BR5.out.four
  have rl := BR5.out.lt
  have RD := hide (predraw_any w5 b g5 _ R5H.out.r.p)
  go_wp2_with fail
  refine RD.out.mono ?_
  rintro e w6 ⟨rfl, f6⟩
  have R6 := hide (R5H.out.fr0 f6)
  have BR6 := hide (BR5.out.fr0 f6)
  have BA6 := hide (BA5.out.fr0 f6)
  have BB6 := hide (BB5.out.fr0 f6)
  clear f6 RD R5H BR5 BA5 BB5 rc0 rc1 rc2 rc3 rl
  obtain ⟨rc0, rc1, rc2, rc3⟩ := BR6.out.four
  have rl := BR6.out.lt
  have SN := hide (Shown.wholeT (m := ⟨Wn, Hn, [(A, 0), (B, 0)], 0, 0⟩) R6.out.r.t C5.out W5.out H5.out OKV.out)
  have FD := hide (rfeeds_any Wn Hn (strOfNums (Pt.whole ⟨Wn, Hn, [(A, 0), (B, 0)], 0, 0⟩)) w6 b g5 _ bt gt5 t5 R6.out.r (by rw [str_size]; have := WO1.out.2; omega))
  rw [nums_str _ WO1.out.1] at FD
  generalize t5.feed (Pt.whole ⟨Wn, Hn, [(A, 0), (B, 0)], 0, 0⟩) = t6 at *
  generalize Pt.whole ⟨Wn, Hn, [(A, 0), (B, 0)], 0, 0⟩ = wh1 at *
  go_wp2_with fail
  refine FD.out.mono ?_
  rintro e w7 ⟨rfl, u7⟩
  obtain ⟨g7, gt7, R7, K7⟩ := R6.out.upd u7
  have BR7 := hide (K7 _ _ _ BR6.out (by decide) (by decide))
  have BA7 := hide (K7 _ _ _ BA6.out (by decide) (by decide))
  have BB7 := hide (K7 _ _ _ BB6.out (by decide) (by decide))
  have R7H := hide R7
  clear u7 K7 R7 FD R6 BR6 BA6 BB6 C5 W5 H5 rc0 rc1 rc2 rc3 rl
  obtain ⟨rc0, rc1, rc2, rc3⟩ := BR7.out.four
  have rl := BR7.out.lt
  have AL := hide (alike_yes w7 b g7 _ bt gt7 _ R7H.out.r SN.out)
  go_wp2_with fail
  refine AL.out.mono ?_
  rintro e w8 ⟨rfl, f8⟩
  have R8 := hide (R7H.out.fr0 f8)
  have BR8 := hide (BR7.out.fr0 f8)
  have BA8 := hide (BA7.out.fr0 f8)
  have BB8 := hide (BB7.out.fr0 f8)
  clear f8 AL R7H BR7 BA7 BB7 rc0 rc1 rc2 rc3 rl
  obtain ⟨rc0, rc1, rc2, rc3⟩ := BR8.out.four
  have rl := BR8.out.lt
  have CO := hide SN.out.corner
  have CU := hide (cursor_any w8 bt gt7 t6 R8.out.r.t)
  rw [CO.out.1, CO.out.2.1, CO.out.2.2] at CU
  go_wp2_with fail
  refine CU.out.mono ?_
  rintro e w9 ⟨rfl, f9⟩
  have FX := f9.alloc (.cells #[.int .i64 0, .int .i64 0, .bool true] 53)
  have R9 := hide (R8.out.fr0 FX)
  have BR9 := hide (BR8.out.fr0 FX)
  have BA9 := hide (BA8.out.fr0 FX)
  have BB9 := hide (BB8.out.fr0 FX)
  have BU9 := hide (Blk.new w9 [.int .i64 0, .int .i64 0, .bool true] 53)
  have UG : Hid (w.heap.size ≤ w9.heap.size) := (R8.out.f.then f9).size
  have rl9 := (BR8.out.fr0 f9).lt
  obtain ⟨sc0, sc1, sc2, sc3⟩ := (BR8.out.fr0 f9).four
  clear f9 CU CO R8 BR8 BA8 BB8 rc0 rc1 rc2 rc3 rl FX
  have C10 := hide (cln_feed SN.out.cln R9.out.r.t.ok (nums ns))
  have FD := hide (rfeeds_any Wn Hn ns _ b g7 _ bt gt7 t6 R9.out.r (by omega))
  generalize t6.feed (nums ns) = t10 at *
  go_wp2_with fail
  refine FD.out.mono ?_
  rintro e w10 ⟨rfl, u10⟩
  obtain ⟨g10, gt10, R10, K10⟩ := R9.out.upd u10
  have BR10 := hide (K10 _ _ _ BR9.out (by decide) (by decide))
  have BA10 := hide (K10 _ _ _ BA9.out (by decide) (by decide))
  have BB10 := hide (K10 _ _ _ BB9.out (by decide) (by decide))
  have BU10 := hide (K10 _ _ _ BU9.out (by decide) (by decide))
  have R10H := hide R10
  clear u10 K10 R10 FD R9 BR9 BA9 BB9 BU9 SN sc0 sc1 sc2 sc3 rl9
  generalize w9.heap.size = ub at *
  clear w9
  obtain ⟨rc0, rc1, rc2, rc3⟩ := BR10.out.four
  have z2 := BR10.out.frozen 2
  have z3 := BR10.out.frozen 3
  have rl := BR10.out.lt
  go_wp2_with fail
  refine (PV.out _).mono ?_
  rintro e w' ⟨rfl, wc⟩
  subst wc
  go_wp2_with fail
  refine (PK.out _).mono ?_
  rintro e w' ⟨rfl, wc⟩
  subst wc
  have e1 := EW.out
  have e2 := EH.out
  have BS1 := BR10.out.set 2 (.int .i64 (Wm : Int))
  have BS2 : Blk ((w10.setCell ⟨rb, 2, none⟩ (.int .i64 (Wm : Int))).setCell ⟨rb, 3, none⟩ (.int .i64 (Hm : Int))) rb [.pointer (some ⟨b, 0, none⟩), .pointer (some ⟨bt, 0, none⟩), .int .i64 (Wm : Int), .int .i64 (Hm : Int)] 27 := BS1.set 3 _
  have R11 := hide ((R10H.out.set BR10.out (by decide) (by decide) RBG.out 2 (.int .i64 (Wm : Int))).set BS1 (by decide) (by decide) RBG.out 3 (.int .i64 (Hm : Int)))
  have BA11 : Hid (Blk ((w10.setCell ⟨rb, 2, none⟩ (.int .i64 (Wm : Int))).setCell ⟨rb, 3, none⟩ (.int .i64 (Hm : Int))) ab A.vals 23) := (BA10.out.setOther (p := ⟨rb, 2, none⟩) (BA10.out.ne BR10.out (by decide)) _).setOther (p := ⟨rb, 3, none⟩) (BA10.out.ne BR10.out (by decide)) _
  have BB11 : Hid (Blk ((w10.setCell ⟨rb, 2, none⟩ (.int .i64 (Wm : Int))).setCell ⟨rb, 3, none⟩ (.int .i64 (Hm : Int))) bb B.vals 23) := (BB10.out.setOther (p := ⟨rb, 2, none⟩) (BB10.out.ne BR10.out (by decide)) _).setOther (p := ⟨rb, 3, none⟩) (BB10.out.ne BR10.out (by decide)) _
  have BU11 : Hid (Blk ((w10.setCell ⟨rb, 2, none⟩ (.int .i64 (Wm : Int))).setCell ⟨rb, 3, none⟩ (.int .i64 (Hm : Int))) ub [.int .i64 0, .int .i64 0, .bool true] 53) := (BU10.out.setOther (p := ⟨rb, 2, none⟩) (BU10.out.ne BR10.out (by decide)) _).setOther (p := ⟨rb, 3, none⟩) (BU10.out.ne BR10.out (by decide)) _
  have BR11 := hide BS2
  clear BS1 BS2 R10H BR10 BA10 BB10 BU10
  go_wp2_with fail
  generalize (w10.setCell ⟨rb, 2, none⟩ (.int .i64 (Wm : Int))).setCell ⟨rb, 3, none⟩ (.int .i64 (Hm : Int)) = w11 at *
  clear rc0 rc1 rc2 rc3 z2 z3 rl
  refine (resize_yes (Wm : Int) (Hm : Int) w11 bt gt10 t10 R11.out.r.t wm1 wm2 hm1 hm2).mono ?_
  rintro e w12 ⟨rfl, u12⟩
  obtain ⟨g12, gt12, R12, K12⟩ := R11.out.upd (R11.out.r.term u12)
  have BR12 := hide (K12 _ _ _ BR11.out (by decide) (by decide))
  have BA12 := hide (K12 _ _ _ BA11.out (by decide) (by decide))
  have BB12 := hide (K12 _ _ _ BB11.out (by decide) (by decide))
  have BU12 := hide (K12 _ _ _ BU11.out (by decide) (by decide))
  have R12H := hide R12
  have C12 : Hid ((t10.resized (Wm : Int) (Hm : Int)).Cln) := C10.out
  have TW12 : Hid ((t10.resized (Wm : Int) (Hm : Int)).W = (Wm : Int)) := rfl
  have TH12 : Hid ((t10.resized (Wm : Int) (Hm : Int)).H = (Hm : Int)) := rfl
  generalize t10.resized (Wm : Int) (Hm : Int) = t12 at *
  clear u12 K12 R12 R11 BR11 BA11 BB11 BU11 C10
  obtain ⟨rc0, rc1, rc2, rc3⟩ := BR12.out.four
  have rl := BR12.out.lt
  have RZ := hide (presize_yes w12 b g12 _ R12H.out.r.p (Wm : Int) (Hm : Int) wm1 wm2 hm1 hm2)
  simp only [] at RZ
  generalize Pt.whole ⟨Wn, Hn, [(A, 0), (B, 0)], 0, 0⟩ = wh1 at *
  go_wp2_with fail
  refine RZ.out.mono ?_
  rintro e w13 ⟨rfl, u13⟩
  obtain ⟨g13, gt13, R13, K13⟩ := R12H.out.upd (R12H.out.r.painter u13)
  have BR13 := hide (K13 _ _ _ BR12.out (by decide) (by decide))
  have BA13 := hide (K13 _ _ _ BA12.out (by decide) (by decide))
  have BB13 := hide (K13 _ _ _ BB12.out (by decide) (by decide))
  have BU13 := hide (K13 _ _ _ BU12.out (by decide) (by decide))
  have R13H := hide R13
  clear u13 K13 R13 RZ R12H BR12 BA12 BB12 BU12 rc0 rc1 rc2 rc3 rl
  obtain ⟨rc0, rc1, rc2, rc3⟩ := BR13.out.four
  have rl := BR13.out.lt
  have SN := hide (Shown.wholeT (m := ⟨(Wm : Int), (Hm : Int), [(A, 0), (B, 0)], 0, 0⟩) R13H.out.r.t C12.out TW12.out TH12.out OKV.out)
  have FD := hide (rfeeds_any (Wm : Int) (Hm : Int) (strOfNums (Pt.whole ⟨(Wm : Int), (Hm : Int), [(A, 0), (B, 0)], 0, 0⟩)) w13 b g13 _ bt gt13 t12 R13H.out.r (by rw [str_size]; have := WO2.out.2; omega))
  rw [nums_str _ WO2.out.1] at FD
  generalize t12.feed (Pt.whole ⟨(Wm : Int), (Hm : Int), [(A, 0), (B, 0)], 0, 0⟩) = t14 at *
  generalize Pt.whole ⟨(Wm : Int), (Hm : Int), [(A, 0), (B, 0)], 0, 0⟩ = wh2 at *
  go_wp2_with fail
  refine FD.out.mono ?_
  rintro e w14 ⟨rfl, u14⟩
  obtain ⟨g14, gt14, R14, K14⟩ := R13H.out.upd u14
  have BR14 := hide (K14 _ _ _ BR13.out (by decide) (by decide))
  have BA14 := hide (K14 _ _ _ BA13.out (by decide) (by decide))
  have BB14 := hide (K14 _ _ _ BB13.out (by decide) (by decide))
  have BU14 := hide (K14 _ _ _ BU13.out (by decide) (by decide))
  have R14H := hide R14
  have CO := hide SN.out.corner
  have TW := hide SN.out.w
  have TH := hide SN.out.h
  have TC := hide SN.out.cells
  clear u14 K14 R14 FD R13H BR13 BA13 BB13 BU13 C12 TW12 TH12 SN rc0 rc1 rc2 rc3 rl
  have wm3 : Wm ≤ 40 := by omega
  go_wp2
  go_loopw [26] (fun i wr => ∃ y : Nat, i = .int .i64 y ∧ y ≤ Hm ∧ Fr [] w14 wr) (fun i _ => (3000 - intOf i).toNat)
  case atStart => exact ⟨0, rfl, by omega, Fr.refl _ _⟩
  case round =>
    obtain ⟨y, rfl, hy, f15⟩ := hrel
    have BR15 := hide (BR14.out.fr0 f15)
    have BA15 := BA14.out.fr0 f15
    have BB15 := BB14.out.fr0 f15
    have F15 := hide f15
    obtain ⟨mc0, mc1, mc2, mc3⟩ := BR15.out.four
    obtain ⟨cc0, cc1, cc2, cc3, cc4, cc5, cc6, cc7⟩ := BA15.win
    obtain ⟨dc0, dc1, dc2, dc3, dc4, dc5, dc6, dc7⟩ := BB15.win
    have l8 := BR15.out.lt
    clear BA15 BB15 f15
    by_cases hend : y < Hm
    · have b1 : (y : Int) < Hm := by omega
      go_wp2_with fail
      refine (looked_any A B Wm y wr OKA.out OKB.out wm3 (by omega) (by omega)).mono ?_
      rintro e w9 ⟨rfl, f9⟩
      have F9 := hide (F15.out.then f9)
      have BRm9 := BR15.out.fr0 f9
      clear mc0 mc1 mc2 mc3 cc0 cc1 cc2 cc3 cc4 cc5 cc6 cc7 dc0 dc1 dc2 dc3 dc4 dc5 dc6 dc7 l8 f9
      obtain ⟨nc0, nc1, nc2, nc3⟩ := BRm9.four
      have l9 := BRm9.lt
      have RD := hide (reads_yes y w9 bt gt14 t14 (R14H.out.fr0 F9.out).r.t (by omega) (by rw [TH.out]; exact b1) (strOfNums ((lookR A B Wm y).map (·.1))) (strOfNums ((lookR A B Wm y).map (·.2))) (by rw [TW.out, TC.out, ← RT.out y (by omega) b1]; rfl) (by rw [TW.out, TC.out, ← RT.out y (by omega) b1]; rfl))
      clear BRm9
      go_wp2_with fail
      refine RD.out.mono ?_
      rintro e w10 ⟨rfl, f10⟩
      have F10 := hide (F9.out.then f10)
      clear f10
      go_wp2
      go_roundw
      case rel => exact ⟨y + 1, by go_num, by omega, F10.out⟩
      case measure => simp [intOf]; omega
    · have b1 : ¬ (y : Int) < Hm := by omega
      have CU := hide (cursor_any wr bt gt14 t14 (R14H.out.fr0 F15.out).r.t)
      rw [CO.out.1, CO.out.2.1, CO.out.2.2] at CU
      go_wp2_with fail
      refine CU.out.mono ?_
      rintro e w9 ⟨rfl, f9⟩
      have F9 := hide (R14H.out.f.then (F15.out.then f9))
      have BU16 := BU14.out.fr0 (F15.out.then f9)
      have uc0 : w9.cell? ⟨ub, 0, none⟩ = some (.int .i64 0) := BU16.cell 0
      have uc1 : w9.cell? ⟨ub, 1, none⟩ = some (.int .i64 0) := BU16.cell 1
      have uc2 : w9.cell? ⟨ub, 2, none⟩ = some (.bool true) := BU16.cell 2
      have uz0 := BU16.frozen 0
      have uz1 := BU16.frozen 1
      have uz2 := BU16.frozen 2
      have ul := BU16.lt
      clear f9 BU16
      go_wp2
      go_ret
      exact ⟨rfl, ((F9.out.setCell (.inr UG.out) _).setCell (.inr UG.out) _).setCell (.inr UG.out) _⟩
end Go.Proofs.YtjhccghhinlmdaaDoor
/- A window as it comes in: its eight cells. -/
namespace Go.Proofs.YtjhccghhinlmdaaDoor
open Go.ChangeShapes Go.WideShapes Go.ChangeAt Go.RowKit Go.Deep

theorem laidOut' : laidOutB Tryd.prog = true := by kernel_rfl
theorem cells_window : Tryd.prog.cellsOf 23 = 8 := by kernel_rfl
theorem cells_int' : Tryd.prog.cellsOf 3 = 1 := by kernel_rfl
theorem cells_str' : Tryd.prog.cellsOf 9 = 1 := by kernel_rfl
theorem eight {α : Type} (l : List α) (h : l.length = 8) : ∃ a b c d e f g i, l = [a, b, c, d, e, f, g, i] := by
  match l, h with
  | [a, b, c, d, e, f, g, i], _ => exact ⟨a, b, c, d, e, f, g, i, rfl⟩
theorem int_bd {n : Int} (h : (Lit.int .i64 n).wf = true) : -9223372036854775808 ≤ n ∧ n ≤ 9223372036854775807 := by
  simpa [Lit.wf, IntKind.min, IntKind.max, IntKind.signed, IntKind.bits] using h

/-- a window whose numbers lie in the machine's range -/
structure Win.Wf (o : Win) : Prop where
  k : -9223372036854775808 ≤ o.key ∧ o.key ≤ 9223372036854775807
  x : -9223372036854775808 ≤ o.x ∧ o.x ≤ 9223372036854775807
  y : -9223372036854775808 ≤ o.y ∧ o.y ≤ 9223372036854775807
  w : -9223372036854775808 ≤ o.w ∧ o.w ≤ 9223372036854775807
  h : -9223372036854775808 ≤ o.h ∧ o.h ≤ 9223372036854775807
  l : -9223372036854775808 ≤ o.layer ∧ o.layer ≤ 9223372036854775807
  s : -9223372036854775808 ≤ o.style ∧ o.style ≤ 9223372036854775807

theorem win_cells {H : Type} {enc : TypeId × Value → H} {w : World} {spare : Nat → Bool} {held : Bool} {fuel : Nat} {cs : List Value} {y : DataW H × List MemPlace} (h : DataW.trod enc Tryd.prog w 0 spare held fuel 23 cs = some y) :
    ∃ o : Win, cs = o.vals ∧ o.Wf ∧ y.1 = .agg [.lit (.int .i64 o.key), .lit (.int .i64 o.x), .lit (.int .i64 o.y), .lit (.int .i64 o.w), .lit (.int .i64 o.h), .lit (.int .i64 o.layer), .lit (.int .i64 o.style), .lit (.string o.text.data.toList)] := by
  obtain ⟨xs, m, rfl, hy, hl, hxl, hf⟩ := DataW.trod_struct Tryd.underlying23 h
  rw [cells_window] at hl
  obtain ⟨c0, c1, c2, c3, c4, c5, c6, c7, rfl⟩ := eight cs hl
  obtain ⟨y0, y1, y2, y3, y4, y5, y6, y7, rfl⟩ := eight xs hxl
  have g0 := hf 0 _ rfl
  have g1 := hf 1 _ rfl
  have g2 := hf 2 _ rfl
  have g3 := hf 3 _ rfl
  have g4 := hf 4 _ rfl
  have g5 := hf 5 _ rfl
  have g6 := hf 6 _ rfl
  have g7 := hf 7 _ rfl
  simp [cells_int', cells_str'] at g0 g1 g2 g3 g4 g5 g6 g7
  obtain ⟨a0, e0, z0, w0⟩ := DataW.trod_int Tryd.underlying3 g0
  obtain ⟨a1, e1, z1, w1⟩ := DataW.trod_int Tryd.underlying3 g1
  obtain ⟨a2, e2, z2, w2⟩ := DataW.trod_int Tryd.underlying3 g2
  obtain ⟨a3, e3, z3, w3⟩ := DataW.trod_int Tryd.underlying3 g3
  obtain ⟨a4, e4, z4, w4⟩ := DataW.trod_int Tryd.underlying3 g4
  obtain ⟨a5, e5, z5, w5⟩ := DataW.trod_int Tryd.underlying3 g5
  obtain ⟨a6, e6, z6, w6⟩ := DataW.trod_int Tryd.underlying3 g6
  obtain ⟨s, e7, z7, _⟩ := DataW.trod_string Tryd.underlying9 g7
  simp only [List.cons.injEq, and_true] at e0 e1 e2 e3 e4 e5 e6 e7
  subst e0 e1 e2 e3 e4 e5 e6 e7
  refine ⟨⟨a0, a1, a2, a3, a4, a5, a6, s⟩, rfl, ⟨int_bd w0, int_bd w1, int_bd w2, int_bd w3, int_bd w4, int_bd w5, int_bd w6⟩, ?_⟩
  rw [hy, z0, z1, z2, z3, z4, z5, z6, z7]
  rfl
/-- the text of a window that comes in by value -/
theorem sized_win {H : Type} {ts : List TypeId} {ds : List (DataW H)} (h : (DataW.weightsEach Tryd.prog ts ds).all (· ≤ reachBytes) = true) {j : Nat} {o : Win} (ht : ts[j]? = some 23)
    (hd : ds[j]? = some (.agg [.lit (.int .i64 o.key), .lit (.int .i64 o.x), .lit (.int .i64 o.y), .lit (.int .i64 o.w), .lit (.int .i64 o.h), .lit (.int .i64 o.layer), .lit (.int .i64 o.style), .lit (.string o.text.data.toList)])) : o.text.size ≤ 140737488351232 := by
  have := List.all_eq_true.1 h _ (DataW.weights_mem_each ht hd o.text.data.toList.length (by simp [DataW.weights, Tryd.underlying23, DataW.weightsEach]))
  have h2 : o.text.data.toList.length ≤ reachBytes := by simpa using this
  rw [Array.length_toList] at h2
  exact h2
set_option maxRecDepth 100000 in
/-- a window by value -/
theorem win_arg {H : Type} {enc : TypeId × Value → H} {w : World} {base : Nat} {r : Reach} {v : Value} {d : DataW H} {p : List MemPlace} (hok : Value.okWide Tryd.prog w r base 23 v) (h : DataW.Trod enc Tryd.prog w 0 (fun _ => true) true 23 v d p) :
    ∃ o : Win, v = .agg #[.int .i64 o.key, .int .i64 o.x, .int .i64 o.y, .int .i64 o.w, .int .i64 o.h, .int .i64 o.layer, .int .i64 o.style, .string o.text] ∧ o.Wf ∧ d = .agg [.lit (.int .i64 o.key), .lit (.int .i64 o.x), .lit (.int .i64 o.y), .lit (.int .i64 o.w), .lit (.int .i64 o.h), .lit (.int .i64 o.layer), .lit (.int .i64 o.style), .lit (.string o.text.data.toList)] := by
  obtain ⟨cs, rfl, _⟩ := okWide_struct Tryd.underlying23 hok
  obtain ⟨fuel, hf⟩ := h
  obtain ⟨o, h1, h2, h3⟩ := win_cells hf
  refine ⟨o, ?_, h2, h3⟩
  have : cs.toList = o.vals := by simpa [Value.cells] using h1
  congr 1
  rw [← Array.toArray_toList (xs := cs), this]
  rfl
end Go.Proofs.YtjhccghhinlmdaaDoor
/- What the rows that list tables share: the witness's window, the frame of a card. -/
namespace Go.Proofs.YtjhccghhinlmdaaDoor
open Go.ChangeShapes Go.WideShapes Go.ChangeAt Go.RowKit Go.Deep

/-- a window of noughts -/
def zeroWin : Value := .agg #[.int .i64 0, .int .i64 0, .int .i64 0, .int .i64 0, .int .i64 0, .int .i64 0, .int .i64 0, .string ByteArray.empty]
def zeroD {H : Type} : DataW H := .agg [.lit (.int .i64 0), .lit (.int .i64 0), .lit (.int .i64 0), .lit (.int .i64 0), .lit (.int .i64 0), .lit (.int .i64 0), .lit (.int .i64 0), .lit (.string [])]
theorem in_of {o : Win} (h : o.Wf) (ht : o.text.size ≤ 140737488351232) : o.In :=
  ⟨h.x.1, h.x.2, h.y.1, h.y.2, h.w.1, h.w.2, h.h.1, h.h.2, h.l.1, h.l.2, h.s.1, h.s.2, by omega⟩
theorem noStandIn (l : List TypeId) (hall : (l.all fun u => !Tryd.prog.wantsStandIn u) = true) (t : TypeId) (hm : t ∈ l) : Tryd.prog.wantsStandIn t = false := by
  simpa using List.all_eq_true.1 hall t hm
end Go.Proofs.YtjhccghhinlmdaaDoor
namespace Go.Proofs.YtjhccghhinlmdaaDoor.restored
open Go.ChangeShapes Go.WideShapes Go.ChangeAt Go.RowKit Go.Deep

theorem own : ownKnob Tryd.prog.godebug = none := by kernel_rfl

set_option maxRecDepth 100000 in
theorem contract (H : Type) (enc : TypeId × Value → H) (W : World) (base : Nat) (args : Array Value) (ds gs : List (DataW H)) (before : List MemPlace)
    (hval : ∀ (j : Nat) t v, Tryd.f8.params[j]? = some t → args[j]? = some v → Value.okWide Tryd.prog W .any base t v)
    (hW : DataW.Whole enc Tryd.prog Tryd.f8.params.toList Rows.restoredSpec.vars false W args.toList ds gs before)
    (hsz : (DataW.weightsEach Tryd.prog (Tryd.f8.params.toList ++ Rows.restoredSpec.plain.varTypes Tryd.prog) (ds ++ gs)).all (· ≤ reachBytes) = true) :
    Calls Tryd.prog 8 args W fun e W' => ∃ v, e = .returned v ∧ Rows.restoredSpec.post enc Tryd.prog Tryd.f8 false true false false W args v W' := by
  have hW' := hW
  obtain ⟨p, q, hA0, hV, rfl, hfz, hnd⟩ := hW
  have hA : DataW.TrodAll enc Tryd.prog W 0 (fun _ => true) true Tryd.f8.params.toList args.toList ds p := hA0
  rw [Tryd.params8] at hA hval hsz
  obtain ⟨v0, vs0, d0, ds0, p0, q0, hargs, rfl, rfl, h0, r0⟩ := trodAll_cons hA
  obtain ⟨v1, vs1, d1, ds1, p1, q1, rfl, rfl, rfl, h1, r1⟩ := trodAll_cons r0
  obtain ⟨v2, vs2, d2, ds2, p2, q2, rfl, rfl, rfl, h2, r2⟩ := trodAll_cons r1
  obtain ⟨v3, vs3, d3, ds3, p3, q3, rfl, rfl, rfl, h3, r3⟩ := trodAll_cons r2
  obtain ⟨v4, vs4, d4, ds4, p4, q4, rfl, rfl, rfl, h4, r4⟩ := trodAll_cons r3
  obtain ⟨v5, vs5, d5, ds5, p5, q5, rfl, rfl, rfl, h5, r5⟩ := trodAll_cons r4
  obtain ⟨v6, vs6, d6, ds6, p6, q6, rfl, rfl, rfl, h6, r6⟩ := trodAll_cons r5
  obtain ⟨rfl, rfl, rfl⟩ := trodAll_nil r6
  obtain rfl : args = #[v0, v1, v2, v3, v4, v5, v6] := by cases args; simp_all
  obtain ⟨rfl, rfl⟩ := trodVars_none hV
  have k2 := h2
  have k3 := h3
  simp only [List.append_nil] at hW'
  have hlt : ∀ x ∈ p0 ++ (p1 ++ (p2 ++ (p3 ++ (p4 ++ (p5 ++ (p6)))))), x.block < W.heap.size := fun x hx => by simpa using hW'.lt x (by simpa using hx)
  obtain ⟨a0, rfl, rfl, rfl, w0⟩ := open_int Tryd.underlying3 (hval 0 3 v0 rfl rfl) h0
  obtain ⟨a1, rfl, rfl, rfl, w1⟩ := open_int Tryd.underlying3 (hval 1 3 v1 rfl rfl) h1
  obtain ⟨o2, rfl, w2, rfl⟩ := win_arg (hval 2 23 v2 rfl rfl) h2
  obtain ⟨o3, rfl, w3, rfl⟩ := win_arg (hval 3 23 v3 rfl rfl) h3
  obtain ⟨a4, rfl, rfl, rfl, w4⟩ := Go.ChangeMaps.open_string Tryd.underlying9 (hval 4 9 v4 rfl rfl) h4
  obtain ⟨a5, rfl, rfl, rfl, w5⟩ := open_int Tryd.underlying3 (hval 5 3 v5 rfl rfl) h5
  obtain ⟨a6, rfl, rfl, rfl, w6⟩ := open_int Tryd.underlying3 (hval 6 3 v6 rfl rfl) h6
  have s2 := sized_win (o := o2) hsz (j := 2) rfl rfl
  have s3 := sized_win (o := o3) hsz (j := 3) rfl rfl
  have s4 : a4.size ≤ 140737488351232 := by
    have h : a4.data.toList.length ≤ 140737488351232 := sized_string hsz (j := 4) (t := 9) rfl rfl
    rw [Array.length_toList] at h
    exact h
  clear hA0 hsz
  have b0 := int_bd w0
  have b1 := int_bd w1
  have b5 := int_bd w5
  have b6 := int_bd w6
  refine (restored_any a0 a1 o2 o3 a4 a5 a6 W (in_of w2 s2) (in_of w3 s3) s4 b0.1 b0.2 b1.1 b1.2 b5.1 b5.2 b6.1 b6.2).mono fun e W' ⟨he, hg⟩ => ?_
  subst he
  have hb := hg.below (B := W.heap.size) (Nat.le_refl _) (by simp)
  exact ⟨_, rfl, _, _, _, [], _, [], hW', trodAll_cons_mk (shut_bool Tryd.underlying4 _) trodAll_mk0,
    trodAll_cons_mk (shut_int Tryd.underlying3 w0) (trodAll_cons_mk (shut_int Tryd.underlying3 w1) (trodAll_cons_mk (Below.trod laidOut' (by kernel_rfl) (of_decide_eq_true (by kernel_rfl)) k2 hb (fun x hx => hlt x (by simp [hx]))) (trodAll_cons_mk (Below.trod laidOut' (by kernel_rfl) (of_decide_eq_true (by kernel_rfl)) k3 hb (fun x hx => hlt x (by simp [hx]))) (trodAll_cons_mk (Go.ChangeMaps.shut_string Tryd.underlying9 w4) (trodAll_cons_mk (shut_int Tryd.underlying3 w5) (trodAll_cons_mk (shut_int Tryd.underlying3 w6) trodAll_mk0)))))), rfl, hb.frame _, fun h => by cases h⟩

theorem laid_met (os : Os) : laidMet Tryd.prog Rows.restoredRow.laid ((World.doorLaid Tryd.prog 400 os).forCall (fun _ _ => 0) ⟨#[], #[.int .i64 0, .int .i64 0, zeroWin, zeroWin, .string ByteArray.empty, .int .i64 0, .int .i64 0], []⟩).memory :=
  laidMet_of_run' 8 (by kernel_rfl) (by kernel_rfl)
theorem reads (os : Os) {H : Type} (enc : TypeId × Value → H) : ∃ places, DataW.whole enc Tryd.prog ((World.doorLaid Tryd.prog 400 os).forCall (fun _ _ => 0) ⟨#[], #[.int .i64 0, .int .i64 0, zeroWin, zeroWin, .string ByteArray.empty, .int .i64 0, .int .i64 0], []⟩).memory Tryd.f8.params.toList Rows.restoredSpec.vars false #[Value.int .i64 0, .int .i64 0, zeroWin, zeroWin, .string ByteArray.empty, .int .i64 0, .int .i64 0].toList 8 = some ([.lit (.int .i64 0), .lit (.int .i64 0), zeroD, zeroD, .lit (.string []), .lit (.int .i64 0), .lit (.int .i64 0)], [], places) :=
  ⟨[], by kernel_rfl⟩

set_option maxRecDepth 100000 in
theorem lifted (os : Os) (started : os.Started) (H : Type) (enc : TypeId × Value → H) (F : Stop.Interp) :
    ReturnsInHanded {} Tryd.checked os 8 .any ((OpenSpec.ofChange Rows.restoredSpec).preRow enc Tryd.prog Tryd.f8 Rows.restoredRow.domain false Rows.restoredRow.laid) (((OpenSpec.ofChange Rows.restoredSpec).at F).post enc Tryd.prog Tryd.f8 false true false false) := by
  obtain ⟨places, hx⟩ := reads os enc
  refine returnsInHanded_of_row (C := Tryd.checked) (s := OpenSpec.ofChange Rows.restoredSpec) own started (by kernel_rfl) Tryd.func8
    (witness_row_at (enc := enc) (C := Tryd.checked) false (World.doorLaid Tryd.prog 400 os) #[.int .i64 0, .int .i64 0, zeroWin, zeroWin, .string ByteArray.empty, .int .i64 0, .int .i64 0] rfl (by kernel_rfl) (by kernel_rfl) (by kernel_rfl)
      (OpenSpec.preRow_of_cond 8 hx (by kernel_rfl) (fun k hk => by cases hk) (by kernel_rfl) (laid_met os))) ?_
  intro W base args ds gs before hval hW _ _ hsz _ _ _
  exact contract H enc W base args ds gs before hval hW hsz

theorem said : Rows.RestoredSaid :=
  OpenClaim.holds_of_cond 8 Tryd.f8 rfl rfl rfl rfl rfl rfl rfl ⟨rfl, rfl, rfl, rfl, rfl⟩ rfl rfl rfl rfl rfl (by kernel_rfl) Tryd.func8 (by kernel_rfl)
    (of_decide_eq_true (by kernel_rfl)) (by unfold Func.isWrapper; first | (rw [if_pos (by decide +kernel)]; kernel_rfl) | (rw [if_neg (by decide +kernel)]; exact ⟨rfl, rfl⟩))
    (fun os started H enc _ F => by rw [OpenClaim.pre_eq_preRow]; exact lifted os started H enc F)

theorem plain (f : FuncId) (fn : Func) (hf : Tryd.pinned.checked.prog.funcNamed "repaint/repaintkeep.Restored" = some f) (hfn : Tryd.pinned.checked.prog.funcs[f]? = some fn) :
    false = Tryd.pinned.checked.prog.looks [] ∧ ∀ (j : Nat) t, fn.params[j]? = some t → Tryd.pinned.checked.prog.wantsStandIn t = false := by
  obtain rfl : f = 8 := Option.some.inj ((show Tryd.prog.funcNamed "repaint/repaintkeep.Restored" = some 8 by kernel_rfl).symm.trans hf) |>.symm
  obtain rfl : fn = Tryd.f8 := (Option.some.inj (Tryd.func8.symm.trans hfn)).symm
  refine ⟨by kernel_rfl, fun j t ht => ?_⟩
  rw [Tryd.params8] at ht
  exact noStandIn [3, 3, 23, 23, 9, 3, 3] (by kernel_rfl) t (by simpa using Array.mem_of_getElem? ht)

theorem card : Rows.RestoredCardSaid :=
  Claim7.holds_tied_plain_at .later [] _ _ _ _ said (fun _ h => by cases h) (by kernel_rfl) (fun _ h => by cases h) restored_row_tie rfl ⟨rfl, rfl⟩ (by kernel_rfl) rfl plain (by kernel_rfl)
end Go.Proofs.YtjhccghhinlmdaaDoor.restored
namespace Go.Proofs.YtjhccghhinlmdaaDoor
theorem restored_holds : Rows.RestoredCardSaid := restored.card
#print axioms restored_holds
end Go.Proofs.YtjhccghhinlmdaaDoor
