/- PROVED: repaintkeep.Told answers true for every width, height and four windows, and leaves its arguments as they were; no condition beyond the form's own reach, and that the tables of Go's library that the row lists hold what the program's text lays (the card ties them). -/
import Derived.Test.YtjhccghhinlmdaaDoorKeepRM
import Derived.Test.YtjhccghhinlmdaaDoorSamePure
import Derived.Test.YtjhccghhinlmdaaDoorPaintCheck
import Derived.ProofKit
import Derived.OpenShut
import Derived.ShutString
import Derived.SizedLaws
import Derived.Deep.Slices
import Derived.Test.YtjhccghhinlmdaaDoorRows
import Derived.Test.YtjhccghhinlmdaaDoorFrontsWalk
import Derived.Deep.DeepHandedRow
import Derived.SevenTiedAt
import Derived.LaidMore
import Derived.Test.YtjhccghhinlmdaaDoorCards
import Derived.Test.YtjhccghhinlmdaaDoorTie
/- Told walked: the bytes of two views, one behind the other, show the second on the program's own terminal. -/
namespace Go.Proofs.YtjhccghhinlmdaaDoor
open Go.RowKit

/-- the view of two windows, behind one of two others -/
theorem next_over (a b c d : Win) : V.next [(a, 0), (b, 0)] [c, d] = [(c, 0), (d, 0)] := by
  have h : ∀ k : Int, V.offOf [(a, 0), (b, 0)] k = 0 := by
    intro k; simp only [V.offOf]; split <;> (try rfl); split <;> rfl
  simp [V.next, h, fits_zero]
theorem cur_corner (W H : Int) (v : V) (w1 : 1 ≤ W) (h1 : 1 ≤ H) : Pt.cur ⟨W, H, v, 0, 0⟩ = ⟨0, 0, true⟩ := by
  have on : Pt.on ⟨W, H, v, 0, 0⟩ = true := by simp [Pt.on]; omega
  simp [Pt.cur, on]
/-- the cursor in the corner -/
theorem Shown.corner {t : T} {W H : Int} {v : V} (h : Shown t ⟨W, H, v, 0, 0⟩) : t.x = 0 ∧ t.y = 0 ∧ t.shown = true := by
  have e := cur_corner W H v h.w1 h.h1
  have h1 := h.at'
  have h2 := h.shown
  rw [e] at h1 h2
  exact ⟨(h1 rfl).1, (h1 rfl).2.1, h2⟩
theorem ok_two {a b : Win} (h : errV [a, b] = 0) : V.Ok [(a, 0), (b, 0)] := by
  have := V.ok_next [] h
  rw [next_nil] at this; exact this

set_option maxHeartbeats 8000000 in
set_option maxRecDepth 100000 in
theorem told_any (a c : Int) (o q r s : Win) (w : World) (ho : o.In) (hq : q.In) (hr : r.In) (hs : s.In) (a1 : -9223372036854775808 ≤ a) (a2 : a ≤ 9223372036854775807) (c1 : -9223372036854775808 ≤ c) (c2 : c ≤ 9223372036854775807) :
    Calls Tryd.prog 6 #[.int .i64 a, .int .i64 c, .agg #[.int .i64 o.key, .int .i64 o.x, .int .i64 o.y, .int .i64 o.w, .int .i64 o.h, .int .i64 o.layer, .int .i64 o.style, .string o.text], .agg #[.int .i64 q.key, .int .i64 q.x, .int .i64 q.y, .int .i64 q.w, .int .i64 q.h, .int .i64 q.layer, .int .i64 q.style, .string q.text], .agg #[.int .i64 r.key, .int .i64 r.x, .int .i64 r.y, .int .i64 r.w, .int .i64 r.h, .int .i64 r.layer, .int .i64 r.style, .string r.text], .agg #[.int .i64 s.key, .int .i64 s.x, .int .i64 s.y, .int .i64 s.w, .int .i64 s.h, .int .i64 s.layer, .int .i64 s.style, .string s.text]] w fun e w' => e = .returned (.bool true) ∧ Fr [] w w' := by
  have OP := hide (opened_any a c ((((w.alloc (.cells #[.int .i64 o.key, .int .i64 o.x, .int .i64 o.y, .int .i64 o.w, .int .i64 o.h, .int .i64 o.layer, .int .i64 o.style, .string o.text] 23)).alloc (.cells #[.int .i64 q.key, .int .i64 q.x, .int .i64 q.y, .int .i64 q.w, .int .i64 q.h, .int .i64 q.layer, .int .i64 q.style, .string q.text] 23)).alloc (.cells #[.int .i64 r.key, .int .i64 r.x, .int .i64 r.y, .int .i64 r.w, .int .i64 r.h, .int .i64 r.layer, .int .i64 r.style, .string r.text] 23)).alloc (.cells #[.int .i64 s.key, .int .i64 s.x, .int .i64 s.y, .int .i64 s.w, .int .i64 s.h, .int .i64 s.layer, .int .i64 s.style, .string s.text] 23)) a1 a2 c1 c2)
  have pw := pickI_bd a 40 (by decide)
  have ph := pickI_bd c 20 (by decide)
  obtain ⟨Wn, hWn⟩ := Int.eq_ofNat_of_zero_le (show 0 ≤ 1 + pickI a 40 by omega)
  obtain ⟨Hn, hHn⟩ := Int.eq_ofNat_of_zero_le (show 0 ≤ 1 + pickI c 20 by omega)
  have wn1 : 1 ≤ Wn := by omega
  have wn2 : Wn ≤ 40 := by omega
  have hn1 : 1 ≤ Hn := by omega
  have hn2 : Hn ≤ 20 := by omega
  rw [hWn, hHn] at OP
  clear hWn hHn pw ph
  have FO := hide (fun w' => fit_in o 1 w' ho)
  have FQ := hide (fun w' => fit_in q 2 w' hq)
  have FR := hide (fun w' => fit_in r 2 w' hr)
  have FS := hide (fun w' => fit_in s 3 w' hs)
  have oka := fitW_ok o 1 (by decide) (by decide)
  have okb := fitW_ok q 2 (by decide) (by decide)
  have okc := fitW_ok r 2 (by decide) (by decide)
  have okd := fitW_ok s 3 (by decide) (by decide)
  have plc : ∀ k, k < (fitW r 2).text.size → byteAt (fitW r 2).text k ≠ 10 := fun k hk => fitT_plain r.text k hk
  have pld : ∀ k, k < (fitW s 3).text.size → byteAt (fitW s 3).text k ≠ 10 := fun k hk => fitT_plain s.text k hk
  have k1 : (fitW o 1).key ≠ (fitW q 2).key := by show (1 : Int) ≠ 2; decide
  have k2 : (fitW r 2).key ≠ (fitW s 3).key := by show (2 : Int) ≠ 3; decide
  generalize fitW o 1 = A at *
  generalize fitW q 2 = B at *
  generalize fitW r 2 = C at *
  generalize fitW s 3 = D at *
  have EV1 := hide (errV_two A B oka okb k1)
  have EV2 := hide (errV_two C D okc okd k2)
  have OKC := hide okc
  have OKD := hide okd
  have RT := hide (fun y hy hy2 => row_two C D okc okd plc pld Wn Hn y hy hy2)
  have TS1 : Hid (∀ x ∈ [A, B], x.text.size ≤ 9223372036854775807) := by
    intro x hx; simp at hx; rcases hx with rfl | rfl
    · have := oka.t; omega
    · have := okb.t; omega
  have TS2 : Hid (∀ x ∈ [C, D], x.text.size ≤ 9223372036854775807) := by
    intro x hx; simp at hx; rcases hx with rfl | rfl
    · have := okc.t; omega
    · have := okd.t; omega
  clear plc pld k1 k2 ho hq hr hs oka okb okc okd
  have iw1 : (1 : Int) ≤ (Wn : Int) := by omega
  have iw2 : (Wn : Int) ≤ 40 := by omega
  have ih1 : (1 : Int) ≤ (Hn : Int) := by omega
  have ih2 : (Hn : Int) ≤ 20 := by omega
  go_enter Tryd.func6, Tryd.ntmps6
  go_wp2_with fail
  refine OP.out.mono ?_
  rintro e w1 ⟨b, g, bt, gt, rfl, n1, n2, n3, f1, p1, t1⟩
  have R1 := hide (RoomPost.rm (((((Fr.refl [] w).alloc _).alloc _).alloc _).alloc _) n1 n2 n3 f1 p1 t1)
  have BO1 : Blk w1 w.heap.size o.vals 23 := ((((Blk.new w o.vals 23).alloc (.cells #[.int .i64 q.key, .int .i64 q.x, .int .i64 q.y, .int .i64 q.w, .int .i64 q.h, .int .i64 q.layer, .int .i64 q.style, .string q.text] 23)).alloc (.cells #[.int .i64 r.key, .int .i64 r.x, .int .i64 r.y, .int .i64 r.w, .int .i64 r.h, .int .i64 r.layer, .int .i64 r.style, .string r.text] 23)).alloc (.cells #[.int .i64 s.key, .int .i64 s.x, .int .i64 s.y, .int .i64 s.w, .int .i64 s.h, .int .i64 s.layer, .int .i64 s.style, .string s.text] 23)).fr0 f1
  have BQ1 : Blk w1 (w.heap.size + 1) q.vals 23 := by
    have := (((Blk.new (w.alloc (.cells #[.int .i64 o.key, .int .i64 o.x, .int .i64 o.y, .int .i64 o.w, .int .i64 o.h, .int .i64 o.layer, .int .i64 o.style, .string o.text] 23)) q.vals 23).alloc (.cells #[.int .i64 r.key, .int .i64 r.x, .int .i64 r.y, .int .i64 r.w, .int .i64 r.h, .int .i64 r.layer, .int .i64 r.style, .string r.text] 23)).alloc (.cells #[.int .i64 s.key, .int .i64 s.x, .int .i64 s.y, .int .i64 s.w, .int .i64 s.h, .int .i64 s.layer, .int .i64 s.style, .string s.text] 23)).fr0 f1
    rw [World.size_alloc] at this; exact this
  have BR1 : Blk w1 (w.heap.size + 1 + 1) r.vals 23 := by
    have := ((Blk.new ((w.alloc (.cells #[.int .i64 o.key, .int .i64 o.x, .int .i64 o.y, .int .i64 o.w, .int .i64 o.h, .int .i64 o.layer, .int .i64 o.style, .string o.text] 23)).alloc (.cells #[.int .i64 q.key, .int .i64 q.x, .int .i64 q.y, .int .i64 q.w, .int .i64 q.h, .int .i64 q.layer, .int .i64 q.style, .string q.text] 23)) r.vals 23).alloc (.cells #[.int .i64 s.key, .int .i64 s.x, .int .i64 s.y, .int .i64 s.w, .int .i64 s.h, .int .i64 s.layer, .int .i64 s.style, .string s.text] 23)).fr0 f1
    rw [World.size_alloc, World.size_alloc] at this; exact this
  have BS1 : Blk w1 (w.heap.size + 1 + 1 + 1) s.vals 23 := by
    have := (Blk.new (((w.alloc (.cells #[.int .i64 o.key, .int .i64 o.x, .int .i64 o.y, .int .i64 o.w, .int .i64 o.h, .int .i64 o.layer, .int .i64 o.style, .string o.text] 23)).alloc (.cells #[.int .i64 q.key, .int .i64 q.x, .int .i64 q.y, .int .i64 q.w, .int .i64 q.h, .int .i64 q.layer, .int .i64 q.style, .string q.text] 23)).alloc (.cells #[.int .i64 r.key, .int .i64 r.x, .int .i64 r.y, .int .i64 r.w, .int .i64 r.h, .int .i64 r.layer, .int .i64 r.style, .string r.text] 23)) s.vals 23).fr0 f1
    rw [World.size_alloc, World.size_alloc, World.size_alloc] at this; exact this
  have FX : Hid (Fr [] w1 (w1.alloc (.cells #[.pointer (some ⟨b, 0, none⟩), .pointer (some ⟨bt, 0, none⟩), .int .i64 (Wn : Int), .int .i64 (Hn : Int)] 27))) := (Fr.refl _ _).alloc _
  have BRm := hide (Blk.new w1 [.pointer (some ⟨b, 0, none⟩), .pointer (some ⟨bt, 0, none⟩), .int .i64 (Wn : Int), .int .i64 (Hn : Int)] 27)
  have BO := hide (BO1.fr0 FX.out)
  have BQ := hide (BQ1.fr0 FX.out)
  have BR := hide (BR1.fr0 FX.out)
  have BS := hide (BS1.fr0 FX.out)
  have R2 := hide (R1.out.fr0 FX.out)
  clear n1 n2 n3 f1 p1 t1 OP BO1 BQ1 BR1 BS1 R1 FX
  go_wp2
  generalize w1.alloc (.cells #[.pointer (some ⟨b, 0, none⟩), .pointer (some ⟨bt, 0, none⟩), .int .i64 (Wn : Int), .int .i64 (Hn : Int)] 27) = wa at *
  generalize w1.heap.size = rb at *
  generalize w.heap.size + 1 + 1 + 1 = sb at *
  generalize w.heap.size + 1 + 1 = rrb at *
  generalize w.heap.size + 1 = qb at *
  generalize w.heap.size = ob at *
  have SC : Hid (∀ w', Blk w' rb [.pointer (some ⟨b, 0, none⟩), .pointer (some ⟨bt, 0, none⟩), .int .i64 (Wn : Int), .int .i64 (Hn : Int)] 27 → Blk w' ob o.vals 23 → Blk w' qb q.vals 23 → w'.cell? ⟨rb, 0, none⟩ = some (.pointer (some ⟨b, 0, none⟩)) ∧ w'.cell? ⟨rb, 1, none⟩ = some (.pointer (some ⟨bt, 0, none⟩)) ∧ w'.cell? ⟨rb, 2, none⟩ = some (.int .i64 (Wn : Int)) ∧ w'.cell? ⟨rb, 3, none⟩ = some (.int .i64 (Hn : Int)) ∧ w'.cell? ⟨ob, 0, none⟩ = some (.int .i64 o.key) ∧ w'.cell? ⟨ob, 1, none⟩ = some (.int .i64 o.x) ∧ w'.cell? ⟨ob, 2, none⟩ = some (.int .i64 o.y) ∧ w'.cell? ⟨ob, 3, none⟩ = some (.int .i64 o.w) ∧ w'.cell? ⟨ob, 4, none⟩ = some (.int .i64 o.h) ∧ w'.cell? ⟨ob, 5, none⟩ = some (.int .i64 o.layer) ∧ w'.cell? ⟨ob, 6, none⟩ = some (.int .i64 o.style) ∧ w'.cell? ⟨ob, 7, none⟩ = some (.string o.text) ∧ w'.cell? ⟨qb, 0, none⟩ = some (.int .i64 q.key) ∧ w'.cell? ⟨qb, 1, none⟩ = some (.int .i64 q.x) ∧ w'.cell? ⟨qb, 2, none⟩ = some (.int .i64 q.y) ∧ w'.cell? ⟨qb, 3, none⟩ = some (.int .i64 q.w) ∧ w'.cell? ⟨qb, 4, none⟩ = some (.int .i64 q.h) ∧ w'.cell? ⟨qb, 5, none⟩ = some (.int .i64 q.layer) ∧ w'.cell? ⟨qb, 6, none⟩ = some (.int .i64 q.style) ∧ w'.cell? ⟨qb, 7, none⟩ = some (.string q.text)) := by
    intro w' h1 h2 h3
    obtain ⟨i0, i1, i2, i3⟩ := h1.four
    obtain ⟨j0, j1, j2, j3, j4, j5, j6, j7⟩ := h2.win
    obtain ⟨k0, k1, k2, k3, k4, k5, k6, k7⟩ := h3.win
    exact ⟨i0, i1, i2, i3, j0, j1, j2, j3, j4, j5, j6, j7, k0, k1, k2, k3, k4, k5, k6, k7⟩
  obtain ⟨ka0, ka1, ka2, ka3, ka4, ka5, ka6, ka7, ka8, ka9, ka10, ka11, ka12, ka13, ka14, ka15, ka16, ka17, ka18, ka19⟩ := SC.out wa BRm.out BO.out BQ.out
  have la1 := BRm.out.lt
  have la2 := BO.out.lt
  have la3 := BQ.out.lt
  have SH : Hid (∀ w' lb, Fr [] wa w' → WinsAt w' (some ⟨lb, 0, none⟩) [A, B] → Calls Tryd.prog 16 #[.agg #[.pointer (some ⟨b, 0, none⟩), .pointer (some ⟨bt, 0, none⟩), .int .i64 (Wn : Int), .int .i64 (Hn : Int)], .slice (some ⟨lb, 0, none⟩) 2 2] w' fun e w'' => e = .returned (.bool true) ∧ (w''.cell? ⟨rb, 0, none⟩ = some (.pointer (some ⟨b, 0, none⟩)) ∧ w''.cell? ⟨rb, 1, none⟩ = some (.pointer (some ⟨bt, 0, none⟩)) ∧ w''.cell? ⟨rb, 2, none⟩ = some (.int .i64 (Wn : Int)) ∧ w''.cell? ⟨rb, 3, none⟩ = some (.int .i64 (Hn : Int)) ∧ w''.cell? ⟨ob, 0, none⟩ = some (.int .i64 o.key) ∧ w''.cell? ⟨ob, 1, none⟩ = some (.int .i64 o.x) ∧ w''.cell? ⟨ob, 2, none⟩ = some (.int .i64 o.y) ∧ w''.cell? ⟨ob, 3, none⟩ = some (.int .i64 o.w) ∧ w''.cell? ⟨ob, 4, none⟩ = some (.int .i64 o.h) ∧ w''.cell? ⟨ob, 5, none⟩ = some (.int .i64 o.layer) ∧ w''.cell? ⟨ob, 6, none⟩ = some (.int .i64 o.style) ∧ w''.cell? ⟨ob, 7, none⟩ = some (.string o.text) ∧ w''.cell? ⟨qb, 0, none⟩ = some (.int .i64 q.key) ∧ w''.cell? ⟨qb, 1, none⟩ = some (.int .i64 q.x) ∧ w''.cell? ⟨qb, 2, none⟩ = some (.int .i64 q.y) ∧ w''.cell? ⟨qb, 3, none⟩ = some (.int .i64 q.w) ∧ w''.cell? ⟨qb, 4, none⟩ = some (.int .i64 q.h) ∧ w''.cell? ⟨qb, 5, none⟩ = some (.int .i64 q.layer) ∧ w''.cell? ⟨qb, 6, none⟩ = some (.int .i64 q.style) ∧ w''.cell? ⟨qb, 7, none⟩ = some (.string q.text)) ∧ (∃ g1 gt1, RM w w'' b g1 ⟨(Wn : Int), (Hn : Int), [(A, 0), (B, 0)], 0, 0⟩ bt gt1 ((T.new (Wn : Int) (Hn : Int)).feed (Pt.told ⟨(Wn : Int), (Hn : Int), [], 0, 0⟩ ⟨(Wn : Int), (Hn : Int), [(A, 0), (B, 0)], 0, 0⟩))) ∧ Blk w'' rb [.pointer (some ⟨b, 0, none⟩), .pointer (some ⟨bt, 0, none⟩), .int .i64 (Wn : Int), .int .i64 (Hn : Int)] 27 ∧ Blk w'' rrb r.vals 23 ∧ Blk w'' sb s.vals 23) := by
    intro w' lb f' hw'
    have R' := R2.out.fr0 f'
    have SH := shows_yes w' b g _ bt gt _ R'.r (Wn : Int) (Hn : Int) (some ⟨lb, 0, none⟩) [A, B] 2 2 hw' rfl (by decide) TS1.out EV1.out
    simp only [next_nil, List.map_cons, List.map_nil] at SH
    refine SH.mono ?_
    rintro e w'' ⟨he, u⟩
    obtain ⟨g4, gt4, R4, K4⟩ := R'.upd u
    have B1 := K4 _ _ _ (BRm.out.fr0 f') (by decide) (by decide)
    exact ⟨he, SC.out w'' B1 (K4 _ _ _ (BO.out.fr0 f') (by decide) (by decide)) (K4 _ _ _ (BQ.out.fr0 f') (by decide) (by decide)), ⟨g4, gt4, R4⟩, B1, K4 _ _ _ (BR.out.fr0 f') (by decide) (by decide), K4 _ _ _ (BS.out.fr0 f') (by decide) (by decide)⟩
  go_region_held (fun w' => w'.cell? ⟨rb, 0, none⟩ = some (.pointer (some ⟨b, 0, none⟩)) ∧ w'.cell? ⟨rb, 1, none⟩ = some (.pointer (some ⟨bt, 0, none⟩)) ∧ w'.cell? ⟨rb, 2, none⟩ = some (.int .i64 (Wn : Int)) ∧ w'.cell? ⟨rb, 3, none⟩ = some (.int .i64 (Hn : Int)) ∧ w'.cell? ⟨ob, 0, none⟩ = some (.int .i64 o.key) ∧ w'.cell? ⟨ob, 1, none⟩ = some (.int .i64 o.x) ∧ w'.cell? ⟨ob, 2, none⟩ = some (.int .i64 o.y) ∧ w'.cell? ⟨ob, 3, none⟩ = some (.int .i64 o.w) ∧ w'.cell? ⟨ob, 4, none⟩ = some (.int .i64 o.h) ∧ w'.cell? ⟨ob, 5, none⟩ = some (.int .i64 o.layer) ∧ w'.cell? ⟨ob, 6, none⟩ = some (.int .i64 o.style) ∧ w'.cell? ⟨ob, 7, none⟩ = some (.string o.text) ∧ w'.cell? ⟨qb, 0, none⟩ = some (.int .i64 q.key) ∧ w'.cell? ⟨qb, 1, none⟩ = some (.int .i64 q.x) ∧ w'.cell? ⟨qb, 2, none⟩ = some (.int .i64 q.y) ∧ w'.cell? ⟨qb, 3, none⟩ = some (.int .i64 q.w) ∧ w'.cell? ⟨qb, 4, none⟩ = some (.int .i64 q.h) ∧ w'.cell? ⟨qb, 5, none⟩ = some (.int .i64 q.layer) ∧ w'.cell? ⟨qb, 6, none⟩ = some (.int .i64 q.style) ∧ w'.cell? ⟨qb, 7, none⟩ = some (.string q.text)) (go_keep) ((first | (go_at_call_of 10 (Value.string o.text); refine (FO.out _).mono ?_; rintro e wb ⟨rfl, fb⟩; have FB : Hid (Fr [] wa wb) := (by refine Fr.then ?_ fb; repeat first | exact Fr.refl _ _ | apply Fr.drew | apply Fr.drewN); obtain ⟨kb0, kb1, kb2, kb3, kb4, kb5, kb6, kb7, kb8, kb9, kb10, kb11, kb12, kb13, kb14, kb15, kb16, kb17, kb18, kb19⟩ := SC.out wb (BRm.out.fr0 FB.out) (BO.out.fr0 FB.out) (BQ.out.fr0 FB.out); clear fb) | (go_at_call_of 10 (Value.string q.text); refine (FQ.out _).mono ?_; rintro e wc ⟨rfl, fc⟩; have FC : Hid (Fr [] wa wc) := (FB.out.then fc); obtain ⟨kc0, kc1, kc2, kc3, kc4, kc5, kc6, kc7, kc8, kc9, kc10, kc11, kc12, kc13, kc14, kc15, kc16, kc17, kc18, kc19⟩ := SC.out wc (BRm.out.fr0 FC.out) (BO.out.fr0 FC.out) (BQ.out.fr0 FC.out); have lc1 := (BRm.out.fr0 FC.out).lt; have lc2 := (BO.out.fr0 FC.out).lt; have lc3 := (BQ.out.fr0 FC.out).lt; clear fc) | (go_at_call 16; refine (SH.out _ _ (FC.out.alloc _) (wins_two (Blk.new wc (A.vals ++ B.vals) 23))).mono ?_; rintro e wd ⟨rfl, hS2, hD⟩; obtain ⟨kd0, kd1, kd2, kd3, kd4, kd5, kd6, kd7, kd8, kd9, kd10, kd11, kd12, kd13, kd14, kd15, kd16, kd17, kd18, kd19⟩ := hS2; have HD := hide hD; clear hD)))
  obtain ⟨⟨g4, gt4, R4⟩, BRm4, BR4, BS4⟩ := HD.out
  have R4H := hide R4
  have BRmH := hide BRm4
  have BRH := hide BR4
  have BSH := hide BS4
  clear HD R4 BRm4 BR4 BS4 SH R2 BRm BO BQ BR BS kd0 kd1 kd2 kd3 kd4 kd5 kd6 kd7 kd8 kd9 kd10 kd11 kd12 kd13 kd14 kd15 kd16 kd17 kd18 kd19
  have SN1 := hide ((shown_new (Wn : Int) (Hn : Int) iw1 iw2 ih1 ih2).told ⟨(Wn : Int), (Hn : Int), [(A, 0), (B, 0)], 0, 0⟩ rfl rfl (ok_two EV1.out))
  generalize (T.new (Wn : Int) (Hn : Int)).feed (Pt.told ⟨(Wn : Int), (Hn : Int), [], 0, 0⟩ ⟨(Wn : Int), (Hn : Int), [(A, 0), (B, 0)], 0, 0⟩) = t4 at *
  obtain ⟨rc0, rc1, rc2, rc3, rc4, rc5, rc6, rc7⟩ := BRH.out.win
  have ld1 := BRH.out.lt
  go_wp2_with fail
  refine (FR.out _).mono ?_
  rintro e we ⟨rfl, fe⟩
  have R5 := hide (R4H.out.fr0 fe)
  have BRm5 := hide (BRmH.out.fr0 fe)
  have BS5 := hide (BSH.out.fr0 fe)
  obtain ⟨sc0, sc1, sc2, sc3, sc4, sc5, sc6, sc7⟩ := BS5.out.win
  have ld2 := BS5.out.lt
  clear fe R4H BRmH BSH BRH rc0 rc1 rc2 rc3 rc4 rc5 rc6 rc7 ld1
  go_wp2_with fail
  refine (FS.out _).mono ?_
  rintro e wf ⟨rfl, ff⟩
  have FX := ((Fr.refl [] we).alloc (.cells #[.int .i64 C.key, .int .i64 C.x, .int .i64 C.y, .int .i64 C.w, .int .i64 C.h, .int .i64 C.layer, .int .i64 C.style, .string C.text] 23)).then ff
  have R6 := hide (R5.out.fr0 FX)
  have BRm6 := hide (BRm5.out.fr0 FX)
  have BC6 : Hid (Blk wf we.heap.size C.vals 23) := (Blk.new we _ _).fr0 ff
  clear FX ff R5 BRm5 BS5 sc0 sc1 sc2 sc3 sc4 sc5 sc6 sc7 ld2
  obtain ⟨mc0, mc1, mc2, mc3⟩ := BRm6.out.four
  obtain ⟨cc0, cc1, cc2, cc3, cc4, cc5, cc6, cc7⟩ := BC6.out.win
  have le1 := BRm6.out.lt
  have le2 := BC6.out.lt
  have FF : Hid (Fr [] wf ((wf.alloc (.cells #[.int .i64 D.key, .int .i64 D.x, .int .i64 D.y, .int .i64 D.w, .int .i64 D.h, .int .i64 D.layer, .int .i64 D.style, .string D.text] 23)).alloc (.cells #[.int .i64 C.key, .int .i64 C.x, .int .i64 C.y, .int .i64 C.w, .int .i64 C.h, .int .i64 C.layer, .int .i64 C.style, .string C.text, .int .i64 D.key, .int .i64 D.x, .int .i64 D.y, .int .i64 D.w, .int .i64 D.h, .int .i64 D.layer, .int .i64 D.style, .string D.text] 23))) := ((Fr.refl _ _).alloc _).alloc _
  have WS : Hid (WinsAt ((wf.alloc (.cells #[.int .i64 D.key, .int .i64 D.x, .int .i64 D.y, .int .i64 D.w, .int .i64 D.h, .int .i64 D.layer, .int .i64 D.style, .string D.text] 23)).alloc (.cells #[.int .i64 C.key, .int .i64 C.x, .int .i64 C.y, .int .i64 C.w, .int .i64 C.h, .int .i64 C.layer, .int .i64 C.style, .string C.text, .int .i64 D.key, .int .i64 D.x, .int .i64 D.y, .int .i64 D.w, .int .i64 D.h, .int .i64 D.layer, .int .i64 D.style, .string D.text] 23)) (some ⟨wf.heap.size + 1, 0, none⟩) [C, D]) := by
    have := Blk.new (wf.alloc (.cells #[.int .i64 D.key, .int .i64 D.x, .int .i64 D.y, .int .i64 D.w, .int .i64 D.h, .int .i64 D.layer, .int .i64 D.style, .string D.text] 23)) (C.vals ++ D.vals) 23
    rw [World.size_alloc] at this
    exact wins_two this
  have R6F := hide (R6.out.fr0 FF.out)
  have BD6 := hide ((Blk.new wf D.vals 23).alloc (.cells #[.int .i64 C.key, .int .i64 C.x, .int .i64 C.y, .int .i64 C.w, .int .i64 C.h, .int .i64 C.layer, .int .i64 C.style, .string C.text, .int .i64 D.key, .int .i64 D.x, .int .i64 D.y, .int .i64 D.w, .int .i64 D.h, .int .i64 D.layer, .int .i64 D.style, .string D.text] 23))
  have SH := hide (shows_yes _ b g4 _ bt gt4 _ R6F.out.r (Wn : Int) (Hn : Int) (some ⟨wf.heap.size + 1, 0, none⟩) [C, D] 2 2 WS.out rfl (by decide) TS2.out EV2.out)
  simp only [next_over] at SH
  have SN2 := hide (SN1.out.told ⟨(Wn : Int), (Hn : Int), [(C, 0), (D, 0)], 0, 0⟩ rfl rfl (ok_two EV2.out))
  generalize t4.feed (Pt.told ⟨(Wn : Int), (Hn : Int), [(A, 0), (B, 0)], 0, 0⟩ ⟨(Wn : Int), (Hn : Int), [(C, 0), (D, 0)], 0, 0⟩) = t7 at *
  go_wp2_with fail
  refine SH.out.mono ?_
  rintro e w7 ⟨rfl, u7⟩
  obtain ⟨g7, gt7, R7, K7⟩ := R6F.out.upd u7
  have BRm7 := hide (K7 _ _ _ (BRm6.out.fr0 FF.out) (by decide) (by decide))
  have BC7 := hide (K7 _ _ _ (BC6.out.fr0 FF.out) (by decide) (by decide))
  have BD7 := hide (K7 _ _ _ BD6.out (by decide) (by decide))
  have R7H := hide R7
  have CO := hide SN2.out.corner
  have TW := hide SN2.out.w
  have TH := hide SN2.out.h
  have TC := hide SN2.out.cells
  clear u7 K7 R7 SH WS R6F BD6 FF R6 BRm6 BC6 mc0 mc1 mc2 mc3 cc0 cc1 cc2 cc3 cc4 cc5 cc6 cc7 le1 le2
  go_wp2
  go_loopw [19] (fun i wr => ∃ y : Nat, i = .int .i64 y ∧ y ≤ Hn ∧ Fr [] w7 wr) (fun i _ => (3000 - intOf i).toNat)
  case atStart => exact ⟨0, rfl, by omega, Fr.refl _ _⟩
  case round =>
    obtain ⟨y, rfl, hy, f8⟩ := hrel
    have BRm8 := hide (BRm7.out.fr0 f8)
    have BC8 := BC7.out.fr0 f8
    have BD8 := BD7.out.fr0 f8
    have F8 := hide f8
    obtain ⟨mc0, mc1, mc2, mc3⟩ := BRm8.out.four
    obtain ⟨cc0, cc1, cc2, cc3, cc4, cc5, cc6, cc7⟩ := BC8.win
    obtain ⟨dc0, dc1, dc2, dc3, dc4, dc5, dc6, dc7⟩ := BD8.win
    have l8 := BRm8.out.lt
    clear BC8 BD8 f8
    by_cases hend : y < Hn
    · have b1 : (y : Int) < Hn := by omega
      go_wp2_with fail
      refine (looked_any C D Wn y wr OKC.out OKD.out wn2 (by omega) (by omega)).mono ?_
      rintro e w9 ⟨rfl, f9⟩
      have F9 := hide (F8.out.then f9)
      have BRm9 := BRm8.out.fr0 f9
      clear mc0 mc1 mc2 mc3 cc0 cc1 cc2 cc3 cc4 cc5 cc6 cc7 dc0 dc1 dc2 dc3 dc4 dc5 dc6 dc7 l8 f9
      obtain ⟨nc0, nc1, nc2, nc3⟩ := BRm9.four
      have l9 := BRm9.lt
      have RD := hide (reads_yes y w9 bt gt7 t7 (R7H.out.fr0 F9.out).r.t (by omega) (by rw [TH.out]; exact b1) (strOfNums ((lookR C D Wn y).map (·.1))) (strOfNums ((lookR C D Wn y).map (·.2))) (by rw [TW.out, TC.out, ← RT.out y (by omega) b1]; rfl) (by rw [TW.out, TC.out, ← RT.out y (by omega) b1]; rfl))
      clear BRm9
      go_wp2_with fail
      refine RD.out.mono ?_
      rintro e w10 ⟨rfl, f10⟩
      have F10 := hide (F9.out.then f10)
      clear f10
      go_wp2
      go_roundw
      case rel => exact ⟨y + 1, by go_num, by omega, F10.out⟩
      case measure => simp [intOf]; omega
    · have b1 : ¬ (y : Int) < Hn := by omega
      have CU := hide (cursor_any wr bt gt7 t7 (R7H.out.fr0 F8.out).r.t)
      rw [CO.out.1, CO.out.2.1, CO.out.2.2] at CU
      go_wp2_with fail
      refine CU.out.mono ?_
      rintro e w9 ⟨rfl, f9⟩
      have F9 := hide (R7H.out.f.then (F8.out.then f9))
      clear f9
      go_wp2
      go_ret
      exact ⟨rfl, F9.out.alloc _⟩
end Go.Proofs.YtjhccghhinlmdaaDoor
/- A window as it comes in: its eight cells. -/
namespace Go.Proofs.YtjhccghhinlmdaaDoor
open Go.ChangeShapes Go.WideShapes Go.ChangeAt Go.RowKit Go.Deep

theorem laidOut' : laidOutB Tryd.prog = true := by kernel_rfl
theorem cells_window : Tryd.prog.cellsOf 23 = 8 := by kernel_rfl
theorem cells_int' : Tryd.prog.cellsOf 3 = 1 := by kernel_rfl
theorem cells_str' : Tryd.prog.cellsOf 9 = 1 := by kernel_rfl
theorem eight {α : Type} (l : List α) (h : l.length = 8) : ∃ a b c d e f g i, l = [a, b, c, d, e, f, g, i] := by
  match l, h with
  | [a, b, c, d, e, f, g, i], _ => exact ⟨a, b, c, d, e, f, g, i, rfl⟩
theorem int_bd {n : Int} (h : (Lit.int .i64 n).wf = true) : -9223372036854775808 ≤ n ∧ n ≤ 9223372036854775807 := by
  simpa [Lit.wf, IntKind.min, IntKind.max, IntKind.signed, IntKind.bits] using h

/-- a window whose numbers lie in the machine's range -/
structure Win.Wf (o : Win) : Prop where
  k : -9223372036854775808 ≤ o.key ∧ o.key ≤ 9223372036854775807
  x : -9223372036854775808 ≤ o.x ∧ o.x ≤ 9223372036854775807
  y : -9223372036854775808 ≤ o.y ∧ o.y ≤ 9223372036854775807
  w : -9223372036854775808 ≤ o.w ∧ o.w ≤ 9223372036854775807
  h : -9223372036854775808 ≤ o.h ∧ o.h ≤ 9223372036854775807
  l : -9223372036854775808 ≤ o.layer ∧ o.layer ≤ 9223372036854775807
  s : -9223372036854775808 ≤ o.style ∧ o.style ≤ 9223372036854775807

theorem win_cells {H : Type} {enc : TypeId × Value → H} {w : World} {spare : Nat → Bool} {held : Bool} {fuel : Nat} {cs : List Value} {y : DataW H × List MemPlace} (h : DataW.trod enc Tryd.prog w 0 spare held fuel 23 cs = some y) :
    ∃ o : Win, cs = o.vals ∧ o.Wf ∧ y.1 = .agg [.lit (.int .i64 o.key), .lit (.int .i64 o.x), .lit (.int .i64 o.y), .lit (.int .i64 o.w), .lit (.int .i64 o.h), .lit (.int .i64 o.layer), .lit (.int .i64 o.style), .lit (.string o.text.data.toList)] := by
  obtain ⟨xs, m, rfl, hy, hl, hxl, hf⟩ := DataW.trod_struct Tryd.underlying23 h
  rw [cells_window] at hl
  obtain ⟨c0, c1, c2, c3, c4, c5, c6, c7, rfl⟩ := eight cs hl
  obtain ⟨y0, y1, y2, y3, y4, y5, y6, y7, rfl⟩ := eight xs hxl
  have g0 := hf 0 _ rfl
  have g1 := hf 1 _ rfl
  have g2 := hf 2 _ rfl
  have g3 := hf 3 _ rfl
  have g4 := hf 4 _ rfl
  have g5 := hf 5 _ rfl
  have g6 := hf 6 _ rfl
  have g7 := hf 7 _ rfl
  simp [cells_int', cells_str'] at g0 g1 g2 g3 g4 g5 g6 g7
  obtain ⟨a0, e0, z0, w0⟩ := DataW.trod_int Tryd.underlying3 g0
  obtain ⟨a1, e1, z1, w1⟩ := DataW.trod_int Tryd.underlying3 g1
  obtain ⟨a2, e2, z2, w2⟩ := DataW.trod_int Tryd.underlying3 g2
  obtain ⟨a3, e3, z3, w3⟩ := DataW.trod_int Tryd.underlying3 g3
  obtain ⟨a4, e4, z4, w4⟩ := DataW.trod_int Tryd.underlying3 g4
  obtain ⟨a5, e5, z5, w5⟩ := DataW.trod_int Tryd.underlying3 g5
  obtain ⟨a6, e6, z6, w6⟩ := DataW.trod_int Tryd.underlying3 g6
  obtain ⟨s, e7, z7, _⟩ := DataW.trod_string Tryd.underlying9 g7
  simp only [List.cons.injEq, and_true] at e0 e1 e2 e3 e4 e5 e6 e7
  subst e0 e1 e2 e3 e4 e5 e6 e7
  refine ⟨⟨a0, a1, a2, a3, a4, a5, a6, s⟩, rfl, ⟨int_bd w0, int_bd w1, int_bd w2, int_bd w3, int_bd w4, int_bd w5, int_bd w6⟩, ?_⟩
  rw [hy, z0, z1, z2, z3, z4, z5, z6, z7]
  rfl
/-- the text of a window that comes in by value -/
theorem sized_win {H : Type} {ts : List TypeId} {ds : List (DataW H)} (h : (DataW.weightsEach Tryd.prog ts ds).all (· ≤ reachBytes) = true) {j : Nat} {o : Win} (ht : ts[j]? = some 23)
    (hd : ds[j]? = some (.agg [.lit (.int .i64 o.key), .lit (.int .i64 o.x), .lit (.int .i64 o.y), .lit (.int .i64 o.w), .lit (.int .i64 o.h), .lit (.int .i64 o.layer), .lit (.int .i64 o.style), .lit (.string o.text.data.toList)])) : o.text.size ≤ 140737488351232 := by
  have := List.all_eq_true.1 h _ (DataW.weights_mem_each ht hd o.text.data.toList.length (by simp [DataW.weights, Tryd.underlying23, DataW.weightsEach]))
  have h2 : o.text.data.toList.length ≤ reachBytes := by simpa using this
  rw [Array.length_toList] at h2
  exact h2
set_option maxRecDepth 100000 in
/-- a window by value -/
theorem win_arg {H : Type} {enc : TypeId × Value → H} {w : World} {base : Nat} {r : Reach} {v : Value} {d : DataW H} {p : List MemPlace} (hok : Value.okWide Tryd.prog w r base 23 v) (h : DataW.Trod enc Tryd.prog w 0 (fun _ => true) true 23 v d p) :
    ∃ o : Win, v = .agg #[.int .i64 o.key, .int .i64 o.x, .int .i64 o.y, .int .i64 o.w, .int .i64 o.h, .int .i64 o.layer, .int .i64 o.style, .string o.text] ∧ o.Wf ∧ d = .agg [.lit (.int .i64 o.key), .lit (.int .i64 o.x), .lit (.int .i64 o.y), .lit (.int .i64 o.w), .lit (.int .i64 o.h), .lit (.int .i64 o.layer), .lit (.int .i64 o.style), .lit (.string o.text.data.toList)] := by
  obtain ⟨cs, rfl, _⟩ := okWide_struct Tryd.underlying23 hok
  obtain ⟨fuel, hf⟩ := h
  obtain ⟨o, h1, h2, h3⟩ := win_cells hf
  refine ⟨o, ?_, h2, h3⟩
  have : cs.toList = o.vals := by simpa [Value.cells] using h1
  congr 1
  rw [← Array.toArray_toList (xs := cs), this]
  rfl
end Go.Proofs.YtjhccghhinlmdaaDoor
/- What the rows that list tables share: the witness's window, the frame of a card. -/
namespace Go.Proofs.YtjhccghhinlmdaaDoor
open Go.ChangeShapes Go.WideShapes Go.ChangeAt Go.RowKit Go.Deep

/-- a window of noughts -/
def zeroWin : Value := .agg #[.int .i64 0, .int .i64 0, .int .i64 0, .int .i64 0, .int .i64 0, .int .i64 0, .int .i64 0, .string ByteArray.empty]
def zeroD {H : Type} : DataW H := .agg [.lit (.int .i64 0), .lit (.int .i64 0), .lit (.int .i64 0), .lit (.int .i64 0), .lit (.int .i64 0), .lit (.int .i64 0), .lit (.int .i64 0), .lit (.string [])]
theorem in_of {o : Win} (h : o.Wf) (ht : o.text.size ≤ 140737488351232) : o.In :=
  ⟨h.x.1, h.x.2, h.y.1, h.y.2, h.w.1, h.w.2, h.h.1, h.h.2, h.l.1, h.l.2, h.s.1, h.s.2, by omega⟩
theorem noStandIn (l : List TypeId) (hall : (l.all fun u => !Tryd.prog.wantsStandIn u) = true) (t : TypeId) (hm : t ∈ l) : Tryd.prog.wantsStandIn t = false := by
  simpa using List.all_eq_true.1 hall t hm
end Go.Proofs.YtjhccghhinlmdaaDoor
namespace Go.Proofs.YtjhccghhinlmdaaDoor.told
open Go.ChangeShapes Go.WideShapes Go.ChangeAt Go.RowKit Go.Deep

theorem own : ownKnob Tryd.prog.godebug = none := by kernel_rfl

set_option maxRecDepth 100000 in
theorem contract (H : Type) (enc : TypeId × Value → H) (W : World) (base : Nat) (args : Array Value) (ds gs : List (DataW H)) (before : List MemPlace)
    (hval : ∀ (j : Nat) t v, Tryd.f6.params[j]? = some t → args[j]? = some v → Value.okWide Tryd.prog W .any base t v)
    (hW : DataW.Whole enc Tryd.prog Tryd.f6.params.toList Rows.toldSpec.vars false W args.toList ds gs before)
    (hsz : (DataW.weightsEach Tryd.prog (Tryd.f6.params.toList ++ Rows.toldSpec.plain.varTypes Tryd.prog) (ds ++ gs)).all (· ≤ reachBytes) = true) :
    Calls Tryd.prog 6 args W fun e W' => ∃ v, e = .returned v ∧ Rows.toldSpec.post enc Tryd.prog Tryd.f6 false true false false W args v W' := by
  have hW' := hW
  obtain ⟨p, q, hA0, hV, rfl, hfz, hnd⟩ := hW
  have hA : DataW.TrodAll enc Tryd.prog W 0 (fun _ => true) true Tryd.f6.params.toList args.toList ds p := hA0
  rw [Tryd.params6] at hA hval hsz
  obtain ⟨v0, vs0, d0, ds0, p0, q0, hargs, rfl, rfl, h0, r0⟩ := trodAll_cons hA
  obtain ⟨v1, vs1, d1, ds1, p1, q1, rfl, rfl, rfl, h1, r1⟩ := trodAll_cons r0
  obtain ⟨v2, vs2, d2, ds2, p2, q2, rfl, rfl, rfl, h2, r2⟩ := trodAll_cons r1
  obtain ⟨v3, vs3, d3, ds3, p3, q3, rfl, rfl, rfl, h3, r3⟩ := trodAll_cons r2
  obtain ⟨v4, vs4, d4, ds4, p4, q4, rfl, rfl, rfl, h4, r4⟩ := trodAll_cons r3
  obtain ⟨v5, vs5, d5, ds5, p5, q5, rfl, rfl, rfl, h5, r5⟩ := trodAll_cons r4
  obtain ⟨rfl, rfl, rfl⟩ := trodAll_nil r5
  obtain rfl : args = #[v0, v1, v2, v3, v4, v5] := by cases args; simp_all
  obtain ⟨rfl, rfl⟩ := trodVars_none hV
  have k2 := h2
  have k3 := h3
  have k4 := h4
  have k5 := h5
  simp only [List.append_nil] at hW'
  have hlt : ∀ x ∈ p0 ++ (p1 ++ (p2 ++ (p3 ++ (p4 ++ (p5))))), x.block < W.heap.size := fun x hx => by simpa using hW'.lt x (by simpa using hx)
  obtain ⟨a0, rfl, rfl, rfl, w0⟩ := open_int Tryd.underlying3 (hval 0 3 v0 rfl rfl) h0
  obtain ⟨a1, rfl, rfl, rfl, w1⟩ := open_int Tryd.underlying3 (hval 1 3 v1 rfl rfl) h1
  obtain ⟨o2, rfl, w2, rfl⟩ := win_arg (hval 2 23 v2 rfl rfl) h2
  obtain ⟨o3, rfl, w3, rfl⟩ := win_arg (hval 3 23 v3 rfl rfl) h3
  obtain ⟨o4, rfl, w4, rfl⟩ := win_arg (hval 4 23 v4 rfl rfl) h4
  obtain ⟨o5, rfl, w5, rfl⟩ := win_arg (hval 5 23 v5 rfl rfl) h5
  have s2 := sized_win (o := o2) hsz (j := 2) rfl rfl
  have s3 := sized_win (o := o3) hsz (j := 3) rfl rfl
  have s4 := sized_win (o := o4) hsz (j := 4) rfl rfl
  have s5 := sized_win (o := o5) hsz (j := 5) rfl rfl
  clear hA0 hsz
  have b0 := int_bd w0
  have b1 := int_bd w1
  refine (told_any a0 a1 o2 o3 o4 o5 W (in_of w2 s2) (in_of w3 s3) (in_of w4 s4) (in_of w5 s5) b0.1 b0.2 b1.1 b1.2).mono fun e W' ⟨he, hg⟩ => ?_
  subst he
  have hb := hg.below (B := W.heap.size) (Nat.le_refl _) (by simp)
  exact ⟨_, rfl, _, _, _, [], _, [], hW', trodAll_cons_mk (shut_bool Tryd.underlying4 _) trodAll_mk0,
    trodAll_cons_mk (shut_int Tryd.underlying3 w0) (trodAll_cons_mk (shut_int Tryd.underlying3 w1) (trodAll_cons_mk (Below.trod laidOut' (by kernel_rfl) (of_decide_eq_true (by kernel_rfl)) k2 hb (fun x hx => hlt x (by simp [hx]))) (trodAll_cons_mk (Below.trod laidOut' (by kernel_rfl) (of_decide_eq_true (by kernel_rfl)) k3 hb (fun x hx => hlt x (by simp [hx]))) (trodAll_cons_mk (Below.trod laidOut' (by kernel_rfl) (of_decide_eq_true (by kernel_rfl)) k4 hb (fun x hx => hlt x (by simp [hx]))) (trodAll_cons_mk (Below.trod laidOut' (by kernel_rfl) (of_decide_eq_true (by kernel_rfl)) k5 hb (fun x hx => hlt x (by simp [hx]))) trodAll_mk0))))), rfl, hb.frame _, fun h => by cases h⟩

theorem laid_met (os : Os) : laidMet Tryd.prog Rows.toldRow.laid ((World.doorLaid Tryd.prog 400 os).forCall (fun _ _ => 0) ⟨#[], #[.int .i64 0, .int .i64 0, zeroWin, zeroWin, zeroWin, zeroWin], []⟩).memory :=
  laidMet_of_run' 8 (by kernel_rfl) (by kernel_rfl)
theorem reads (os : Os) {H : Type} (enc : TypeId × Value → H) : ∃ places, DataW.whole enc Tryd.prog ((World.doorLaid Tryd.prog 400 os).forCall (fun _ _ => 0) ⟨#[], #[.int .i64 0, .int .i64 0, zeroWin, zeroWin, zeroWin, zeroWin], []⟩).memory Tryd.f6.params.toList Rows.toldSpec.vars false #[Value.int .i64 0, .int .i64 0, zeroWin, zeroWin, zeroWin, zeroWin].toList 8 = some ([.lit (.int .i64 0), .lit (.int .i64 0), zeroD, zeroD, zeroD, zeroD], [], places) :=
  ⟨[], by kernel_rfl⟩

set_option maxRecDepth 100000 in
theorem lifted (os : Os) (started : os.Started) (H : Type) (enc : TypeId × Value → H) (F : Stop.Interp) :
    ReturnsInHanded {} Tryd.checked os 6 .any ((OpenSpec.ofChange Rows.toldSpec).preRow enc Tryd.prog Tryd.f6 Rows.toldRow.domain false Rows.toldRow.laid) (((OpenSpec.ofChange Rows.toldSpec).at F).post enc Tryd.prog Tryd.f6 false true false false) := by
  obtain ⟨places, hx⟩ := reads os enc
  refine returnsInHanded_of_row (C := Tryd.checked) (s := OpenSpec.ofChange Rows.toldSpec) own started (by kernel_rfl) Tryd.func6
    (witness_row_at (enc := enc) (C := Tryd.checked) false (World.doorLaid Tryd.prog 400 os) #[.int .i64 0, .int .i64 0, zeroWin, zeroWin, zeroWin, zeroWin] rfl (by kernel_rfl) (by kernel_rfl) (by kernel_rfl)
      (OpenSpec.preRow_of_cond 8 hx (by kernel_rfl) (fun k hk => by cases hk) (by kernel_rfl) (laid_met os))) ?_
  intro W base args ds gs before hval hW _ _ hsz _ _ _
  exact contract H enc W base args ds gs before hval hW hsz

theorem said : Rows.ToldSaid :=
  OpenClaim.holds_of_cond 6 Tryd.f6 rfl rfl rfl rfl rfl rfl rfl ⟨rfl, rfl, rfl, rfl, rfl⟩ rfl rfl rfl rfl rfl (by kernel_rfl) Tryd.func6 (by kernel_rfl)
    (of_decide_eq_true (by kernel_rfl)) (by unfold Func.isWrapper; first | (rw [if_pos (by decide +kernel)]; kernel_rfl) | (rw [if_neg (by decide +kernel)]; exact ⟨rfl, rfl⟩))
    (fun os started H enc _ F => by rw [OpenClaim.pre_eq_preRow]; exact lifted os started H enc F)

theorem plain (f : FuncId) (fn : Func) (hf : Tryd.pinned.checked.prog.funcNamed "repaint/repaintkeep.Told" = some f) (hfn : Tryd.pinned.checked.prog.funcs[f]? = some fn) :
    false = Tryd.pinned.checked.prog.looks [] ∧ ∀ (j : Nat) t, fn.params[j]? = some t → Tryd.pinned.checked.prog.wantsStandIn t = false := by
  obtain rfl : f = 6 := Option.some.inj ((show Tryd.prog.funcNamed "repaint/repaintkeep.Told" = some 6 by kernel_rfl).symm.trans hf) |>.symm
  obtain rfl : fn = Tryd.f6 := (Option.some.inj (Tryd.func6.symm.trans hfn)).symm
  refine ⟨by kernel_rfl, fun j t ht => ?_⟩
  rw [Tryd.params6] at ht
  exact noStandIn [3, 3, 23, 23, 23, 23] (by kernel_rfl) t (by simpa using Array.mem_of_getElem? ht)

theorem card : Rows.ToldCardSaid :=
  Claim7.holds_tied_plain_at .later [] _ _ _ _ said (fun _ h => by cases h) (by kernel_rfl) (fun _ h => by cases h) told_row_tie rfl ⟨rfl, rfl⟩ (by kernel_rfl) rfl plain (by kernel_rfl)
end Go.Proofs.YtjhccghhinlmdaaDoor.told
namespace Go.Proofs.YtjhccghhinlmdaaDoor
theorem told_holds : Rows.ToldCardSaid := told.card
#print axioms told_holds
end Go.Proofs.YtjhccghhinlmdaaDoor
