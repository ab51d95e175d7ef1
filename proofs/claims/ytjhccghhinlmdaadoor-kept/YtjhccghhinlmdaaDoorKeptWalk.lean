/- Kept walked: Scroll moves through a window's lines, the next view keeps the offset. -/
import Derived.Test.YtjhccghhinlmdaaDoorKeptParts
namespace Go.Proofs.YtjhccghhinlmdaaDoor
open Go.RowKit

theorem clampL (x : Int) (L : Nat) : mostF 0 (leastF x (1 + (L : Int) - 1)) = if x > L then (L : Int) else if x < 0 then 0 else x := by
  unfold mostF leastF
  (repeat' split) <;> omega
theorem idx_kept (L : Nat) (x y : Int) : V.idx [(otherW, x), (slitW 5 L, y)] 5 = some 1 := by simp [V.idx, otherW, slitW]

theorem nextA (v : V) (k : Int) (S : Nat) : v.next [otherW, slitW k S] = [(otherW, otherW.fits (v.offOf 8)), (slitW k S, (slitW k S).fits (v.offOf k))] := rfl
theorem nextB (v : V) (k : Int) (S : Nat) : v.next [slitW k S, otherW] = [(slitW k S, (slitW k S).fits (v.offOf k)), (otherW, otherW.fits (v.offOf 8))] := rfl
theorem off5 (L : Nat) (x y : Int) : V.offOf [(otherW, x), (slitW 5 L, y)] 5 = y := by simp [V.offOf, otherW, slitW]
theorem off6 (L : Nat) (x y : Int) : V.offOf [(otherW, x), (slitW 5 L, y)] 6 = 0 ∧ V.offOf [(slitW 5 L, y), (otherW, x)] 6 = 0 := by simp [V.offOf, otherW, slitW]
theorem off65 (L : Nat) (x y : Int) : V.offOf [(otherW, x), (slitW 6 L, y)] 5 = 0 := by simp [V.offOf, otherW, slitW]
theorem next6A (x o : Int) (L S : Nat) : V.next [(otherW, x), (slitW 5 S, o)] [otherW, slitW 6 L] = [(otherW, otherW.fits (V.offOf [(otherW, x), (slitW 5 S, o)] 8)), (slitW 6 L, 0)] := by
  rw [nextA, (off6 S x o).1, fits_zero]
theorem next6B (x o : Int) (L S : Nat) : V.next [(slitW 5 S, o), (otherW, x)] [otherW, slitW 6 L] = [(otherW, otherW.fits (V.offOf [(slitW 5 S, o), (otherW, x)] 8)), (slitW 6 L, 0)] := by
  rw [nextA, (off6 S x o).2, fits_zero]
theorem next5A (x : Int) (L S : Nat) : V.next [(otherW, x), (slitW 6 L, 0)] [otherW, slitW 5 S] = [(otherW, otherW.fits (V.offOf [(otherW, x), (slitW 6 L, 0)] 8)), (slitW 5 S, 0)] := by
  rw [nextA, off65, fits_zero]
theorem next5B (x : Int) (L S : Nat) : V.next [(otherW, x), (slitW 6 L, 0)] [slitW 5 S, otherW] = [(slitW 5 S, 0), (otherW, otherW.fits (V.offOf [(otherW, x), (slitW 6 L, 0)] 8))] := by
  rw [nextB, off65, fits_zero]
theorem fitsL (k : Int) (S : Nat) (h : S ≤ 25) (x : Int) (hx : 0 ≤ x) : (slitW k S).fits x = leastF x (1 + (S : Int) - 1) := by
  rw [slit_fits k S h]
  unfold leastF
  (repeat' split) <;> omega
theorem small_kept (k : Int) (S : Nat) (h : S ≤ 25) : (∀ x ∈ [otherW, slitW k S], x.text.size ≤ 9223372036854775807) ∧ ∀ x ∈ [slitW k S, otherW], x.text.size ≤ 9223372036854775807 := by
  have := colS_size S
  constructor
  · intro x hx; simp at hx; rcases hx with rfl | rfl
    · exact (by decide : (5 : Nat) ≤ 9223372036854775807)
    · simp only [slitW]; omega
  · intro x hx; simp at hx; rcases hx with rfl | rfl
    · simp only [slitW]; omega
    · exact (by decide : (5 : Nat) ≤ 9223372036854775807)

set_option maxHeartbeats 8000000 in
set_option maxRecDepth 100000 in
theorem kept_any (n by' again m : Int) (first : Bool) (w : World) (n1 : -9223372036854775808 ≤ n) (n2 : n ≤ 9223372036854775807) (y1 : -9223372036854775808 ≤ by') (y2 : by' ≤ 9223372036854775807) (a1 : -9223372036854775808 ≤ again) (a2 : again ≤ 9223372036854775807) (m1 : -9223372036854775808 ≤ m) (m2 : m ≤ 9223372036854775807) :
    Calls Tryd.prog 4 #[.int .i64 n, .int .i64 by', .int .i64 again, .int .i64 m, .bool first] w fun e w' => e = .returned (.bool true) ∧ Fr [] w w' := by
  have OP := hide (opened_any 9 9 w (by decide) (by decide) (by decide) (by decide))
  rw [show (1 + pickI 9 40) = ((10 : Nat) : Int) by decide, show (1 + pickI 9 20) = ((10 : Nat) : Int) by decide] at OP
  have PN := hide (fun w' => pick_any n 26 w' n1 n2 (by decide) (by decide))
  have PM := hide (fun w' => pick_any m 26 w' m1 m2 (by decide) (by decide))
  have BB := hide (fun w' => bring_any by' (-500) 500 1001 w' (by decide) (by decide) (by decide) (by decide) y1 y2)
  have BA := hide (fun w' => bring_any again (-500) 500 1001 w' (by decide) (by decide) (by decide) (by decide) a1 a2)
  have q1 := pickI_bd n 26 (by decide)
  have q2 := pickI_bd m 26 (by decide)
  have q3 := pickI_bd by' 1001 (by decide)
  have q4 := pickI_bd again 1001 (by decide)
  generalize pickI n 26 = L' at *
  generalize pickI m 26 = S' at *
  generalize hby : -500 + pickI by' 1001 = yb at *
  generalize hag : -500 + pickI again 1001 = ya at *
  obtain ⟨L, rfl⟩ := Int.eq_ofNat_of_zero_le q1.1
  obtain ⟨S, rfl⟩ := Int.eq_ofNat_of_zero_le q2.1
  have hL : L ≤ 25 := by omega
  have hS : S ≤ 25 := by omega
  have yb1 : -500 ≤ yb := by omega
  have yb2 : yb ≤ 500 := by omega
  have ya1 : -500 ≤ ya := by omega
  have ya2 : ya ≤ 500 := by omega
  clear q1 q2 q3 q4 hby hag
  go_enter Tryd.func4, Tryd.ntmps4
  go_wp2_with fail
  refine OP.out.mono ?_
  rintro e w1 ⟨b, g, bt, gt, rfl, c1, c2, c3, f1, p1, t1⟩
  have LT := hide p1.lt
  have LTT := hide t1.lt
  have GE := hide c1
  have GET := hide c2
  have DJ := hide c3
  have F1 := hide f1
  have P1 := hide p1
  have T1 := hide t1
  clear c1 c2 c3 f1 p1 t1 OP
  go_wp2_with fail
  refine (PN.out _).mono ?_
  rintro e w' ⟨rfl, wc⟩
  subst wc
  go_wp2_with fail
  refine (PM.out _).mono ?_
  rintro e w' ⟨rfl, wc⟩
  subst wc
  go_wp2_with fail
  refine (BB.out _).mono ?_
  rintro e w' ⟨rfl, wc⟩
  subst wc
  go_wp2_with fail
  refine (BA.out _).mono ?_
  rintro e w' ⟨rfl, wc⟩
  subst wc
  go_wp2
  have KA : KAt ((w1.alloc (.cells #[.pointer (some ⟨b, 0, none⟩), .pointer (some ⟨bt, 0, none⟩), .int .i64 ((10 : Nat) : Int), .int .i64 ((10 : Nat) : Int)] 27)).alloc (.cells #[.int .i64 8, .int .i64 4, .int .i64 4, .int .i64 3, .int .i64 3, .int .i64 0, .int .i64 0, .string ⟨#[111, 116, 104, 101, 114]⟩] 23)) w1.heap.size (w1.heap.size + 1) b bt g ⟨((10 : Nat) : Int), ((10 : Nat) : Int), [], 0, 0⟩ := by
    refine ⟨(Blk.new w1 _ _).alloc _, ?_, P1.out.fr0 (((Fr.refl _ _).alloc _).alloc _)⟩
    have := Blk.new (w1.alloc (.cells #[.pointer (some ⟨b, 0, none⟩), .pointer (some ⟨bt, 0, none⟩), .int .i64 ((10 : Nat) : Int), .int .i64 ((10 : Nat) : Int)] 27)) otherW.vals 23
    rw [World.size_alloc] at this; exact this
  have FA : Fr [] w ((w1.alloc (.cells #[.pointer (some ⟨b, 0, none⟩), .pointer (some ⟨bt, 0, none⟩), .int .i64 ((10 : Nat) : Int), .int .i64 ((10 : Nat) : Int)] 27)).alloc (.cells #[.int .i64 8, .int .i64 4, .int .i64 4, .int .i64 3, .int .i64 3, .int .i64 0, .int .i64 0, .string ⟨#[111, 116, 104, 101, 114]⟩] 23)) := (F1.out.alloc _).alloc _
  have TA : TermAt ((w1.alloc (.cells #[.pointer (some ⟨b, 0, none⟩), .pointer (some ⟨bt, 0, none⟩), .int .i64 ((10 : Nat) : Int), .int .i64 ((10 : Nat) : Int)] 27)).alloc (.cells #[.int .i64 8, .int .i64 4, .int .i64 4, .int .i64 3, .int .i64 3, .int .i64 0, .int .i64 0, .string ⟨#[111, 116, 104, 101, 114]⟩] 23)) bt gt (T.new ((10 : Nat) : Int) ((10 : Nat) : Int)) := T1.out.fr0 (((Fr.refl _ _).alloc _).alloc _)
  generalize hwa : (w1.alloc (.cells #[.pointer (some ⟨b, 0, none⟩), .pointer (some ⟨bt, 0, none⟩), .int .i64 ((10 : Nat) : Int), .int .i64 ((10 : Nat) : Int)] 27)).alloc (.cells #[.int .i64 8, .int .i64 4, .int .i64 4, .int .i64 3, .int .i64 3, .int .i64 0, .int .i64 0, .string ⟨#[111, 116, 104, 101, 114]⟩] 23) = wa at *
  have LR : Hid (∀ x ∈ pfoot b g ++ foot bt gt, x ≠ w1.heap.size ∧ x ≠ w1.heap.size + 1 ∧ w.heap.size ≤ x) := fun x hx => by
    rcases List.mem_append.1 hx with hx | hx
    · have := LT.out x hx; have := GE.out x hx; omega
    · have := LTT.out x hx; have := GET.out x hx; omega
  generalize w1.heap.size = rb at *
  generalize hob : rb + 1 = ob at *
  have KA' := hide KA
  have FA' := hide FA
  have TA' := hide TA
  obtain ⟨kk0, kk1, kk2, kk3, kk4, kk5, kk6, kk7, kk8, kk9, kk10, kk11⟩ := KA.cells
  have rlt := KA.r.lt
  have olt := KA.o.lt
  clear KA FA TA hwa F1 P1 T1 LT LTT GE GET
  have E5 := hide (errV_kept 5 L hL (by decide) (by decide) (by decide)).1
  have SH : Hid (∀ w', Fr [] wa w' → ∀ lb, WinsAt w' (some ⟨lb, 0, none⟩) [otherW, slitW 5 L] → Calls Tryd.prog 16 #[.agg #[.pointer (some ⟨b, 0, none⟩), .pointer (some ⟨bt, 0, none⟩), .int .i64 ((10 : Nat) : Int), .int .i64 ((10 : Nat) : Int)], .slice (some ⟨lb, 0, none⟩) 2 2] w' fun e w'' => e = .returned (.bool true) ∧ (w''.cell? ⟨rb, 0, none⟩ = some (.pointer (some ⟨b, 0, none⟩)) ∧ w''.cell? ⟨rb, 1, none⟩ = some (.pointer (some ⟨bt, 0, none⟩)) ∧ w''.cell? ⟨rb, 2, none⟩ = some (.int .i64 ((10 : Nat) : Int)) ∧ w''.cell? ⟨rb, 3, none⟩ = some (.int .i64 ((10 : Nat) : Int)) ∧ w''.cell? ⟨ob, 0, none⟩ = some (.int .i64 8) ∧ w''.cell? ⟨ob, 1, none⟩ = some (.int .i64 4) ∧ w''.cell? ⟨ob, 2, none⟩ = some (.int .i64 4) ∧ w''.cell? ⟨ob, 3, none⟩ = some (.int .i64 3) ∧ w''.cell? ⟨ob, 4, none⟩ = some (.int .i64 3) ∧ w''.cell? ⟨ob, 5, none⟩ = some (.int .i64 0) ∧ w''.cell? ⟨ob, 6, none⟩ = some (.int .i64 0) ∧ w''.cell? ⟨ob, 7, none⟩ = some (.string ⟨#[111, 116, 104, 101, 114]⟩)) ∧ Fr [] w w'' ∧ ∃ g1, KAt w'' rb ob b bt g1 ⟨((10 : Nat) : Int), ((10 : Nat) : Int), [(otherW, 0), (slitW 5 L, 0)], 0, 0⟩ ∧ ∀ x ∈ pfoot b g1, w.heap.size ≤ x) := by
    intro w' f' lb hw'
    have K' := KA'.out.fr0 f'
    refine (shows_yes w' b g _ bt gt _ ⟨K'.p, TA'.out.fr0 f', DJ.out⟩ _ _ _ _ 2 2 hw' rfl (by decide) (by intro x hx; simp at hx; rcases hx with rfl | rfl; (exact (by decide : (5 : Nat) ≤ 9223372036854775807)); (have := colS_size L; simp only [slitW]; omega)) E5.out).mono ?_
    rintro e w'' ⟨he, g1, gt1, r1, f1, s1⟩
    have p1 := r1.p
    have K1 : KAt w'' rb ob b bt g1 ⟨((10 : Nat) : Int), ((10 : Nat) : Int), [(otherW, 0), (slitW 5 L, 0)], 0, 0⟩ := by
      refine ⟨K'.r.fr f1 (fun hm => (LR.out _ hm).1 rfl), K'.o.fr f1 (fun hm => (LR.out _ hm).2.1 rfl), ?_⟩
      have := p1
      rw [next_nil] at this
      exact this
    refine ⟨he, K1.cells, ((FA'.out.then f').trans f1 (by simp) (fun i hi => .inr (LR.out i hi).2.2)), g1, K1, ?_⟩
    intro x hx
    rcases s1 x (List.mem_append.2 (.inl hx)) with h1 | h1
    · exact (LR.out x h1).2.2
    · have := (FA'.out.then f').size; omega
  have CL := hide (fun w' => column_any L w' hL)
  go_region_held (fun w' => w'.cell? ⟨rb, 0, none⟩ = some (.pointer (some ⟨b, 0, none⟩)) ∧ w'.cell? ⟨rb, 1, none⟩ = some (.pointer (some ⟨bt, 0, none⟩)) ∧ w'.cell? ⟨rb, 2, none⟩ = some (.int .i64 ((10 : Nat) : Int)) ∧ w'.cell? ⟨rb, 3, none⟩ = some (.int .i64 ((10 : Nat) : Int)) ∧ w'.cell? ⟨ob, 0, none⟩ = some (.int .i64 8) ∧ w'.cell? ⟨ob, 1, none⟩ = some (.int .i64 4) ∧ w'.cell? ⟨ob, 2, none⟩ = some (.int .i64 4) ∧ w'.cell? ⟨ob, 3, none⟩ = some (.int .i64 3) ∧ w'.cell? ⟨ob, 4, none⟩ = some (.int .i64 3) ∧ w'.cell? ⟨ob, 5, none⟩ = some (.int .i64 0) ∧ w'.cell? ⟨ob, 6, none⟩ = some (.int .i64 0) ∧ w'.cell? ⟨ob, 7, none⟩ = some (.string ⟨#[111, 116, 104, 101, 114]⟩)) (go_keep) ((first | (go_at_call 18; refine (CL.out _).mono ?_; rintro e wb ⟨rfl, fb⟩; have FB : Hid (Fr [] wa wb) := (by refine Fr.then ?_ fb; repeat first | exact Fr.refl _ _ | apply Fr.drew | apply Fr.drewN); obtain ⟨kj0, kj1, kj2, kj3, kj4, kj5, kj6, kj7, kj8, kj9, kj10, kj11⟩ := (KA'.out.fr0 FB.out).cells; clear fb) | (go_at_call 17; refine (slit_any _ _ _).mono ?_; rintro e wc ⟨rfl, fc⟩; have FC : Hid (Fr [] wa wc) := (FB.out.then fc); obtain ⟨ki0, ki1, ki2, ki3, ki4, ki5, ki6, ki7, ki8, ki9, ki10, ki11⟩ := (KA'.out.fr0 FC.out).cells; have clt := (KA'.out.fr0 FC.out).r.lt; have dlt := (KA'.out.fr0 FC.out).o.lt; clear fc) | (go_at_call 16; refine (SH.out _ (FC.out.alloc _) _ (wins_two (Blk.new wc (otherW.vals ++ (slitW 5 L).vals) 23))).mono ?_; rintro e wd ⟨rfl, hS2, hD⟩; obtain ⟨kh0, kh1, kh2, kh3, kh4, kh5, kh6, kh7, kh8, kh9, kh10, kh11⟩ := hS2; have HD := hide hD; clear hD)))
  obtain ⟨F2, g1, K1, GE1⟩ : (Fr [] w wd ∧ ∃ g1, KAt wd rb ob b bt g1 ⟨((10 : Nat) : Int), ((10 : Nat) : Int), [(otherW, 0), (slitW 5 L, 0)], 0, 0⟩ ∧ ∀ x ∈ pfoot b g1, w.heap.size ≤ x) := HD.out
  have F2' := hide F2
  have K1' := hide K1
  have GE1' := hide GE1
  clear F2 K1 GE1 HD SH
  clear kh0 kh1 kh2 kh3 kh4 kh5 kh6 kh7 kh8 kh9 kh10 kh11
  obtain ⟨c1_0, c1_1, c1_2, c1_3, c1_4, c1_5, c1_6, c1_7, c1_8, c1_9, c1_10, c1_11⟩ := K1'.out.cells
  have rl1 := K1'.out.r.lt
  have ol1 := K1'.out.o.lt
  go_wp2_with fail
  refine (letter_any wd b bt g1 _ K1'.out.p 0 10 10 rfl rfl ((corner 5 L hL 0 0 (by omega) (by omega)).1) (by omega) (by omega)).mono ?_
  rintro e we ⟨rfl, fz⟩
  have K2 := hide (K1'.out.fr0 fz)
  have F3 := hide (F2'.out.then fz)
  clear c1_0 c1_1 c1_2 c1_3 c1_4 c1_5 c1_6 c1_7 c1_8 c1_9 c1_10 c1_11 rl1 ol1
  clear fz
  obtain ⟨c2_0, c2_1, c2_2, c2_3, c2_4, c2_5, c2_6, c2_7, c2_8, c2_9, c2_10, c2_11⟩ := K2.out.cells
  have rl2 := K2.out.r.lt
  have ol2 := K2.out.o.lt
  obtain ⟨o1, ho1⟩ : ∃ o : Int, o = (if yb > L then (L : Int) else if yb < 0 then 0 else yb) := ⟨_, rfl⟩
  have o1a : 0 ≤ o1 := by subst ho1; (repeat' split) <;> omega
  have o1b : o1 ≤ L := by subst ho1; (repeat' split) <;> omega
  have eo1 : Hid ((slitW 5 L).fits (0 + yb) = o1) := by show _ = _; rw [slit_fits 5 L hL, ho1, Int.zero_add]
  have MOo1 : Hid (∀ w', Calls Tryd.prog 21 #[.int .i64 0, .int .i64 (leastF (yb) (1 + (L : Int) - 1))] w' fun e w'' => e = .returned (.int .i64 o1) ∧ w' = w'') := by
    intro w'; have := most_any 0 (leastF (yb) (1 + (L : Int) - 1)) w'; rw [clampL, ← ho1] at this; exact this
  have IXo1 := hide (idx_kept L 0 0)
  clear ho1
  go_wp2_with fail
  refine (scroll_yes we b g1 _ K2.out.p 5 yb 1 IXo1.out yb1 yb2).mono ?_
  rintro e wf ⟨rfl, u⟩
  obtain ⟨g2, kz, _, fz, sz⟩ := K2.out.upd u
  have K3 : Hid (KAt wf rb ob b bt g2 ⟨((10 : Nat) : Int), ((10 : Nat) : Int), [(otherW, 0), (slitW 5 L, o1)], 0, 0⟩) := by
    show KAt _ _ _ _ _ _ _
    rw [← eo1.out]; exact kz
  have F4 : Hid (Fr [] w wf) := (F3.out).trans fz (by simp) (fun i hi => .inr (GE1'.out i hi))
  have GE2 : Hid (∀ x ∈ pfoot b g2, w.heap.size ≤ x) := fun x hx => (sz x hx).elim (GE1'.out x) (fun h => Nat.le_trans F3.out.size h)
  clear c2_0 c2_1 c2_2 c2_3 c2_4 c2_5 c2_6 c2_7 c2_8 c2_9 c2_10 c2_11 rl2 ol2
  clear u kz fz sz
  obtain ⟨c3_0, c3_1, c3_2, c3_3, c3_4, c3_5, c3_6, c3_7, c3_8, c3_9, c3_10, c3_11⟩ := K3.out.cells
  have rl3 := K3.out.r.lt
  have ol3 := K3.out.o.lt
  go_wp2_with fail
  refine (least_any _ _ _).mono ?_
  rintro e w' ⟨rfl, wc⟩
  subst wc
  go_wp2_with fail
  refine (MOo1.out _).mono ?_
  rintro e w' ⟨rfl, wc⟩
  subst wc
  go_wp2_with fail
  refine (letter_any wf b bt g2 _ K3.out.p o1 10 10 rfl rfl ((corner 5 L hL o1 0 o1a o1b).1) (by omega) (by omega)).mono ?_
  rintro e wg ⟨rfl, fz⟩
  have K4 := hide (K3.out.fr0 fz)
  have F5 := hide (F4.out.then fz)
  clear c3_0 c3_1 c3_2 c3_3 c3_4 c3_5 c3_6 c3_7 c3_8 c3_9 c3_10 c3_11 rl3 ol3
  clear fz
  obtain ⟨c4_0, c4_1, c4_2, c4_3, c4_4, c4_5, c4_6, c4_7, c4_8, c4_9, c4_10, c4_11⟩ := K4.out.cells
  have rl4 := K4.out.r.lt
  have ol4 := K4.out.o.lt
  obtain ⟨o2, ho2⟩ : ∃ o : Int, o = (if o1 + ya > L then (L : Int) else if o1 + ya < 0 then 0 else o1 + ya) := ⟨_, rfl⟩
  have o2a : 0 ≤ o2 := by subst ho2; (repeat' split) <;> omega
  have o2b : o2 ≤ L := by subst ho2; (repeat' split) <;> omega
  have eo2 : Hid ((slitW 5 L).fits (o1 + ya) = o2) := by show _ = _; rw [slit_fits 5 L hL, ho2]
  have MOo2 : Hid (∀ w', Calls Tryd.prog 21 #[.int .i64 0, .int .i64 (leastF (o1 + ya) (1 + (L : Int) - 1))] w' fun e w'' => e = .returned (.int .i64 o2) ∧ w' = w'') := by
    intro w'; have := most_any 0 (leastF (o1 + ya) (1 + (L : Int) - 1)) w'; rw [clampL, ← ho2] at this; exact this
  have IXo2 := hide (idx_kept L 0 o1)
  clear ho2
  go_wp2_with fail
  refine (scroll_yes wg b g2 _ K4.out.p 5 ya 1 IXo2.out ya1 ya2).mono ?_
  rintro e wh ⟨rfl, u⟩
  obtain ⟨g3, kz, _, fz, sz⟩ := K4.out.upd u
  have K5 : Hid (KAt wh rb ob b bt g3 ⟨((10 : Nat) : Int), ((10 : Nat) : Int), [(otherW, 0), (slitW 5 L, o2)], 0, 0⟩) := by
    show KAt _ _ _ _ _ _ _
    rw [← eo2.out]; exact kz
  have F6 : Hid (Fr [] w wh) := (F5.out).trans fz (by simp) (fun i hi => .inr (GE2.out i hi))
  have GE3 : Hid (∀ x ∈ pfoot b g3, w.heap.size ≤ x) := fun x hx => (sz x hx).elim (GE2.out x) (fun h => Nat.le_trans F5.out.size h)
  clear c4_0 c4_1 c4_2 c4_3 c4_4 c4_5 c4_6 c4_7 c4_8 c4_9 c4_10 c4_11 rl4 ol4
  clear u kz fz sz
  obtain ⟨c5_0, c5_1, c5_2, c5_3, c5_4, c5_5, c5_6, c5_7, c5_8, c5_9, c5_10, c5_11⟩ := K5.out.cells
  have rl5 := K5.out.r.lt
  have ol5 := K5.out.o.lt
  go_wp2_with fail
  refine (least_any _ _ _).mono ?_
  rintro e w' ⟨rfl, wc⟩
  subst wc
  go_wp2_with fail
  refine (MOo2.out _).mono ?_
  rintro e w' ⟨rfl, wc⟩
  subst wc
  go_wp2_with fail
  refine (letter_any wh b bt g3 _ K5.out.p o2 10 10 rfl rfl ((corner 5 L hL o2 0 o2a o2b).1) (by omega) (by omega)).mono ?_
  rintro e wi ⟨rfl, fz⟩
  have K6 := hide (K5.out.fr0 fz)
  have F7 := hide (F6.out.then fz)
  clear c5_0 c5_1 c5_2 c5_3 c5_4 c5_5 c5_6 c5_7 c5_8 c5_9 c5_10 c5_11 rl5 ol5
  clear fz
  obtain ⟨c6_0, c6_1, c6_2, c6_3, c6_4, c6_5, c6_6, c6_7, c6_8, c6_9, c6_10, c6_11⟩ := K6.out.cells
  have rl6 := K6.out.r.lt
  have ol6 := K6.out.o.lt
  have CS := hide (fun w' => column_any S w' hS)
  clear CL
  go_wp2
  go_region_held (fun w' => w'.cell? ⟨rb, 0, none⟩ = some (.pointer (some ⟨b, 0, none⟩)) ∧ w'.cell? ⟨rb, 1, none⟩ = some (.pointer (some ⟨bt, 0, none⟩)) ∧ w'.cell? ⟨rb, 2, none⟩ = some (.int .i64 ((10 : Nat) : Int)) ∧ w'.cell? ⟨rb, 3, none⟩ = some (.int .i64 ((10 : Nat) : Int)) ∧ w'.cell? ⟨ob, 0, none⟩ = some (.int .i64 8) ∧ w'.cell? ⟨ob, 1, none⟩ = some (.int .i64 4) ∧ w'.cell? ⟨ob, 2, none⟩ = some (.int .i64 4) ∧ w'.cell? ⟨ob, 3, none⟩ = some (.int .i64 3) ∧ w'.cell? ⟨ob, 4, none⟩ = some (.int .i64 3) ∧ w'.cell? ⟨ob, 5, none⟩ = some (.int .i64 0) ∧ w'.cell? ⟨ob, 6, none⟩ = some (.int .i64 0) ∧ w'.cell? ⟨ob, 7, none⟩ = some (.string ⟨#[111, 116, 104, 101, 114]⟩)) (go_keep) ((first | (go_at_call 18; refine (CS.out _).mono ?_; rintro e wj ⟨rfl, fb⟩; have Fwj : Hid (Fr [] wi wj) := (by refine Fr.then ?_ fb; repeat first | exact Fr.refl _ _ | apply Fr.drew | apply Fr.drewN); obtain ⟨ja0, ja1, ja2, ja3, ja4, ja5, ja6, ja7, ja8, ja9, ja10, ja11⟩ := (K6.out.fr0 Fwj.out).cells; clear fb) | (go_at_call 17; refine (slit_any _ _ _).mono ?_; rintro e wk ⟨rfl, fc⟩; have Fwk : Hid (Fr [] wi wk) := (Fwj.out.then fc); obtain ⟨ia0, ia1, ia2, ia3, ia4, ia5, ia6, ia7, ia8, ia9, ia10, ia11⟩ := (K6.out.fr0 Fwk.out).cells; have rlwk := (K6.out.fr0 Fwk.out).r.lt; have olwk := (K6.out.fr0 Fwk.out).o.lt; clear fc)))
  cases first
  · go_wp2_with fail
    have KL : KAt (wk.alloc (.cells #[.int .i64 8, .int .i64 4, .int .i64 4, .int .i64 3, .int .i64 3, .int .i64 0, .int .i64 0, .string ⟨#[111, 116, 104, 101, 114]⟩, .int .i64 5, .int .i64 0, .int .i64 0, .int .i64 1, .int .i64 1, .int .i64 0, .int .i64 3, .string (colS S)] 23)) rb ob b bt g3 ⟨((10 : Nat) : Int), ((10 : Nat) : Int), [(otherW, 0), (slitW 5 L, o2)], 0, 0⟩ := K6.out.fr0 (Fwk.out.alloc _)
    have BL : Blk (wk.alloc (.cells #[.int .i64 8, .int .i64 4, .int .i64 4, .int .i64 3, .int .i64 3, .int .i64 0, .int .i64 0, .string ⟨#[111, 116, 104, 101, 114]⟩, .int .i64 5, .int .i64 0, .int .i64 0, .int .i64 1, .int .i64 1, .int .i64 0, .int .i64 3, .string (colS S)] 23)) wk.heap.size (otherW.vals ++ (slitW 5 S).vals) 23 := Blk.new wk (otherW.vals ++ (slitW 5 S).vals) 23
    have FL : Fr [] w (wk.alloc (.cells #[.int .i64 8, .int .i64 4, .int .i64 4, .int .i64 3, .int .i64 3, .int .i64 0, .int .i64 0, .string ⟨#[111, 116, 104, 101, 114]⟩, .int .i64 5, .int .i64 0, .int .i64 0, .int .i64 1, .int .i64 1, .int .i64 0, .int .i64 3, .string (colS S)] 23)) := F7.out.then (Fwk.out.alloc _)
    generalize wk.alloc (.cells #[.int .i64 8, .int .i64 4, .int .i64 4, .int .i64 3, .int .i64 3, .int .i64 0, .int .i64 0, .string ⟨#[111, 116, 104, 101, 114]⟩, .int .i64 5, .int .i64 0, .int .i64 0, .int .i64 1, .int .i64 1, .int .i64 0, .int .i64 3, .string (colS S)] 23) = wl at *
    generalize wk.heap.size = lb at *
    have KL' := hide KL
    have BL' := hide BL
    have FL' := hide FL
    clear ia0 ia1 ia2 ia3 ia4 ia5 ia6 ia7 ia8 ia9 ia10 ia11 rlwk olwk
    obtain ⟨l0, l1, l2, l3, l4, l5, l6, l7, l8, l9, l10, l11⟩ := KL.cells
    have lrl := KL.r.lt
    have lol := KL.o.lt
    clear KL BL FL
    refine (show_yes wl b g3 _ KL'.out.p (some ⟨lb, 0, none⟩) [otherW, slitW 5 S] 2 2 0 0 (wins_two BL'.out) rfl (by decide) (small_kept 5 S hS).1 (errV_kept 5 S hS (by decide) (by decide) (by decide)).1).mono ?_
    rintro e wm ⟨rfl, u⟩
    obtain ⟨g4, kz, bz, fz, sz⟩ := KL'.out.upd u
    have K8 : Hid (KAt wm rb ob b bt g4 ⟨((10 : Nat) : Int), ((10 : Nat) : Int), [(otherW, otherW.fits (V.offOf [(otherW, 0), (slitW 5 L, o2)] 8)), (slitW 5 S, leastF o2 (1 + (S : Int) - 1))], 0, 0⟩) := by
      have := kz
      simp only [nextA, off5, fitsL 5 S hS o2 o2a] at this
      exact this
    generalize otherW.fits (V.offOf [(otherW, 0), (slitW 5 L, o2)] 8) = x3 at *
    have BM := hide (bz _ _ BL'.out)
    have F8 : Hid (Fr [] w wm) := (FL'.out).trans fz (by simp) (fun i hi => .inr (GE3.out i hi))
    have GE4 : Hid (∀ x ∈ pfoot b g4, w.heap.size ≤ x) := fun x hx => (sz x hx).elim (GE3.out x) (fun h => Nat.le_trans FL'.out.size h)
    clear u kz bz fz sz l0 l1 l2 l3 l4 l5 l6 l7 l8 l9 l10 l11 lrl lol
    obtain ⟨l0, l1, l2, l3, l4, l5, l6, l7, l8, l9, l10, l11⟩ := K8.out.cells
    have lrl := K8.out.r.lt
    have lol := K8.out.o.lt
    have o3a : 0 ≤ leastF o2 (1 + (S : Int) - 1) := by unfold leastF; split <;> omega
    have o3b : leastF o2 (1 + (S : Int) - 1) ≤ S := by unfold leastF; split <;> omega
    have LE : Hid (∀ w', Fr [] wm w' → Calls Tryd.prog 19 #[.agg #[.pointer (some ⟨b, 0, none⟩), .pointer (some ⟨bt, 0, none⟩), .int .i64 ((10 : Nat) : Int), .int .i64 ((10 : Nat) : Int)], .int .i64 (leastF o2 (1 + (S : Int) - 1))] w' fun e w'' => e = .returned (.bool true) ∧ Fr [] w' w'') :=
      fun w' f' => letter_any w' b bt g4 _ (K8.out.p.fr0 f') (leastF o2 (1 + (S : Int) - 1)) 10 10 rfl rfl ((corner 5 S hS _ x3 o3a o3b).1) o3a (by omega)
    have wrS : IntKind.i64.wrap (1 + (S : Int) - 1) = 1 + (S : Int) - 1 := by rw [IntKind.wrap_i64]; omega
    have LS := hide (fun w' => least_any o2 (1 + (S : Int) - 1) w')
    go_wp2
    go_region_held (fun w' => w'.cell? ⟨rb, 0, none⟩ = some (.pointer (some ⟨b, 0, none⟩)) ∧ w'.cell? ⟨rb, 1, none⟩ = some (.pointer (some ⟨bt, 0, none⟩)) ∧ w'.cell? ⟨rb, 2, none⟩ = some (.int .i64 ((10 : Nat) : Int)) ∧ w'.cell? ⟨rb, 3, none⟩ = some (.int .i64 ((10 : Nat) : Int)) ∧ w'.cell? ⟨ob, 0, none⟩ = some (.int .i64 8) ∧ w'.cell? ⟨ob, 1, none⟩ = some (.int .i64 4) ∧ w'.cell? ⟨ob, 2, none⟩ = some (.int .i64 4) ∧ w'.cell? ⟨ob, 3, none⟩ = some (.int .i64 3) ∧ w'.cell? ⟨ob, 4, none⟩ = some (.int .i64 3) ∧ w'.cell? ⟨ob, 5, none⟩ = some (.int .i64 0) ∧ w'.cell? ⟨ob, 6, none⟩ = some (.int .i64 0) ∧ w'.cell? ⟨ob, 7, none⟩ = some (.string ⟨#[111, 116, 104, 101, 114]⟩)) (go_keep) ((first | (go_at_call 22; refine (LS.out _).mono ?_; rintro e w' ⟨rfl, wc⟩; subst wc) | (go_at_call 19; refine (LE.out _ ?hf).mono ?_; (case hf => (repeat first | exact Fr.refl _ _ | apply Fr.drew | apply Fr.drewN)); rintro e wn ⟨rfl, fn⟩; have FN : Hid (Fr [] wm wn) := (by refine Fr.then ?_ fn; repeat first | exact Fr.refl _ _ | apply Fr.drew | apply Fr.drewN); obtain ⟨m0, m1, m2, m3, m4, m5, m6, m7, m8, m9, m10, m11⟩ := (K8.out.fr0 FN.out).cells; have mrl := (K8.out.fr0 FN.out).r.lt; have mol := (K8.out.fr0 FN.out).o.lt; clear fn)))
    all_goals skip
    have K9 := hide (K8.out.fr0 FN.out)
    have F9 := hide (F8.out.then FN.out)
    have BN := hide (BM.out.fr0 FN.out)
    clear LE LS wrS o3a o3b l0 l1 l2 l3 l4 l5 l6 l7 l8 l9 l10 l11 lrl lol
    have E6 := hide (errV_kept 6 L hL (by decide) (by decide) (by decide)).1
    obtain ⟨sx, hsx⟩ : ∃ sx : ByteArray, sx = strOfNums (Pt.told ⟨((10 : Nat) : Int), ((10 : Nat) : Int), [(otherW, x3), (slitW 5 S, leastF o2 (1 + (S : Int) - 1))], 0, 0⟩ ⟨((10 : Nat) : Int), ((10 : Nat) : Int), V.next [(otherW, x3), (slitW 5 S, leastF o2 (1 + (S : Int) - 1))] [otherW, slitW 6 L], 0, 0⟩) := ⟨_, rfl⟩
    have HSX := hide hsx
    clear hsx
    have SH6 : Hid (∀ w', Fr [] wn w' → ∀ lb', WinsAt w' (some ⟨lb', 0, none⟩) [otherW, slitW 6 L] → Calls Tryd.prog 11 #[.pointer (some ⟨b, 0, none⟩), .slice (some ⟨lb', 0, none⟩) 2 2, .agg #[.int .i64 0, .int .i64 0]] w' fun e w'' => e = .returned (.tuple #[.string sx, .int .i64 0]) ∧ (w''.cell? ⟨rb, 0, none⟩ = some (.pointer (some ⟨b, 0, none⟩)) ∧ w''.cell? ⟨rb, 1, none⟩ = some (.pointer (some ⟨bt, 0, none⟩)) ∧ w''.cell? ⟨rb, 2, none⟩ = some (.int .i64 ((10 : Nat) : Int)) ∧ w''.cell? ⟨rb, 3, none⟩ = some (.int .i64 ((10 : Nat) : Int)) ∧ w''.cell? ⟨ob, 0, none⟩ = some (.int .i64 8) ∧ w''.cell? ⟨ob, 1, none⟩ = some (.int .i64 4) ∧ w''.cell? ⟨ob, 2, none⟩ = some (.int .i64 4) ∧ w''.cell? ⟨ob, 3, none⟩ = some (.int .i64 3) ∧ w''.cell? ⟨ob, 4, none⟩ = some (.int .i64 3) ∧ w''.cell? ⟨ob, 5, none⟩ = some (.int .i64 0) ∧ w''.cell? ⟨ob, 6, none⟩ = some (.int .i64 0) ∧ w''.cell? ⟨ob, 7, none⟩ = some (.string ⟨#[111, 116, 104, 101, 114]⟩)) ∧ Fr [] w w'' ∧ (∃ g5 x4, KAt w'' rb ob b bt g5 ⟨((10 : Nat) : Int), ((10 : Nat) : Int), [(otherW, x4), (slitW 6 L, 0)], 0, 0⟩ ∧ ∀ x ∈ pfoot b g5, w.heap.size ≤ x) ∧ Blk w'' lb (otherW.vals ++ (slitW 5 S).vals) 23) := by
      intro w' f' lb' hw'
      have K' := K9.out.fr0 f'
      refine (show_yes w' b g4 _ K'.p _ _ 2 2 0 0 hw' rfl (by decide) (small_kept 6 L hL).1 E6.out).mono ?_
      rintro e w'' ⟨he, u⟩
      obtain ⟨g5, kz, bz, fz, sz⟩ := K'.upd u
      have k5 : KAt w'' rb ob b bt g5 ⟨((10 : Nat) : Int), ((10 : Nat) : Int), V.next [(otherW, x3), (slitW 5 S, leastF o2 (1 + (S : Int) - 1))] [otherW, slitW 6 L], 0, 0⟩ := kz
      rw [next6A] at k5
      exact ⟨by rw [HSX.out]; exact he, k5.cells, (F9.out.then f').trans fz (by simp) (fun i hi => .inr (GE4.out i hi)), ⟨g5, _, k5, fun x hx => (sz x hx).elim (GE4.out x) (fun h => Nat.le_trans (F9.out.then f').size h)⟩, bz _ _ (BN.out.fr0 f')⟩
    have CL := hide (fun w' => column_any L w' hL)
    go_wp2
    go_region_held (fun w' => w'.cell? ⟨rb, 0, none⟩ = some (.pointer (some ⟨b, 0, none⟩)) ∧ w'.cell? ⟨rb, 1, none⟩ = some (.pointer (some ⟨bt, 0, none⟩)) ∧ w'.cell? ⟨rb, 2, none⟩ = some (.int .i64 ((10 : Nat) : Int)) ∧ w'.cell? ⟨rb, 3, none⟩ = some (.int .i64 ((10 : Nat) : Int)) ∧ w'.cell? ⟨ob, 0, none⟩ = some (.int .i64 8) ∧ w'.cell? ⟨ob, 1, none⟩ = some (.int .i64 4) ∧ w'.cell? ⟨ob, 2, none⟩ = some (.int .i64 4) ∧ w'.cell? ⟨ob, 3, none⟩ = some (.int .i64 3) ∧ w'.cell? ⟨ob, 4, none⟩ = some (.int .i64 3) ∧ w'.cell? ⟨ob, 5, none⟩ = some (.int .i64 0) ∧ w'.cell? ⟨ob, 6, none⟩ = some (.int .i64 0) ∧ w'.cell? ⟨ob, 7, none⟩ = some (.string ⟨#[111, 116, 104, 101, 114]⟩)) (go_keep) ((first | (go_at_call 18; refine (CL.out _).mono ?_; rintro e wr' ⟨rfl, fb⟩; have Fwr : Hid (Fr [] wn wr') := (by refine Fr.then ?_ fb; repeat first | exact Fr.refl _ _ | apply Fr.drew | apply Fr.drewN); obtain ⟨pa0, pa1, pa2, pa3, pa4, pa5, pa6, pa7, pa8, pa9, pa10, pa11⟩ := (K9.out.fr0 Fwr.out).cells; clear fb) | (go_at_call 17; refine (slit_any _ _ _).mono ?_; rintro e ws ⟨rfl, fc⟩; have Fws : Hid (Fr [] wn ws) := (Fwr.out.then fc); obtain ⟨qa0, qa1, qa2, qa3, qa4, qa5, qa6, qa7, qa8, qa9, qa10, qa11⟩ := (K9.out.fr0 Fws.out).cells; have rlws := (K9.out.fr0 Fws.out).r.lt; have olws := (K9.out.fr0 Fws.out).o.lt; clear fc) | (go_at_call 11; refine (SH6.out _ (Fws.out.alloc _) _ (wins_two (Blk.new ws (otherW.vals ++ (slitW 6 L).vals) 23))).mono ?_; rintro e wt ⟨rfl, hS2, hD⟩; obtain ⟨ra0, ra1, ra2, ra3, ra4, ra5, ra6, ra7, ra8, ra9, ra10, ra11⟩ := hS2; have HD := hide hD; clear hD)))
    all_goals skip
    obtain ⟨F10, ⟨g5, x4, K10, GE5⟩, BQ⟩ := HD.out
    have K10' := hide K10
    have F10' := hide F10
    have GE5' := hide GE5
    have BQ' := hide BQ
    have qrl := K10.r.lt
    have qol := K10.o.lt
    clear HD SH6 F10 K10 GE5 BQ
    go_wp2_with fail
    refine (letter_any wt b bt g5 _ K10'.out.p 0 10 10 rfl rfl (corner 6 L hL 0 x4 (by omega) (by omega)).1 (by omega) (by omega)).mono ?_
    rintro e wu ⟨rfl, fz⟩
    have K11 := hide (K10'.out.fr0 fz)
    have F11 := hide (F10'.out.then fz)
    have BU := hide (BQ'.out.fr0 fz)
    clear fz qrl qol ra0 ra1 ra2 ra3 ra4 ra5 ra6 ra7 ra8 ra9 ra10 ra11
    obtain ⟨n0, n1', n2', n3, n4, n5, n6, n7, n8, n9, n10, n11⟩ := K11.out.cells
    go_wp2_with fail
    refine (show_yes wu b g5 _ K11.out.p (some ⟨lb, 0, none⟩) [otherW, slitW 5 S] 2 2 0 0 (wins_two BU.out) rfl (by decide) (small_kept 5 S hS).1 (errV_kept 5 S hS (by decide) (by decide) (by decide)).1).mono ?_
    rintro e wv ⟨rfl, u⟩
    obtain ⟨g6, kz, bz, fz, sz⟩ := K11.out.upd u
    have kz5 : KAt wv rb ob b bt g6 ⟨((10 : Nat) : Int), ((10 : Nat) : Int), V.next [(otherW, x4), (slitW 6 L, 0)] [otherW, slitW 5 S], 0, 0⟩ := kz
    rw [next5A] at kz5
    have K12 : Hid (KAt wv rb ob b bt g6 ⟨((10 : Nat) : Int), ((10 : Nat) : Int), [(otherW, otherW.fits (V.offOf [(otherW, x4), (slitW 6 L, 0)] 8)), (slitW 5 S, 0)], 0, 0⟩) := kz5
    generalize otherW.fits (V.offOf [(otherW, x4), (slitW 6 L, 0)] 8) = x5 at *
    have F12 : Hid (Fr [] w wv) := (F11.out).trans fz (by simp) (fun i hi => .inr (GE5'.out i hi))
    clear u kz kz5 bz fz sz n0 n1' n2' n3 n4 n5 n6 n7 n8 n9 n10 n11
    obtain ⟨n0, n1', n2', n3, n4, n5, n6, n7, n8, n9, n10, n11⟩ := K12.out.cells
    go_wp2_with fail
    refine (letter_any wv b bt g6 _ K12.out.p 0 10 10 rfl rfl (corner 5 S hS 0 x5 (by omega) (by omega)).1 (by omega) (by omega)).mono ?_
    rintro e wz ⟨rfl, fz⟩
    have F13 := hide (F12.out.then fz)
    clear fz
    go_wp2
    go_ret
    exact ⟨rfl, F13.out⟩
  · have KX := hide (K6.out.fr0 (Fwk.out.alloc (.cells #[.int .i64 8, .int .i64 4, .int .i64 4, .int .i64 3, .int .i64 3, .int .i64 0, .int .i64 0, .string ⟨#[111, 116, 104, 101, 114]⟩, .int .i64 5, .int .i64 0, .int .i64 0, .int .i64 1, .int .i64 1, .int .i64 0, .int .i64 3, .string (colS S)] 23)))
    have FX := hide (Fwk.out.alloc (.cells #[.int .i64 8, .int .i64 4, .int .i64 4, .int .i64 3, .int .i64 3, .int .i64 0, .int .i64 0, .string ⟨#[111, 116, 104, 101, 114]⟩, .int .i64 5, .int .i64 0, .int .i64 0, .int .i64 1, .int .i64 1, .int .i64 0, .int .i64 3, .string (colS S)] 23))
    go_wp2
    generalize wk.alloc (.cells #[.int .i64 8, .int .i64 4, .int .i64 4, .int .i64 3, .int .i64 3, .int .i64 0, .int .i64 0, .string ⟨#[111, 116, 104, 101, 114]⟩, .int .i64 5, .int .i64 0, .int .i64 0, .int .i64 1, .int .i64 1, .int .i64 0, .int .i64 3, .string (colS S)] 23) = wx at *
    obtain ⟨xa0, xa1, xa2, xa3, xa4, xa5, xa6, xa7, xa8, xa9, xa10, xa11⟩ := KX.out.cells
    have xrl := KX.out.r.lt
    have xol := KX.out.o.lt
    clear ia0 ia1 ia2 ia3 ia4 ia5 ia6 ia7 ia8 ia9 ia10 ia11 rlwk olwk
    go_region_held (fun w' => w'.cell? ⟨rb, 0, none⟩ = some (.pointer (some ⟨b, 0, none⟩)) ∧ w'.cell? ⟨rb, 1, none⟩ = some (.pointer (some ⟨bt, 0, none⟩)) ∧ w'.cell? ⟨rb, 2, none⟩ = some (.int .i64 ((10 : Nat) : Int)) ∧ w'.cell? ⟨rb, 3, none⟩ = some (.int .i64 ((10 : Nat) : Int)) ∧ w'.cell? ⟨ob, 0, none⟩ = some (.int .i64 8) ∧ w'.cell? ⟨ob, 1, none⟩ = some (.int .i64 4) ∧ w'.cell? ⟨ob, 2, none⟩ = some (.int .i64 4) ∧ w'.cell? ⟨ob, 3, none⟩ = some (.int .i64 3) ∧ w'.cell? ⟨ob, 4, none⟩ = some (.int .i64 3) ∧ w'.cell? ⟨ob, 5, none⟩ = some (.int .i64 0) ∧ w'.cell? ⟨ob, 6, none⟩ = some (.int .i64 0) ∧ w'.cell? ⟨ob, 7, none⟩ = some (.string ⟨#[111, 116, 104, 101, 114]⟩)) (go_keep) ((first | (go_at_call 18; refine (CS.out _).mono ?_; rintro e wy ⟨rfl, fb⟩; have Fwy : Hid (Fr [] wx wy) := (by refine Fr.then ?_ fb; repeat first | exact Fr.refl _ _ | apply Fr.drew | apply Fr.drewN); obtain ⟨ya0, ya1, ya2, ya3, ya4, ya5, ya6, ya7, ya8, ya9, ya10, ya11⟩ := (KX.out.fr0 Fwy.out).cells; clear fb) | (go_at_call 17; refine (slit_any _ _ _).mono ?_; rintro e wz' ⟨rfl, fc⟩; have Fwzz : Hid (Fr [] wx wz') := (Fwy.out.then fc); obtain ⟨za0, za1, za2, za3, za4, za5, za6, za7, za8, za9, za10, za11⟩ := (KX.out.fr0 Fwzz.out).cells; have rlwz' := (KX.out.fr0 Fwzz.out).r.lt; have olwz' := (KX.out.fr0 Fwzz.out).o.lt; clear fc)))
    all_goals go_wp2_with fail
    have KL : KAt (wz'.alloc (.cells #[.int .i64 5, .int .i64 0, .int .i64 0, .int .i64 1, .int .i64 1, .int .i64 0, .int .i64 3, .string (colS S), .int .i64 8, .int .i64 4, .int .i64 4, .int .i64 3, .int .i64 3, .int .i64 0, .int .i64 0, .string ⟨#[111, 116, 104, 101, 114]⟩] 23)) rb ob b bt g3 ⟨((10 : Nat) : Int), ((10 : Nat) : Int), [(otherW, 0), (slitW 5 L, o2)], 0, 0⟩ := K6.out.fr0 (FX.out.then (Fwzz.out.alloc _))
    have BL : Blk (wz'.alloc (.cells #[.int .i64 5, .int .i64 0, .int .i64 0, .int .i64 1, .int .i64 1, .int .i64 0, .int .i64 3, .string (colS S), .int .i64 8, .int .i64 4, .int .i64 4, .int .i64 3, .int .i64 3, .int .i64 0, .int .i64 0, .string ⟨#[111, 116, 104, 101, 114]⟩] 23)) wz'.heap.size ((slitW 5 S).vals ++ otherW.vals) 23 := Blk.new wz' ((slitW 5 S).vals ++ otherW.vals) 23
    have FL : Fr [] w (wz'.alloc (.cells #[.int .i64 5, .int .i64 0, .int .i64 0, .int .i64 1, .int .i64 1, .int .i64 0, .int .i64 3, .string (colS S), .int .i64 8, .int .i64 4, .int .i64 4, .int .i64 3, .int .i64 3, .int .i64 0, .int .i64 0, .string ⟨#[111, 116, 104, 101, 114]⟩] 23)) := F7.out.then (FX.out.then (Fwzz.out.alloc _))
    generalize wz'.alloc (.cells #[.int .i64 5, .int .i64 0, .int .i64 0, .int .i64 1, .int .i64 1, .int .i64 0, .int .i64 3, .string (colS S), .int .i64 8, .int .i64 4, .int .i64 4, .int .i64 3, .int .i64 3, .int .i64 0, .int .i64 0, .string ⟨#[111, 116, 104, 101, 114]⟩] 23) = wl at *
    generalize wz'.heap.size = lb at *
    have KL' := hide KL
    have BL' := hide BL
    have FL' := hide FL
    clear za0 za1 za2 za3 za4 za5 za6 za7 za8 za9 za10 za11
    obtain ⟨l0, l1, l2, l3, l4, l5, l6, l7, l8, l9, l10, l11⟩ := KL.cells
    have lrl := KL.r.lt
    have lol := KL.o.lt
    clear KL BL FL
    refine (show_yes wl b g3 _ KL'.out.p (some ⟨lb, 0, none⟩) [slitW 5 S, otherW] 2 2 0 0 (wins_two BL'.out) rfl (by decide) (small_kept 5 S hS).2 (errV_kept 5 S hS (by decide) (by decide) (by decide)).2).mono ?_
    rintro e wm ⟨rfl, u⟩
    obtain ⟨g4, kz, bz, fz, sz⟩ := KL'.out.upd u
    have K8 : Hid (KAt wm rb ob b bt g4 ⟨((10 : Nat) : Int), ((10 : Nat) : Int), [(slitW 5 S, leastF o2 (1 + (S : Int) - 1)), (otherW, otherW.fits (V.offOf [(otherW, 0), (slitW 5 L, o2)] 8))], 0, 0⟩) := by
      have := kz
      simp only [nextB, off5, fitsL 5 S hS o2 o2a] at this
      exact this
    generalize otherW.fits (V.offOf [(otherW, 0), (slitW 5 L, o2)] 8) = x3 at *
    have BM := hide (bz _ _ BL'.out)
    have F8 : Hid (Fr [] w wm) := (FL'.out).trans fz (by simp) (fun i hi => .inr (GE3.out i hi))
    have GE4 : Hid (∀ x ∈ pfoot b g4, w.heap.size ≤ x) := fun x hx => (sz x hx).elim (GE3.out x) (fun h => Nat.le_trans FL'.out.size h)
    clear u kz bz fz sz l0 l1 l2 l3 l4 l5 l6 l7 l8 l9 l10 l11 lrl lol
    obtain ⟨l0, l1, l2, l3, l4, l5, l6, l7, l8, l9, l10, l11⟩ := K8.out.cells
    have lrl := K8.out.r.lt
    have lol := K8.out.o.lt
    have o3a : 0 ≤ leastF o2 (1 + (S : Int) - 1) := by unfold leastF; split <;> omega
    have o3b : leastF o2 (1 + (S : Int) - 1) ≤ S := by unfold leastF; split <;> omega
    have LE : Hid (∀ w', Fr [] wm w' → Calls Tryd.prog 19 #[.agg #[.pointer (some ⟨b, 0, none⟩), .pointer (some ⟨bt, 0, none⟩), .int .i64 ((10 : Nat) : Int), .int .i64 ((10 : Nat) : Int)], .int .i64 (leastF o2 (1 + (S : Int) - 1))] w' fun e w'' => e = .returned (.bool true) ∧ Fr [] w' w'') :=
      fun w' f' => letter_any w' b bt g4 _ (K8.out.p.fr0 f') (leastF o2 (1 + (S : Int) - 1)) 10 10 rfl rfl ((corner 5 S hS _ x3 o3a o3b).2) o3a (by omega)
    have wrS : IntKind.i64.wrap (1 + (S : Int) - 1) = 1 + (S : Int) - 1 := by rw [IntKind.wrap_i64]; omega
    have LS := hide (fun w' => least_any o2 (1 + (S : Int) - 1) w')
    go_wp2
    go_region_held (fun w' => w'.cell? ⟨rb, 0, none⟩ = some (.pointer (some ⟨b, 0, none⟩)) ∧ w'.cell? ⟨rb, 1, none⟩ = some (.pointer (some ⟨bt, 0, none⟩)) ∧ w'.cell? ⟨rb, 2, none⟩ = some (.int .i64 ((10 : Nat) : Int)) ∧ w'.cell? ⟨rb, 3, none⟩ = some (.int .i64 ((10 : Nat) : Int)) ∧ w'.cell? ⟨ob, 0, none⟩ = some (.int .i64 8) ∧ w'.cell? ⟨ob, 1, none⟩ = some (.int .i64 4) ∧ w'.cell? ⟨ob, 2, none⟩ = some (.int .i64 4) ∧ w'.cell? ⟨ob, 3, none⟩ = some (.int .i64 3) ∧ w'.cell? ⟨ob, 4, none⟩ = some (.int .i64 3) ∧ w'.cell? ⟨ob, 5, none⟩ = some (.int .i64 0) ∧ w'.cell? ⟨ob, 6, none⟩ = some (.int .i64 0) ∧ w'.cell? ⟨ob, 7, none⟩ = some (.string ⟨#[111, 116, 104, 101, 114]⟩)) (go_keep) ((first | (go_at_call 22; refine (LS.out _).mono ?_; rintro e w' ⟨rfl, wc⟩; subst wc) | (go_at_call 19; refine (LE.out _ ?hf).mono ?_; (case hf => (repeat first | exact Fr.refl _ _ | apply Fr.drew | apply Fr.drewN)); rintro e wn ⟨rfl, fn⟩; have FN : Hid (Fr [] wm wn) := (by refine Fr.then ?_ fn; repeat first | exact Fr.refl _ _ | apply Fr.drew | apply Fr.drewN); obtain ⟨m0, m1, m2, m3, m4, m5, m6, m7, m8, m9, m10, m11⟩ := (K8.out.fr0 FN.out).cells; have mrl := (K8.out.fr0 FN.out).r.lt; have mol := (K8.out.fr0 FN.out).o.lt; clear fn)))
    all_goals skip
    have K9 := hide (K8.out.fr0 FN.out)
    have F9 := hide (F8.out.then FN.out)
    have BN := hide (BM.out.fr0 FN.out)
    clear LE LS wrS o3a o3b l0 l1 l2 l3 l4 l5 l6 l7 l8 l9 l10 l11 lrl lol
    have E6 := hide (errV_kept 6 L hL (by decide) (by decide) (by decide)).1
    obtain ⟨sx, hsx⟩ : ∃ sx : ByteArray, sx = strOfNums (Pt.told ⟨((10 : Nat) : Int), ((10 : Nat) : Int), [(slitW 5 S, leastF o2 (1 + (S : Int) - 1)), (otherW, x3)], 0, 0⟩ ⟨((10 : Nat) : Int), ((10 : Nat) : Int), V.next [(slitW 5 S, leastF o2 (1 + (S : Int) - 1)), (otherW, x3)] [otherW, slitW 6 L], 0, 0⟩) := ⟨_, rfl⟩
    have HSX := hide hsx
    clear hsx
    have SH6 : Hid (∀ w', Fr [] wn w' → ∀ lb', WinsAt w' (some ⟨lb', 0, none⟩) [otherW, slitW 6 L] → Calls Tryd.prog 11 #[.pointer (some ⟨b, 0, none⟩), .slice (some ⟨lb', 0, none⟩) 2 2, .agg #[.int .i64 0, .int .i64 0]] w' fun e w'' => e = .returned (.tuple #[.string sx, .int .i64 0]) ∧ (w''.cell? ⟨rb, 0, none⟩ = some (.pointer (some ⟨b, 0, none⟩)) ∧ w''.cell? ⟨rb, 1, none⟩ = some (.pointer (some ⟨bt, 0, none⟩)) ∧ w''.cell? ⟨rb, 2, none⟩ = some (.int .i64 ((10 : Nat) : Int)) ∧ w''.cell? ⟨rb, 3, none⟩ = some (.int .i64 ((10 : Nat) : Int)) ∧ w''.cell? ⟨ob, 0, none⟩ = some (.int .i64 8) ∧ w''.cell? ⟨ob, 1, none⟩ = some (.int .i64 4) ∧ w''.cell? ⟨ob, 2, none⟩ = some (.int .i64 4) ∧ w''.cell? ⟨ob, 3, none⟩ = some (.int .i64 3) ∧ w''.cell? ⟨ob, 4, none⟩ = some (.int .i64 3) ∧ w''.cell? ⟨ob, 5, none⟩ = some (.int .i64 0) ∧ w''.cell? ⟨ob, 6, none⟩ = some (.int .i64 0) ∧ w''.cell? ⟨ob, 7, none⟩ = some (.string ⟨#[111, 116, 104, 101, 114]⟩)) ∧ Fr [] w w'' ∧ (∃ g5 x4, KAt w'' rb ob b bt g5 ⟨((10 : Nat) : Int), ((10 : Nat) : Int), [(otherW, x4), (slitW 6 L, 0)], 0, 0⟩ ∧ ∀ x ∈ pfoot b g5, w.heap.size ≤ x) ∧ Blk w'' lb ((slitW 5 S).vals ++ otherW.vals) 23) := by
      intro w' f' lb' hw'
      have K' := K9.out.fr0 f'
      refine (show_yes w' b g4 _ K'.p _ _ 2 2 0 0 hw' rfl (by decide) (small_kept 6 L hL).1 E6.out).mono ?_
      rintro e w'' ⟨he, u⟩
      obtain ⟨g5, kz, bz, fz, sz⟩ := K'.upd u
      have k5 : KAt w'' rb ob b bt g5 ⟨((10 : Nat) : Int), ((10 : Nat) : Int), V.next [(slitW 5 S, leastF o2 (1 + (S : Int) - 1)), (otherW, x3)] [otherW, slitW 6 L], 0, 0⟩ := kz
      rw [next6B] at k5
      exact ⟨by rw [HSX.out]; exact he, k5.cells, (F9.out.then f').trans fz (by simp) (fun i hi => .inr (GE4.out i hi)), ⟨g5, _, k5, fun x hx => (sz x hx).elim (GE4.out x) (fun h => Nat.le_trans (F9.out.then f').size h)⟩, bz _ _ (BN.out.fr0 f')⟩
    have CL := hide (fun w' => column_any L w' hL)
    go_wp2
    go_region_held (fun w' => w'.cell? ⟨rb, 0, none⟩ = some (.pointer (some ⟨b, 0, none⟩)) ∧ w'.cell? ⟨rb, 1, none⟩ = some (.pointer (some ⟨bt, 0, none⟩)) ∧ w'.cell? ⟨rb, 2, none⟩ = some (.int .i64 ((10 : Nat) : Int)) ∧ w'.cell? ⟨rb, 3, none⟩ = some (.int .i64 ((10 : Nat) : Int)) ∧ w'.cell? ⟨ob, 0, none⟩ = some (.int .i64 8) ∧ w'.cell? ⟨ob, 1, none⟩ = some (.int .i64 4) ∧ w'.cell? ⟨ob, 2, none⟩ = some (.int .i64 4) ∧ w'.cell? ⟨ob, 3, none⟩ = some (.int .i64 3) ∧ w'.cell? ⟨ob, 4, none⟩ = some (.int .i64 3) ∧ w'.cell? ⟨ob, 5, none⟩ = some (.int .i64 0) ∧ w'.cell? ⟨ob, 6, none⟩ = some (.int .i64 0) ∧ w'.cell? ⟨ob, 7, none⟩ = some (.string ⟨#[111, 116, 104, 101, 114]⟩)) (go_keep) ((first | (go_at_call 18; refine (CL.out _).mono ?_; rintro e wr' ⟨rfl, fb⟩; have Fwr : Hid (Fr [] wn wr') := (by refine Fr.then ?_ fb; repeat first | exact Fr.refl _ _ | apply Fr.drew | apply Fr.drewN); obtain ⟨pa0, pa1, pa2, pa3, pa4, pa5, pa6, pa7, pa8, pa9, pa10, pa11⟩ := (K9.out.fr0 Fwr.out).cells; clear fb) | (go_at_call 17; refine (slit_any _ _ _).mono ?_; rintro e ws ⟨rfl, fc⟩; have Fws : Hid (Fr [] wn ws) := (Fwr.out.then fc); obtain ⟨qa0, qa1, qa2, qa3, qa4, qa5, qa6, qa7, qa8, qa9, qa10, qa11⟩ := (K9.out.fr0 Fws.out).cells; have rlws := (K9.out.fr0 Fws.out).r.lt; have olws := (K9.out.fr0 Fws.out).o.lt; clear fc) | (go_at_call 11; refine (SH6.out _ (Fws.out.alloc _) _ (wins_two (Blk.new ws (otherW.vals ++ (slitW 6 L).vals) 23))).mono ?_; rintro e wt ⟨rfl, hS2, hD⟩; obtain ⟨ra0, ra1, ra2, ra3, ra4, ra5, ra6, ra7, ra8, ra9, ra10, ra11⟩ := hS2; have HD := hide hD; clear hD)))
    all_goals skip
    obtain ⟨F10, ⟨g5, x4, K10, GE5⟩, BQ⟩ := HD.out
    have K10' := hide K10
    have F10' := hide F10
    have GE5' := hide GE5
    have BQ' := hide BQ
    have qrl := K10.r.lt
    have qol := K10.o.lt
    clear HD SH6 F10 K10 GE5 BQ
    go_wp2_with fail
    refine (letter_any wt b bt g5 _ K10'.out.p 0 10 10 rfl rfl (corner 6 L hL 0 x4 (by omega) (by omega)).1 (by omega) (by omega)).mono ?_
    rintro e wu ⟨rfl, fz⟩
    have K11 := hide (K10'.out.fr0 fz)
    have F11 := hide (F10'.out.then fz)
    have BU := hide (BQ'.out.fr0 fz)
    clear fz qrl qol ra0 ra1 ra2 ra3 ra4 ra5 ra6 ra7 ra8 ra9 ra10 ra11
    obtain ⟨n0, n1', n2', n3, n4, n5, n6, n7, n8, n9, n10, n11⟩ := K11.out.cells
    go_wp2_with fail
    refine (show_yes wu b g5 _ K11.out.p (some ⟨lb, 0, none⟩) [slitW 5 S, otherW] 2 2 0 0 (wins_two BU.out) rfl (by decide) (small_kept 5 S hS).2 (errV_kept 5 S hS (by decide) (by decide) (by decide)).2).mono ?_
    rintro e wv ⟨rfl, u⟩
    obtain ⟨g6, kz, bz, fz, sz⟩ := K11.out.upd u
    have kz5 : KAt wv rb ob b bt g6 ⟨((10 : Nat) : Int), ((10 : Nat) : Int), V.next [(otherW, x4), (slitW 6 L, 0)] [slitW 5 S, otherW], 0, 0⟩ := kz
    rw [next5B] at kz5
    have K12 : Hid (KAt wv rb ob b bt g6 ⟨((10 : Nat) : Int), ((10 : Nat) : Int), [(slitW 5 S, 0), (otherW, otherW.fits (V.offOf [(otherW, x4), (slitW 6 L, 0)] 8))], 0, 0⟩) := kz5
    generalize otherW.fits (V.offOf [(otherW, x4), (slitW 6 L, 0)] 8) = x5 at *
    have F12 : Hid (Fr [] w wv) := (F11.out).trans fz (by simp) (fun i hi => .inr (GE5'.out i hi))
    clear u kz kz5 bz fz sz n0 n1' n2' n3 n4 n5 n6 n7 n8 n9 n10 n11
    obtain ⟨n0, n1', n2', n3, n4, n5, n6, n7, n8, n9, n10, n11⟩ := K12.out.cells
    go_wp2_with fail
    refine (letter_any wv b bt g6 _ K12.out.p 0 10 10 rfl rfl (corner 5 S hS 0 x5 (by omega) (by omega)).2 (by omega) (by omega)).mono ?_
    rintro e wz ⟨rfl, fz⟩
    have F13 := hide (F12.out.then fz)
    clear fz
    go_wp2
    go_ret
    exact ⟨rfl, F13.out⟩
end Go.Proofs.YtjhccghhinlmdaaDoor
