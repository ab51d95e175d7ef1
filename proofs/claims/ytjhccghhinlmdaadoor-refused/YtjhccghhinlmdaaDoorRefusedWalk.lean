/- Refused walked: what is refused has its error, answers no bytes and changes nothing. -/
import Derived.Test.YtjhccghhinlmdaaDoorFrontsWalk
import Derived.Test.YtjhccghhinlmdaaDoorKeepShows
import Derived.Test.YtjhccghhinlmdaaDoorWinRows
namespace Go.Proofs.YtjhccghhinlmdaaDoor
open Go.RowKit

def Win.zero : Win := ⟨0, 0, 0, 0, 0, 0, 0, ⟨#[]⟩⟩
theorem errV_zero (ws : List Win) : errV (Win.zero :: ws) = if 12 < ws.length + 1 then 3 else 4 := by
  have h0 : errAt (Win.zero :: ws) 0 Win.zero = 4 := by unfold errAt; rw [if_pos (.inl (by decide))]
  unfold errV
  rw [List.length_cons]
  split
  · rfl
  · simp [errFrom, h0]
theorem row_one (a : Win) (oka : a.Ok) (ha : ∀ k, k < a.text.size → byteAt a.text k ≠ 10) (W H : Nat) (y : Int) (hy : 0 ≤ y) (hy2 : y < H) : rowOf W y (V.grid [(a, 0)] W H) = lookR a a W y := by
  rw [rowOf_grid _ W H y hy hy2]
  unfold lookR
  apply List.map_congr_left
  intro x _
  rw [view_one a oka ha]
  unfold lookC
  by_cases h : a.has x y = true
  · simp [h]
  · simp [h]
theorem idx_one (a : Win) (key : Int) (h : a.key ≠ key) : V.idx [(a, 0)] key = none := by simp [V.idx, h]
theorem idx_one' (a : Win) : V.idx [(a, 0)] a.key = some 0 := by simp [V.idx]

theorem str_none : strOfNums [] = ByteArray.empty := rfl
theorem told_again (W H : Int) (a : Win) : Pt.told ⟨W, H, [(a, 0)], 0, 0⟩ ⟨W, H, V.next [(a, 0)] [a], 0, 0⟩ = [] := by
  have e : V.next [(a, 0)] [a] = [(a, 0)] := by simp [V.next, V.offOf, fits_zero]
  rw [e]
  exact change_same _ _ _ _

set_option maxHeartbeats 8000000 in
set_option maxRecDepth 100000 in
theorem refused_any (a c : Int) (o : Win) (va : Option Addr) (vs : List Win) (n vcap : Nat) (key by' size : Int) (w : World) (ho : o.In) (hv : WinsAt w va vs) (hn : vs.length = n) (hb : n * 72 ≤ 140737488351232) (hsz : ∀ o ∈ vs, o.text.size ≤ 140737488355328)
    (a1 : -9223372036854775808 ≤ a) (a2 : a ≤ 9223372036854775807) (c1 : -9223372036854775808 ≤ c) (c2 : c ≤ 9223372036854775807) (y1 : -9223372036854775808 ≤ by') (y2 : by' ≤ 9223372036854775807) (s1 : -9223372036854775808 ≤ size) (s2 : size ≤ 9223372036854775807) :
    Calls Tryd.prog 5 #[.int .i64 a, .int .i64 c, .agg #[.int .i64 o.key, .int .i64 o.x, .int .i64 o.y, .int .i64 o.w, .int .i64 o.h, .int .i64 o.layer, .int .i64 o.style, .string o.text], .slice va n vcap, .int .i64 key, .int .i64 by', .int .i64 size] w fun e w' => e = .returned (.bool true) ∧ Fr [] w w' := by
  subst hn
  have OP := hide (opened_any a c (w.alloc (.cells #[.int .i64 o.key, .int .i64 o.x, .int .i64 o.y, .int .i64 o.w, .int .i64 o.h, .int .i64 o.layer, .int .i64 o.style, .string o.text] 23)) a1 a2 c1 c2)
  have pw := pickI_bd a 40 (by decide)
  have ph := pickI_bd c 20 (by decide)
  obtain ⟨Wn, hWn⟩ := Int.eq_ofNat_of_zero_le (show 0 ≤ 1 + pickI a 40 by omega)
  obtain ⟨Hn, hHn⟩ := Int.eq_ofNat_of_zero_le (show 0 ≤ 1 + pickI c 20 by omega)
  have wn1 : 1 ≤ Wn := by omega
  have wn2 : Wn ≤ 40 := by omega
  have hn1 : 1 ≤ Hn := by omega
  have hn2 : Hn ≤ 20 := by omega
  rw [hWn, hHn] at OP
  clear hWn hHn pw ph
  have FO := hide (fun w' => fit_in o 1 w' ho)
  have oka := fitW_ok o 1 (by decide) (by decide)
  have pla : ∀ k, k < (fitW o 1).text.size → byteAt (fitW o 1).text k ≠ 10 := fun k hk => fitT_plain o.text k hk
  have hkk : (fitW o 1).key = 1 := rfl
  generalize fitW o 1 = A at *
  have EV := hide (errV_one A oka)
  have OKA := hide oka
  have RT := hide (fun y hy hy2 => row_one A oka pla Wn Hn y hy hy2)
  have HV := hide hv
  have HS := hide hsz
  have KK := hide hkk
  obtain ⟨i0, hi, hz0, hz1, hz2⟩ := info_parts info_win
  have pb := pickI_bd by' 4611686018427387904 (by decide)
  have ps := pickI_bd size 4611686018427387904 (by decide)
  have PB := hide (fun w' => pick_any by' 4611686018427387904 w' y1 y2 (by decide) (by decide))
  have PS := hide (fun w' => pick_any size 4611686018427387904 w' s1 s2 (by decide) (by decide))
  generalize pickI by' 4611686018427387904 = pkb at *
  generalize pickI size 4611686018427387904 = pks at *
  have Z1 : Hid (sizeB (41 + pks) 5 = false) := by show _ = _; simp [sizeB]; omega
  have Z2 : Hid (sizeB 5 (-pks) = false) := by show _ = _; simp [sizeB]; omega
  clear pla hkk ho oka hv hsz
  go_enter Tryd.func5, Tryd.ntmps5
  go_wp2_with fail
  refine OP.out.mono ?_
  rintro e w1 ⟨b, g, bt, gt, rfl, n1, n2, n3, f1, p1, t1⟩
  have LT := hide p1.lt
  have LTT := hide t1.lt
  have GE := hide n1
  have GET := hide n2
  have DJ := hide n3
  have F1 : Hid (Fr [] w w1) := ((Fr.refl _ _).alloc _).then f1
  have BO := hide ((Blk.new w o.vals 23).fr0 f1)
  have oc0 : w1.cell? ⟨w.heap.size, 0, none⟩ = some (.int .i64 o.key) := BO.out.cell 0
  have oc1 : w1.cell? ⟨w.heap.size, 1, none⟩ = some (.int .i64 o.x) := BO.out.cell 1
  have oc2 : w1.cell? ⟨w.heap.size, 2, none⟩ = some (.int .i64 o.y) := BO.out.cell 2
  have oc3 : w1.cell? ⟨w.heap.size, 3, none⟩ = some (.int .i64 o.w) := BO.out.cell 3
  have oc4 : w1.cell? ⟨w.heap.size, 4, none⟩ = some (.int .i64 o.h) := BO.out.cell 4
  have oc5 : w1.cell? ⟨w.heap.size, 5, none⟩ = some (.int .i64 o.layer) := BO.out.cell 5
  have oc6 : w1.cell? ⟨w.heap.size, 6, none⟩ = some (.int .i64 o.style) := BO.out.cell 6
  have oc7 : w1.cell? ⟨w.heap.size, 7, none⟩ = some (.string o.text) := BO.out.cell 7
  have lt1 := BO.out.lt
  have P1 := hide p1
  have T1 := hide t1
  clear n1 n2 n3 f1 p1 t1 OP
  go_wp2_with fail
  refine (FO.out _).mono ?_
  rintro e w2 ⟨rfl, f2⟩
  have BR2 : Hid (Blk w2 w1.heap.size [.pointer (some ⟨b, 0, none⟩), .pointer (some ⟨bt, 0, none⟩), .int .i64 (Wn : Int), .int .i64 (Hn : Int)] 27) := (Blk.new w1 _ _).fr0 f2
  have F2 : Hid (Fr [] w w2) := (F1.out.alloc _).then f2
  have P2 := hide (P1.out.fr0 (((Fr.refl _ _).alloc _).then f2))
  have T2 := hide (T1.out.fr0 (((Fr.refl _ _).alloc _).then f2))
  have rc0 : w2.cell? ⟨w1.heap.size, 0, none⟩ = some (.pointer (some ⟨b, 0, none⟩)) := BR2.out.cell 0
  have rc1 : w2.cell? ⟨w1.heap.size, 1, none⟩ = some (.pointer (some ⟨bt, 0, none⟩)) := BR2.out.cell 1
  have rc2 : w2.cell? ⟨w1.heap.size, 2, none⟩ = some (.int .i64 (Wn : Int)) := BR2.out.cell 2
  have rc3 : w2.cell? ⟨w1.heap.size, 3, none⟩ = some (.int .i64 (Hn : Int)) := BR2.out.cell 3
  have lt2 := BR2.out.lt
  clear oc0 oc1 oc2 oc3 oc4 oc5 oc6 oc7 f2 P1 BO F1 T1
  have FF : Hid (Fr [] w2 ((w2.alloc (.cells #[.int .i64 A.key, .int .i64 A.x, .int .i64 A.y, .int .i64 A.w, .int .i64 A.h, .int .i64 A.layer, .int .i64 A.style, .string A.text] 23)).alloc (.cells #[.int .i64 A.key, .int .i64 A.x, .int .i64 A.y, .int .i64 A.w, .int .i64 A.h, .int .i64 A.layer, .int .i64 A.style, .string A.text] 23))) := ((Fr.refl _ _).alloc _).alloc _
  have WS : Hid (WinsAt ((w2.alloc (.cells #[.int .i64 A.key, .int .i64 A.x, .int .i64 A.y, .int .i64 A.w, .int .i64 A.h, .int .i64 A.layer, .int .i64 A.style, .string A.text] 23)).alloc (.cells #[.int .i64 A.key, .int .i64 A.x, .int .i64 A.y, .int .i64 A.w, .int .i64 A.h, .int .i64 A.layer, .int .i64 A.style, .string A.text] 23)) (some ⟨w2.heap.size + 1, 0, none⟩) [A]) := by
    have := Blk.new (w2.alloc (.cells #[.int .i64 A.key, .int .i64 A.x, .int .i64 A.y, .int .i64 A.w, .int .i64 A.h, .int .i64 A.layer, .int .i64 A.style, .string A.text] 23)) A.vals 23
    rw [World.size_alloc] at this
    exact wins_one this
  have BA : Hid (Blk ((w2.alloc (.cells #[.int .i64 A.key, .int .i64 A.x, .int .i64 A.y, .int .i64 A.w, .int .i64 A.h, .int .i64 A.layer, .int .i64 A.style, .string A.text] 23)).alloc (.cells #[.int .i64 A.key, .int .i64 A.x, .int .i64 A.y, .int .i64 A.w, .int .i64 A.h, .int .i64 A.layer, .int .i64 A.style, .string A.text] 23)) w2.heap.size A.vals 23) := (Blk.new w2 A.vals 23).alloc _
  have TA := hide (show ∀ x ∈ [A], x.text.size ≤ 9223372036854775807 by intro x hx; simp at hx; subst hx; have := OKA.out.t; omega)
  have SH := hide (shows_yes _ b g _ bt gt _ ⟨P2.out.fr0 FF.out, T2.out.fr0 FF.out, DJ.out⟩ (Wn : Int) (Hn : Int) (some ⟨w2.heap.size + 1, 0, none⟩) [A] 1 1 WS.out rfl (by decide) TA.out EV.out)
  go_wp2_with fail
  refine SH.out.mono ?_
  rintro e w3 ⟨rfl, g3, gt3, r3, f3, s3⟩
  have p3 := r3.p
  have NB : Hid (∀ x, w1.heap.size ≤ x → x ∉ pfoot b g ++ foot bt gt) := fun x hx hm => by
    rcases List.mem_append.1 hm with hm | hm
    · have := LT.out x hm; omega
    · have := LTT.out x hm; omega
  have BR3 := hide ((BR2.out.fr0 FF.out).fr f3 (NB.out _ (Nat.le_refl _)))
  have BA3 := hide (BA.out.fr f3 (NB.out _ (by omega)))
  have P3 : Hid (PntAt w3 b g3 ⟨(Wn : Int), (Hn : Int), [(A, 0)], 0, 0⟩) := by
    have := p3
    rw [next_nil] at this
    exact this
  have F3 : Hid (Fr [] w w3) := (F2.out.then FF.out).trans f3 (by simp) (fun i hi => .inr (by
    rcases List.mem_append.1 hi with hi | hi
    · have := GE.out i hi; simp at this; omega
    · have := GET.out i hi; simp at this; omega))
  have GE3 : Hid (∀ x ∈ pfoot b g3, w.heap.size ≤ x) := fun x hx => by
    rcases s3 x (List.mem_append.2 (.inl hx)) with h1 | h1
    · rcases List.mem_append.1 h1 with h1 | h1
      · have := GE.out x h1; simp at this; omega
      · have := GET.out x h1; simp at this; omega
    · simp at h1; omega
  clear p3 r3 f3 s3 SH WS P2 T2 BA BR2 FF rc0 rc1 rc2 rc3 GE GET LT LTT F2
  go_wp2
  go_loopw [18, 19] (fun u i wr => ∃ (k : Nat), i = .int .i64 k ∧ k ≤ vs.length ∧ Fr [] w3 wr ∧ wr.ownsRow w3.heap.size 23 8 u (k + 1) (flatW (Win.zero :: vs.take k))) (fun _ i _ => vs.length - (intOf i).toNat)
  case atStart =>
    refine ⟨0, rfl, by omega, (Fr.refl _ _).alloc _, rfl, .inr ⟨w3.heap.size, 1, Win.zero.vals.toArray, rfl, Nat.le_refl _, heap_alloc_new w3 _, by decide, by unfold maxLen; omega, rfl, ?_⟩⟩
    simp [flatW, Win.vals]
  case round =>
    obtain ⟨k, rfl, hk, f4, hown⟩ := hrel
    by_cases hend : k < vs.length
    · obtain ⟨q, hq⟩ : ∃ q, vs[k]? = some q := ⟨_, List.getElem?_eq_getElem hend⟩
      obtain ⟨vb, voff, rfl, C⟩ := HV.out.fr (F3.out.then f4) (by simp) k q hq
      obtain ⟨d0, d1, d2, d3, d4, d5, d6, d7⟩ := C
      have b1 : (k : Int) < vs.length := by omega
      have HO := hide hown
      have ST : Hid (flatW (Win.zero :: vs.take k) ++ q.vals = flatW (Win.zero :: vs.take (k + 1))) := by
        show _ = _
        rw [flatW_snoc, List.take_add_one, hq]; rfl
      have hsz4 := f4.size
      clear hown hq
      go_wp2_with (at_builtin; refine wpList_append_lies _ rfl (.tmp 56) (.tmp 61) 34 rfl w3.heap.size 23 i0 (.agg #[.int .i64 0, .int .i64 0, .int .i64 0, .int .i64 0, .int .i64 0, .int .i64 0, .int .i64 0, .string ⟨#[]⟩]) 8 72 Tryd.underlying34 hi hz0 hz1 hz2 rfl (by decide) u18 (k + 1) (flatW (Win.zero :: vs.take k)) rfl (own_fr0 HO.out ((Fr.refl _ _).alloc _)) ⟨wr.heap.size, 0, none⟩ 1 1 [.int .i64 q.key, .int .i64 q.x, .int .i64 q.y, .int .i64 q.w, .int .i64 q.h, .int .i64 q.layer, .int .i64 q.style, .string q.text] rfl rfl (World.news_of_block (cs := #[.int .i64 q.key, .int .i64 q.x, .int .i64 q.y, .int .i64 q.w, .int .i64 q.h, .int .i64 q.layer, .int .i64 q.style, .string q.text]) (t := 23) (fr := (0, 0)) (by exact heap_alloc_new wr _)) (eight_one _ _ _ _ _ _ _ _) (by omega) (by unfold maxLen; omega) (by omega) (by simp; omega) (wr.heap.size + 1) (by simp) ?_; intro g1 cap1 w4 hown1 hgrow hat hlt1; have F4 : Hid (Fr [] w3 w4) := (Fr.grown (f4.alloc _) hgrow (fun j hj => .inr (HO.out.lt j hj).1)); have HO1 : Hid (w4.ownsRow w3.heap.size 23 8 (.slice (some ⟨g1, 0, none⟩) (k + 1 + 1) cap1) (k + 1 + 1) (flatW (Win.zero :: vs.take (k + 1)))) := (by rw [← ST.out]; exact hown1); clear hown1 hgrow hat)
      go_roundw
      case rel => exact ⟨k + 1, by go_num, by omega, F4.out, HO1.out⟩
      case measure => simp [intOf]; omega
    · have hk' : k = vs.length := by omega
      subst hk'
      rw [List.take_of_length_le (Nat.le_refl _)] at hown
      obtain ⟨lg, lcap, rfl, _, _⟩ := hown.form (by omega)
      obtain ⟨lw, lc⟩ := own_wins (ws := Win.zero :: vs) (by simp) hown
      have BR4 := hide (BR3.out.fr0 f4)
      have BA4 := hide (BA3.out.fr0 f4)
      have P4 := hide (P3.out.fr0 f4)
      have F4 := hide (F3.out.then f4)
      have EZ := errV_zero vs
      have SN := hide (show_no wr b (some ⟨lg, 0, none⟩) (Win.zero :: vs) (vs.length + 1) lcap 3 0 lw (by simp) lc (by omega) (by intro x hx; rcases List.mem_cons.1 hx with rfl | hx; (exact (by decide : (0 : Nat) ≤ 9223372036854775807)); (have := HS.out x hx; omega)) (by rw [EZ]; split <;> decide))
      rw [EZ] at SN
      have rc0 : wr.cell? ⟨w1.heap.size, 0, none⟩ = some (.pointer (some ⟨b, 0, none⟩)) := BR4.out.cell 0
      have rc1 : wr.cell? ⟨w1.heap.size, 1, none⟩ = some (.pointer (some ⟨bt, 0, none⟩)) := BR4.out.cell 1
      have rc2 : wr.cell? ⟨w1.heap.size, 2, none⟩ = some (.int .i64 (Wn : Int)) := BR4.out.cell 2
      have rc3 : wr.cell? ⟨w1.heap.size, 3, none⟩ = some (.int .i64 (Hn : Int)) := BR4.out.cell 3
      clear hown lw EZ HV HS BR3 BA3 P3 hend
      by_cases h12 : 12 < vs.length + 1
      · rw [if_pos h12] at SN
        have h12i : (12 : Int) < (vs.length : Int) + 1 := by omega
        by_cases hk1 : key = 1
        · subst hk1
          go_wp2_with fail
          refine SN.out.mono ?_
          rintro e w5 ⟨rfl, f5⟩
          have BR5 := hide (BR4.out.fr0 f5)
          have BA5 := hide (BA4.out.fr0 f5)
          have P5 := hide (P4.out.fr0 f5)
          have F5 := hide (F4.out.then f5)
          have qc0 : w5.cell? ⟨w1.heap.size, 0, none⟩ = some (.pointer (some ⟨b, 0, none⟩)) := BR5.out.cell 0
          have qc1 : w5.cell? ⟨w1.heap.size, 1, none⟩ = some (.pointer (some ⟨bt, 0, none⟩)) := BR5.out.cell 1
          have qc2 : w5.cell? ⟨w1.heap.size, 2, none⟩ = some (.int .i64 (Wn : Int)) := BR5.out.cell 2
          have qc3 : w5.cell? ⟨w1.heap.size, 3, none⟩ = some (.int .i64 (Hn : Int)) := BR5.out.cell 3
          have lt5 := BR5.out.lt
          clear f5 BR4 BA4 P4 F4 rc0 rc1 rc2 rc3 SN
          go_wp2_with fail
          refine (scroll_none w5 b g3 _ P5.out 2 by' (idx_one A 2 (by rw [KK.out]; decide))).mono ?_
          clear qc0 qc1 qc2 qc3 lt5
          rintro e w5 ⟨rfl, fq⟩
          have BR5 := hide (BR5.out.fr0 fq)
          have BA5 := hide (BA5.out.fr0 fq)
          have P5 := hide (P5.out.fr0 fq)
          have F5 := hide (F5.out.then fq)
          have qc0 : w5.cell? ⟨w1.heap.size, 0, none⟩ = some (.pointer (some ⟨b, 0, none⟩)) := BR5.out.cell 0
          have qc1 : w5.cell? ⟨w1.heap.size, 1, none⟩ = some (.pointer (some ⟨bt, 0, none⟩)) := BR5.out.cell 1
          have qc2 : w5.cell? ⟨w1.heap.size, 2, none⟩ = some (.int .i64 (Wn : Int)) := BR5.out.cell 2
          have qc3 : w5.cell? ⟨w1.heap.size, 3, none⟩ = some (.int .i64 (Hn : Int)) := BR5.out.cell 3
          have lt5 := BR5.out.lt
          have SF : Hid (∀ w', Fr [] w5 w' → Calls Tryd.prog 20 #[.pointer (some ⟨b, 0, none⟩), .int .i64 1, .int .i64 (501 + pkb)] w' fun e w'' => e = .returned (.tuple #[.string ByteArray.empty, .int .i64 8]) ∧ w''.cell? ⟨w1.heap.size, 0, none⟩ = some (.pointer (some ⟨b, 0, none⟩)) ∧ w''.cell? ⟨w1.heap.size, 3, none⟩ = some (.int .i64 (Hn : Int)) ∧ Fr [] w5 w'') := by
            intro w' f'
            refine (scroll_far w' b g3 _ (P5.out.fr0 f') 1 (501 + pkb) 0 (by rw [← KK.out]; exact idx_one' A) (.inr (by omega))).mono ?_
            rintro e w'' ⟨he, f2⟩
            have B2 := BR5.out.fr0 (f'.then f2)
            exact ⟨he, B2.cell 0, B2.cell 3, f'.then f2⟩
          clear fq
          have wrp : IntKind.i64.wrap (501 + pkb) = 501 + pkb := by rw [IntKind.wrap_i64]; omega
          go_wp2
          go_region_held (fun w' => w'.cell? ⟨w1.heap.size, 0, none⟩ = some (.pointer (some ⟨b, 0, none⟩))) (go_keep) ((first | (go_at_call 14; refine (PB.out _).mono ?_; rintro e w' ⟨rfl, wc⟩; subst wc) | (go_at_call 20; refine (SF.out _ ?hf).mono ?_; (case hf => (repeat first | exact Fr.refl _ _ | apply Fr.drew | apply Fr.drewN)); rintro e w6 ⟨rfl, x0, x3, fx⟩; have FX := hide fx; clear fx)))
          clear SF wrp
          go_wp2
          go_quiet ((first | (go_at_call 14; exact Calls.quiet_of_same ((PS.out _).mono fun e w' ⟨h1, h2⟩ => ⟨h1, h2.symm⟩)) | (go_at_call 23; exact Calls.quiet_of_same ((presize_no _ _ _ _ Z1.out).mono fun e w' ⟨h1, h2⟩ => ⟨h1, h2.symm⟩))))
          go_wp2
          have z0' : (w6.drewN nq).cell? ⟨w1.heap.size, 0, none⟩ = some (.pointer (some ⟨b, 0, none⟩)) := x0
          have z3' : (w6.drewN nq).cell? ⟨w1.heap.size, 3, none⟩ = some (.int .i64 (Hn : Int)) := x3
          have FZ : Hid (Fr [] w5 (w6.drewN nq)) := FX.out.drewN _
          clear x0 x3
          generalize w6.drewN nq = w66 at *
          go_quiet ((first | (go_at_call 14; exact Calls.quiet_of_same ((PS.out _).mono fun e w' ⟨h1, h2⟩ => ⟨h1, h2.symm⟩)) | (go_at_call 23; exact Calls.quiet_of_same ((presize_no _ _ _ _ Z2.out).mono fun e w' ⟨h1, h2⟩ => ⟨h1, h2.symm⟩))))
          go_wp2
          go_loopw [23] (fun i wr => ∃ y : Nat, i = .int .i64 y ∧ y ≤ Hn ∧ Fr [] w5 wr) (fun i _ => (3000 - intOf i).toNat)
          case atStart => exact ⟨0, rfl, by omega, FZ.out.drewN _⟩
          case round =>
            obtain ⟨y, rfl, hy, f6⟩ := hrel
            have BR6 := BR5.out.fr0 f6
            have BA6 := BA5.out.fr0 f6
            have rc0 : wr.cell? ⟨w1.heap.size, 0, none⟩ = some (.pointer (some ⟨b, 0, none⟩)) := BR6.cell 0
            have rc1 : wr.cell? ⟨w1.heap.size, 1, none⟩ = some (.pointer (some ⟨bt, 0, none⟩)) := BR6.cell 1
            have rc2 : wr.cell? ⟨w1.heap.size, 2, none⟩ = some (.int .i64 (Wn : Int)) := BR6.cell 2
            have rc3 : wr.cell? ⟨w1.heap.size, 3, none⟩ = some (.int .i64 (Hn : Int)) := BR6.cell 3
            have ac0 : wr.cell? ⟨w2.heap.size, 0, none⟩ = some (.int .i64 A.key) := BA6.cell 0
            have ac1 : wr.cell? ⟨w2.heap.size, 1, none⟩ = some (.int .i64 A.x) := BA6.cell 1
            have ac2 : wr.cell? ⟨w2.heap.size, 2, none⟩ = some (.int .i64 A.y) := BA6.cell 2
            have ac3 : wr.cell? ⟨w2.heap.size, 3, none⟩ = some (.int .i64 A.w) := BA6.cell 3
            have ac4 : wr.cell? ⟨w2.heap.size, 4, none⟩ = some (.int .i64 A.h) := BA6.cell 4
            have ac5 : wr.cell? ⟨w2.heap.size, 5, none⟩ = some (.int .i64 A.layer) := BA6.cell 5
            have ac6 : wr.cell? ⟨w2.heap.size, 6, none⟩ = some (.int .i64 A.style) := BA6.cell 6
            have ac7 : wr.cell? ⟨w2.heap.size, 7, none⟩ = some (.string A.text) := BA6.cell 7
            have HR6 := hide BR6
            have lt6 := BR6.lt
            have lt7 := BA6.lt
            clear BR6 BA6 qc0 qc1 qc2 qc3
            by_cases hend : y < Hn
            · have b1 : (y : Int) < Hn := by omega
              go_wp2_with fail
              refine (looked_any A A Wn y wr OKA.out OKA.out wn2 (by omega) (by omega)).mono ?_
              rintro e w7 ⟨rfl, f7⟩
              have BR7 := HR6.out.fr0 f7
              have sc0 : w7.cell? ⟨w1.heap.size, 0, none⟩ = some (.pointer (some ⟨b, 0, none⟩)) := BR7.cell 0
              have sc1 : w7.cell? ⟨w1.heap.size, 1, none⟩ = some (.pointer (some ⟨bt, 0, none⟩)) := BR7.cell 1
              have sc2 : w7.cell? ⟨w1.heap.size, 2, none⟩ = some (.int .i64 (Wn : Int)) := BR7.cell 2
              have sc3 : w7.cell? ⟨w1.heap.size, 3, none⟩ = some (.int .i64 (Hn : Int)) := BR7.cell 3
              have PR := hide (prow_yes w7 b g3 _ (P5.out.fr0 (f6.then f7)) y (by omega) b1)
              simp only [] at PR
              rw [RT.out y (by omega) b1] at PR
              have F7 := hide (f6.then f7)
              clear BR7 f7 rc0 rc1 rc2 rc3 ac0 ac1 ac2 ac3 ac4 ac5 ac6 ac7
              go_wp2_with fail
              refine PR.out.mono ?_
              rintro e w8 ⟨rfl, f8⟩
              have F8 := hide (F7.out.then f8)
              clear f8
              go_wp2
              go_roundw
              case rel => exact ⟨y + 1, by go_num, by omega, F8.out⟩
              case measure => simp [intOf]; omega
            · have b1 : ¬ (y : Int) < Hn := by omega
              have P6 := hide (P5.out.fr0 f6)
              have WS : Hid (WinsAt (wr.alloc (.cells #[.int .i64 A.key, .int .i64 A.x, .int .i64 A.y, .int .i64 A.w, .int .i64 A.h, .int .i64 A.layer, .int .i64 A.style, .string A.text] 23)) (some ⟨wr.heap.size, 0, none⟩) [A]) := wins_one (Blk.new wr A.vals 23)
              have SH := hide (show_yes _ b g3 _ (P6.out.fr0 ((Fr.refl _ _).alloc (.cells #[.int .i64 A.key, .int .i64 A.x, .int .i64 A.y, .int .i64 A.w, .int .i64 A.h, .int .i64 A.layer, .int .i64 A.style, .string A.text] 23))) (some ⟨wr.heap.size, 0, none⟩) [A] 1 1 0 0 WS.out rfl (by decide) TA.out EV.out)
              rw [told_again, str_none] at SH
              go_wp2_with fail
              refine (prow_no wr b g3 _ P6.out (Hn : Int) (.inr (Int.le_refl _))).mono ?_
              rintro e w' ⟨rfl, wc⟩
              subst wc
              go_wp2_with fail
              refine SH.out.mono ?_
              rintro e w9 ⟨rfl, g9, p9, f9, s9⟩
              have F9 : Hid (Fr [] w w9) := ((F5.out.then f6).alloc _).trans f9 (by simp) (fun i hi => .inr (GE3.out i hi))
              clear p9 f9 s9
              go_wp2
              go_ret
              exact ⟨rfl, F9.out⟩
        · have bk : (key == 1) = false := by simpa using hk1
          have KN : Hid ((1 : Int) ≠ key) := fun h => hk1 h.symm
          clear hk1
          go_wp2_with fail
          refine SN.out.mono ?_
          rintro e w5 ⟨rfl, f5⟩
          have BR5 := hide (BR4.out.fr0 f5)
          have BA5 := hide (BA4.out.fr0 f5)
          have P5 := hide (P4.out.fr0 f5)
          have F5 := hide (F4.out.then f5)
          have qc0 : w5.cell? ⟨w1.heap.size, 0, none⟩ = some (.pointer (some ⟨b, 0, none⟩)) := BR5.out.cell 0
          have qc1 : w5.cell? ⟨w1.heap.size, 1, none⟩ = some (.pointer (some ⟨bt, 0, none⟩)) := BR5.out.cell 1
          have qc2 : w5.cell? ⟨w1.heap.size, 2, none⟩ = some (.int .i64 (Wn : Int)) := BR5.out.cell 2
          have qc3 : w5.cell? ⟨w1.heap.size, 3, none⟩ = some (.int .i64 (Hn : Int)) := BR5.out.cell 3
          have lt5 := BR5.out.lt
          clear f5 BR4 BA4 P4 F4 rc0 rc1 rc2 rc3 SN
          go_wp2_with fail
          refine (scroll_none w5 b g3 _ P5.out key by' (idx_one A key (by rw [KK.out]; exact KN.out))).mono ?_
          clear qc0 qc1 qc2 qc3 lt5
          rintro e w5 ⟨rfl, fq⟩
          have BR5 := hide (BR5.out.fr0 fq)
          have BA5 := hide (BA5.out.fr0 fq)
          have P5 := hide (P5.out.fr0 fq)
          have F5 := hide (F5.out.then fq)
          have qc0 : w5.cell? ⟨w1.heap.size, 0, none⟩ = some (.pointer (some ⟨b, 0, none⟩)) := BR5.out.cell 0
          have qc1 : w5.cell? ⟨w1.heap.size, 1, none⟩ = some (.pointer (some ⟨bt, 0, none⟩)) := BR5.out.cell 1
          have qc2 : w5.cell? ⟨w1.heap.size, 2, none⟩ = some (.int .i64 (Wn : Int)) := BR5.out.cell 2
          have qc3 : w5.cell? ⟨w1.heap.size, 3, none⟩ = some (.int .i64 (Hn : Int)) := BR5.out.cell 3
          have lt5 := BR5.out.lt
          have SF : Hid (∀ w', Fr [] w5 w' → Calls Tryd.prog 20 #[.pointer (some ⟨b, 0, none⟩), .int .i64 1, .int .i64 (501 + pkb)] w' fun e w'' => e = .returned (.tuple #[.string ByteArray.empty, .int .i64 8]) ∧ w''.cell? ⟨w1.heap.size, 0, none⟩ = some (.pointer (some ⟨b, 0, none⟩)) ∧ w''.cell? ⟨w1.heap.size, 3, none⟩ = some (.int .i64 (Hn : Int)) ∧ Fr [] w5 w'') := by
            intro w' f'
            refine (scroll_far w' b g3 _ (P5.out.fr0 f') 1 (501 + pkb) 0 (by rw [← KK.out]; exact idx_one' A) (.inr (by omega))).mono ?_
            rintro e w'' ⟨he, f2⟩
            have B2 := BR5.out.fr0 (f'.then f2)
            exact ⟨he, B2.cell 0, B2.cell 3, f'.then f2⟩
          clear fq
          have wrp : IntKind.i64.wrap (501 + pkb) = 501 + pkb := by rw [IntKind.wrap_i64]; omega
          go_wp2
          go_region_held (fun w' => w'.cell? ⟨w1.heap.size, 0, none⟩ = some (.pointer (some ⟨b, 0, none⟩))) (go_keep) ((first | (go_at_call 14; refine (PB.out _).mono ?_; rintro e w' ⟨rfl, wc⟩; subst wc) | (go_at_call 20; refine (SF.out _ ?hf).mono ?_; (case hf => (repeat first | exact Fr.refl _ _ | apply Fr.drew | apply Fr.drewN)); rintro e w6 ⟨rfl, x0, x3, fx⟩; have FX := hide fx; clear fx)))
          clear SF wrp
          go_wp2
          go_quiet ((first | (go_at_call 14; exact Calls.quiet_of_same ((PS.out _).mono fun e w' ⟨h1, h2⟩ => ⟨h1, h2.symm⟩)) | (go_at_call 23; exact Calls.quiet_of_same ((presize_no _ _ _ _ Z1.out).mono fun e w' ⟨h1, h2⟩ => ⟨h1, h2.symm⟩))))
          go_wp2
          have z0' : (w6.drewN nq).cell? ⟨w1.heap.size, 0, none⟩ = some (.pointer (some ⟨b, 0, none⟩)) := x0
          have z3' : (w6.drewN nq).cell? ⟨w1.heap.size, 3, none⟩ = some (.int .i64 (Hn : Int)) := x3
          have FZ : Hid (Fr [] w5 (w6.drewN nq)) := FX.out.drewN _
          clear x0 x3
          generalize w6.drewN nq = w66 at *
          go_quiet ((first | (go_at_call 14; exact Calls.quiet_of_same ((PS.out _).mono fun e w' ⟨h1, h2⟩ => ⟨h1, h2.symm⟩)) | (go_at_call 23; exact Calls.quiet_of_same ((presize_no _ _ _ _ Z2.out).mono fun e w' ⟨h1, h2⟩ => ⟨h1, h2.symm⟩))))
          go_wp2
          go_loopw [23] (fun i wr => ∃ y : Nat, i = .int .i64 y ∧ y ≤ Hn ∧ Fr [] w5 wr) (fun i _ => (3000 - intOf i).toNat)
          case atStart => exact ⟨0, rfl, by omega, FZ.out.drewN _⟩
          case round =>
            obtain ⟨y, rfl, hy, f6⟩ := hrel
            have BR6 := BR5.out.fr0 f6
            have BA6 := BA5.out.fr0 f6
            have rc0 : wr.cell? ⟨w1.heap.size, 0, none⟩ = some (.pointer (some ⟨b, 0, none⟩)) := BR6.cell 0
            have rc1 : wr.cell? ⟨w1.heap.size, 1, none⟩ = some (.pointer (some ⟨bt, 0, none⟩)) := BR6.cell 1
            have rc2 : wr.cell? ⟨w1.heap.size, 2, none⟩ = some (.int .i64 (Wn : Int)) := BR6.cell 2
            have rc3 : wr.cell? ⟨w1.heap.size, 3, none⟩ = some (.int .i64 (Hn : Int)) := BR6.cell 3
            have ac0 : wr.cell? ⟨w2.heap.size, 0, none⟩ = some (.int .i64 A.key) := BA6.cell 0
            have ac1 : wr.cell? ⟨w2.heap.size, 1, none⟩ = some (.int .i64 A.x) := BA6.cell 1
            have ac2 : wr.cell? ⟨w2.heap.size, 2, none⟩ = some (.int .i64 A.y) := BA6.cell 2
            have ac3 : wr.cell? ⟨w2.heap.size, 3, none⟩ = some (.int .i64 A.w) := BA6.cell 3
            have ac4 : wr.cell? ⟨w2.heap.size, 4, none⟩ = some (.int .i64 A.h) := BA6.cell 4
            have ac5 : wr.cell? ⟨w2.heap.size, 5, none⟩ = some (.int .i64 A.layer) := BA6.cell 5
            have ac6 : wr.cell? ⟨w2.heap.size, 6, none⟩ = some (.int .i64 A.style) := BA6.cell 6
            have ac7 : wr.cell? ⟨w2.heap.size, 7, none⟩ = some (.string A.text) := BA6.cell 7
            have HR6 := hide BR6
            have lt6 := BR6.lt
            have lt7 := BA6.lt
            clear BR6 BA6 qc0 qc1 qc2 qc3
            by_cases hend : y < Hn
            · have b1 : (y : Int) < Hn := by omega
              go_wp2_with fail
              refine (looked_any A A Wn y wr OKA.out OKA.out wn2 (by omega) (by omega)).mono ?_
              rintro e w7 ⟨rfl, f7⟩
              have BR7 := HR6.out.fr0 f7
              have sc0 : w7.cell? ⟨w1.heap.size, 0, none⟩ = some (.pointer (some ⟨b, 0, none⟩)) := BR7.cell 0
              have sc1 : w7.cell? ⟨w1.heap.size, 1, none⟩ = some (.pointer (some ⟨bt, 0, none⟩)) := BR7.cell 1
              have sc2 : w7.cell? ⟨w1.heap.size, 2, none⟩ = some (.int .i64 (Wn : Int)) := BR7.cell 2
              have sc3 : w7.cell? ⟨w1.heap.size, 3, none⟩ = some (.int .i64 (Hn : Int)) := BR7.cell 3
              have PR := hide (prow_yes w7 b g3 _ (P5.out.fr0 (f6.then f7)) y (by omega) b1)
              simp only [] at PR
              rw [RT.out y (by omega) b1] at PR
              have F7 := hide (f6.then f7)
              clear BR7 f7 rc0 rc1 rc2 rc3 ac0 ac1 ac2 ac3 ac4 ac5 ac6 ac7
              go_wp2_with fail
              refine PR.out.mono ?_
              rintro e w8 ⟨rfl, f8⟩
              have F8 := hide (F7.out.then f8)
              clear f8
              go_wp2
              go_roundw
              case rel => exact ⟨y + 1, by go_num, by omega, F8.out⟩
              case measure => simp [intOf]; omega
            · have b1 : ¬ (y : Int) < Hn := by omega
              have P6 := hide (P5.out.fr0 f6)
              have WS : Hid (WinsAt (wr.alloc (.cells #[.int .i64 A.key, .int .i64 A.x, .int .i64 A.y, .int .i64 A.w, .int .i64 A.h, .int .i64 A.layer, .int .i64 A.style, .string A.text] 23)) (some ⟨wr.heap.size, 0, none⟩) [A]) := wins_one (Blk.new wr A.vals 23)
              have SH := hide (show_yes _ b g3 _ (P6.out.fr0 ((Fr.refl _ _).alloc (.cells #[.int .i64 A.key, .int .i64 A.x, .int .i64 A.y, .int .i64 A.w, .int .i64 A.h, .int .i64 A.layer, .int .i64 A.style, .string A.text] 23))) (some ⟨wr.heap.size, 0, none⟩) [A] 1 1 0 0 WS.out rfl (by decide) TA.out EV.out)
              rw [told_again, str_none] at SH
              go_wp2_with fail
              refine (prow_no wr b g3 _ P6.out (Hn : Int) (.inr (Int.le_refl _))).mono ?_
              rintro e w' ⟨rfl, wc⟩
              subst wc
              go_wp2_with fail
              refine SH.out.mono ?_
              rintro e w9 ⟨rfl, g9, p9, f9, s9⟩
              have F9 : Hid (Fr [] w w9) := ((F5.out.then f6).alloc _).trans f9 (by simp) (fun i hi => .inr (GE3.out i hi))
              clear p9 f9 s9
              go_wp2
              go_ret
              exact ⟨rfl, F9.out⟩
      · rw [if_neg h12] at SN
        have h12i : ¬ (12 : Int) < (vs.length : Int) + 1 := by omega
        by_cases hk1 : key = 1
        · subst hk1
          go_wp2_with fail
          refine SN.out.mono ?_
          rintro e w5 ⟨rfl, f5⟩
          have BR5 := hide (BR4.out.fr0 f5)
          have BA5 := hide (BA4.out.fr0 f5)
          have P5 := hide (P4.out.fr0 f5)
          have F5 := hide (F4.out.then f5)
          have qc0 : w5.cell? ⟨w1.heap.size, 0, none⟩ = some (.pointer (some ⟨b, 0, none⟩)) := BR5.out.cell 0
          have qc1 : w5.cell? ⟨w1.heap.size, 1, none⟩ = some (.pointer (some ⟨bt, 0, none⟩)) := BR5.out.cell 1
          have qc2 : w5.cell? ⟨w1.heap.size, 2, none⟩ = some (.int .i64 (Wn : Int)) := BR5.out.cell 2
          have qc3 : w5.cell? ⟨w1.heap.size, 3, none⟩ = some (.int .i64 (Hn : Int)) := BR5.out.cell 3
          have lt5 := BR5.out.lt
          clear f5 BR4 BA4 P4 F4 rc0 rc1 rc2 rc3 SN
          go_wp2_with fail
          refine (scroll_none w5 b g3 _ P5.out 2 by' (idx_one A 2 (by rw [KK.out]; decide))).mono ?_
          clear qc0 qc1 qc2 qc3 lt5
          rintro e w5 ⟨rfl, fq⟩
          have BR5 := hide (BR5.out.fr0 fq)
          have BA5 := hide (BA5.out.fr0 fq)
          have P5 := hide (P5.out.fr0 fq)
          have F5 := hide (F5.out.then fq)
          have qc0 : w5.cell? ⟨w1.heap.size, 0, none⟩ = some (.pointer (some ⟨b, 0, none⟩)) := BR5.out.cell 0
          have qc1 : w5.cell? ⟨w1.heap.size, 1, none⟩ = some (.pointer (some ⟨bt, 0, none⟩)) := BR5.out.cell 1
          have qc2 : w5.cell? ⟨w1.heap.size, 2, none⟩ = some (.int .i64 (Wn : Int)) := BR5.out.cell 2
          have qc3 : w5.cell? ⟨w1.heap.size, 3, none⟩ = some (.int .i64 (Hn : Int)) := BR5.out.cell 3
          have lt5 := BR5.out.lt
          have SF : Hid (∀ w', Fr [] w5 w' → Calls Tryd.prog 20 #[.pointer (some ⟨b, 0, none⟩), .int .i64 1, .int .i64 (501 + pkb)] w' fun e w'' => e = .returned (.tuple #[.string ByteArray.empty, .int .i64 8]) ∧ w''.cell? ⟨w1.heap.size, 0, none⟩ = some (.pointer (some ⟨b, 0, none⟩)) ∧ w''.cell? ⟨w1.heap.size, 3, none⟩ = some (.int .i64 (Hn : Int)) ∧ Fr [] w5 w'') := by
            intro w' f'
            refine (scroll_far w' b g3 _ (P5.out.fr0 f') 1 (501 + pkb) 0 (by rw [← KK.out]; exact idx_one' A) (.inr (by omega))).mono ?_
            rintro e w'' ⟨he, f2⟩
            have B2 := BR5.out.fr0 (f'.then f2)
            exact ⟨he, B2.cell 0, B2.cell 3, f'.then f2⟩
          clear fq
          have wrp : IntKind.i64.wrap (501 + pkb) = 501 + pkb := by rw [IntKind.wrap_i64]; omega
          go_wp2
          go_region_held (fun w' => w'.cell? ⟨w1.heap.size, 0, none⟩ = some (.pointer (some ⟨b, 0, none⟩))) (go_keep) ((first | (go_at_call 14; refine (PB.out _).mono ?_; rintro e w' ⟨rfl, wc⟩; subst wc) | (go_at_call 20; refine (SF.out _ ?hf).mono ?_; (case hf => (repeat first | exact Fr.refl _ _ | apply Fr.drew | apply Fr.drewN)); rintro e w6 ⟨rfl, x0, x3, fx⟩; have FX := hide fx; clear fx)))
          clear SF wrp
          go_wp2
          go_quiet ((first | (go_at_call 14; exact Calls.quiet_of_same ((PS.out _).mono fun e w' ⟨h1, h2⟩ => ⟨h1, h2.symm⟩)) | (go_at_call 23; exact Calls.quiet_of_same ((presize_no _ _ _ _ Z1.out).mono fun e w' ⟨h1, h2⟩ => ⟨h1, h2.symm⟩))))
          go_wp2
          have z0' : (w6.drewN nq).cell? ⟨w1.heap.size, 0, none⟩ = some (.pointer (some ⟨b, 0, none⟩)) := x0
          have z3' : (w6.drewN nq).cell? ⟨w1.heap.size, 3, none⟩ = some (.int .i64 (Hn : Int)) := x3
          have FZ : Hid (Fr [] w5 (w6.drewN nq)) := FX.out.drewN _
          clear x0 x3
          generalize w6.drewN nq = w66 at *
          go_quiet ((first | (go_at_call 14; exact Calls.quiet_of_same ((PS.out _).mono fun e w' ⟨h1, h2⟩ => ⟨h1, h2.symm⟩)) | (go_at_call 23; exact Calls.quiet_of_same ((presize_no _ _ _ _ Z2.out).mono fun e w' ⟨h1, h2⟩ => ⟨h1, h2.symm⟩))))
          go_wp2
          go_loopw [23] (fun i wr => ∃ y : Nat, i = .int .i64 y ∧ y ≤ Hn ∧ Fr [] w5 wr) (fun i _ => (3000 - intOf i).toNat)
          case atStart => exact ⟨0, rfl, by omega, FZ.out.drewN _⟩
          case round =>
            obtain ⟨y, rfl, hy, f6⟩ := hrel
            have BR6 := BR5.out.fr0 f6
            have BA6 := BA5.out.fr0 f6
            have rc0 : wr.cell? ⟨w1.heap.size, 0, none⟩ = some (.pointer (some ⟨b, 0, none⟩)) := BR6.cell 0
            have rc1 : wr.cell? ⟨w1.heap.size, 1, none⟩ = some (.pointer (some ⟨bt, 0, none⟩)) := BR6.cell 1
            have rc2 : wr.cell? ⟨w1.heap.size, 2, none⟩ = some (.int .i64 (Wn : Int)) := BR6.cell 2
            have rc3 : wr.cell? ⟨w1.heap.size, 3, none⟩ = some (.int .i64 (Hn : Int)) := BR6.cell 3
            have ac0 : wr.cell? ⟨w2.heap.size, 0, none⟩ = some (.int .i64 A.key) := BA6.cell 0
            have ac1 : wr.cell? ⟨w2.heap.size, 1, none⟩ = some (.int .i64 A.x) := BA6.cell 1
            have ac2 : wr.cell? ⟨w2.heap.size, 2, none⟩ = some (.int .i64 A.y) := BA6.cell 2
            have ac3 : wr.cell? ⟨w2.heap.size, 3, none⟩ = some (.int .i64 A.w) := BA6.cell 3
            have ac4 : wr.cell? ⟨w2.heap.size, 4, none⟩ = some (.int .i64 A.h) := BA6.cell 4
            have ac5 : wr.cell? ⟨w2.heap.size, 5, none⟩ = some (.int .i64 A.layer) := BA6.cell 5
            have ac6 : wr.cell? ⟨w2.heap.size, 6, none⟩ = some (.int .i64 A.style) := BA6.cell 6
            have ac7 : wr.cell? ⟨w2.heap.size, 7, none⟩ = some (.string A.text) := BA6.cell 7
            have HR6 := hide BR6
            have lt6 := BR6.lt
            have lt7 := BA6.lt
            clear BR6 BA6 qc0 qc1 qc2 qc3
            by_cases hend : y < Hn
            · have b1 : (y : Int) < Hn := by omega
              go_wp2_with fail
              refine (looked_any A A Wn y wr OKA.out OKA.out wn2 (by omega) (by omega)).mono ?_
              rintro e w7 ⟨rfl, f7⟩
              have BR7 := HR6.out.fr0 f7
              have sc0 : w7.cell? ⟨w1.heap.size, 0, none⟩ = some (.pointer (some ⟨b, 0, none⟩)) := BR7.cell 0
              have sc1 : w7.cell? ⟨w1.heap.size, 1, none⟩ = some (.pointer (some ⟨bt, 0, none⟩)) := BR7.cell 1
              have sc2 : w7.cell? ⟨w1.heap.size, 2, none⟩ = some (.int .i64 (Wn : Int)) := BR7.cell 2
              have sc3 : w7.cell? ⟨w1.heap.size, 3, none⟩ = some (.int .i64 (Hn : Int)) := BR7.cell 3
              have PR := hide (prow_yes w7 b g3 _ (P5.out.fr0 (f6.then f7)) y (by omega) b1)
              simp only [] at PR
              rw [RT.out y (by omega) b1] at PR
              have F7 := hide (f6.then f7)
              clear BR7 f7 rc0 rc1 rc2 rc3 ac0 ac1 ac2 ac3 ac4 ac5 ac6 ac7
              go_wp2_with fail
              refine PR.out.mono ?_
              rintro e w8 ⟨rfl, f8⟩
              have F8 := hide (F7.out.then f8)
              clear f8
              go_wp2
              go_roundw
              case rel => exact ⟨y + 1, by go_num, by omega, F8.out⟩
              case measure => simp [intOf]; omega
            · have b1 : ¬ (y : Int) < Hn := by omega
              have P6 := hide (P5.out.fr0 f6)
              have WS : Hid (WinsAt (wr.alloc (.cells #[.int .i64 A.key, .int .i64 A.x, .int .i64 A.y, .int .i64 A.w, .int .i64 A.h, .int .i64 A.layer, .int .i64 A.style, .string A.text] 23)) (some ⟨wr.heap.size, 0, none⟩) [A]) := wins_one (Blk.new wr A.vals 23)
              have SH := hide (show_yes _ b g3 _ (P6.out.fr0 ((Fr.refl _ _).alloc (.cells #[.int .i64 A.key, .int .i64 A.x, .int .i64 A.y, .int .i64 A.w, .int .i64 A.h, .int .i64 A.layer, .int .i64 A.style, .string A.text] 23))) (some ⟨wr.heap.size, 0, none⟩) [A] 1 1 0 0 WS.out rfl (by decide) TA.out EV.out)
              rw [told_again, str_none] at SH
              go_wp2_with fail
              refine (prow_no wr b g3 _ P6.out (Hn : Int) (.inr (Int.le_refl _))).mono ?_
              rintro e w' ⟨rfl, wc⟩
              subst wc
              go_wp2_with fail
              refine SH.out.mono ?_
              rintro e w9 ⟨rfl, g9, p9, f9, s9⟩
              have F9 : Hid (Fr [] w w9) := ((F5.out.then f6).alloc _).trans f9 (by simp) (fun i hi => .inr (GE3.out i hi))
              clear p9 f9 s9
              go_wp2
              go_ret
              exact ⟨rfl, F9.out⟩
        · have bk : (key == 1) = false := by simpa using hk1
          have KN : Hid ((1 : Int) ≠ key) := fun h => hk1 h.symm
          clear hk1
          go_wp2_with fail
          refine SN.out.mono ?_
          rintro e w5 ⟨rfl, f5⟩
          have BR5 := hide (BR4.out.fr0 f5)
          have BA5 := hide (BA4.out.fr0 f5)
          have P5 := hide (P4.out.fr0 f5)
          have F5 := hide (F4.out.then f5)
          have qc0 : w5.cell? ⟨w1.heap.size, 0, none⟩ = some (.pointer (some ⟨b, 0, none⟩)) := BR5.out.cell 0
          have qc1 : w5.cell? ⟨w1.heap.size, 1, none⟩ = some (.pointer (some ⟨bt, 0, none⟩)) := BR5.out.cell 1
          have qc2 : w5.cell? ⟨w1.heap.size, 2, none⟩ = some (.int .i64 (Wn : Int)) := BR5.out.cell 2
          have qc3 : w5.cell? ⟨w1.heap.size, 3, none⟩ = some (.int .i64 (Hn : Int)) := BR5.out.cell 3
          have lt5 := BR5.out.lt
          clear f5 BR4 BA4 P4 F4 rc0 rc1 rc2 rc3 SN
          go_wp2_with fail
          refine (scroll_none w5 b g3 _ P5.out key by' (idx_one A key (by rw [KK.out]; exact KN.out))).mono ?_
          clear qc0 qc1 qc2 qc3 lt5
          rintro e w5 ⟨rfl, fq⟩
          have BR5 := hide (BR5.out.fr0 fq)
          have BA5 := hide (BA5.out.fr0 fq)
          have P5 := hide (P5.out.fr0 fq)
          have F5 := hide (F5.out.then fq)
          have qc0 : w5.cell? ⟨w1.heap.size, 0, none⟩ = some (.pointer (some ⟨b, 0, none⟩)) := BR5.out.cell 0
          have qc1 : w5.cell? ⟨w1.heap.size, 1, none⟩ = some (.pointer (some ⟨bt, 0, none⟩)) := BR5.out.cell 1
          have qc2 : w5.cell? ⟨w1.heap.size, 2, none⟩ = some (.int .i64 (Wn : Int)) := BR5.out.cell 2
          have qc3 : w5.cell? ⟨w1.heap.size, 3, none⟩ = some (.int .i64 (Hn : Int)) := BR5.out.cell 3
          have lt5 := BR5.out.lt
          have SF : Hid (∀ w', Fr [] w5 w' → Calls Tryd.prog 20 #[.pointer (some ⟨b, 0, none⟩), .int .i64 1, .int .i64 (501 + pkb)] w' fun e w'' => e = .returned (.tuple #[.string ByteArray.empty, .int .i64 8]) ∧ w''.cell? ⟨w1.heap.size, 0, none⟩ = some (.pointer (some ⟨b, 0, none⟩)) ∧ w''.cell? ⟨w1.heap.size, 3, none⟩ = some (.int .i64 (Hn : Int)) ∧ Fr [] w5 w'') := by
            intro w' f'
            refine (scroll_far w' b g3 _ (P5.out.fr0 f') 1 (501 + pkb) 0 (by rw [← KK.out]; exact idx_one' A) (.inr (by omega))).mono ?_
            rintro e w'' ⟨he, f2⟩
            have B2 := BR5.out.fr0 (f'.then f2)
            exact ⟨he, B2.cell 0, B2.cell 3, f'.then f2⟩
          clear fq
          have wrp : IntKind.i64.wrap (501 + pkb) = 501 + pkb := by rw [IntKind.wrap_i64]; omega
          go_wp2
          go_region_held (fun w' => w'.cell? ⟨w1.heap.size, 0, none⟩ = some (.pointer (some ⟨b, 0, none⟩))) (go_keep) ((first | (go_at_call 14; refine (PB.out _).mono ?_; rintro e w' ⟨rfl, wc⟩; subst wc) | (go_at_call 20; refine (SF.out _ ?hf).mono ?_; (case hf => (repeat first | exact Fr.refl _ _ | apply Fr.drew | apply Fr.drewN)); rintro e w6 ⟨rfl, x0, x3, fx⟩; have FX := hide fx; clear fx)))
          clear SF wrp
          go_wp2
          go_quiet ((first | (go_at_call 14; exact Calls.quiet_of_same ((PS.out _).mono fun e w' ⟨h1, h2⟩ => ⟨h1, h2.symm⟩)) | (go_at_call 23; exact Calls.quiet_of_same ((presize_no _ _ _ _ Z1.out).mono fun e w' ⟨h1, h2⟩ => ⟨h1, h2.symm⟩))))
          go_wp2
          have z0' : (w6.drewN nq).cell? ⟨w1.heap.size, 0, none⟩ = some (.pointer (some ⟨b, 0, none⟩)) := x0
          have z3' : (w6.drewN nq).cell? ⟨w1.heap.size, 3, none⟩ = some (.int .i64 (Hn : Int)) := x3
          have FZ : Hid (Fr [] w5 (w6.drewN nq)) := FX.out.drewN _
          clear x0 x3
          generalize w6.drewN nq = w66 at *
          go_quiet ((first | (go_at_call 14; exact Calls.quiet_of_same ((PS.out _).mono fun e w' ⟨h1, h2⟩ => ⟨h1, h2.symm⟩)) | (go_at_call 23; exact Calls.quiet_of_same ((presize_no _ _ _ _ Z2.out).mono fun e w' ⟨h1, h2⟩ => ⟨h1, h2.symm⟩))))
          go_wp2
          go_loopw [23] (fun i wr => ∃ y : Nat, i = .int .i64 y ∧ y ≤ Hn ∧ Fr [] w5 wr) (fun i _ => (3000 - intOf i).toNat)
          case atStart => exact ⟨0, rfl, by omega, FZ.out.drewN _⟩
          case round =>
            obtain ⟨y, rfl, hy, f6⟩ := hrel
            have BR6 := BR5.out.fr0 f6
            have BA6 := BA5.out.fr0 f6
            have rc0 : wr.cell? ⟨w1.heap.size, 0, none⟩ = some (.pointer (some ⟨b, 0, none⟩)) := BR6.cell 0
            have rc1 : wr.cell? ⟨w1.heap.size, 1, none⟩ = some (.pointer (some ⟨bt, 0, none⟩)) := BR6.cell 1
            have rc2 : wr.cell? ⟨w1.heap.size, 2, none⟩ = some (.int .i64 (Wn : Int)) := BR6.cell 2
            have rc3 : wr.cell? ⟨w1.heap.size, 3, none⟩ = some (.int .i64 (Hn : Int)) := BR6.cell 3
            have ac0 : wr.cell? ⟨w2.heap.size, 0, none⟩ = some (.int .i64 A.key) := BA6.cell 0
            have ac1 : wr.cell? ⟨w2.heap.size, 1, none⟩ = some (.int .i64 A.x) := BA6.cell 1
            have ac2 : wr.cell? ⟨w2.heap.size, 2, none⟩ = some (.int .i64 A.y) := BA6.cell 2
            have ac3 : wr.cell? ⟨w2.heap.size, 3, none⟩ = some (.int .i64 A.w) := BA6.cell 3
            have ac4 : wr.cell? ⟨w2.heap.size, 4, none⟩ = some (.int .i64 A.h) := BA6.cell 4
            have ac5 : wr.cell? ⟨w2.heap.size, 5, none⟩ = some (.int .i64 A.layer) := BA6.cell 5
            have ac6 : wr.cell? ⟨w2.heap.size, 6, none⟩ = some (.int .i64 A.style) := BA6.cell 6
            have ac7 : wr.cell? ⟨w2.heap.size, 7, none⟩ = some (.string A.text) := BA6.cell 7
            have HR6 := hide BR6
            have lt6 := BR6.lt
            have lt7 := BA6.lt
            clear BR6 BA6 qc0 qc1 qc2 qc3
            by_cases hend : y < Hn
            · have b1 : (y : Int) < Hn := by omega
              go_wp2_with fail
              refine (looked_any A A Wn y wr OKA.out OKA.out wn2 (by omega) (by omega)).mono ?_
              rintro e w7 ⟨rfl, f7⟩
              have BR7 := HR6.out.fr0 f7
              have sc0 : w7.cell? ⟨w1.heap.size, 0, none⟩ = some (.pointer (some ⟨b, 0, none⟩)) := BR7.cell 0
              have sc1 : w7.cell? ⟨w1.heap.size, 1, none⟩ = some (.pointer (some ⟨bt, 0, none⟩)) := BR7.cell 1
              have sc2 : w7.cell? ⟨w1.heap.size, 2, none⟩ = some (.int .i64 (Wn : Int)) := BR7.cell 2
              have sc3 : w7.cell? ⟨w1.heap.size, 3, none⟩ = some (.int .i64 (Hn : Int)) := BR7.cell 3
              have PR := hide (prow_yes w7 b g3 _ (P5.out.fr0 (f6.then f7)) y (by omega) b1)
              simp only [] at PR
              rw [RT.out y (by omega) b1] at PR
              have F7 := hide (f6.then f7)
              clear BR7 f7 rc0 rc1 rc2 rc3 ac0 ac1 ac2 ac3 ac4 ac5 ac6 ac7
              go_wp2_with fail
              refine PR.out.mono ?_
              rintro e w8 ⟨rfl, f8⟩
              have F8 := hide (F7.out.then f8)
              clear f8
              go_wp2
              go_roundw
              case rel => exact ⟨y + 1, by go_num, by omega, F8.out⟩
              case measure => simp [intOf]; omega
            · have b1 : ¬ (y : Int) < Hn := by omega
              have P6 := hide (P5.out.fr0 f6)
              have WS : Hid (WinsAt (wr.alloc (.cells #[.int .i64 A.key, .int .i64 A.x, .int .i64 A.y, .int .i64 A.w, .int .i64 A.h, .int .i64 A.layer, .int .i64 A.style, .string A.text] 23)) (some ⟨wr.heap.size, 0, none⟩) [A]) := wins_one (Blk.new wr A.vals 23)
              have SH := hide (show_yes _ b g3 _ (P6.out.fr0 ((Fr.refl _ _).alloc (.cells #[.int .i64 A.key, .int .i64 A.x, .int .i64 A.y, .int .i64 A.w, .int .i64 A.h, .int .i64 A.layer, .int .i64 A.style, .string A.text] 23))) (some ⟨wr.heap.size, 0, none⟩) [A] 1 1 0 0 WS.out rfl (by decide) TA.out EV.out)
              rw [told_again, str_none] at SH
              go_wp2_with fail
              refine (prow_no wr b g3 _ P6.out (Hn : Int) (.inr (Int.le_refl _))).mono ?_
              rintro e w' ⟨rfl, wc⟩
              subst wc
              go_wp2_with fail
              refine SH.out.mono ?_
              rintro e w9 ⟨rfl, g9, p9, f9, s9⟩
              have F9 : Hid (Fr [] w w9) := ((F5.out.then f6).alloc _).trans f9 (by simp) (fun i hi => .inr (GE3.out i hi))
              clear p9 f9 s9
              go_wp2
              go_ret
              exact ⟨rfl, F9.out⟩
end Go.Proofs.YtjhccghhinlmdaaDoor
