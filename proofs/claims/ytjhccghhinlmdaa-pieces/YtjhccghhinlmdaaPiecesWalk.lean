/- repaintkeep.Pieces answers true, whatever it is given. -/
import Derived.Test.YtjhccghhinlmdaaPieces
namespace Go.Proofs.Ytjhccghhinlmdaa
open Go.RowKit

theorem z_string (v : Nat) : (⟨#[90]⟩ : ByteArray) ++ strOfNums (List.replicate v 32) = strOfNums (90 :: List.replicate v 32) := by
  apply str_ext
  rw [strOfNums_data, ByteArray.data_append, Array.toList_append, strOfNums_data]
  rfl
theorem reset_nums : nums ⟨#[27, 91, 109, 27, 91, 50, 74, 27, 91, 72, 90]⟩ = T.resetBytes := by decide

theorem nums_cut (s : ByteArray) (K : Nat) : nums (s.extract 0 K) ++ nums (s.extract K s.size) = nums s := by
  rw [nums_extract, nums_extract, Nat.sub_zero, List.drop_zero]
  have e : ((nums s).drop K).take (s.size - K) = (nums s).drop K := List.take_of_length_le (by rw [List.length_drop, nums_length]; omega)
  rw [e, List.take_append_drop]

theorem new_facts (W H : Nat) (l : List Int) : (T.feed (T.new W H) l).Cln ∧ (T.feed (T.new W H) l).W = W ∧ (T.feed (T.new W H) l).H = H := by
  have h1 := T.feed_cln l (T.new W H) (fun _ => rfl) (by simp [T.new])
  have h2 := T.feed_WH l (T.new W H)
  exact ⟨h1.1, h2.1, h2.2⟩

set_option maxHeartbeats 4000000 in
set_option maxRecDepth 100000 in
theorem pieces_any (a0 a1 a3 : Int) (s : ByteArray) (w : World) (h1 : -9223372036854775808 ≤ a0) (h2 : a0 ≤ 9223372036854775807) (h3 : -9223372036854775808 ≤ a1) (h4 : a1 ≤ 9223372036854775807)
    (h5 : -9223372036854775808 ≤ a3) (h6 : a3 ≤ 9223372036854775807) (hs : s.size ≤ 140737488351232) :
    Calls Try.prog 4 #[.int .i64 a0, .int .i64 a1, .string s, .int .i64 a3] w fun e w' => e = .returned (.bool true) ∧ Fr [] w w' := by
  have p0 := pickI_bd a0 40 (by omega)
  have p1 := pickI_bd a1 20 (by omega)
  have p3 := pickI_bd a3 (s.size + 1) (by omega)
  obtain ⟨W, hW⟩ := Int.eq_ofNat_of_zero_le (show 0 ≤ 1 + pickI a0 40 by omega)
  obtain ⟨H, hH⟩ := Int.eq_ofNat_of_zero_le (show 0 ≤ 1 + pickI a1 20 by omega)
  obtain ⟨K, hK⟩ := Int.eq_ofNat_of_zero_le p3.1
  have w1 : 1 ≤ W := by omega
  have w2 : W ≤ 40 := by omega
  have hh1 : 1 ≤ H := by omega
  have hh2 : H ≤ 20 := by omega
  have k1 : K ≤ s.size := by omega
  have HW := hide hW
  have HH := hide hH
  have HK := hide hK
  clear hW hH hK p3
  go_enter Try.func4, Try.ntmps4
  go_wp2_with (go_at_call 5; refine (pick_any _ _ _ (by omega) (by omega) (by omega) (by omega)).mono ?_; rintro e w' ⟨rfl, rfl⟩)
  rw [HW.out, HH.out]
  clear p0 p1 HW HH h1 h2 h3 h4
  refine (newTerminal_yes _ _ _ (by omega) (by omega) (by omega) (by omega)).mono ?_
  rintro e wa ⟨bt, g, rfl, hfoot, fa, ta⟩
  have TA := hide ta
  have FA := hide fa
  have HFT := hide hfoot
  clear ta fa hfoot
  go_wp2_with fail
  refine (newTerminal_yes _ _ _ (by omega) (by omega) (by omega) (by omega)).mono ?_
  rintro e wb ⟨bu, gu, rfl, hfoot, fb, tb⟩
  have TB := hide (TA.out.fr0 fb)
  have UB := hide tb
  have FB := hide (FA.out.then fb)
  have AP : Hid (∀ x ∈ foot bt g, x ∉ foot bu gu) := fun x hx hm => by have := TA.out.lt x hx; have := hfoot x hm; omega
  have HFU : Hid (∀ x ∈ foot bu gu, w.heap.size ≤ x) := fun x hx => by have := hfoot x hx; have := FA.out.size; omega
  clear tb fb hfoot TA FA
  go_wp2_with fail
  refine (pick_any a3 _ _ h5 h6 (by omega) (by omega)).mono ?_
  rintro e w' ⟨rfl, rfl⟩
  rw [HK.out]
  clear h5 h6 HK
  go_wp2_with fail
  refine (feed_any s _ bt g _ TB.out (by omega)).mono ?_
  rintro e wc ⟨rfl, gc, tc, fc, sc⟩
  have TC := hide tc
  have UC := hide (UB.out.fr fc (apart_symm AP.out))
  have FC : Hid (Fr [] w wc) := FB.out.trans fc (by simp) (fun i hi => .inr (HFT.out i hi))
  have AP2 : Hid (∀ x ∈ foot bt gc, x ∉ foot bu gu) := apart_symm (apart_step (apart_symm AP.out) UB.out.lt sc)
  clear tc fc sc FB TB UB AP
  go_wp2_with fail
  refine (feed_any (s.extract 0 K) _ bu gu _ UC.out (by simp; omega)).mono ?_
  rintro e wd ⟨rfl, gd, ud, fd, sd⟩
  have UD := hide ud
  have TD := hide (TC.out.fr fd AP2.out)
  have FD : Hid (Fr [] w wd) := FC.out.trans fd (by simp) (fun i hi => .inr (HFU.out i hi))
  have AP3 : Hid (∀ x ∈ foot bt gc, x ∉ foot bu gd) := apart_step AP2.out TC.out.lt sd
  have HFU2 : Hid (∀ x ∈ foot bu gd, w.heap.size ≤ x) := fun x hx => by
    rcases sd x hx with h | h
    · exact HFU.out x h
    · have := FC.out.size; omega
  clear ud fd sd FC TC UC AP2 HFU
  go_wp2_with fail
  refine (feed_any (s.extract K s.size) _ bu gd _ UD.out (by simp; omega)).mono ?_
  rintro e we ⟨rfl, ge, ue, fe, se⟩
  have eF : T.feed (T.feed (T.new W H) (nums (s.extract 0 K))) (nums (s.extract K s.size)) = T.feed (T.new W H) (nums s) := by
    rw [← T.feed_append, nums_cut s K]
  rw [eF] at ue
  have UE := hide ue
  have TE := hide (TD.out.fr fe AP3.out)
  have FE : Hid (Fr [] w we) := FD.out.trans fe (by simp) (fun i hi => .inr (HFU2.out i hi))
  have HFU3 : Hid (∀ x ∈ foot bu ge, w.heap.size ≤ x) := fun x hx => by
    rcases se x hx with h | h
    · exact HFU2.out x h
    · have := FD.out.size; omega
  obtain ⟨n1, n2, n3⟩ := new_facts W H (nums s)
  generalize T.feed (T.new W H) (nums s) = F at *
  have HN := hide (And.intro n1 (And.intro n2 n3))
  clear ue fe se FD TD UD AP3 HFU2 eF n1 n2 n3
  go_wp2_with fail
  refine (same_yes _ bt bu gc ge F TE.out UE.out H HN.out.2.2 hh2).mono ?_
  rintro e wf ⟨rfl, ff⟩
  have UF := hide (UE.out.fr0 ff)
  have FF := hide (FE.out.then ff)
  clear ff TE UE FE
  go_wp2_with fail
  refine (feed_any _ _ bu ge F UF.out (by decide)).mono ?_
  rintro e wg ⟨rfl, gg, ug, fg, sg⟩
  rw [reset_nums] at ug
  have hrs := T.reset F HN.out.1 (by rw [HN.out.2.1]; omega) (by rw [HN.out.2.2]; omega) UF.out.gr.len
  have hcl : F.cells.length = W * H := by
    have := UF.out.gr.len
    rw [HN.out.2.1, HN.out.2.2, ← Int.natCast_mul] at this
    omega
  rw [hcl, HN.out.2.1, HN.out.2.2] at hrs
  have UG := hide ug
  have FG : Hid (Fr [] w wg) := FF.out.trans fg (by simp) (fun i hi => .inr (HFU3.out i hi))
  generalize F.feed T.resetBytes = G at *
  have HG := hide hrs
  clear ug fg sg hrs hcl UF FF HFU3 HN
  go_wp2
  go_loopw [18] (fun i wr => ∃ k : Nat, i = .int .i64 k ∧ 1 ≤ k ∧ k ≤ H ∧ Fr [] w wr ∧ TermAt wr bu gg G) (fun i _ => H - (intOf i).toNat)
  case atStart => exact ⟨1, rfl, by omega, by omega, FG.out, UG.out⟩
  case round =>
    obtain ⟨k, rfl, hk0, hk, fr, tr⟩ := hrel
    have TR := hide tr
    clear tr
    by_cases hlt : k < H
    · have hz := z_rows w1 k hlt
      rw [if_neg (by omega)] at hz
      have HZ := hide hz
      have hGH : (k : Int) < G.H := by rw [HG.out.2.2]; omega
      clear hz
      go_wp2_with fail
      refine (spaces_any W _ (by omega)).mono ?_
      rintro e wx ⟨rfl, fx⟩
      have FX := hide (fr.then fx)
      have TX := hide (TR.out.fr0 fx)
      clear fx
      go_wp2_with fail
      refine (styles_any W 7 _ (by omega) (by omega) (by omega)).mono ?_
      rintro e wy ⟨rfl, fy⟩
      have FY := hide (FX.out.then fy)
      have TY := hide (TX.out.fr0 fy)
      clear fy
      go_wp2_with fail
      refine (reads_yes k _ bu gg G TY.out (by omega) hGH _ _ (by rw [HG.out.1, HG.out.2.1, HZ.out.1]) (by rw [HG.out.1, HG.out.2.1, HZ.out.2])).mono ?_
      rintro e wz ⟨rfl, fz⟩
      have FZ := hide (FY.out.then fz)
      have TZ := hide (TY.out.fr0 fz)
      clear fz
      go_wp2
      go_roundw
      case rel => exact ⟨k + 1, by go_num, by omega, by omega, FZ.out, TZ.out⟩
      case measure => simp [intOf]; omega
    · have hz := z_rows w1 0 (show 0 < H by omega)
      rw [if_pos rfl] at hz
      have HZ := hide hz
      have hGH : (0 : Int) < G.H := by rw [HG.out.2.2]; omega
      have hzs : (strOfNums (List.replicate (W - 1) (32 : Int))).size = W - 1 := by rw [strOfNums_size]; simp
      have HZS := hide (z_string (W - 1))
      clear hz
      go_wp2_with fail
      rw [show ((W : Int) - 1) = ((W - 1 : Nat) : Int) from by omega]
      refine (spaces_any (W - 1) _ (by omega)).mono ?_
      rintro e wx ⟨rfl, fx⟩
      have FX := hide (fr.then fx)
      have TX := hide (TR.out.fr0 fx)
      generalize strOfNums (List.replicate (W - 1) (32 : Int)) = Z at *
      clear fx
      go_wp2_with fail
      refine (styles_any W 7 _ (by omega) (by omega) (by omega)).mono ?_
      rintro e wy ⟨rfl, fy⟩
      have FY := hide (FX.out.then fy)
      have TY := hide (TX.out.fr0 fy)
      clear fy
      go_wp2_with fail
      refine (reads_yes 0 _ bu gg G TY.out (by omega) hGH _ _ (by rw [HG.out.1, HG.out.2.1, HZS.out, ← HZ.out.1]; rfl) (by rw [HG.out.1, HG.out.2.1, ← HZ.out.2]; rfl)).mono ?_
      rintro e wz ⟨rfl, fz⟩
      have FZ := hide (FY.out.then fz)
      clear fz
      go_wp2
      go_ret
      exact ⟨rfl, FZ.out⟩
end Go.Proofs.Ytjhccghhinlmdaa
