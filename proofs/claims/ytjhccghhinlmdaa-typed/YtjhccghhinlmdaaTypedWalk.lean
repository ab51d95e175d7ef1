/- repaintkeep.Typed answers true, whatever it is given. -/
import Derived.Test.YtjhccghhinlmdaaTypedPure
import Derived.Test.YtjhccghhinlmdaaKeepPiece
namespace Go.Proofs.Ytjhccghhinlmdaa
open Go.RowKit

theorem typed_facts {W H n f a b : Nat} {L : List Int} {F : T} (h : Ty W H L F f a b) (hl : L.length = n) (w1 : 1 ≤ W) :
    ∃ R : Nat, ((n : Int) + W - 1) / W = R ∧ R ≤ n + 1 ∧ (H < R → (R : Int) - H = f) ∧ (R ≤ H → f = 0) ∧ f * W ≤ n ∧ (n = 0 → F.x = 0 ∧ F.y = 0) ∧
      (n ≠ 0 → ((n : Int) - 1) % W = b - 1 ∧ (R : Int) - 1 - f = F.y ∧ F.x = if b = W then (W : Int) - 1 else b) := by
  have hd := h.dropLen.1
  rw [hl] at hd
  have ecast : ((n : Int) + W - 1) = ((n + W - 1 : Nat) : Int) := by omega
  refine ⟨(n + W - 1) / W, ?_, ?_, ?_, ?_, hd, ?_, ?_⟩
  · rw [ecast]; exact (Int.natCast_ediv _ _).symm
  · have e : n + W - 1 ≤ (n + 1) * W := by rw [Nat.add_mul, Nat.one_mul]; have := Nat.le_mul_of_pos_right n w1; omega
    exact Nat.div_le_of_le_mul (by rw [Nat.mul_comm]; exact e)
  all_goals by_cases hn : n = 0
  · subst hn
    have hL : L = [] := List.eq_nil_of_length_eq_zero hl
    subst hL
    intro hlt
    rw [Nat.div_eq_of_lt (by omega)] at hlt
    omega
  · have hb : 1 ≤ b := by
      rcases Nat.eq_zero_or_pos b with h0 | h0
      · have := h.b0 h0; subst this; simp at hl; omega
      · exact h0
    obtain ⟨r1, r2, r3⟩ := h.rows hb
    rw [hl] at r1
    intro hlt
    rw [r1] at hlt ⊢
    rw [if_pos hlt] at r3
    omega
  · subst hn
    have hL : L = [] := List.eq_nil_of_length_eq_zero hl
    subst hL
    intro _
    exact (h.empty w1).1
  · have hb : 1 ≤ b := by
      rcases Nat.eq_zero_or_pos b with h0 | h0
      · have := h.b0 h0; subst this; simp at hl; omega
      · exact h0
    obtain ⟨r1, r2, r3⟩ := h.rows hb
    rw [hl] at r1
    intro hle
    rw [r1] at hle
    rw [if_neg (by omega)] at r3
    omega
  · subst hn
    have hL : L = [] := List.eq_nil_of_length_eq_zero hl
    subst hL
    intro _
    obtain ⟨e1, e2, e3⟩ := h.empty w1
    refine ⟨?_, ?_⟩
    · have := h.x; rw [e3, if_neg (by omega)] at this; simpa using this
    · have := h.y; rw [e2] at this; simpa using this
  · intro h0; exact absurd h0 hn
  · intro h0; exact absurd hn h0
  · have hb : 1 ≤ b := by
      rcases Nat.eq_zero_or_pos b with h0 | h0
      · have := h.b0 h0; subst this; simp at hl; omega
      · exact h0
    obtain ⟨r1, r2, r3⟩ := h.rows hb
    rw [hl] at r1 r2
    intro _
    refine ⟨?_, ?_, h.x⟩
    · have e : ((n : Int) - 1) = ((n - 1 : Nat) : Int) := by omega
      rw [e, ← Int.natCast_emod]
      omega
    · rw [r1, h.y]; omega

set_option maxHeartbeats 4000000 in
set_option maxRecDepth 100000 in
theorem typed_any (a0 a1 : Int) (s : ByteArray) (w : World) (h1 : -9223372036854775808 ≤ a0) (h2 : a0 ≤ 9223372036854775807) (h3 : -9223372036854775808 ≤ a1) (h4 : a1 ≤ 9223372036854775807) (hs : s.size ≤ 140737488351232) :
    Calls Try.prog 3 #[.int .i64 a0, .int .i64 a1, .string s] w fun e w' => e = .returned (.bool true) ∧ Fr [] w w' := by
  have p0 := pickI_bd a0 40 (by omega)
  have p1 := pickI_bd a1 20 (by omega)
  obtain ⟨W, hW⟩ := Int.eq_ofNat_of_zero_le (show 0 ≤ 1 + pickI a0 40 by omega)
  obtain ⟨H, hH⟩ := Int.eq_ofNat_of_zero_le (show 0 ≤ 1 + pickI a1 20 by omega)
  have w1 : 1 ≤ W := by omega
  have w2 : W ≤ 40 := by omega
  have hh1 : 1 ≤ H := by omega
  have hh2 : H ≤ 20 := by omega
  have HW := hide hW
  have HH := hide hH
  clear hW hH
  go_enter Try.func3, Try.ntmps3
  go_wp2_with (go_at_call 5; refine (pick_any _ _ _ (by omega) (by omega) (by omega) (by omega)).mono ?_; rintro e w' ⟨rfl, rfl⟩)
  rw [HW.out, HH.out]
  clear p0 p1 HW HH h1 h2 h3 h4
  refine (newTerminal_yes _ _ _ (by omega) (by omega) (by omega) (by omega)).mono ?_
  rintro e wa ⟨bt, g, rfl, hfoot, fa, ta⟩
  have TA := hide ta
  have FA := hide fa
  have HFOOT := hide hfoot
  clear ta fa hfoot
  go_wp2_with fail
  refine (letters_any s _ (by omega)).mono ?_
  rintro e wb ⟨rfl, fb⟩
  have hS := nums_str (lets s) (fun c hc => by have := lets_bd s c hc; omega)
  have hSz : (strOfNums (lets s)).size = s.size := by rw [strOfNums_size, lets_length]
  generalize strOfNums (lets s) = S at *
  have hSb : S.size ≤ 140737488351232 := by omega
  obtain ⟨f, a, b, hTy⟩ := Ty.feed W H w1 (lets s) [] _ 0 0 0 (Ty.new W H w1 hh1) (lets_bd s)
  simp only [List.nil_append] at hTy
  rw [← hS] at hTy
  have hlen : (nums S).length = S.size := nums_length S
  have TB := hide (TA.out.fr0 fb)
  have FB := hide (FA.out.then fb)
  have HTY := hide hTy
  have HLEN := hide hlen
  clear fb hS hSz hTy hlen TA FA
  go_wp2_with fail
  refine (feed_any S _ bt g _ TB.out (by omega)).mono ?_
  rintro e w5 ⟨rfl, gc, tc, fc, sc⟩
  have TC := hide tc
  have FC : Hid (Fr [] w w5) := FB.out.trans fc (by simp) (fun i hi => .inr (HFOOT.out i hi))
  clear tc fc sc TB FB
  generalize T.feed (T.new W H) (nums S) = F at *
  obtain ⟨R, hR, hR1, hRH, hR0, hfW, hn0, hn1⟩ := typed_facts HTY.out HLEN.out w1
  have HN0 := hide hn0
  have HN1 := hide hn1
  have HRH := hide hRH
  have HR0 := hide hR0
  have HR := hide hR
  clear hn0 hn1 hRH hR0 hR
  go_upto_if 50 with (fail)
  go_cut [12] (fun v wd => v = .int .i64 f ∧ wd = w5)
  case first =>
    by_cases hlt : H < R
    · have e : ((S.size : Int) + W - 1) / W - H = f := by rw [HR.out]; exact HRH.out hlt
      have hl2 : (H : Int) < ((S.size : Int) + W - 1) / W := by rw [HR.out]; omega
      have hl3 : ((S.size : Int) + W - 1) / W ≤ 140737488351233 := by rw [HR.out]; omega
      go_wp2
      go_meet
      case rel => exact ⟨by go_num, rfl⟩
    · have e := HR0.out (by omega)
      have hl2 : ¬ (H : Int) < ((S.size : Int) + W - 1) / W := by rw [HR.out]; omega
      go_wp2
      go_meet
      case rel => exact ⟨by rw [e]; rfl, rfl⟩
  case rest =>
    obtain ⟨rfl, rfl⟩ := hcut
    go_wp2
    go_loopw [13] (fun i wr => ∃ k : Nat, i = .int .i64 k ∧ k ≤ H ∧ Fr [] w wr ∧ TermAt wr bt gc F) (fun i _ => H - (intOf i).toNat)
    case atStart => exact ⟨0, rfl, by omega, FC.out, TC.out⟩
    case round =>
      obtain ⟨k, rfl, hk, fr, tr⟩ := hrel
      have TR := hide tr
      clear tr
      have hf1 : f ≤ 140737488351232 := by have := Nat.le_mul_of_pos_right f w1; omega
      by_cases hlt : k < H
      · have hm1 : (f + k) * W ≤ 140737488355328 := by
          rw [Nat.add_mul]
          have : k * W ≤ 20 * 40 := Nat.mul_le_mul (by omega) w2
          omega
        have hm2 : ((f : Int) + k) * W = ((f + k) * W : Nat) := by rw [Int.natCast_mul, Int.natCast_add]
        have HROW := hide (HTY.out.row k hlt)
        generalize hmm : (f + k) * W = m at *
        have hFH : (k : Int) < F.H := by rw [HTY.out.hH]; omega
        go_wp2_with fail
        refine (piece_any S m W _ (by omega) (by omega) (by omega)).mono ?_
        rintro e wx ⟨rfl, fx⟩
        have FX := hide (fr.then fx)
        have TX := hide (TR.out.fr0 fx)
        clear fx
        go_wp2_with fail
        refine (styles_any W 7 _ (by omega) (by omega) (by omega)).mono ?_
        rintro e wy ⟨rfl, fy⟩
        have FY := hide (FX.out.then fy)
        have TY := hide (TX.out.fr0 fy)
        clear fy
        go_wp2_with fail
        refine (reads_yes k _ bt gc F TY.out (by omega) hFH _ _ (by rw [HROW.out.1]; rfl) (by rw [HROW.out.2])).mono ?_
        rintro e wz ⟨rfl, fz⟩
        have FZ := hide (FY.out.then fz)
        have TZ := hide (TY.out.fr0 fz)
        clear fz
        go_wp2
        go_roundw
        case rel => exact ⟨k + 1, by go_num, by omega, FZ.out, TZ.out⟩
        case measure => simp [intOf]; omega
      · go_wp2_with fail
        refine (cursor_any _ bt gc F TR.out).mono ?_
        rintro e wx ⟨rfl, fx⟩
        have FX := hide (fr.then fx)
        have hsh := HTY.out.shown
        rw [hsh]
        have HSH := hide hsh
        clear fx hsh
        by_cases hz : S.size = 0
        · obtain ⟨x0, y0⟩ := HN0.out hz
          rw [x0, y0]
          go_wp2
          go_ret
          exact ⟨rfl, FX.out.alloc _⟩
        · obtain ⟨x1, y1, z1⟩ := HN1.out hz
          have hy : ((S.size : Int) + W - 1) / W - 1 - f = F.y := by rw [HR.out]; exact y1
          have hl3 : ((S.size : Int) + W - 1) / W ≤ 140737488351233 := by rw [HR.out]; omega
          have hl4 : 0 ≤ ((S.size : Int) + W - 1) / W := by rw [HR.out]; omega
          have hb : ((S.size : Int) == 0) = false := by rw [beq_eq_false_iff_ne]; omega
          have hbW := HTY.out.bW
          clear y1
          by_cases hbe : b = W
          · subst hbe
            rw [if_pos rfl] at z1
            rw [z1]
            go_wp2
            go_ret
            exact ⟨rfl, FX.out.alloc _⟩
          · rw [if_neg hbe] at z1
            rw [z1]
            have hb2 : ((b : Int) == W) = false := by rw [beq_eq_false_iff_ne]; omega
            go_wp2
            go_ret
            exact ⟨rfl, FX.out.alloc _⟩
end Go.Proofs.Ytjhccghhinlmdaa
