/- The terminal's calls that a sequence makes. -/
import Derived.Test.YtjhccghhinlmdabGreatDoorTermPlain
import Derived.Test.YtjhccghhinlmdabGreatDoorSeqModel
import Derived.Test.YtjhccghhinlmdabGreatDoorParamsAsk
namespace Go.Proofs.YtjhccghhinlmdabGreatDoor
open Go.RowKit

set_option maxHeartbeats 400000 in
theorem atLeastOne_any (n : Int) (w : World) :
    Calls Tryz.prog 99 #[.int .i64 n] w fun e w' => e = .returned (.int .i64 (atLeast n)) ∧ w = w' := by
  by_cases h : n < 1
  · have E := hide (show atLeast n = 1 by simp [atLeast, h])
    go_enter Tryz.func99, Tryz.ntmps99
    go_wp2
    go_ret
    exact ⟨ret_int E.out.symm, rfl⟩
  · have E := hide (show atLeast n = n by simp [atLeast]; omega)
    go_enter Tryz.func99, Tryz.ntmps99
    go_wp2
    go_ret
    exact ⟨ret_int E.out.symm, rfl⟩

theorem atLeast_bd (n : Int) (h : 0 ≤ n) (h2 : n ≤ 999) : 1 ≤ atLeast n ∧ atLeast n ≤ 999 := by unfold atLeast; split <;> omega

set_option maxHeartbeats 2000000 in
theorem setPen_any (w : World) (bt : Nat) (g : Gh) (t : T) (h : TermAt w bt g t) (gn cap : Nat) (l : List Int) (hn : Nums w gn l) (hl : l.length ≤ 100) (hr : ∀ a ∈ l, 0 ≤ a ∧ a ≤ 999) (hne : gn ≠ bt) :
    Calls Tryz.prog 102 #[.pointer (some ⟨bt, 0, none⟩), .slice (some ⟨gn, 0, none⟩) l.length cap] w
      fun e w' => e = .returned (.tuple #[]) ∧ Fr [bt] w w' ∧ TermAt w' bt g (t.setPen l) := by
  have HT := hide h
  have HN := hide hn
  have HR := hide hr
  clear h hn hr
  go_enter Tryz.func102, Tryz.ntmps102
  go_wp2
  go_loopw [8] (fun i wr => ∃ k : Nat, i = .int .i64 k ∧ k ≤ l.length ∧ Fr [bt] w wr ∧ TermAt wr bt g ((l.take k).foldl T.penBy t)) (fun i _ => (3000 - intOf i).toNat)
  case atStart => exact ⟨0, rfl, by omega, Fr.refl _ _, HT.out⟩
  case round =>
    obtain ⟨k, rfl, hk, f, ht⟩ := hrel
    by_cases hend : k < l.length
    · have hc0 := HN.out k hend
      have hc : wr.cell? ⟨gn, k, none⟩ = some (.int .i64 (l.getD k 0)) := by
        rw [← hc0]; exact World.cell?_of_block (w := w) (f.block gn (World.block_lt_of_cell? w _ hc0) (by simpa using hne))
      have hb := HR.out (l.getD k 0) (by rw [List.getD_eq_getElem?_getD, List.getElem?_eq_getElem hend]; simp)
      have HE := hide (show (l.take (k + 1)).foldl T.penBy t = ((l.take k).foldl T.penBy t).penBy (l.getD k 0) by rw [take_snoc l k 0 hend, List.foldl_append]; rfl)
      generalize l.getD k 0 = n at *
      generalize hu : (l.take k).foldl T.penBy t = u at *
      obtain ⟨c0, c1, c2, c3, c4, c5, c6, c7, c8, d0, d1⟩ := ht.cells
      have f5 := ht.st.frozen 5
      have f6 := ht.st.frozen 6
      have HU := hide ht
      have HOK := hide (T.penBy_ok ht.ok n)
      clear ht hc0 hu c0 c1 c2 c3 c4 c7 c8 d0 d1
      by_cases e0 : n = 0
      · subst e0
        have E := hide (show u.penBy 0 = { u with colour := 7, bold := false } by simp [T.penBy])
        go_wp2
        go_roundw
        case rel =>
          refine ⟨k + 1, by go_num, by omega, (f.setCell (by simp) _).setCell (by simp) _, ?_⟩
          rw [HE.out]
          have ok := HOK.out
          rw [E.out] at ok ⊢
          exact HU.out.write (((Fr.refl [bt] wr).setCell (by simp) _).setCell (by simp) _) ((HU.out.st.set 5 _).set 6 _) rfl rfl rfl rfl ok
        case measure => simp [intOf]; omega
      by_cases e1 : n = 1
      · subst e1
        have E := hide (show u.penBy 1 = { u with bold := true } by simp [T.penBy])
        go_wp2
        go_roundw
        case rel =>
          refine ⟨k + 1, by go_num, by omega, f.setCell (by simp) _, ?_⟩
          rw [HE.out]
          have ok := HOK.out
          rw [E.out] at ok ⊢
          exact HU.out.write ((Fr.refl [bt] wr).setCell (by simp) _) (HU.out.st.set 6 _) rfl rfl rfl rfl ok
        case measure => simp [intOf]; omega
      by_cases e22 : n = 22
      · subst e22
        have E := hide (show u.penBy 22 = { u with bold := false } by simp [T.penBy])
        go_wp2
        go_roundw
        case rel =>
          refine ⟨k + 1, by go_num, by omega, f.setCell (by simp) _, ?_⟩
          rw [HE.out]
          have ok := HOK.out
          rw [E.out] at ok ⊢
          exact HU.out.write ((Fr.refl [bt] wr).setCell (by simp) _) (HU.out.st.set 6 _) rfl rfl rfl rfl ok
        case measure => simp [intOf]; omega
      have q0 : (n == 0) = false := by simpa using e0
      have q1 : (n == 1) = false := by simpa using e1
      have q22 : (n == 22) = false := by simpa using e22
      by_cases e30 : 30 ≤ n ∧ n ≤ 37
      · have E := hide (show u.penBy n = { u with colour := n - 30 } by unfold T.penBy; rw [if_neg e0, if_neg e1, if_neg e22, if_pos e30])
        obtain ⟨e30, e37⟩ := e30
        clear e0 e1 e22
        go_wp2
        go_roundw
        case rel =>
          refine ⟨k + 1, by go_num, by omega, f.setCell (by simp) _, ?_⟩
          rw [HE.out]
          have ok := HOK.out
          rw [E.out] at ok ⊢
          exact HU.out.write ((Fr.refl [bt] wr).setCell (by simp) _) (HU.out.st.set 5 _) rfl rfl rfl rfl ok
        case measure => simp [intOf]; omega
      by_cases e39 : n = 39
      · subst e39
        have E := hide (show u.penBy 39 = { u with colour := 7 } by simp [T.penBy])
        clear e0 e1 e22 e30
        go_wp2
        go_roundw
        case rel =>
          refine ⟨k + 1, by go_num, by omega, f.setCell (by simp) _, ?_⟩
          rw [HE.out]
          have ok := HOK.out
          rw [E.out] at ok ⊢
          exact HU.out.write ((Fr.refl [bt] wr).setCell (by simp) _) (HU.out.st.set 5 _) rfl rfl rfl rfl ok
        case measure => simp [intOf]; omega
      · have E := hide (show u.penBy n = u by unfold T.penBy; rw [if_neg e0, if_neg e1, if_neg e22, if_neg e30, if_neg e39])
        have q39 : (n == 39) = false := by simpa using e39
        have h3 : n < 30 ∨ (30 ≤ n ∧ 37 < n) := by omega
        clear e0 e1 e22 e30 e39
        rcases h3 with h3 | ⟨h3, h4⟩
        all_goals
          go_wp2
          go_roundw
          case rel => exact ⟨k + 1, by go_num, by omega, f, by rw [HE.out, E.out]; exact HU.out⟩
          case measure => simp [intOf]; omega
    · have E := hide (show (l.take k).foldl T.penBy t = t.setPen l by rw [List.take_of_length_le (by omega)]; rfl)
      have HU := hide ht
      clear ht
      go_wp2
      go_end0
      exact ⟨rfl, f, by rw [← E.out]; exact HU.out⟩
end Go.Proofs.YtjhccghhinlmdabGreatDoor
