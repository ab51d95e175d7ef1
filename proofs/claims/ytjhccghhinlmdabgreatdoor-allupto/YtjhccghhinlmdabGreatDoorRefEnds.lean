/- The document's terminal: what a whole sequence does. -/
import Derived.Test.YtjhccghhinlmdabGreatDoorRefWipes
import Derived.Test.YtjhccghhinlmdabGreatDoorRefTakes
namespace Go.Proofs.YtjhccghhinlmdabGreatDoor
open Go.RowKit

def R.query (r : R) (l : List Int) (c : Int) : R := if l.contains 25 = true ∧ (c = 104 ∨ c = 108) then { r with hidden := decide (c = 108) } else r
def R.does (r : R) (l : List Int) (c : Int) : R :=
  if c = 72 then r.goes (oneI (l.getD 1 0) - 1) (oneI (l.getD 0 0) - 1)
  else if c = 65 then r.goes r.x (r.y - oneI (l.getD 0 0))
  else if c = 66 then r.goes r.x (r.y + oneI (l.getD 0 0))
  else if c = 67 then r.goes (r.x + oneI (l.getD 0 0)) r.y
  else if c = 68 then r.goes (r.x - oneI (l.getD 0 0)) r.y
  else if c = 109 then { r with pen := l.foldl penR r.pen }
  else r.wipes c (l.getD 0 0)
def R.ends (r : R) (xs : List Int) (c : Int) : R :=
  match readP xs with
  | none => r
  | some (true, l) => r.query l c
  | some (false, l) => r.does l c

theorem R.query_ok {r : R} (h : r.Ok) (l : List Int) (c : Int) : (r.query l c).Ok := by
  unfold R.query; split
  · exact ⟨h.w1, h.w2, h.h1, h.h2, h.len, h.x0, h.x1, h.y0, h.y1, h.p0, h.p1⟩
  · exact h
theorem penFold_bd (l : List Int) : ∀ p : Int, 0 ≤ p → p ≤ 15 → 0 ≤ l.foldl penR p ∧ l.foldl penR p ≤ 15 := by
  induction l with
  | nil => intro p h1 h2; exact ⟨h1, h2⟩
  | cons n l ih =>
    intro p h1 h2
    have := penR_bd p n h1 h2
    exact ih _ this.1 this.2

def askedB (s : ByteArray) : Bool := decide ((nums s).head? = some 63)
def restS (s : ByteArray) : ByteArray := if askedB s then s.extract 1 s.size else s
theorem asked_nil (s : ByteArray) (h : s.size = 0) : askedB s = false := by
  have : nums s = [] := List.eq_nil_of_length_eq_zero (by rw [nums_length]; exact h)
  simp [askedB, this]
theorem asked_cons (s : ByteArray) (h : 0 < s.size) : askedB s = decide ((s[0].toNat : Int) = 63) := by
  have h1 := drop_cons (nums s) 0 0 (by rw [nums_length]; exact h)
  rw [List.drop_zero, nums_get s 0 h] at h1
  unfold askedB
  rw [h1]
  simp
theorem read_rest (s : ByteArray) (h : s.size ≤ 12) : readP (nums s) = (numbers (nums (restS s))).map fun l => (askedB s, l) := by
  refine read_of (nums s) (by rw [nums_length]; exact h) (askedB s) _ ?_
  unfold restS
  cases hq : askedB s with
  | true =>
    left
    refine ⟨rfl, by simpa [askedB] using hq, ?_⟩
    simp only [if_true]
    rw [nums_extract, List.take_of_length_le (by rw [List.length_drop, nums_length]; omega), List.drop_one]
  | false =>
    right
    exact ⟨rfl, by simpa [askedB] using hq, rfl⟩
theorem restS_size (s : ByteArray) (h : s.size ≤ 12) : (restS s).size ≤ 12 := by
  unfold restS; split
  · rw [ByteArray.size_extract]; omega
  · exact h

theorem query_take {r : R} {l : List Int} {c : Int} {k : Nat} (h : k < l.length) (hc : l.getD k 0 = 25) (hh : c = 104 ∨ c = 108) : r.query (l.take (k + 1)) c = { r with hidden := decide (c = 108) } := by
  unfold R.query
  rw [if_pos]
  refine ⟨?_, hh⟩
  rw [take_snoc l k 0 h, hc]
  simp
theorem query_take_same {r : R} {l : List Int} {c : Int} {k : Nat} (h : k < l.length) (hc : ¬ (l.getD k 0 = 25 ∧ (c = 104 ∨ c = 108))) : r.query (l.take (k + 1)) c = r.query (l.take k) c := by
  unfold R.query
  rw [take_snoc l k 0 h]
  by_cases hh : c = 104 ∨ c = 108
  · have hne : ¬ l.getD k 0 = 25 := fun e => hc ⟨e, hh⟩
    have : ((l.take k ++ [l.getD k 0]).contains 25 = true) ↔ ((l.take k).contains 25 = true) := by
      simp only [List.contains_eq_mem, List.mem_append, List.mem_singleton, decide_eq_true_eq]
      constructor
      · intro h; rcases h with h | h
        · exact h
        · exact absurd h.symm hne
      · intro h; exact .inl h
    simp only [this]
  · rw [if_neg (fun h => hh h.2), if_neg (fun h => hh h.2)]

theorem bytes_loop (s : ByteArray) : ∀ (k i : Nat) (l : List UInt8), s.size - i = k → (ByteArray.toList.loop s i l).length = l.length + k := by
  intro k
  induction k with
  | zero => intro i l h; unfold ByteArray.toList.loop; rw [if_neg (by omega)]; simp
  | succ k ih => intro i l h; unfold ByteArray.toList.loop; rw [if_pos (by omega), ih _ _ (by omega)]; simp; omega
theorem bytes_length (s : ByteArray) : s.toList.length = s.size := by
  unfold ByteArray.toList; rw [bytes_loop s _ 0 [] rfl]; simp
theorem bytes_empty (s : ByteArray) : s.toList.isEmpty = decide (s.size = 0) := by
  have := bytes_length s
  cases h : s.toList with
  | nil => rw [h] at this; simp at this; simp [← this]
  | cons a l => rw [h] at this; simp at this; simp [← this]
theorem Nums.frS {w w' : World} {S : List Nat} {gn : Nat} {l : List Int} (h : Nums w gn l) (f : Fr S w w') (hS : gn ∉ S) : Nums w' gn l := fun i hi => by
  have hc := h i hi
  rw [← hc]
  exact World.cell?_of_block (w := w) (f.block gn (World.block_lt_of_cell? w _ hc) hS)
theorem R.ends_none {r : R} {s : ByteArray} (c : Int) (h : s.size ≤ 12) (hN : numbers (nums (restS s)) = none) : r.ends (nums s) c = r := by
  unfold R.ends; rw [read_rest s h, hN]; rfl
theorem R.ends_some {r : R} {s : ByteArray} (c : Int) (h : s.size ≤ 12) {l : List Int} (hN : numbers (nums (restS s)) = some l) : r.ends (nums s) c = if askedB s = true then r.query l c else r.does l c := by
  unfold R.ends; rw [read_rest s h, hN]; cases askedB s <;> rfl
theorem does_else {r : R} {l : List Int} {c : Int} (h1 : c ≠ 72) (h2 : c ≠ 65) (h3 : c ≠ 66) (h4 : c ≠ 67) (h5 : c ≠ 68) (h6 : c ≠ 109) : r.does l c = r.wipes c (l.getD 0 0) := by
  unfold R.does; rw [if_neg h1, if_neg h2, if_neg h3, if_neg h4, if_neg h5, if_neg h6]

theorem RefAt.hid {w : World} {b : Nat} {g : RGh} {r : R} (h : RefAt w b g r) (v : Bool) : RefAt (w.setCell ⟨b, 5, none⟩ (.bool v)) b g { r with hidden := v } :=
  h.write ((Fr.refl [b] w).setCell (p := ⟨b, 5, none⟩) (by simp) _) (h.st.set 5 (.bool v)) rfl ⟨h.ok.w1, h.ok.w2, h.ok.h1, h.ok.h2, h.ok.len, h.ok.x0, h.ok.x1, h.ok.y0, h.ok.y1, h.ok.p0, h.ok.p1⟩
theorem RefAt.penned {w : World} {b : Nat} {g : RGh} {r : R} (h : RefAt w b g r) (p : Int) (h0 : 0 ≤ p) (h1 : p ≤ 15) : RefAt (w.setCell ⟨b, 7, none⟩ (.int .i64 p)) b g { r with pen := p } :=
  h.write ((Fr.refl [b] w).setCell (p := ⟨b, 7, none⟩) (by simp) _) (h.st.set 7 (.int .i64 p)) rfl ⟨h.ok.w1, h.ok.w2, h.ok.h1, h.ok.h2, h.ok.len, h.ok.x0, h.ok.x1, h.ok.y0, h.ok.y1, h0, h1⟩
theorem query_hid (r : R) (l : List Int) (c : Int) (v : Bool) : { r.query l c with hidden := v } = { r with hidden := v } := by
  unfold R.query; split <;> rfl
theorem i64_near (n : Int) (h1 : -1000000 ≤ n) (h2 : n ≤ 1000000) : IntKind.i64.wrap n = n := by rw [IntKind.wrap_i64]; omega
theorem getD_mem {l : List Int} {k : Nat} (h : k < l.length) : l.getD k 0 ∈ l := by
  rw [List.getD_eq_getElem?_getD, List.getElem?_eq_getElem h]; simp
theorem nth_bd {l : List Int} (h : ∀ a ∈ l, 0 ≤ a ∧ a ≤ 999) (k : Nat) : 0 ≤ l.getD k 0 ∧ l.getD k 0 ≤ 999 := by
  by_cases hk : k < l.length
  · exact h _ (getD_mem hk)
  · rw [List.getD_eq_getElem?_getD, List.getElem?_eq_none (by omega)]; simp

set_option maxHeartbeats 8000000 in
set_option maxRecDepth 100000 in
theorem ends_any (c : Int) (w : World) (b : Nat) (g : RGh) (r : R) (h : RefAt w b g r) (s : ByteArray) (hs : s.size ≤ 4611686018427387904) :
    Calls Tryz.prog 63 #[.pointer (some ⟨b, 0, none⟩), .string s, .int .u8 c] w fun e w' => e = .returned (.tuple #[]) ∧ RUpd b g (r.ends (nums s) c) w w' := by
  have HT := hide h
  have HLEN := hide (nums_length s)
  by_cases h12 : 12 < s.size
  · have E := hide (show r.ends (nums s) c = r by unfold R.ends readP; rw [if_pos (by rw [HLEN.out]; exact h12)])
    clear h
    go_enter Tryz.func63, Tryz.ntmps63
    go_wp2
    exact bodyPost_ret (results_none rfl _ _ _) rfl ⟨rfl, by rw [E.out]; exact RUpd.of HT.out (Fr.refl _ _)⟩
  · have H12 := hide (show s.size ≤ 12 by omega)
    have rs := restS_size s (by omega)
    have blt := h.st.lt
    clear h
    go_enter Tryz.func63, Tryz.ntmps63
    go_upto_region 1 with (fail)
    go_cut [6] (fun v wx => v = .bool (askedB s) ∧ wx = w)
    case first =>
      by_cases hz : s.size = 0
      · have A := hide (asked_nil s hz)
        have hne : s.toList.isEmpty = true := by rw [bytes_empty]; simp [hz]
        go_wp2_with fail
        go_meet
        case rel => exact ⟨by rw [A.out], rfl⟩
      · have hp : 0 < s.size := by omega
        have A := hide (asked_cons s hp)
        have hne : s.toList.isEmpty = false := by rw [bytes_empty]; simpa using hz
        by_cases hq : (s[0].toNat : Int) = 63
        · have hb : ((s[0].toNat : Int) == 63) = true := by rw [hq]; rfl
          have A2 := hide (show askedB s = true by rw [A.out]; simp [hq])
          clear hz hq
          go_wp2_with fail
          go_meet
          case rel => exact ⟨by rw [A2.out], rfl⟩
        · have hb : ((s[0].toNat : Int) == 63) = false := by simpa using hq
          have A2 := hide (show askedB s = false by rw [A.out]; simpa using hq)
          clear hz hq
          go_wp2_with fail
          go_meet
          case rel => exact ⟨by rw [A2.out], rfl⟩
    case rest =>
      obtain ⟨rfl, hw⟩ := hcut
      subst wc
      go_upto_if 23 with (fail)
      go_cut [1, 6] (fun v q wx => v = .string (restS s) ∧ q = .bool (askedB s) ∧ wx = w)
      case first =>
        cases ha : askedB s with
        | true =>
          have A := hide (show restS s = s.extract 1 s.size by simp [restS, ha])
          have hp : 0 < s.size := by
            rcases Nat.eq_zero_or_pos s.size with h0 | h0
            · have := asked_nil s h0; rw [ha] at this; cases this
            · exact h0
          have HA := hide ha
          go_wp2_with fail
          go_meet
          case rel => exact ⟨by rw [A.out], by first | rfl | rw [HA.out], rfl⟩
        | false =>
          have A := hide (show restS s = s by simp [restS, ha])
          have HA := hide ha
          go_wp2_with fail
          go_meet
          case rel => exact ⟨by rw [A.out], by first | rfl | rw [HA.out], rfl⟩
      case rest =>
        obtain ⟨rfl, rfl, hw⟩ := hcut
        subst wc
        cases hN : numbers (nums (restS s)) with
        | none =>
          have E := hide (R.ends_none (r := r) c H12.out hN)
          have HN := hide hN
          clear hN
          go_wp2_with (go_at_call 81; refine (rnumbers_any _ _ (by omega)).mono ?_; intro e w1 hp; obtain ⟨f1, hp⟩ := hp; rw [HN.out] at hp; simp only [] at hp; subst hp)
          exact bodyPost_ret (results_none rfl _ _ _) rfl ⟨rfl, by rw [E.out]; exact RUpd.of (HT.out.fr0 f1) (f1.mono (by simp))⟩
        | some l =>
          have E := hide (R.ends_some (r := r) c H12.out hN)
          have NB := numbers_bd hN
          rw [nums_length] at NB
          obtain ⟨nb, nl1, nl2⟩ := NB
          have NBH := hide nb
          have HN := hide hN
          clear hN nb
          cases ha : askedB s with
          | true =>
            have EQ : Hid (r.ends (nums s) c = r.query l c) := by rw [E.out, if_pos ha]; rfl
            clear ha E
            go_wp2_with (go_at_call 81; refine (rnumbers_any _ _ (by omega)).mono ?_; intro e w1 hp; obtain ⟨f1, hp⟩ := hp; rw [HN.out] at hp; simp only [] at hp; obtain ⟨gn, cap, rfl, hgn, hown⟩ := hp; have NU := hide (Nums.of hown); clear hown)
            have RA := hide (HT.out.fr0 f1)
            go_loopw [9] (fun i wr => ∃ k : Nat, i = .int .i64 k ∧ k ≤ l.length ∧ Fr [b] w1 wr ∧ RefAt wr b g (r.query (l.take k) c)) (fun i _ => (3000 - intOf i).toNat)
            case atStart => exact ⟨0, rfl, by omega, Fr.refl _ _, by have := RA.out; simpa [R.query] using this⟩
            case round =>
              obtain ⟨k, rfl, hk, f, hr⟩ := hrel
              by_cases hend : k < l.length
              · have hc := (NU.out.frS f (by simp; omega)) k hend
                have fz := hr.st.frozen 5
                obtain ⟨d0, d1, d2, d3, d4, d5, d6, d7, d8⟩ := hr.cells
                have hblt := hr.st.lt
                have HR := hide hr
                clear hr d0 d1 d2 d3 d4 d6 d7 d8
                have QS := hide (fun h => query_take_same (r := r) (c := c) hend h)
                have QT := hide (fun h => query_take (r := r) (c := c) hend h)
                generalize l.getD k 0 = m at *
                by_cases h25 : m = 25
                · subst h25
                  by_cases c104 : c = 104
                  · subst c104
                    have E2 := hide (QT.out rfl (.inl rfl))
                    go_wp2
                    go_roundw
                    case rel =>
                      refine ⟨k + 1, by go_num, by omega, f.setCell (p := ⟨b, 5, none⟩) (by simp) _, ?_⟩
                      have := HR.out.hid false
                      rw [query_hid] at this
                      rw [E2.out]
                      exact this
                    case measure => simp [intOf]; omega
                  · have b104 : (c == 104) = false := by simpa using c104
                    by_cases c108 : c = 108
                    · subst c108
                      have E2 := hide (QT.out rfl (.inr rfl))
                      clear c104 b104
                      go_wp2
                      go_roundw
                      case rel =>
                        refine ⟨k + 1, by go_num, by omega, f.setCell (p := ⟨b, 5, none⟩) (by simp) _, ?_⟩
                        have := HR.out.hid true
                        rw [query_hid] at this
                        rw [E2.out]
                        exact this
                      case measure => simp [intOf]; omega
                    · have b108 : (c == 108) = false := by simpa using c108
                      have E2 := hide (QS.out (fun h => by rcases h.2 with h | h <;> contradiction))
                      clear c104 c108
                      go_wp2
                      go_roundw
                      case rel =>
                        refine ⟨k + 1, by go_num, by omega, f, ?_⟩
                        rw [E2.out]
                        exact HR.out
                      case measure => simp [intOf]; omega
                · have b25 : (m == 25) = false := by simpa using h25
                  have E2 := hide (QS.out (fun h => h25 h.1))
                  clear h25
                  go_wp2
                  go_roundw
                  case rel =>
                    refine ⟨k + 1, by go_num, by omega, f, ?_⟩
                    rw [E2.out]
                    exact HR.out
                  case measure => simp [intOf]; omega
              · have e : k = l.length := by omega
                subst e
                rw [List.take_length] at hr
                have HR := hide hr
                clear hr
                go_wp2
                exact bodyPost_ret (results_none rfl _ _ _) rfl ⟨rfl, by rw [EQ.out]; exact RUpd.of1 HR.out (f1.trans f (fun i hi => .inl (by simp at hi)) (fun i hi => .inl hi))⟩
          | false =>
            have EQ : Hid (r.ends (nums s) c = r.does l c) := by rw [E.out, if_neg (by rw [ha]; simp)]; rfl
            clear ha E
            obtain ⟨n0, E0⟩ : ∃ n, l.getD 0 0 = n := ⟨_, rfl⟩
            obtain ⟨n1, E1⟩ : ∃ n, l.getD 1 0 = n := ⟨_, rfl⟩
            have N0 := nth_bd NBH.out 0
            have N1 := nth_bd NBH.out 1
            rw [E0] at N0
            rw [E1] at N1
            have HE0 := hide E0
            have HE1 := hide E1
            clear E0 E1
            obtain ⟨O0, O0'⟩ : 1 ≤ oneI n0 ∧ oneI n0 ≤ 999 := by unfold oneI; split <;> omega
            obtain ⟨O1, O1'⟩ : 1 ≤ oneI n1 ∧ oneI n1 ≤ 999 := by unfold oneI; split <;> omega
            go_upto_region 12 with (go_at_call 81; refine (rnumbers_any _ _ (by omega)).mono ?_; intro e w1 hp; obtain ⟨f1, hp⟩ := hp; rw [HN.out] at hp; simp only [] at hp; obtain ⟨gn, cap, rfl, hgn, hown⟩ := hp; have NU := hide (Nums.of hown); clear hown)
            have hc0 := NU.out 0 (by omega)
            rw [HE0.out] at hc0
            have RA := hide (HT.out.fr0 f1)
            go_upto_if 63 with (fail)
            go_cut [11] (fun v wx => v = .int .i64 n1 ∧ wx = w1)
            case first =>
              by_cases h1 : 1 < l.length
              · have hc1 := NU.out 1 h1
                rw [HE1.out] at hc1
                go_wp2
                go_meet
                case rel => exact ⟨rfl, rfl⟩
              · have e1 : Hid (n1 = 0) := by
                  show n1 = 0
                  rw [← HE1.out, List.getD_eq_getElem?_getD, List.getElem?_eq_none (by omega)]; rfl
                go_wp2
                go_meet
                case rel => exact ⟨by rw [e1.out], rfl⟩
            case rest =>
              obtain ⟨rfl, hw⟩ := hcut
              subst wc
              clear hc0
              obtain ⟨d0, d1, d2, d3, d4, d5, d6, d7, d8⟩ := RA.out.cells
              have hblt := RA.out.st.lt
              have x0 := RA.out.ok.x0
              have x1 := RA.out.ok.x1
              have y0 := RA.out.ok.y0
              have y1 := RA.out.ok.y1
              have w2 := RA.out.ok.w2
              have h2 := RA.out.ok.h2
              clear d0 d1 d2 d5 d6 d8
              have FIN : Hid (∀ w' r', r.does l c = r' → Fr [b] w1 w' → RefAt w' b g r' → RUpd b g (r.ends (nums s) c) w w') := by
                intro w' r' e f k
                rw [EQ.out, e]
                exact RUpd.of1 k (f1.trans f (fun i hi => .inl (by simp at hi)) (fun i hi => .inl hi))
              by_cases c72 : c = 72
              · subst c72
                clear d3 d4 d7
                go_wp2_with (first | (go_at_call 83; refine (one_any _ _).mono ?_; rintro e w' ⟨rfl, rfl⟩) | (go_at_call 82; refine (goes_any _ _ _ b g r ?hra).mono ?_; (case hra => exact RA.out); rintro e w' ⟨rfl, k1, k2⟩))
                go_end0
                exact ⟨rfl, FIN.out _ _ (by simp only [R.does, if_true, HE0.out, HE1.out]) k1 k2⟩
              have b72 : (c == 72) = false := by simpa using c72
              by_cases c65 : c = 65
              · subst c65
                clear c72 d7
                go_upto_region 21 with (fail)
                go_region_with (first | (go_at_call 83; refine (one_any _ _).mono ?_; rintro e w' ⟨rfl, rfl⟩) | (go_at_call 82; refine (goes_any _ _ _ b g r ?hra).mono ?_; (case hra => exact RA.out.fr0 (Fr.refl _ _).drew); rintro e w' ⟨rfl, k1, k2⟩))
                all_goals go_wp2
                all_goals go_end0
                all_goals exact ⟨rfl, FIN.out _ _ (by rw [i64_near _ (by omega) (by omega), ← HE0.out]; rfl) (((Fr.refl _ _).drew).then k1) k2⟩
              have b65 : (c == 65) = false := by simpa using c65
              by_cases c66 : c = 66
              · subst c66
                clear c72 c65 d7
                go_upto_region 23 with (fail)
                go_region_with (first | (go_at_call 83; refine (one_any _ _).mono ?_; rintro e w' ⟨rfl, rfl⟩) | (go_at_call 82; refine (goes_any _ _ _ b g r ?hra).mono ?_; (case hra => exact RA.out.fr0 (Fr.refl _ _).drew); rintro e w' ⟨rfl, k1, k2⟩))
                all_goals go_wp2
                all_goals go_end0
                all_goals exact ⟨rfl, FIN.out _ _ (by rw [i64_near _ (by omega) (by omega), ← HE0.out]; rfl) (((Fr.refl _ _).drew).then k1) k2⟩
              have b66 : (c == 66) = false := by simpa using c66
              by_cases c67 : c = 67
              · subst c67
                clear c72 c65 c66 d7
                go_upto_region 25 with (fail)
                go_region_with (first | (go_at_call 83; refine (one_any _ _).mono ?_; rintro e w' ⟨rfl, rfl⟩) | (go_at_call 82; refine (goes_any _ _ _ b g r ?hra).mono ?_; (case hra => exact RA.out.fr0 (Fr.refl _ _).drew); rintro e w' ⟨rfl, k1, k2⟩))
                all_goals go_wp2
                all_goals go_end0
                all_goals exact ⟨rfl, FIN.out _ _ (by rw [i64_near _ (by omega) (by omega), ← HE0.out]; rfl) (((Fr.refl _ _).drew).then k1) k2⟩
              have b67 : (c == 67) = false := by simpa using c67
              by_cases c68 : c = 68
              · subst c68
                clear c72 c65 c66 c67 d7
                go_upto_region 27 with (fail)
                go_region_with (first | (go_at_call 83; refine (one_any _ _).mono ?_; rintro e w' ⟨rfl, rfl⟩) | (go_at_call 82; refine (goes_any _ _ _ b g r ?hra).mono ?_; (case hra => exact RA.out.fr0 (Fr.refl _ _).drew); rintro e w' ⟨rfl, k1, k2⟩))
                all_goals go_wp2
                all_goals go_end0
                all_goals exact ⟨rfl, FIN.out _ _ (by rw [i64_near _ (by omega) (by omega), ← HE0.out]; rfl) (((Fr.refl _ _).drew).then k1) k2⟩
              have b68 : (c == 68) = false := by simpa using c68
              by_cases c109 : c = 109
              · subst c109
                clear c72 c65 c66 c67 c68 d3 d4 d7
                go_wp2
                go_loopw [12] (fun i wr => ∃ k : Nat, i = .int .i64 k ∧ k ≤ l.length ∧ Fr [b] w1 wr ∧ RefAt wr b g { r with pen := (l.take k).foldl penR r.pen }) (fun i _ => (3000 - intOf i).toNat)
                case atStart => exact ⟨0, rfl, by omega, Fr.refl _ _, RA.out⟩
                case round =>
                  obtain ⟨k, rfl, hk, f, hr⟩ := hrel
                  by_cases hend : k < l.length
                  · have hc := (NU.out.frS f (by simp; omega)) k hend
                    have fz := hr.st.frozen 7
                    obtain ⟨d0, d1, d2, d3, d4, d5, d6, d7, d8⟩ := hr.cells
                    have hblt := hr.st.lt
                    have p0 := hr.ok.p0
                    have p1 := hr.ok.p1
                    simp only [] at d7 p0 p1
                    have HR := hide hr
                    have TS := hide (take_snoc l k 0 hend)
                    clear hr d0 d1 d2 d3 d4 d5 d6 d8
                    obtain ⟨m0, m1⟩ := NBH.out _ (getD_mem hend)
                    have hlt2 : gn < wr.heap.size := World.block_lt_of_cell? wr _ hc
                    have PB := penR_bd ((l.take k).foldl penR r.pen) (l.getD k 0) p0 p1
                    have PE : Hid (penR ((l.take k).foldl penR r.pen) (l.getD k 0) = (l.take (k + 1)).foldl penR r.pen) := by
                      show _ = _
                      rw [TS.out, List.foldl_append]; rfl
                    generalize l.getD k 0 = m at *
                    generalize (l.take k).foldl penR r.pen = q at *
                    go_upto_region 32 with (fail)
                    go_region_with (go_at_call 84; refine (pen_any _ _ _ ?h1 ?h2 ?h3 ?h4).mono ?_; (case h1 => assumption); (case h2 => assumption); (case h3 => assumption); (case h4 => assumption); rintro e w' ⟨rfl, rfl⟩)
                    all_goals go_wp2
                    all_goals
                      go_roundw
                      case rel =>
                        refine ⟨k + 1, by go_num, by omega, (f.setCell (p := ⟨b, 7, none⟩) (by simp) _).drew, ?_⟩
                        rw [← PE.out]
                        exact (HR.out.penned _ PB.1 PB.2).fr0 (Fr.refl _ _).drew
                      case measure => simp [intOf]; omega
                  · have e : k = l.length := by omega
                    subst e
                    rw [List.take_length] at hr
                    have HR := hide hr
                    clear hr
                    go_wp2
                    go_end0
                    exact ⟨rfl, FIN.out _ _ (by simp [R.does]) f HR.out⟩
              have b109 : (c == 109) = false := by simpa using c109
              have EL := hide (does_else (r := r) (l := l) c72 c65 c66 c67 c68 c109)
              clear c72 c65 c66 c67 c68 c109 d3 d4 d7
              go_wp2_with (go_at_call 85; refine (wipes_any _ _ _ b g r ?hra ?h1 ?h2).mono ?_; (case hra => exact RA.out); (case h1 => exact N0.1); (case h2 => exact N0.2); rintro e w' ⟨rfl, k1⟩)
              go_end0
              refine ⟨rfl, ?_⟩
              rw [EQ.out, EL.out, HE0.out]
              exact RUpd.via f1.of_nil (fun x hx => .inl hx) k1
end Go.Proofs.YtjhccghhinlmdabGreatDoor
