/- A list of windows as it comes in. -/
import Derived.Test.YtajhbbgehfamoaaWinOpen
namespace Go.Proofs.Ytajhbbgehfamoaa
open Go.ChangeShapes Go.WideShapes Go.ChangeAt Go.RowKit Go.Deep

def Win.datum {H : Type} (o : Win) : DataW H := .agg [.lit (.int .i64 o.key), .lit (.int .i64 o.x), .lit (.int .i64 o.y), .lit (.int .i64 o.w), .lit (.int .i64 o.h), .lit (.int .i64 o.layer), .lit (.int .i64 o.style), .lit (.string o.text.data.toList)]
theorem list_of {α : Type} (P : Nat → α → Prop) : ∀ n : Nat, (∀ i, i < n → ∃ x, P i x) → ∃ l : List α, l.length = n ∧ ∀ i x, l[i]? = some x → P i x
  | 0, _ => ⟨[], rfl, by simp⟩
  | n + 1, h => by
    obtain ⟨l, h1, h2⟩ := list_of P n (fun i hi => h i (by omega))
    obtain ⟨x, hx⟩ := h n (by omega)
    refine ⟨l ++ [x], by simp [h1], ?_⟩
    intro i y hy
    rcases Nat.lt_or_ge i n with e | e
    · rw [List.getElem?_append_left (by omega)] at hy; exact h2 i y hy
    · rw [List.getElem?_append_right (by omega)] at hy
      have : i - l.length = 0 := by
        rcases Nat.eq_zero_or_pos (i - l.length) with q | q
        · exact q
        · rw [List.getElem?_eq_none (by simp; omega)] at hy; cases hy
      rw [this] at hy; simp at hy; subst hy
      have : i = n := by omega
      subst this; exact hx

/-- a list of windows lies there as windows -/
theorem wins_open {H : Type} {enc : TypeId × Value → H} {w : World} {fuel : Nat} {a0 : Option Addr} {len cap : Nat} {y : DataW H × List MemPlace} (h : DataW.trod enc Try.prog w 0 (fun _ => true) true fuel 50 [.slice a0 len cap] = some y) :
    ∃ ws : List Win, ws.length = len ∧ WinsAt w a0 ws ∧ (∀ o ∈ ws, o.Wf) ∧ len ≤ cap ∧ ((y.1 = .nil ∧ ws = []) ∨ ∃ spare, y.1 = .slice (ws.map Win.datum) spare) := by
  rcases open_slice Try.underlying50 h with ⟨hcs, hx⟩ | ⟨a, len', cap', m, n, D, Pl, hcs, _, hl, hm, hmm, hx, hcell⟩
  · simp at hcs
    obtain ⟨rfl, rfl, rfl⟩ := hcs
    exact ⟨[], rfl, fun i o ho => by simp at ho, by simp, Nat.le_refl _, .inl ⟨by rw [hx], rfl⟩⟩
  · simp at hcs
    obtain ⟨rfl, rfl, rfl⟩ := hcs
    simp only [if_true] at hmm
    rw [cells_window] at hcell
    have each : ∀ i, i < len → ∃ o : Win, w.cells? 0 (a.add (i * 8)) 8 = some o.vals ∧ o.Wf ∧ D i = o.datum := by
      intro i hi
      obtain ⟨cs', h1, h2⟩ := hcell i (by omega)
      obtain ⟨o, rfl, h3, h4⟩ := win_cells h2
      exact ⟨o, h1, h3, h4⟩
    obtain ⟨ws, hw1, hw2⟩ := list_of _ len each
    obtain ⟨gb, off, spot⟩ := a
    refine ⟨ws, hw1, ?_, ?_, by omega, .inr ⟨(List.range (m - len)).map (fun j => D (len + j)), ?_⟩⟩
    · intro i o ho
      obtain ⟨h1, _, _⟩ := hw2 i o ho
      obtain ⟨_, _, hc⟩ := World.cells?_some h1
      have hspot : spot = none := by
        have hi : i < ws.length := (List.getElem?_eq_some_iff.1 ho).1
        obtain ⟨o0, ho0⟩ : ∃ o, ws[0]? = some o := ⟨_, List.getElem?_eq_getElem (by omega)⟩
        obtain ⟨_, _, hc0⟩ := World.cells?_some (hw2 0 o0 ho0).1
        have := hc0 0 (by show (0 : Nat) < 8; decide)
        simpa [Addr.add] using World.cell?_spot this
      subst hspot
      have hadd : ∀ x, (⟨gb, off, none⟩ : Addr).add x = ⟨gb, off + x, none⟩ := fun x => by unfold Addr.add; split <;> simp_all
      have hadd2 : ∀ x y, (⟨gb, off + x, none⟩ : Addr).add y = ⟨gb, off + x + y, none⟩ := fun x y => by unfold Addr.add; split <;> simp_all
      have c0 := hc 0 (by show (0 : Nat) < 8; decide)
      have c1 := hc 1 (by show (1 : Nat) < 8; decide)
      have c2 := hc 2 (by show (2 : Nat) < 8; decide)
      have c3 := hc 3 (by show (3 : Nat) < 8; decide)
      have c4 := hc 4 (by show (4 : Nat) < 8; decide)
      have c5 := hc 5 (by show (5 : Nat) < 8; decide)
      have c6 := hc 6 (by show (6 : Nat) < 8; decide)
      have c7 := hc 7 (by show (7 : Nat) < 8; decide)
      rw [hadd, hadd2] at c0 c1 c2 c3 c4 c5 c6 c7
      exact ⟨gb, off, rfl, c0, c1, c2, c3, c4, c5, c6, c7⟩
    · intro o ho
      obtain ⟨i, hi⟩ := List.getElem?_of_mem ho
      exact (hw2 i o hi).2.1
    · rw [hx]
      simp only
      congr 1
      apply List.ext_getElem?
      intro i
      rcases Nat.lt_or_ge i len with e | e
      · obtain ⟨o, ho⟩ : ∃ o, ws[i]? = some o := ⟨_, List.getElem?_eq_getElem (by omega)⟩
        rw [List.getElem?_map, List.getElem?_map, ho, List.getElem?_range e]
        simp [(hw2 i o ho).2.2]
      · rw [List.getElem?_eq_none (by simp; omega), List.getElem?_eq_none (by simp; omega)]

theorem weights_all {H : Type} {P : Program} {e : TypeId} : ∀ {l : List (DataW H)} {d : DataW H} {n : Nat}, d ∈ l → n ∈ d.weights P e → n ∈ DataW.weightsAll P e l
  | [], _, _, h, _ => by cases h
  | x :: l, d, n, h, hn => by
    simp only [DataW.weightsAll, List.mem_append]
    rcases List.mem_cons.1 h with rfl | h
    · exact .inl hn
    · exact .inr (weights_all h hn)
theorem bytes_window : Try.prog.bytesOf 41 = 72 := by kernel_rfl
/-- how great such a list and its texts are -/
theorem sized_wins {H : Type} {ts : List TypeId} {ds : List (DataW H)} (h : (DataW.weightsEach Try.prog ts ds).all (· ≤ reachBytes) = true) {j : Nat} {ws : List Win} {spare : List (DataW H)} (ht : ts[j]? = some 50)
    (hd : ds[j]? = some (.slice (ws.map Win.datum) spare)) : ws.length * 72 ≤ 140737488351232 ∧ ∀ o ∈ ws, o.text.size ≤ 140737488351232 := by
  constructor
  · have := sized_slice h ht hd Try.underlying50
    rw [bytes_window, List.length_map] at this
    have e : reachBytes = 140737488351232 := rfl
    rw [e, Nat.add_mul] at this
    omega
  · intro o ho
    have := List.all_eq_true.1 h _ (DataW.weights_mem_each ht hd o.text.data.toList.length (by
      simp only [DataW.weights, Try.underlying50, List.mem_cons, List.mem_append]
      refine .inr (.inl (weights_all (List.mem_map.2 ⟨o, ho, rfl⟩) ?_))
      simp [Win.datum, DataW.weights, Try.underlying41, DataW.weightsEach]))
    have h2 : o.text.data.toList.length ≤ reachBytes := by simpa using this
    rw [Array.length_toList] at h2
    exact h2
end Go.Proofs.Ytajhbbgehfamoaa
