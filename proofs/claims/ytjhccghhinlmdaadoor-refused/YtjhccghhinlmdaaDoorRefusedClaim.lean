/- PROVED: repaintkeep.Refused answers true for every input, and leaves its arguments as they were; no condition beyond the form's own reach, and that the tables of Go's library that the row lists hold what the program's text lays (the card ties them). -/
import Derived.Test.YtjhccghhinlmdaaDoorRows
import Derived.Test.YtjhccghhinlmdaaDoorFrontsWalk
import Derived.Test.YtjhccghhinlmdaaDoorWinOpen
import Derived.Deep.DeepHandedRow
import Derived.SevenTiedAt
import Derived.LaidMore
import Derived.Test.YtjhccghhinlmdaaDoorCards
import Derived.Test.YtjhccghhinlmdaaDoorTie
import Derived.Test.YtjhccghhinlmdaaDoorRefusedWalk
/- What the rows that list tables share: the witness's window, the frame of a card. -/
namespace Go.Proofs.YtjhccghhinlmdaaDoor
open Go.ChangeShapes Go.WideShapes Go.ChangeAt Go.RowKit Go.Deep

/-- a window of noughts -/
def zeroWin : Value := .agg #[.int .i64 0, .int .i64 0, .int .i64 0, .int .i64 0, .int .i64 0, .int .i64 0, .int .i64 0, .string ByteArray.empty]
def zeroD {H : Type} : DataW H := .agg [.lit (.int .i64 0), .lit (.int .i64 0), .lit (.int .i64 0), .lit (.int .i64 0), .lit (.int .i64 0), .lit (.int .i64 0), .lit (.int .i64 0), .lit (.string [])]
theorem in_of {o : Win} (h : o.Wf) (ht : o.text.size ≤ 140737488351232) : o.In :=
  ⟨h.x.1, h.x.2, h.y.1, h.y.2, h.w.1, h.w.2, h.h.1, h.h.2, h.l.1, h.l.2, h.s.1, h.s.2, by omega⟩
theorem noStandIn (l : List TypeId) (hall : (l.all fun u => !Tryd.prog.wantsStandIn u) = true) (t : TypeId) (hm : t ∈ l) : Tryd.prog.wantsStandIn t = false := by
  simpa using List.all_eq_true.1 hall t hm
end Go.Proofs.YtjhccghhinlmdaaDoor
/- A list of windows as it comes in. -/
namespace Go.Proofs.YtjhccghhinlmdaaDoor
open Go.ChangeShapes Go.WideShapes Go.ChangeAt Go.RowKit Go.Deep

def Win.datum {H : Type} (o : Win) : DataW H := .agg [.lit (.int .i64 o.key), .lit (.int .i64 o.x), .lit (.int .i64 o.y), .lit (.int .i64 o.w), .lit (.int .i64 o.h), .lit (.int .i64 o.layer), .lit (.int .i64 o.style), .lit (.string o.text.data.toList)]
theorem list_of {α : Type} (P : Nat → α → Prop) : ∀ n : Nat, (∀ i, i < n → ∃ x, P i x) → ∃ l : List α, l.length = n ∧ ∀ i x, l[i]? = some x → P i x
  | 0, _ => ⟨[], rfl, by simp⟩
  | n + 1, h => by
    obtain ⟨l, h1, h2⟩ := list_of P n (fun i hi => h i (by omega))
    obtain ⟨x, hx⟩ := h n (by omega)
    refine ⟨l ++ [x], by simp [h1], ?_⟩
    intro i y hy
    rcases Nat.lt_or_ge i n with e | e
    · rw [List.getElem?_append_left (by omega)] at hy; exact h2 i y hy
    · rw [List.getElem?_append_right (by omega)] at hy
      have : i - l.length = 0 := by
        rcases Nat.eq_zero_or_pos (i - l.length) with q | q
        · exact q
        · rw [List.getElem?_eq_none (by simp; omega)] at hy; cases hy
      rw [this] at hy; simp at hy; subst hy
      have : i = n := by omega
      subst this; exact hx

/-- a list of windows lies there as windows -/
theorem wins_open {H : Type} {enc : TypeId × Value → H} {w : World} {fuel : Nat} {a0 : Option Addr} {len cap : Nat} {y : DataW H × List MemPlace} (h : DataW.trod enc Tryd.prog w 0 (fun _ => true) true fuel 34 [.slice a0 len cap] = some y) :
    ∃ ws : List Win, ws.length = len ∧ WinsAt w a0 ws ∧ (∀ o ∈ ws, o.Wf) ∧ len ≤ cap ∧ ((y.1 = .nil ∧ ws = []) ∨ ∃ spare, y.1 = .slice (ws.map Win.datum) spare) := by
  rcases open_slice Tryd.underlying34 h with ⟨hcs, hx⟩ | ⟨a, len', cap', m, n, D, Pl, hcs, _, hl, hm, hmm, hx, hcell⟩
  · simp at hcs
    obtain ⟨rfl, rfl, rfl⟩ := hcs
    exact ⟨[], rfl, fun i o ho => by simp at ho, by simp, Nat.le_refl _, .inl ⟨by rw [hx], rfl⟩⟩
  · simp at hcs
    obtain ⟨rfl, rfl, rfl⟩ := hcs
    simp only [if_true] at hmm
    rw [cells_window] at hcell
    have each : ∀ i, i < len → ∃ o : Win, w.cells? 0 (a.add (i * 8)) 8 = some o.vals ∧ o.Wf ∧ D i = o.datum := by
      intro i hi
      obtain ⟨cs', h1, h2⟩ := hcell i (by omega)
      obtain ⟨o, rfl, h3, h4⟩ := win_cells h2
      exact ⟨o, h1, h3, h4⟩
    obtain ⟨ws, hw1, hw2⟩ := list_of _ len each
    obtain ⟨gb, off, spot⟩ := a
    refine ⟨ws, hw1, ?_, ?_, by omega, .inr ⟨(List.range (m - len)).map (fun j => D (len + j)), ?_⟩⟩
    · intro i o ho
      obtain ⟨h1, _, _⟩ := hw2 i o ho
      obtain ⟨_, _, hc⟩ := World.cells?_some h1
      have hspot : spot = none := by
        have hi : i < ws.length := (List.getElem?_eq_some_iff.1 ho).1
        obtain ⟨o0, ho0⟩ : ∃ o, ws[0]? = some o := ⟨_, List.getElem?_eq_getElem (by omega)⟩
        obtain ⟨_, _, hc0⟩ := World.cells?_some (hw2 0 o0 ho0).1
        have := hc0 0 (by show (0 : Nat) < 8; decide)
        simpa [Addr.add] using World.cell?_spot this
      subst hspot
      have hadd : ∀ x, (⟨gb, off, none⟩ : Addr).add x = ⟨gb, off + x, none⟩ := fun x => by unfold Addr.add; split <;> simp_all
      have hadd2 : ∀ x y, (⟨gb, off + x, none⟩ : Addr).add y = ⟨gb, off + x + y, none⟩ := fun x y => by unfold Addr.add; split <;> simp_all
      have c0 := hc 0 (by show (0 : Nat) < 8; decide)
      have c1 := hc 1 (by show (1 : Nat) < 8; decide)
      have c2 := hc 2 (by show (2 : Nat) < 8; decide)
      have c3 := hc 3 (by show (3 : Nat) < 8; decide)
      have c4 := hc 4 (by show (4 : Nat) < 8; decide)
      have c5 := hc 5 (by show (5 : Nat) < 8; decide)
      have c6 := hc 6 (by show (6 : Nat) < 8; decide)
      have c7 := hc 7 (by show (7 : Nat) < 8; decide)
      rw [hadd, hadd2] at c0 c1 c2 c3 c4 c5 c6 c7
      exact ⟨gb, off, rfl, c0, c1, c2, c3, c4, c5, c6, c7⟩
    · intro o ho
      obtain ⟨i, hi⟩ := List.getElem?_of_mem ho
      exact (hw2 i o hi).2.1
    · rw [hx]
      simp only
      congr 1
      apply List.ext_getElem?
      intro i
      rcases Nat.lt_or_ge i len with e | e
      · obtain ⟨o, ho⟩ : ∃ o, ws[i]? = some o := ⟨_, List.getElem?_eq_getElem (by omega)⟩
        rw [List.getElem?_map, List.getElem?_map, ho, List.getElem?_range e]
        simp [(hw2 i o ho).2.2]
      · rw [List.getElem?_eq_none (by simp; omega), List.getElem?_eq_none (by simp; omega)]

theorem weights_all {H : Type} {P : Program} {e : TypeId} : ∀ {l : List (DataW H)} {d : DataW H} {n : Nat}, d ∈ l → n ∈ d.weights P e → n ∈ DataW.weightsAll P e l
  | [], _, _, h, _ => by cases h
  | x :: l, d, n, h, hn => by
    simp only [DataW.weightsAll, List.mem_append]
    rcases List.mem_cons.1 h with rfl | h
    · exact .inl hn
    · exact .inr (weights_all h hn)
theorem bytes_window : Tryd.prog.bytesOf 23 = 72 := by kernel_rfl
/-- how great such a list and its texts are -/
theorem sized_wins {H : Type} {ts : List TypeId} {ds : List (DataW H)} (h : (DataW.weightsEach Tryd.prog ts ds).all (· ≤ reachBytes) = true) {j : Nat} {ws : List Win} {spare : List (DataW H)} (ht : ts[j]? = some 34)
    (hd : ds[j]? = some (.slice (ws.map Win.datum) spare)) : ws.length * 72 ≤ 140737488351232 ∧ ∀ o ∈ ws, o.text.size ≤ 140737488351232 := by
  constructor
  · have := sized_slice h ht hd Tryd.underlying34
    rw [bytes_window, List.length_map] at this
    have e : reachBytes = 140737488351232 := rfl
    rw [e, Nat.add_mul] at this
    omega
  · intro o ho
    have := List.all_eq_true.1 h _ (DataW.weights_mem_each ht hd o.text.data.toList.length (by
      simp only [DataW.weights, Tryd.underlying34, List.mem_cons, List.mem_append]
      refine .inr (.inl (weights_all (List.mem_map.2 ⟨o, ho, rfl⟩) ?_))
      simp [Win.datum, DataW.weights, Tryd.underlying23, DataW.weightsEach]))
    have h2 : o.text.data.toList.length ≤ reachBytes := by simpa using this
    rw [Array.length_toList] at h2
    exact h2
end Go.Proofs.YtjhccghhinlmdaaDoor
namespace Go.Proofs.YtjhccghhinlmdaaDoor.refused
open Go.ChangeShapes Go.WideShapes Go.ChangeAt Go.RowKit Go.Deep

theorem own : ownKnob Tryd.prog.godebug = none := by kernel_rfl

set_option maxRecDepth 100000 in
theorem contract (H : Type) (enc : TypeId × Value → H) (W : World) (base : Nat) (args : Array Value) (ds gs : List (DataW H)) (before : List MemPlace)
    (hval : ∀ (j : Nat) t v, Tryd.f5.params[j]? = some t → args[j]? = some v → Value.okWide Tryd.prog W .any base t v)
    (hW : DataW.Whole enc Tryd.prog Tryd.f5.params.toList Rows.refusedSpec.vars false W args.toList ds gs before)
    (hsz : (DataW.weightsEach Tryd.prog (Tryd.f5.params.toList ++ Rows.refusedSpec.plain.varTypes Tryd.prog) (ds ++ gs)).all (· ≤ reachBytes) = true) :
    Calls Tryd.prog 5 args W fun e W' => ∃ v, e = .returned v ∧ Rows.refusedSpec.post enc Tryd.prog Tryd.f5 false true false false W args v W' := by
  have hW' := hW
  obtain ⟨p, q, hA0, hV, rfl, hfz, hnd⟩ := hW
  have hA : DataW.TrodAll enc Tryd.prog W 0 (fun _ => true) true Tryd.f5.params.toList args.toList ds p := hA0
  rw [Tryd.params5] at hA hval hsz
  obtain ⟨v0, vs0, d0, ds0, p0, q0, hargs, rfl, rfl, h0, r0⟩ := trodAll_cons hA
  obtain ⟨v1, vs1, d1, ds1, p1, q1, rfl, rfl, rfl, h1, r1⟩ := trodAll_cons r0
  obtain ⟨v2, vs2, d2, ds2, p2, q2, rfl, rfl, rfl, h2, r2⟩ := trodAll_cons r1
  obtain ⟨v3, vs3, d3, ds3, p3, q3, rfl, rfl, rfl, h3, r3⟩ := trodAll_cons r2
  obtain ⟨v4, vs4, d4, ds4, p4, q4, rfl, rfl, rfl, h4, r4⟩ := trodAll_cons r3
  obtain ⟨v5, vs5, d5, ds5, p5, q5, rfl, rfl, rfl, h5, r5⟩ := trodAll_cons r4
  obtain ⟨v6, vs6, d6, ds6, p6, q6, rfl, rfl, rfl, h6, r6⟩ := trodAll_cons r5
  obtain ⟨rfl, rfl, rfl⟩ := trodAll_nil r6
  obtain rfl : args = #[v0, v1, v2, v3, v4, v5, v6] := by cases args; simp_all
  obtain ⟨rfl, rfl⟩ := trodVars_none hV
  have k2 := h2
  have k3 := h3
  simp only [List.append_nil] at hW'
  have hlt : ∀ x ∈ p0 ++ (p1 ++ (p2 ++ (p3 ++ (p4 ++ (p5 ++ (p6)))))), x.block < W.heap.size := fun x hx => by simpa using hW'.lt x (by simpa using hx)
  obtain ⟨a0, rfl, rfl, rfl, w0⟩ := open_int Tryd.underlying3 (hval 0 3 v0 rfl rfl) h0
  obtain ⟨a1, rfl, rfl, rfl, w1⟩ := open_int Tryd.underlying3 (hval 1 3 v1 rfl rfl) h1
  obtain ⟨o2, rfl, w2, rfl⟩ := win_arg (hval 2 23 v2 rfl rfl) h2
  obtain ⟨a4, rfl, rfl, rfl, w4⟩ := open_int Tryd.underlying3 (hval 4 3 v4 rfl rfl) h4
  obtain ⟨a5, rfl, rfl, rfl, w5⟩ := open_int Tryd.underlying3 (hval 5 3 v5 rfl rfl) h5
  obtain ⟨a6, rfl, rfl, rfl, w6⟩ := open_int Tryd.underlying3 (hval 6 3 v6 rfl rfl) h6
  have s2 := sized_win (o := o2) hsz (j := 2) rfl rfl
  obtain ⟨sa, len, cap, rfl⟩ := okWide_slice Tryd.underlying34 (hval 3 34 v3 rfl rfl)
  obtain ⟨fuel, hf⟩ := h3
  obtain ⟨ws, hws1, hws2, _, _, hws5⟩ := wins_open (by simpa [Value.cells] using hf)
  have sw : ws.length * 72 ≤ 140737488351232 ∧ ∀ o ∈ ws, o.text.size ≤ 140737488351232 := by
    rcases hws5 with ⟨_, rfl⟩ | ⟨spare, hd⟩
    · simp
    · exact sized_wins hsz (j := 3) rfl (by simpa using hd)
  clear hA0 hsz
  have b0 := int_bd w0
  have b1 := int_bd w1
  have b5 := int_bd w5
  have b6 := int_bd w6
  refine (refused_any a0 a1 o2 sa ws len cap a4 a5 a6 W (in_of w2 s2) hws2 hws1 (by rw [← hws1]; exact sw.1) (fun o ho => by have := sw.2 o ho; omega) b0.1 b0.2 b1.1 b1.2 b5.1 b5.2 b6.1 b6.2).mono fun e W' ⟨he, hg⟩ => ?_
  subst he
  have hb := hg.below (B := W.heap.size) (Nat.le_refl _) (by simp)
  exact ⟨_, rfl, _, _, _, [], _, [], hW', trodAll_cons_mk (shut_bool Tryd.underlying4 _) trodAll_mk0,
    trodAll_cons_mk (shut_int Tryd.underlying3 w0) (trodAll_cons_mk (shut_int Tryd.underlying3 w1) (trodAll_cons_mk (Below.trod laidOut' (by kernel_rfl) (of_decide_eq_true (by kernel_rfl)) k2 hb (fun x hx => hlt x (by simp [hx]))) (trodAll_cons_mk (Below.trod laidOut' (by kernel_rfl) (of_decide_eq_true (by kernel_rfl)) k3 hb (fun x hx => hlt x (by simp [hx]))) (trodAll_cons_mk (shut_int Tryd.underlying3 w4) (trodAll_cons_mk (shut_int Tryd.underlying3 w5) (trodAll_cons_mk (shut_int Tryd.underlying3 w6) trodAll_mk0)))))), rfl, hb.frame _, fun h => by cases h⟩

theorem laid_met (os : Os) : laidMet Tryd.prog Rows.refusedRow.laid ((World.doorLaid Tryd.prog 400 os).forCall (fun _ _ => 0) ⟨#[], #[.int .i64 0, .int .i64 0, zeroWin, .slice none 0 0, .int .i64 0, .int .i64 0, .int .i64 0], []⟩).memory :=
  laidMet_of_run' 8 (by kernel_rfl) (by kernel_rfl)
theorem reads (os : Os) {H : Type} (enc : TypeId × Value → H) : ∃ places, DataW.whole enc Tryd.prog ((World.doorLaid Tryd.prog 400 os).forCall (fun _ _ => 0) ⟨#[], #[.int .i64 0, .int .i64 0, zeroWin, .slice none 0 0, .int .i64 0, .int .i64 0, .int .i64 0], []⟩).memory Tryd.f5.params.toList Rows.refusedSpec.vars false #[Value.int .i64 0, .int .i64 0, zeroWin, .slice none 0 0, .int .i64 0, .int .i64 0, .int .i64 0].toList 8 = some ([.lit (.int .i64 0), .lit (.int .i64 0), zeroD, .nil, .lit (.int .i64 0), .lit (.int .i64 0), .lit (.int .i64 0)], [], places) :=
  ⟨[], by kernel_rfl⟩

set_option maxRecDepth 100000 in
theorem lifted (os : Os) (started : os.Started) (H : Type) (enc : TypeId × Value → H) (F : Stop.Interp) :
    ReturnsInHanded {} Tryd.checked os 5 .any ((OpenSpec.ofChange Rows.refusedSpec).preRow enc Tryd.prog Tryd.f5 Rows.refusedRow.domain false Rows.refusedRow.laid) (((OpenSpec.ofChange Rows.refusedSpec).at F).post enc Tryd.prog Tryd.f5 false true false false) := by
  obtain ⟨places, hx⟩ := reads os enc
  refine returnsInHanded_of_row (C := Tryd.checked) (s := OpenSpec.ofChange Rows.refusedSpec) own started (by kernel_rfl) Tryd.func5
    (witness_row_at (enc := enc) (C := Tryd.checked) false (World.doorLaid Tryd.prog 400 os) #[.int .i64 0, .int .i64 0, zeroWin, .slice none 0 0, .int .i64 0, .int .i64 0, .int .i64 0] rfl (by kernel_rfl) (by kernel_rfl) (by kernel_rfl)
      (OpenSpec.preRow_of_cond 8 hx (by kernel_rfl) (fun k hk => by cases hk) (by kernel_rfl) (laid_met os))) ?_
  intro W base args ds gs before hval hW _ _ hsz _ _ _
  exact contract H enc W base args ds gs before hval hW hsz

theorem said : Rows.RefusedSaid :=
  OpenClaim.holds_of_cond 5 Tryd.f5 rfl rfl rfl rfl rfl rfl rfl ⟨rfl, rfl, rfl, rfl, rfl⟩ rfl rfl rfl rfl rfl (by kernel_rfl) Tryd.func5 (by kernel_rfl)
    (of_decide_eq_true (by kernel_rfl)) (by unfold Func.isWrapper; first | (rw [if_pos (by decide +kernel)]; kernel_rfl) | (rw [if_neg (by decide +kernel)]; exact ⟨rfl, rfl⟩))
    (fun os started H enc _ F => by rw [OpenClaim.pre_eq_preRow]; exact lifted os started H enc F)

theorem plain (f : FuncId) (fn : Func) (hf : Tryd.pinned.checked.prog.funcNamed "repaint/repaintkeep.Refused" = some f) (hfn : Tryd.pinned.checked.prog.funcs[f]? = some fn) :
    false = Tryd.pinned.checked.prog.looks [] ∧ ∀ (j : Nat) t, fn.params[j]? = some t → Tryd.pinned.checked.prog.wantsStandIn t = false := by
  obtain rfl : f = 5 := Option.some.inj ((show Tryd.prog.funcNamed "repaint/repaintkeep.Refused" = some 5 by kernel_rfl).symm.trans hf) |>.symm
  obtain rfl : fn = Tryd.f5 := (Option.some.inj (Tryd.func5.symm.trans hfn)).symm
  refine ⟨by kernel_rfl, fun j t ht => ?_⟩
  rw [Tryd.params5] at ht
  exact noStandIn [3, 3, 23, 34, 3, 3, 3] (by kernel_rfl) t (by simpa using Array.mem_of_getElem? ht)

theorem card : Rows.RefusedCardSaid :=
  Claim7.holds_tied_plain_at .later [] _ _ _ _ said (fun _ h => by cases h) (by kernel_rfl) (fun _ h => by cases h) refused_row_tie rfl ⟨rfl, rfl⟩ (by kernel_rfl) rfl plain (by kernel_rfl)
end Go.Proofs.YtjhccghhinlmdaaDoor.refused
namespace Go.Proofs.YtjhccghhinlmdaaDoor
theorem refused_holds : Rows.RefusedCardSaid := refused.card
#print axioms refused_holds
end Go.Proofs.YtjhccghhinlmdaaDoor
