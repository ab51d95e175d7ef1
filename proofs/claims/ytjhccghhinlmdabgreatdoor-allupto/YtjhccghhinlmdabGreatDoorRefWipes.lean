/- The document's terminal: cells become blank. -/
import Derived.Test.YtjhccghhinlmdabGreatDoorRefNumbers
namespace Go.Proofs.YtjhccghhinlmdabGreatDoor
open Go.RowKit

def partB (a n i : Int) : Bool := decide ((n = 0 ∧ a ≤ i) ∨ (n = 1 ∧ i ≤ a) ∨ n = 2)
/-- does this cell become blank? -/
def R.wiped (r : R) (c n i : Int) : Bool :=
  decide ((c = 74 ∧ partB (r.W * r.y + r.x) n i = true) ∨ (c = 75 ∧ partB (r.W * r.y + r.x) n i = true ∧ i / r.W = r.y) ∨ (c = 88 ∧ i / r.W = r.y ∧ r.W * r.y + r.x ≤ i ∧ i < r.W * r.y + r.x + oneI n))
/-- the first k cells have been looked at -/
def wip (P : Int → Bool) (l : List (Int × Int)) (k : Nat) : List (Int × Int) := l.mapIdx fun i c => if i < k ∧ P i = true then (32, 7) else c
theorem wip_length (P : Int → Bool) (l : List (Int × Int)) (k : Nat) : (wip P l k).length = l.length := by simp [wip]
theorem wip_zero (P : Int → Bool) (l : List (Int × Int)) : wip P l 0 = l := by
  apply List.ext_getElem (by simp [wip])
  intro i h1 h2
  simp [wip]
theorem wip_yes (P : Int → Bool) (l : List (Int × Int)) (k : Nat) (h : P k = true) : (wip P l k).set k (32, 7) = wip P l (k + 1) := by
  apply List.ext_getElem (by simp [wip])
  intro i h1 h2
  simp only [wip, List.getElem_set, List.getElem_mapIdx]
  by_cases hk : k = i
  · subst hk
    rw [if_pos rfl, if_pos ⟨by omega, h⟩]
  · rw [if_neg hk]
    have : (i < k ∧ P i = true) ↔ (i < k + 1 ∧ P i = true) := by
      constructor
      · intro ⟨a, b⟩; exact ⟨by omega, b⟩
      · intro ⟨a, b⟩; exact ⟨by omega, b⟩
    simp only [this]
theorem wip_no (P : Int → Bool) (l : List (Int × Int)) (k : Nat) (h : ¬ P k = true) : wip P l k = wip P l (k + 1) := by
  apply List.ext_getElem (by simp [wip])
  intro i h1 h2
  simp only [wip, List.getElem_mapIdx]
  have : (i < k ∧ P i = true) ↔ (i < k + 1 ∧ P i = true) := by
    constructor
    · intro ⟨a, b⟩; exact ⟨by omega, b⟩
    · intro ⟨a, b⟩
      refine ⟨?_, b⟩
      rcases Nat.lt_or_ge i k with h2 | h2
      · exact h2
      · have : i = k := by omega
        subst this; exact absurd b h
  simp only [this]

def R.wipes (r : R) (c n : Int) : R := { r with cells := wip (r.wiped c n) r.cells r.cells.length }

theorem R.wipes_ok {r : R} (h : r.Ok) (P : Int → Bool) (k : Nat) : ({ r with cells := wip P r.cells k } : R).Ok := ⟨h.w1, h.w2, h.h1, h.h2, by simp only []; rw [wip_length]; exact h.len, h.x0, h.x1, h.y0, h.y1, h.p0, h.p1⟩

/-- one cell has become blank -/
theorem RefAt.wiped {w : World} {b : Nat} {g : RGh} {r : R} {P : Int → Bool} {k : Nat} (h : RefAt w b g { r with cells := wip P r.cells k }) (hk : k < r.cells.length) (hP : P k = true) (w' : World)
    (f : Fr [] ((w.setCell ⟨g.bc, k * 2, none⟩ (.int .u8 32)).setCell ⟨g.bc, k * 2 + 1, none⟩ (.int .i64 7)) w') : RefAt w' b g { r with cells := wip P r.cells (k + 1) } := by
  have fr : Fr [g.bc] w ((w.setCell ⟨g.bc, k * 2, none⟩ (.int .u8 32)).setCell ⟨g.bc, k * 2 + 1, none⟩ (.int .i64 7)) := ((Fr.refl [g.bc] w).setCell (by simp) _).setCell (by simp) _
  have hl : ∀ m, (wip P r.cells m).length = r.cells.length := fun m => wip_length P r.cells m
  refine RefAt.fr0 ⟨?_, ?_, ?_⟩ f
  · have := h.st.fr fr (by simpa using h.bc)
    simp only [rstOf, hl] at this ⊢
    exact this
  · have := h.row.set k (by simp only []; rw [hl]; exact hk) 32 7
    rw [wip_yes P r.cells k hP] at this
    exact this
  · have o := h.ok
    exact ⟨o.w1, o.w2, o.h1, o.h2, by have := o.len; simp only [hl] at this ⊢; exact this, o.x0, o.x1, o.y0, o.y1, o.p0, o.p1⟩

set_option maxHeartbeats 4000000 in
set_option maxRecDepth 100000 in
theorem wipesJ (n : Int) (w : World) (b : Nat) (g : RGh) (r : R) (h : RefAt w b g r) (hn : 0 ≤ n) (hn2 : n ≤ 999) :
    Calls Tryz.prog 85 #[.pointer (some ⟨b, 0, none⟩), .int .u8 74, .int .i64 n] w fun e w' => e = .returned (.tuple #[]) ∧ RUpd b g (r.wipes 74 n) w w' := by
  obtain ⟨c0, c1, c2, c3, c4, c5, c6, c7, c8⟩ := h.cells
  obtain ⟨i1, i2, i3, i4⟩ := h.idx
  have w1 := h.ok.w1
  have w2 := h.ok.w2
  have x0 := h.ok.x0
  have x1 := h.ok.x1
  have bd := h.bd
  have HT := hide h
  have o1 : 1 ≤ oneI n ∧ oneI n ≤ 999 := by unfold oneI; split <;> omega
  have EW := hide (show r.wipes 74 n = { r with cells := wip (r.wiped 74 n) r.cells r.cells.length } from rfl)
  clear h c1 c5 c6 c7 c8
  go_enter Tryz.func85, Tryz.ntmps85
  go_wp2
  go_quiet (fail)
  go_wp2
  go_loopw [7] (fun i wr => ∃ k : Nat, i = .int .i64 k ∧ k ≤ r.cells.length ∧ Fr [g.bc] w wr ∧ RefAt wr b g { r with cells := wip (r.wiped 74 n) r.cells k }) (fun i _ => (3000 - intOf i).toNat)
  case atStart => exact ⟨0, rfl, by omega, (Fr.refl _ _).drewN nq, by rw [wip_zero]; exact HT.out.fr0 ((Fr.refl _ _).drewN nq)⟩
  case round =>
    obtain ⟨k, rfl, hk, f, hr⟩ := hrel
    obtain ⟨d0, d1, d2, d3, d4, d5, d6, d7, d8⟩ := hr.cells
    rw [wip_length] at d2
    have HR := hide hr
    clear d1 d3 d5 d6 d7 d8 hr
    by_cases hlt : k < r.cells.length
    · have dq1 : 0 ≤ (k : Int) / r.W := Int.ediv_nonneg (by omega) (by omega)
      have dq2 : (k : Int) / r.W ≤ 800 := by have := Int.ediv_le_self r.W (show 0 ≤ (k : Int) by omega); omega
      go_wp2
      go_quiet (fail)
      go_upto_region 5 with (fail)
      go_cut [2, 9] (fun v2 v9 wx => v2 = .int .i64 n ∧ v9 = .bool (partB (r.W * r.y + r.x) n k) ∧ wx = wr.drewN nq)
      case first =>
        by_cases n0 : n = 0
        · by_cases ha : r.W * r.y + r.x ≤ k
          · have PB := hide (show partB (r.W * r.y + r.x) n k = true by simp [partB, n0, ha])
            go_wp2
            go_meet
            case rel => exact ⟨by rw [n0], by rw [PB.out], rfl⟩
          · have PB := hide (show partB (r.W * r.y + r.x) n k = false by simp [partB, n0]; omega)
            go_wp2
            go_meet
            case rel => exact ⟨by rw [n0], by rw [PB.out], rfl⟩
        · have b0 : (n == 0) = false := by rw [beq_eq_false_iff_ne]; exact n0
          by_cases n1 : n = 1
          · by_cases ha : (k : Int) ≤ r.W * r.y + r.x
            · have PB := hide (show partB (r.W * r.y + r.x) n k = true by simp [partB, n1, ha])
              clear n0
              go_wp2
              go_meet
              case rel => exact ⟨by rw [n1], by rw [PB.out], rfl⟩
            · have PB := hide (show partB (r.W * r.y + r.x) n k = false by simp [partB, n1]; omega)
              clear n0
              go_wp2
              go_meet
              case rel => exact ⟨by rw [n1], by rw [PB.out], rfl⟩
          · have b1 : (n == 1) = false := by rw [beq_eq_false_iff_ne]; exact n1
            by_cases n2 : n = 2
            · have PB := hide (show partB (r.W * r.y + r.x) n k = true by simp [partB, n2])
              clear n0 n1
              go_wp2
              go_meet
              case rel => exact ⟨by rw [n2], by rw [PB.out], rfl⟩
            · have b2 : (n == 2) = false := by rw [beq_eq_false_iff_ne]; exact n2
              have PB := hide (show partB (r.W * r.y + r.x) n k = false by simp [partB]; omega)
              clear n0 n1 n2
              go_wp2
              go_meet
              case rel => exact ⟨rfl, by rw [PB.out], rfl⟩
      case rest =>
        obtain ⟨rfl, rfl, hwc⟩ := hcut
        have hr : RefAt wc b g { r with cells := wip (r.wiped 74 n) r.cells k } := by rw [hwc]; exact HR.out.fr0 ((Fr.refl _ _).drewN nq)
        have FW : Hid (Fr [g.bc] w wc) := by rw [hwc]; exact f.drewN nq
        have HR2 := hide hr
        clear hwc d0 d2 d4
        obtain ⟨d0, d1, d2, d3, d4, d5, d6, d7, d8⟩ := hr.cells
        rw [wip_length] at d2
        clear d1 d3 d5 d6 d7 d8
        obtain ⟨z1, z2⟩ := hr.row.cells k (by simp only []; rw [wip_length]; exact hlt)
        simp only [] at z1 z2
        have z3 := hr.row.row.frozen (k * 2)
        have z4 := hr.row.row.frozen (k * 2 + 1)
        have z5 := hr.row.row.lt
        have z6 := hr.st.lt
        clear hr
        obtain ⟨pb, hpb⟩ : ∃ pb, partB (r.W * r.y + r.x) n k = pb := ⟨_, rfl⟩
        rw [hpb]
        have HP := hide hpb
        clear hpb
        cases pb
        · have ww : Hid (¬ r.wiped 74 n k = true) := fun h => by rcases of_decide_eq_true h with ⟨_, h⟩ | ⟨h, _⟩ | ⟨h, _⟩ <;> first | exact absurd (HP.out.symm.trans h) (by simp) | omega
          go_wp2_with (go_at_call 83; refine (one_any _ _).mono ?_; rintro e w' ⟨rfl, rfl⟩)
          go_roundw
          case rel =>
            refine ⟨k + 1, by go_num, by omega, FW.out, ?_⟩
            have := HR2.out
            rw [wip_no _ _ _ ww.out] at this
            exact this
          case measure => simp [intOf]; omega
        · have ww : Hid (r.wiped 74 n k = true) := decide_eq_true (.inl ⟨rfl, HP.out⟩)
          go_wp2_with (go_at_call 83; refine (one_any _ _).mono ?_; rintro e w' ⟨rfl, rfl⟩)
          go_region_with (go_at_call 34; refine (rblank_any _).mono ?_; rintro e w' ⟨rfl, rfl⟩)
          all_goals go_wp2
          all_goals
            go_roundw
            case rel =>
              refine ⟨k + 1, by go_num, by omega, (((FW.out.setCell (p := ⟨g.bc, k * 2, none⟩) (by simp) (.int .u8 32)).setCell (p := ⟨g.bc, k * 2 + 1, none⟩) (by simp) (.int .i64 7)).alloc _).drew, ?_⟩
              exact HR2.out.wiped hlt ww.out _ (((Fr.refl [] _).alloc _).drew)
            case measure => simp [intOf]; omega
    · have e : k = r.cells.length := by omega
      subst e
      go_wp2
      go_end0
      refine ⟨rfl, ?_⟩
      rw [EW.out]
      exact RUpd.of HR.out (f.mono (by simp [rfoot]))

set_option maxHeartbeats 4000000 in
set_option maxRecDepth 100000 in
theorem wipesK (n : Int) (w : World) (b : Nat) (g : RGh) (r : R) (h : RefAt w b g r) (hn : 0 ≤ n) (hn2 : n ≤ 999) :
    Calls Tryz.prog 85 #[.pointer (some ⟨b, 0, none⟩), .int .u8 75, .int .i64 n] w fun e w' => e = .returned (.tuple #[]) ∧ RUpd b g (r.wipes 75 n) w w' := by
  obtain ⟨c0, c1, c2, c3, c4, c5, c6, c7, c8⟩ := h.cells
  obtain ⟨i1, i2, i3, i4⟩ := h.idx
  have w1 := h.ok.w1
  have w2 := h.ok.w2
  have x0 := h.ok.x0
  have x1 := h.ok.x1
  have bd := h.bd
  have HT := hide h
  have o1 : 1 ≤ oneI n ∧ oneI n ≤ 999 := by unfold oneI; split <;> omega
  have EW := hide (show r.wipes 75 n = { r with cells := wip (r.wiped 75 n) r.cells r.cells.length } from rfl)
  clear h c1 c5 c6 c7 c8
  go_enter Tryz.func85, Tryz.ntmps85
  go_wp2
  go_quiet (fail)
  go_wp2
  go_loopw [7] (fun i wr => ∃ k : Nat, i = .int .i64 k ∧ k ≤ r.cells.length ∧ Fr [g.bc] w wr ∧ RefAt wr b g { r with cells := wip (r.wiped 75 n) r.cells k }) (fun i _ => (3000 - intOf i).toNat)
  case atStart => exact ⟨0, rfl, by omega, (Fr.refl _ _).drewN nq, by rw [wip_zero]; exact HT.out.fr0 ((Fr.refl _ _).drewN nq)⟩
  case round =>
    obtain ⟨k, rfl, hk, f, hr⟩ := hrel
    obtain ⟨d0, d1, d2, d3, d4, d5, d6, d7, d8⟩ := hr.cells
    rw [wip_length] at d2
    have HR := hide hr
    clear d1 d3 d5 d6 d7 d8 hr
    by_cases hlt : k < r.cells.length
    · have dq1 : 0 ≤ (k : Int) / r.W := Int.ediv_nonneg (by omega) (by omega)
      have dq2 : (k : Int) / r.W ≤ 800 := by have := Int.ediv_le_self r.W (show 0 ≤ (k : Int) by omega); omega
      go_wp2
      go_quiet (fail)
      go_upto_region 5 with (fail)
      go_cut [2, 9] (fun v2 v9 wx => v2 = .int .i64 n ∧ v9 = .bool (partB (r.W * r.y + r.x) n k) ∧ wx = wr.drewN nq)
      case first =>
        by_cases n0 : n = 0
        · by_cases ha : r.W * r.y + r.x ≤ k
          · have PB := hide (show partB (r.W * r.y + r.x) n k = true by simp [partB, n0, ha])
            go_wp2
            go_meet
            case rel => exact ⟨by rw [n0], by rw [PB.out], rfl⟩
          · have PB := hide (show partB (r.W * r.y + r.x) n k = false by simp [partB, n0]; omega)
            go_wp2
            go_meet
            case rel => exact ⟨by rw [n0], by rw [PB.out], rfl⟩
        · have b0 : (n == 0) = false := by rw [beq_eq_false_iff_ne]; exact n0
          by_cases n1 : n = 1
          · by_cases ha : (k : Int) ≤ r.W * r.y + r.x
            · have PB := hide (show partB (r.W * r.y + r.x) n k = true by simp [partB, n1, ha])
              clear n0
              go_wp2
              go_meet
              case rel => exact ⟨by rw [n1], by rw [PB.out], rfl⟩
            · have PB := hide (show partB (r.W * r.y + r.x) n k = false by simp [partB, n1]; omega)
              clear n0
              go_wp2
              go_meet
              case rel => exact ⟨by rw [n1], by rw [PB.out], rfl⟩
          · have b1 : (n == 1) = false := by rw [beq_eq_false_iff_ne]; exact n1
            by_cases n2 : n = 2
            · have PB := hide (show partB (r.W * r.y + r.x) n k = true by simp [partB, n2])
              clear n0 n1
              go_wp2
              go_meet
              case rel => exact ⟨by rw [n2], by rw [PB.out], rfl⟩
            · have b2 : (n == 2) = false := by rw [beq_eq_false_iff_ne]; exact n2
              have PB := hide (show partB (r.W * r.y + r.x) n k = false by simp [partB]; omega)
              clear n0 n1 n2
              go_wp2
              go_meet
              case rel => exact ⟨rfl, by rw [PB.out], rfl⟩
      case rest =>
        obtain ⟨rfl, rfl, hwc⟩ := hcut
        have hr : RefAt wc b g { r with cells := wip (r.wiped 75 n) r.cells k } := by rw [hwc]; exact HR.out.fr0 ((Fr.refl _ _).drewN nq)
        have FW : Hid (Fr [g.bc] w wc) := by rw [hwc]; exact f.drewN nq
        have HR2 := hide hr
        clear hwc d0 d2 d4
        obtain ⟨d0, d1, d2, d3, d4, d5, d6, d7, d8⟩ := hr.cells
        rw [wip_length] at d2
        clear d1 d3 d5 d6 d7 d8
        obtain ⟨z1, z2⟩ := hr.row.cells k (by simp only []; rw [wip_length]; exact hlt)
        simp only [] at z1 z2
        have z3 := hr.row.row.frozen (k * 2)
        have z4 := hr.row.row.frozen (k * 2 + 1)
        have z5 := hr.row.row.lt
        have z6 := hr.st.lt
        clear hr
        obtain ⟨pb, hpb⟩ : ∃ pb, partB (r.W * r.y + r.x) n k = pb := ⟨_, rfl⟩
        rw [hpb]
        have HP := hide hpb
        clear hpb
        by_cases hm : (k : Int) / r.W = r.y
        · have bm : ((k : Int) / r.W == r.y) = true := by rw [hm]; simp
          have HM := hide hm
          clear hm
          cases pb
          · have ww : Hid (¬ r.wiped 75 n k = true) := fun h => by rcases of_decide_eq_true h with ⟨h, _⟩ | ⟨_, h, _⟩ | ⟨h, _⟩ <;> first | exact absurd (HP.out.symm.trans h) (by simp) | omega
            go_wp2_with (go_at_call 83; refine (one_any _ _).mono ?_; rintro e w' ⟨rfl, rfl⟩)
            go_roundw
            case rel =>
              refine ⟨k + 1, by go_num, by omega, FW.out, ?_⟩
              have := HR2.out
              rw [wip_no _ _ _ ww.out] at this
              exact this
            case measure => simp [intOf]; omega
          · have ww : Hid (r.wiped 75 n k = true) := decide_eq_true (.inr (.inl ⟨rfl, HP.out, HM.out⟩))
            go_wp2_with (go_at_call 83; refine (one_any _ _).mono ?_; rintro e w' ⟨rfl, rfl⟩)
            go_region_with (go_at_call 34; refine (rblank_any _).mono ?_; rintro e w' ⟨rfl, rfl⟩)
            all_goals go_wp2
            all_goals
              go_roundw
              case rel =>
                refine ⟨k + 1, by go_num, by omega, (((FW.out.setCell (p := ⟨g.bc, k * 2, none⟩) (by simp) (.int .u8 32)).setCell (p := ⟨g.bc, k * 2 + 1, none⟩) (by simp) (.int .i64 7)).alloc _).drew, ?_⟩
                exact HR2.out.wiped hlt ww.out _ (((Fr.refl [] _).alloc _).drew)
              case measure => simp [intOf]; omega
        · have bm : ((k : Int) / r.W == r.y) = false := by rw [beq_eq_false_iff_ne]; exact hm
          have HM := hide hm
          clear hm
          cases pb
          · have ww : Hid (¬ r.wiped 75 n k = true) := fun h => by rcases of_decide_eq_true h with ⟨h, _⟩ | ⟨_, _, h⟩ | ⟨h, _⟩ <;> first | exact HM.out h | omega
            go_wp2_with (go_at_call 83; refine (one_any _ _).mono ?_; rintro e w' ⟨rfl, rfl⟩)
            go_roundw
            case rel =>
              refine ⟨k + 1, by go_num, by omega, FW.out, ?_⟩
              have := HR2.out
              rw [wip_no _ _ _ ww.out] at this
              exact this
            case measure => simp [intOf]; omega
          · have ww : Hid (¬ r.wiped 75 n k = true) := fun h => by rcases of_decide_eq_true h with ⟨h, _⟩ | ⟨_, _, h⟩ | ⟨h, _⟩ <;> first | exact HM.out h | omega
            go_wp2_with (go_at_call 83; refine (one_any _ _).mono ?_; rintro e w' ⟨rfl, rfl⟩)
            go_roundw
            case rel =>
              refine ⟨k + 1, by go_num, by omega, FW.out, ?_⟩
              have := HR2.out
              rw [wip_no _ _ _ ww.out] at this
              exact this
            case measure => simp [intOf]; omega
    · have e : k = r.cells.length := by omega
      subst e
      go_wp2
      go_end0
      refine ⟨rfl, ?_⟩
      rw [EW.out]
      exact RUpd.of HR.out (f.mono (by simp [rfoot]))

set_option maxHeartbeats 4000000 in
set_option maxRecDepth 100000 in
theorem wipesX (n : Int) (w : World) (b : Nat) (g : RGh) (r : R) (h : RefAt w b g r) (hn : 0 ≤ n) (hn2 : n ≤ 999) :
    Calls Tryz.prog 85 #[.pointer (some ⟨b, 0, none⟩), .int .u8 88, .int .i64 n] w fun e w' => e = .returned (.tuple #[]) ∧ RUpd b g (r.wipes 88 n) w w' := by
  obtain ⟨c0, c1, c2, c3, c4, c5, c6, c7, c8⟩ := h.cells
  obtain ⟨i1, i2, i3, i4⟩ := h.idx
  have w1 := h.ok.w1
  have w2 := h.ok.w2
  have x0 := h.ok.x0
  have x1 := h.ok.x1
  have bd := h.bd
  have HT := hide h
  have o1 : 1 ≤ oneI n ∧ oneI n ≤ 999 := by unfold oneI; split <;> omega
  have EW := hide (show r.wipes 88 n = { r with cells := wip (r.wiped 88 n) r.cells r.cells.length } from rfl)
  clear h c1 c5 c6 c7 c8
  go_enter Tryz.func85, Tryz.ntmps85
  go_wp2
  go_quiet (fail)
  go_wp2
  go_loopw [7] (fun i wr => ∃ k : Nat, i = .int .i64 k ∧ k ≤ r.cells.length ∧ Fr [g.bc] w wr ∧ RefAt wr b g { r with cells := wip (r.wiped 88 n) r.cells k }) (fun i _ => (3000 - intOf i).toNat)
  case atStart => exact ⟨0, rfl, by omega, (Fr.refl _ _).drewN nq, by rw [wip_zero]; exact HT.out.fr0 ((Fr.refl _ _).drewN nq)⟩
  case round =>
    obtain ⟨k, rfl, hk, f, hr⟩ := hrel
    obtain ⟨d0, d1, d2, d3, d4, d5, d6, d7, d8⟩ := hr.cells
    rw [wip_length] at d2
    have HR := hide hr
    clear d1 d3 d5 d6 d7 d8 hr
    by_cases hlt : k < r.cells.length
    · have dq1 : 0 ≤ (k : Int) / r.W := Int.ediv_nonneg (by omega) (by omega)
      have dq2 : (k : Int) / r.W ≤ 800 := by have := Int.ediv_le_self r.W (show 0 ≤ (k : Int) by omega); omega
      go_wp2
      go_quiet (fail)
      go_upto_region 5 with (fail)
      go_cut [2, 9] (fun v2 v9 wx => v2 = .int .i64 n ∧ v9 = .bool (partB (r.W * r.y + r.x) n k) ∧ wx = wr.drewN nq)
      case first =>
        by_cases n0 : n = 0
        · by_cases ha : r.W * r.y + r.x ≤ k
          · have PB := hide (show partB (r.W * r.y + r.x) n k = true by simp [partB, n0, ha])
            go_wp2
            go_meet
            case rel => exact ⟨by rw [n0], by rw [PB.out], rfl⟩
          · have PB := hide (show partB (r.W * r.y + r.x) n k = false by simp [partB, n0]; omega)
            go_wp2
            go_meet
            case rel => exact ⟨by rw [n0], by rw [PB.out], rfl⟩
        · have b0 : (n == 0) = false := by rw [beq_eq_false_iff_ne]; exact n0
          by_cases n1 : n = 1
          · by_cases ha : (k : Int) ≤ r.W * r.y + r.x
            · have PB := hide (show partB (r.W * r.y + r.x) n k = true by simp [partB, n1, ha])
              clear n0
              go_wp2
              go_meet
              case rel => exact ⟨by rw [n1], by rw [PB.out], rfl⟩
            · have PB := hide (show partB (r.W * r.y + r.x) n k = false by simp [partB, n1]; omega)
              clear n0
              go_wp2
              go_meet
              case rel => exact ⟨by rw [n1], by rw [PB.out], rfl⟩
          · have b1 : (n == 1) = false := by rw [beq_eq_false_iff_ne]; exact n1
            by_cases n2 : n = 2
            · have PB := hide (show partB (r.W * r.y + r.x) n k = true by simp [partB, n2])
              clear n0 n1
              go_wp2
              go_meet
              case rel => exact ⟨by rw [n2], by rw [PB.out], rfl⟩
            · have b2 : (n == 2) = false := by rw [beq_eq_false_iff_ne]; exact n2
              have PB := hide (show partB (r.W * r.y + r.x) n k = false by simp [partB]; omega)
              clear n0 n1 n2
              go_wp2
              go_meet
              case rel => exact ⟨rfl, by rw [PB.out], rfl⟩
      case rest =>
        obtain ⟨rfl, rfl, hwc⟩ := hcut
        have hr : RefAt wc b g { r with cells := wip (r.wiped 88 n) r.cells k } := by rw [hwc]; exact HR.out.fr0 ((Fr.refl _ _).drewN nq)
        have FW : Hid (Fr [g.bc] w wc) := by rw [hwc]; exact f.drewN nq
        have HR2 := hide hr
        clear hwc d0 d2 d4
        obtain ⟨d0, d1, d2, d3, d4, d5, d6, d7, d8⟩ := hr.cells
        rw [wip_length] at d2
        clear d1 d3 d5 d6 d7 d8
        obtain ⟨z1, z2⟩ := hr.row.cells k (by simp only []; rw [wip_length]; exact hlt)
        simp only [] at z1 z2
        have z3 := hr.row.row.frozen (k * 2)
        have z4 := hr.row.row.frozen (k * 2 + 1)
        have z5 := hr.row.row.lt
        have z6 := hr.st.lt
        clear hr
        obtain ⟨pb, hpb⟩ : ∃ pb, partB (r.W * r.y + r.x) n k = pb := ⟨_, rfl⟩
        rw [hpb]
        have HP := hide hpb
        clear hpb
        by_cases hm : (k : Int) / r.W = r.y
        · have bm : ((k : Int) / r.W == r.y) = true := by rw [hm]; simp
          have HM := hide hm
          clear hm
          by_cases ha : r.W * r.y + r.x ≤ k
          · by_cases hc : (k : Int) < r.W * r.y + r.x + oneI n
            · have ww : Hid (r.wiped 88 n k = true) := decide_eq_true (.inr (.inr ⟨rfl, HM.out, ha, hc⟩))
              go_wp2_with (go_at_call 83; refine (one_any _ _).mono ?_; rintro e w' ⟨rfl, rfl⟩)
              go_region_with (go_at_call 34; refine (rblank_any _).mono ?_; rintro e w' ⟨rfl, rfl⟩)
              all_goals go_wp2
              all_goals
                go_roundw
                case rel =>
                  refine ⟨k + 1, by go_num, by omega, (((FW.out.setCell (p := ⟨g.bc, k * 2, none⟩) (by simp) (.int .u8 32)).setCell (p := ⟨g.bc, k * 2 + 1, none⟩) (by simp) (.int .i64 7)).alloc _).drew, ?_⟩
                  exact HR2.out.wiped hlt ww.out _ (((Fr.refl [] _).alloc _).drew)
                case measure => simp [intOf]; omega
            · have ww : Hid (¬ r.wiped 88 n k = true) := fun h => by rcases of_decide_eq_true h with ⟨h, _⟩ | ⟨h, _⟩ | ⟨_, _, _, h⟩ <;> omega
              go_wp2_with (go_at_call 83; refine (one_any _ _).mono ?_; rintro e w' ⟨rfl, rfl⟩)
              go_roundw
              case rel =>
                refine ⟨k + 1, by go_num, by omega, FW.out, ?_⟩
                have := HR2.out
                rw [wip_no _ _ _ ww.out] at this
                exact this
              case measure => simp [intOf]; omega
          · have ww : Hid (¬ r.wiped 88 n k = true) := fun h => by rcases of_decide_eq_true h with ⟨h, _⟩ | ⟨h, _⟩ | ⟨_, _, h, _⟩ <;> omega
            go_wp2_with (go_at_call 83; refine (one_any _ _).mono ?_; rintro e w' ⟨rfl, rfl⟩)
            go_roundw
            case rel =>
              refine ⟨k + 1, by go_num, by omega, FW.out, ?_⟩
              have := HR2.out
              rw [wip_no _ _ _ ww.out] at this
              exact this
            case measure => simp [intOf]; omega
        · have bm : ((k : Int) / r.W == r.y) = false := by rw [beq_eq_false_iff_ne]; exact hm
          have HM := hide hm
          clear hm
          have ww : Hid (¬ r.wiped 88 n k = true) := fun h => by rcases of_decide_eq_true h with ⟨h, _⟩ | ⟨h, _⟩ | ⟨_, h, _⟩ <;> first | exact HM.out h | omega
          go_wp2_with (go_at_call 83; refine (one_any _ _).mono ?_; rintro e w' ⟨rfl, rfl⟩)
          go_roundw
          case rel =>
            refine ⟨k + 1, by go_num, by omega, FW.out, ?_⟩
            have := HR2.out
            rw [wip_no _ _ _ ww.out] at this
            exact this
          case measure => simp [intOf]; omega
    · have e : k = r.cells.length := by omega
      subst e
      go_wp2
      go_end0
      refine ⟨rfl, ?_⟩
      rw [EW.out]
      exact RUpd.of HR.out (f.mono (by simp [rfoot]))

set_option maxHeartbeats 4000000 in
set_option maxRecDepth 100000 in
theorem wipesO (c : Int) (n : Int) (w : World) (b : Nat) (g : RGh) (r : R) (h : RefAt w b g r) (hn : 0 ≤ n) (hn2 : n ≤ 999) (e1 : c ≠ 74) (e2 : c ≠ 75) (e3 : c ≠ 88) :
    Calls Tryz.prog 85 #[.pointer (some ⟨b, 0, none⟩), .int .u8 c, .int .i64 n] w fun e w' => e = .returned (.tuple #[]) ∧ RUpd b g (r.wipes c n) w w' := by
  obtain ⟨c0, c1, c2, c3, c4, c5, c6, c7, c8⟩ := h.cells
  obtain ⟨i1, i2, i3, i4⟩ := h.idx
  have w1 := h.ok.w1
  have w2 := h.ok.w2
  have x0 := h.ok.x0
  have x1 := h.ok.x1
  have bd := h.bd
  have HT := hide h
  have o1 : 1 ≤ oneI n ∧ oneI n ≤ 999 := by unfold oneI; split <;> omega
  have q1 : (c == 74) = false := by rw [beq_eq_false_iff_ne]; exact e1
  have q2 : (c == 75) = false := by rw [beq_eq_false_iff_ne]; exact e2
  have q3 : (c == 88) = false := by rw [beq_eq_false_iff_ne]; exact e3
  have EW := hide (show r.wipes c n = { r with cells := wip (r.wiped c n) r.cells r.cells.length } from rfl)
  clear h c1 c5 c6 c7 c8
  go_enter Tryz.func85, Tryz.ntmps85
  go_wp2
  go_quiet (fail)
  go_wp2
  go_loopw [7] (fun i wr => ∃ k : Nat, i = .int .i64 k ∧ k ≤ r.cells.length ∧ Fr [g.bc] w wr ∧ RefAt wr b g { r with cells := wip (r.wiped c n) r.cells k }) (fun i _ => (3000 - intOf i).toNat)
  case atStart => exact ⟨0, rfl, by omega, (Fr.refl _ _).drewN nq, by rw [wip_zero]; exact HT.out.fr0 ((Fr.refl _ _).drewN nq)⟩
  case round =>
    obtain ⟨k, rfl, hk, f, hr⟩ := hrel
    obtain ⟨d0, d1, d2, d3, d4, d5, d6, d7, d8⟩ := hr.cells
    rw [wip_length] at d2
    have HR := hide hr
    clear d1 d3 d5 d6 d7 d8 hr
    by_cases hlt : k < r.cells.length
    · have dq1 : 0 ≤ (k : Int) / r.W := Int.ediv_nonneg (by omega) (by omega)
      have dq2 : (k : Int) / r.W ≤ 800 := by have := Int.ediv_le_self r.W (show 0 ≤ (k : Int) by omega); omega
      go_wp2
      go_quiet (fail)
      go_upto_region 5 with (fail)
      go_cut [2, 9] (fun v2 v9 wx => v2 = .int .i64 n ∧ v9 = .bool (partB (r.W * r.y + r.x) n k) ∧ wx = wr.drewN nq)
      case first =>
        by_cases n0 : n = 0
        · by_cases ha : r.W * r.y + r.x ≤ k
          · have PB := hide (show partB (r.W * r.y + r.x) n k = true by simp [partB, n0, ha])
            go_wp2
            go_meet
            case rel => exact ⟨by rw [n0], by rw [PB.out], rfl⟩
          · have PB := hide (show partB (r.W * r.y + r.x) n k = false by simp [partB, n0]; omega)
            go_wp2
            go_meet
            case rel => exact ⟨by rw [n0], by rw [PB.out], rfl⟩
        · have b0 : (n == 0) = false := by rw [beq_eq_false_iff_ne]; exact n0
          by_cases n1 : n = 1
          · by_cases ha : (k : Int) ≤ r.W * r.y + r.x
            · have PB := hide (show partB (r.W * r.y + r.x) n k = true by simp [partB, n1, ha])
              clear n0
              go_wp2
              go_meet
              case rel => exact ⟨by rw [n1], by rw [PB.out], rfl⟩
            · have PB := hide (show partB (r.W * r.y + r.x) n k = false by simp [partB, n1]; omega)
              clear n0
              go_wp2
              go_meet
              case rel => exact ⟨by rw [n1], by rw [PB.out], rfl⟩
          · have b1 : (n == 1) = false := by rw [beq_eq_false_iff_ne]; exact n1
            by_cases n2 : n = 2
            · have PB := hide (show partB (r.W * r.y + r.x) n k = true by simp [partB, n2])
              clear n0 n1
              go_wp2
              go_meet
              case rel => exact ⟨by rw [n2], by rw [PB.out], rfl⟩
            · have b2 : (n == 2) = false := by rw [beq_eq_false_iff_ne]; exact n2
              have PB := hide (show partB (r.W * r.y + r.x) n k = false by simp [partB]; omega)
              clear n0 n1 n2
              go_wp2
              go_meet
              case rel => exact ⟨rfl, by rw [PB.out], rfl⟩
      case rest =>
        obtain ⟨rfl, rfl, hwc⟩ := hcut
        have hr : RefAt wc b g { r with cells := wip (r.wiped c n) r.cells k } := by rw [hwc]; exact HR.out.fr0 ((Fr.refl _ _).drewN nq)
        have FW : Hid (Fr [g.bc] w wc) := by rw [hwc]; exact f.drewN nq
        have HR2 := hide hr
        clear hwc d0 d2 d4
        obtain ⟨d0, d1, d2, d3, d4, d5, d6, d7, d8⟩ := hr.cells
        rw [wip_length] at d2
        clear d1 d3 d5 d6 d7 d8
        obtain ⟨z1, z2⟩ := hr.row.cells k (by simp only []; rw [wip_length]; exact hlt)
        simp only [] at z1 z2
        have z3 := hr.row.row.frozen (k * 2)
        have z4 := hr.row.row.frozen (k * 2 + 1)
        have z5 := hr.row.row.lt
        have z6 := hr.st.lt
        clear hr
        obtain ⟨pb, hpb⟩ : ∃ pb, partB (r.W * r.y + r.x) n k = pb := ⟨_, rfl⟩
        rw [hpb]
        have HP := hide hpb
        clear hpb
        have ww : Hid (¬ r.wiped c n k = true) := fun h => by rcases of_decide_eq_true h with ⟨h, _⟩ | ⟨h, _⟩ | ⟨h, _⟩ <;> omega
        go_wp2_with (go_at_call 83; refine (one_any _ _).mono ?_; rintro e w' ⟨rfl, rfl⟩)
        go_roundw
        case rel =>
          refine ⟨k + 1, by go_num, by omega, FW.out, ?_⟩
          have := HR2.out
          rw [wip_no _ _ _ ww.out] at this
          exact this
        case measure => simp [intOf]; omega
    · have e : k = r.cells.length := by omega
      subst e
      go_wp2
      go_end0
      refine ⟨rfl, ?_⟩
      rw [EW.out]
      exact RUpd.of HR.out (f.mono (by simp [rfoot]))

theorem wipes_any (c n : Int) (w : World) (b : Nat) (g : RGh) (r : R) (h : RefAt w b g r) (hn : 0 ≤ n) (hn2 : n ≤ 999) :
    Calls Tryz.prog 85 #[.pointer (some ⟨b, 0, none⟩), .int .u8 c, .int .i64 n] w fun e w' => e = .returned (.tuple #[]) ∧ RUpd b g (r.wipes c n) w w' := by
  by_cases e1 : c = 74
  · subst e1; exact wipesJ n w b g r h hn hn2
  by_cases e2 : c = 75
  · subst e2; exact wipesK n w b g r h hn hn2
  by_cases e3 : c = 88
  · subst e3; exact wipesX n w b g r h hn hn2
  exact wipesO c n w b g r h hn hn2 e1 e2 e3
end Go.Proofs.YtjhccghhinlmdabGreatDoor
