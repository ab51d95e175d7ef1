/- Every row and the cursor of both; and any step of a script on both. -/
import Derived.Test.YtjhccghhinlmdabGreatDoorLawDoes
namespace Go.Proofs.YtjhccghhinlmdabGreatDoor
open Go.RowKit

set_option maxHeartbeats 2000000 in
set_option maxRecDepth 100000 in
theorem whole_live (w : World) (p : Pr) (h : PairAt w p) :
    Calls Tryz.prog 22 #[.agg #[.pointer (some ⟨p.bt, 0, none⟩), .pointer (some ⟨p.b, 0, none⟩)]] w fun e w' => e = .returned (.bool true) ∧ Fr [] w w' := by
  have H := hide h
  have h1 := h.d.ok.h1
  have h2 := h.d.ok.h2
  clear h
  go_enter Tryz.func22, Tryz.ntmps22
  go_wp2
  go_loopw [3] (fun i wr => ∃ k : Nat, i = .int .i64 k ∧ (k : Int) ≤ p.r.H ∧ Fr [] w wr ∧ Blk wr w.heap.size [.pointer (some ⟨p.bt, 0, none⟩), .pointer (some ⟨p.b, 0, none⟩)] 43) (fun i _ => (3000 - intOf i).toNat)
  case atStart => exact ⟨0, rfl, by omega, (Fr.refl _ _).alloc _, Blk.new _ _ _⟩
  case round =>
    obtain ⟨k, rfl, hk, f, hb⟩ := hrel
    have hp := H.out.fr0 f
    have b0 : wr.cell? ⟨w.heap.size, 0, none⟩ = some (.pointer (some ⟨p.bt, 0, none⟩)) := hb.cell 0
    have b1 : wr.cell? ⟨w.heap.size, 1, none⟩ = some (.pointer (some ⟨p.b, 0, none⟩)) := hb.cell 1
    have c1 : wr.cell? ⟨p.b, 1, none⟩ = some (.int .i64 p.r.H) := hp.d.st.cell 1
    have HP := hide hp
    have HB := hide hb
    clear hp hb
    by_cases hend : (k : Int) < p.r.H
    · go_wp2_with (go_at_call 10; refine (does_row 0 k 0 _ none 0 0 _ p HP.out).mono ?_; rintro e w1 ⟨rfl, f1⟩; have F1 : Hid (Fr [] w w1 ∧ Blk w1 w.heap.size [.pointer (some ⟨p.bt, 0, none⟩), .pointer (some ⟨p.b, 0, none⟩)] 43) := ⟨f.then f1, HB.out.fr0 f1⟩; clear f1)
      go_roundw
      case rel => exact ⟨k + 1, by go_num, by omega, F1.out.1, F1.out.2⟩
      case measure => simp [intOf]; omega
    · go_wp2_with (go_at_call 10; refine (does_cursor 5 0 0 0 _ none 0 0 _ p HP.out (by decide) (by decide) (by decide) (by decide)).mono ?_; rintro e w1 ⟨rfl, f1⟩; have F1 := hide (f.then f1); clear f1)
      go_ret
      exact ⟨rfl, F1.out⟩

set_option maxHeartbeats 400000 in
theorem whole_nil (w : World) :
    Calls Tryz.prog 22 #[.agg #[.pointer none, .pointer none]] w fun e w' => e = .returned (.bool true) ∧ Fr [] w w' := by
  go_enter Tryz.func22, Tryz.ntmps22
  go_wp2
  go_ret
  exact ⟨rfl, (Fr.refl _ _).alloc _⟩

set_option maxHeartbeats 1000000 in
set_option maxRecDepth 100000 in
theorem does_all (n a c : Int) (s : ByteArray) (av : Option Addr) (lv cv : Nat) (w : World) (p : Pr) (h : PairAt w p) :
    Calls Tryz.prog 10 #[.agg #[.pointer (some ⟨p.bt, 0, none⟩), .pointer (some ⟨p.b, 0, none⟩)], .agg #[.int .i64 14, .int .i64 n, .int .i64 a, .int .i64 c, .string s, .slice av lv cv]] w
      fun e w' => e = .returned (.bool true) ∧ Fr [] w w' := by
  have H := hide h
  clear h
  go_enter Tryz.func10, Tryz.ntmps10
  go_wp2_with (go_at_call 22; refine (whole_live _ p (H.out.fr0 (((Fr.refl _ _).alloc _).alloc _))).mono ?_; rintro e w1 ⟨rfl, f1⟩; have F1 : Hid (Fr [] w w1) := (((Fr.refl _ _).alloc _).alloc _).then f1; clear f1)
  go_ret
  exact ⟨rfl, F1.out⟩
set_option maxHeartbeats 1000000 in
set_option maxRecDepth 100000 in
theorem does_all_nil (n a c : Int) (s : ByteArray) (av : Option Addr) (lv cv : Nat) (w : World) :
    Calls Tryz.prog 10 #[.agg #[.pointer none, .pointer none], .agg #[.int .i64 14, .int .i64 n, .int .i64 a, .int .i64 c, .string s, .slice av lv cv]] w
      fun e w' => e = .returned (.bool true) ∧ Fr [] w w' := by
  go_enter Tryz.func10, Tryz.ntmps10
  go_wp2_with (go_at_call 22; refine (whole_nil _).mono ?_; rintro e w1 ⟨rfl, f1⟩; have F1 : Hid (Fr [] w w1) := (((Fr.refl _ _).alloc _).alloc _).then f1; clear f1)
  go_ret
  exact ⟨rfl, F1.out⟩

/-! what stands at a place of a script's list: nothing, or two terminals -/
def vx : Option Pr → Value
  | none => .pointer none
  | some p => .pointer (some ⟨p.bt, 0, none⟩)
def vt : Option Pr → Value
  | none => .pointer none
  | some p => .pointer (some ⟨p.b, 0, none⟩)
def ofoot : Option Pr → List Nat
  | none => []
  | some p => p.foot
def beg : Option Pr → Nat
  | none => 0
  | some p => p.r.begun.size
def OAt (w : World) : Option Pr → Prop
  | none => True
  | some p => PairAt w p
theorem OAt.fr {w w' : World} {S : List Nat} : ∀ {o : Option Pr}, OAt w o → Fr S w w' → (∀ x ∈ ofoot o, x ∉ S) → OAt w' o
  | none, _, _, _ => trivial
  | some _, h, f, hn => PairAt.fr h f hn
theorem OAt.lt {w : World} : ∀ {o : Option Pr}, OAt w o → ∀ x ∈ ofoot o, x < w.heap.size
  | none, _, _, hx => by cases hx
  | some _, h, x, hx => PairAt.lt h x hx
def OUpd (o : Option Pr) (n : Nat) (w w' : World) : Prop :=
  ∃ o', vx o' = vx o ∧ vt o' = vt o ∧ OAt w' o' ∧ Fr (ofoot o) w w' ∧ (∀ x ∈ ofoot o', x ∈ ofoot o ∨ w.heap.size ≤ x) ∧ beg o' ≤ beg o + n
theorem OUpd.same {w w' : World} {o : Option Pr} {n : Nat} (h : OAt w o) (f : Fr [] w w') : OUpd o n w w' :=
  ⟨o, rfl, rfl, h.fr f (by simp), f.of_nil, fun _ hx => .inl hx, by omega⟩
theorem OUpd.of {w w' : World} {p : Pr} {r' : R} {n : Nat} (u : QUpd p r' w w') (hb : r'.begun.size ≤ p.r.begun.size + n) : OUpd (some p) n w w' := by
  obtain ⟨p', e1, e2, e3, a, f, s⟩ := u
  exact ⟨some p', by simp [vx, e1], by simp [vt, e2], a, f, s, by show p'.r.begun.size ≤ _; rw [e3]; exact hb⟩

theorem does_any (o : Option Pr) (k n a c : Int) (s : ByteArray) (av : Option Addr) (lv cv : Nat) (w : World) (h : OAt w o) (hs : beg o + s.size ≤ 2305843009213693952) :
    Calls Tryz.prog 10 #[.agg #[vx o, vt o], .agg #[.int .i64 k, .int .i64 n, .int .i64 a, .int .i64 c, .string s, .slice av lv cv]] w
      fun e w' => e = .returned (.bool true) ∧ OUpd o s.size w w' := by
  cases o with
  | none =>
    by_cases k14 : k = 14
    · subst k14
      exact (does_all_nil n a c s av lv cv w).mono fun e w' ⟨he, f⟩ => ⟨he, OUpd.same h f⟩
    · exact (does_nil k n a c s av lv cv w k14).mono fun e w' ⟨he, f⟩ => ⟨he, OUpd.same h f⟩
  | some p =>
    by_cases k14 : k = 14
    · subst k14
      exact (does_all n a c s av lv cv w p h).mono fun e w' ⟨he, f⟩ => ⟨he, OUpd.same h f⟩
    by_cases k2 : k = 2
    · subst k2
      refine (does_feed n a c s av lv cv w p h hs).mono fun e w' ⟨he, u⟩ => ⟨he, OUpd.of u ?_⟩
      have := R.feed_size (nums s) p.r
      rw [nums_length] at this
      exact this
    by_cases k3 : k = 3
    · subst k3
      by_cases hz : sizeB a c = true
      · have hz' : 1 ≤ a ∧ a ≤ 40 ∧ 1 ≤ c ∧ c ≤ 20 := by simp [sizeB] at hz; omega
        exact (does_turn n a c s av lv cv w p h hz'.1 hz'.2.1 hz'.2.2.1 hz'.2.2.2).mono fun e w' ⟨he, u⟩ => ⟨he, OUpd.of u (by simp [R.turn])⟩
      · exact (does_turn_no n a c s av lv cv w p h (by simpa using hz)).mono fun e w' ⟨he, f⟩ => ⟨he, OUpd.same h f⟩
    by_cases k4 : k = 4
    · subst k4
      exact (does_row n a c s av lv cv w p h).mono fun e w' ⟨he, f⟩ => ⟨he, OUpd.same h f⟩
    · exact (does_cursor k n a c s av lv cv w p h k2 k3 k4 k14).mono fun e w' ⟨he, f⟩ => ⟨he, OUpd.same h f⟩
end Go.Proofs.YtjhccghhinlmdabGreatDoor
