/- A step of a script on a terminal of the program and on the document's: the answers are the same. -/
import Derived.Test.YtjhccghhinlmdabGreatDoorLawPair
namespace Go.Proofs.YtjhccghhinlmdabGreatDoor
open Go.RowKit

def boxB (w : World) (x t : Value) (k n a c : Int) (s : ByteArray) (v : Value) : World :=
  (w.alloc (.cells #[x, t] 43)).alloc (.cells #[.int .i64 k, .int .i64 n, .int .i64 a, .int .i64 c, .string s, v] 32)

theorem boxB_keep {w w1 : World} {S : List Nat} {x t : Value} {k n a c : Int} {s : ByteArray} {v : Value} (f : Fr S (boxB w x t k n a c s v) w1) (hS : ∀ y ∈ S, y < w.heap.size) :
    Blk w1 w.heap.size [x, t] 43 ∧ Blk w1 (w.heap.size + 1) [.int .i64 k, .int .i64 n, .int .i64 a, .int .i64 c, .string s, v] 32 := by
  have h1 : Blk (boxB w x t k n a c s v) w.heap.size [x, t] 43 := Blk.alloc (Blk.new _ _ _) _
  have h2 : Blk (boxB w x t k n a c s v) (w.heap.size + 1) [.int .i64 k, .int .i64 n, .int .i64 a, .int .i64 c, .string s, v] 32 := new_blk _ _ _ (by simp)
  exact ⟨h1.fr f (fun h => by have := hS _ h; omega), h2.fr f (fun h => by have := hS _ h; omega)⟩
theorem boxB_fr (w : World) (x t : Value) (k n a c : Int) (s : ByteArray) (v : Value) : Fr [] w (boxB w x t k n a c s v) := ((Fr.refl _ _).alloc _).alloc _

set_option maxHeartbeats 4000000 in
set_option maxRecDepth 100000 in
theorem does_feed (n a c : Int) (s : ByteArray) (av : Option Addr) (lv cv : Nat) (w : World) (p : Pr) (h : PairAt w p) (hs : p.r.begun.size + s.size ≤ 2305843009213693952) :
    Calls Tryz.prog 10 #[.agg #[.pointer (some ⟨p.bt, 0, none⟩), .pointer (some ⟨p.b, 0, none⟩)], .agg #[.int .i64 2, .int .i64 n, .int .i64 a, .int .i64 c, .string s, .slice av lv cv]] w
      fun e w' => e = .returned (.bool true) ∧ QUpd p (p.r.feed (nums s)) w w' := by
  have HS := hide hs
  have E := hide (toT_feed (nums s) h.d.ok (nums_bd s))
  have ST := hide (sty_feed (nums s) h.d.ok h.sty)
  have FB := boxB_fr w (.pointer (some ⟨p.bt, 0, none⟩)) (.pointer (some ⟨p.b, 0, none⟩)) 2 n a c s (.slice av lv cv)
  have HB := hide (h.fr0 FB)
  have FBH := hide FB
  have LT : Hid (∀ y ∈ foot p.bt p.gt, y < w.heap.size) := h.t.lt
  clear h FB
  go_enter Tryz.func10, Tryz.ntmps10
  go_wp2_with fail
  refine (feed_any s _ p.bt p.gt _ HB.out.t (by have := HS.out; omega)).mono ?_
  rintro e w1 ⟨rfl, u1⟩
  have K := boxB_keep (u1.choose_spec.2.1) LT.out
  have k1 : w1.cell? ⟨w.heap.size, 1, none⟩ = some (.pointer (some ⟨p.b, 0, none⟩)) := K.1.cell 1
  have k2 : w1.cell? ⟨w.heap.size + 1, 4, none⟩ = some (.string s) := K.2.cell 4
  have R1 := hide (HB.out.mid u1)
  have U1 := hide u1
  clear K u1
  go_wp2_with fail
  refine (rfeed_any s _ p.b p.g _ R1.out HS.out).mono ?_
  rintro e w2 ⟨rfl, u2⟩
  have U2 : Hid (QUpd p (p.r.feed (nums s)) w w2) := QUpd.ahead FBH.out (QUpd.of HB.out (by rw [E.out]; exact U1.out) u2 ST.out)
  clear u2
  go_wp2
  go_ret
  exact ⟨rfl, U2.out⟩

set_option maxHeartbeats 4000000 in
set_option maxRecDepth 100000 in
theorem does_turn (n a c : Int) (s : ByteArray) (av : Option Addr) (lv cv : Nat) (w : World) (p : Pr) (h : PairAt w p) (h1 : 1 ≤ a) (h2 : a ≤ 40) (h3 : 1 ≤ c) (h4 : c ≤ 20) :
    Calls Tryz.prog 10 #[.agg #[.pointer (some ⟨p.bt, 0, none⟩), .pointer (some ⟨p.b, 0, none⟩)], .agg #[.int .i64 3, .int .i64 n, .int .i64 a, .int .i64 c, .string s, .slice av lv cv]] w
      fun e w' => e = .returned (.bool true) ∧ QUpd p (p.r.turn a c) w w' := by
  have FB := boxB_fr w (.pointer (some ⟨p.bt, 0, none⟩)) (.pointer (some ⟨p.b, 0, none⟩)) 3 n a c s (.slice av lv cv)
  have HB := hide (h.fr0 FB)
  have FBH := hide FB
  have LT : Hid (∀ y ∈ foot p.bt p.gt, y < w.heap.size) := h.t.lt
  have O := hide h.d.ok
  have ST := hide h.sty
  clear h FB
  have E := hide (toT_turn (r := p.r) O.out h1 h3)
  go_enter Tryz.func10, Tryz.ntmps10
  go_wp2_with fail
  refine (resize_yes a c _ p.bt p.gt _ HB.out.t h1 h2 h3 h4).mono ?_
  rintro e w1 ⟨rfl, u1⟩
  have K := boxB_keep (u1.choose_spec.2.1) LT.out
  have k1 : w1.cell? ⟨w.heap.size, 1, none⟩ = some (.pointer (some ⟨p.b, 0, none⟩)) := K.1.cell 1
  have k2 : w1.cell? ⟨w.heap.size + 1, 2, none⟩ = some (.int .i64 a) := K.2.cell 2
  have k3 : w1.cell? ⟨w.heap.size + 1, 3, none⟩ = some (.int .i64 c) := K.2.cell 3
  have R1 := hide (HB.out.mid u1)
  have U1 := hide u1
  clear K u1
  go_wp2_with fail
  refine (rturn_yes a c _ p.b p.g _ R1.out h1 h2 h3 h4).mono ?_
  rintro e w2 ⟨rfl, u2⟩
  have U2 : Hid (QUpd p (p.r.turn a c) w w2) := QUpd.ahead FBH.out (QUpd.of HB.out (by rw [E.out]; exact U1.out) u2 (ST.out.tn _ _ _ _ _ _))
  clear u2
  go_wp2
  go_ret
  exact ⟨rfl, U2.out⟩

set_option maxHeartbeats 4000000 in
set_option maxRecDepth 100000 in
theorem does_turn_no (n a c : Int) (s : ByteArray) (av : Option Addr) (lv cv : Nat) (w : World) (p : Pr) (h : PairAt w p) (hz : sizeB a c = false) :
    Calls Tryz.prog 10 #[.agg #[.pointer (some ⟨p.bt, 0, none⟩), .pointer (some ⟨p.b, 0, none⟩)], .agg #[.int .i64 3, .int .i64 n, .int .i64 a, .int .i64 c, .string s, .slice av lv cv]] w
      fun e w' => e = .returned (.bool true) ∧ Fr [] w w' := by
  have FB := boxB_fr w (.pointer (some ⟨p.bt, 0, none⟩)) (.pointer (some ⟨p.b, 0, none⟩)) 3 n a c s (.slice av lv cv)
  have HB := hide (h.fr0 FB)
  have FBH := hide FB
  clear h FB
  have HZ := hide hz
  clear hz
  go_enter Tryz.func10, Tryz.ntmps10
  go_wp2_with fail
  refine (resize_no a c _ p.bt p.gt _ HB.out.t HZ.out).mono ?_
  rintro e w1 ⟨rfl, hw⟩
  have f1 : Fr [] (boxB w (.pointer (some ⟨p.bt, 0, none⟩)) (.pointer (some ⟨p.b, 0, none⟩)) 3 n a c s (.slice av lv cv)) w1 := hw ▸ Fr.refl _ _
  have K := boxB_keep f1 (by simp)
  have k1 : w1.cell? ⟨w.heap.size, 1, none⟩ = some (.pointer (some ⟨p.b, 0, none⟩)) := K.1.cell 1
  have k2 : w1.cell? ⟨w.heap.size + 1, 2, none⟩ = some (.int .i64 a) := K.2.cell 2
  have k3 : w1.cell? ⟨w.heap.size + 1, 3, none⟩ = some (.int .i64 c) := K.2.cell 3
  have F1 := hide (FBH.out.then f1)
  clear K f1 hw
  go_wp2_with fail
  refine (rturn_no a c _ p.b HZ.out).mono ?_
  rintro e w2 ⟨rfl, rfl⟩
  go_wp2
  go_ret
  exact ⟨rfl, F1.out⟩

set_option maxHeartbeats 4000000 in
set_option maxRecDepth 100000 in
theorem does_row (n a c : Int) (s : ByteArray) (av : Option Addr) (lv cv : Nat) (w : World) (p : Pr) (h : PairAt w p)  :
    Calls Tryz.prog 10 #[.agg #[.pointer (some ⟨p.bt, 0, none⟩), .pointer (some ⟨p.b, 0, none⟩)], .agg #[.int .i64 4, .int .i64 n, .int .i64 a, .int .i64 c, .string s, .slice av lv cv]] w
      fun e w' => e = .returned (.bool true) ∧ Fr [] w w' := by
  have FB := boxB_fr w (.pointer (some ⟨p.bt, 0, none⟩)) (.pointer (some ⟨p.b, 0, none⟩)) 4 n a c s (.slice av lv cv)
  have HB := hide (h.fr0 FB)
  have FBH := hide FB
  have ST := hide h.sty
  clear h FB
  by_cases hy : 0 ≤ a ∧ a < p.r.H
  · have HY := hide hy
    clear hy
    go_enter Tryz.func10, Tryz.ntmps10
    go_wp2_with fail
    refine (row_yes a _ p.bt p.gt _ HB.out.t HY.out.1 HY.out.2).mono ?_
    rintro e w1 ⟨rfl, f1⟩
    have K := boxB_keep f1 (by simp)
    have k1 : w1.cell? ⟨w.heap.size, 1, none⟩ = some (.pointer (some ⟨p.b, 0, none⟩)) := K.1.cell 1
    have k2 : w1.cell? ⟨w.heap.size + 1, 2, none⟩ = some (.int .i64 a) := K.2.cell 2
    have R1 := hide (HB.out.d.fr0 f1)
    have F1 := hide (FBH.out.then f1)
    clear K f1
    go_wp2_with fail
    refine (refRow_yes a _ p.b p.g _ R1.out HY.out.1 HY.out.2 ST.out).mono ?_
    rintro e w2 ⟨rfl, f2⟩
    have F2 := hide (F1.out.then f2)
    clear f2
    have e1 : p.r.toT.W = p.r.W := rfl
    have e2 : p.r.toT.cells = p.r.cells := rfl
    go_wp2
    go_ret
    exact ⟨rfl, F2.out⟩
  · have HY : Hid (a < 0 ∨ p.r.H ≤ a) := by show _ ∨ _; omega
    clear hy
    go_enter Tryz.func10, Tryz.ntmps10
    go_wp2_with fail
    refine (row_no a _ p.bt p.gt _ HB.out.t HY.out).mono ?_
    rintro e w1 ⟨rfl, hw⟩
    have f1 : Fr [] (boxB w (.pointer (some ⟨p.bt, 0, none⟩)) (.pointer (some ⟨p.b, 0, none⟩)) 4 n a c s (.slice av lv cv)) w1 := hw ▸ Fr.refl _ _
    have K := boxB_keep f1 (by simp)
    have k1 : w1.cell? ⟨w.heap.size, 1, none⟩ = some (.pointer (some ⟨p.b, 0, none⟩)) := K.1.cell 1
    have k2 : w1.cell? ⟨w.heap.size + 1, 2, none⟩ = some (.int .i64 a) := K.2.cell 2
    have R1 := hide (HB.out.d.fr0 f1)
    have F1 := hide (FBH.out.then f1)
    clear K f1 hw
    go_wp2_with fail
    refine (refRow_no a _ p.b p.g _ R1.out HY.out).mono ?_
    rintro e w2 ⟨rfl, rfl⟩
    go_wp2
    go_ret
    exact ⟨rfl, F1.out⟩

set_option maxHeartbeats 4000000 in
set_option maxRecDepth 100000 in
theorem does_cursor (k n a c : Int) (s : ByteArray) (av : Option Addr) (lv cv : Nat) (w : World) (p : Pr) (h : PairAt w p) (k2 : k ≠ 2) (k3 : k ≠ 3) (k4 : k ≠ 4) (k14 : k ≠ 14) :
    Calls Tryz.prog 10 #[.agg #[.pointer (some ⟨p.bt, 0, none⟩), .pointer (some ⟨p.b, 0, none⟩)], .agg #[.int .i64 k, .int .i64 n, .int .i64 a, .int .i64 c, .string s, .slice av lv cv]] w
      fun e w' => e = .returned (.bool true) ∧ Fr [] w w' := by
  have FB := boxB_fr w (.pointer (some ⟨p.bt, 0, none⟩)) (.pointer (some ⟨p.b, 0, none⟩)) k n a c s (.slice av lv cv)
  have HB := hide (h.fr0 FB)
  have FBH := hide FB
  have b2 : (k == 2) = false := by simpa using k2
  have b3 : (k == 3) = false := by simpa using k3
  have b4 : (k == 4) = false := by simpa using k4
  have b14 : (k == 14) = false := by simpa using k14
  clear h FB k2 k3 k4 k14
  go_enter Tryz.func10, Tryz.ntmps10
  go_wp2_with fail
  refine (cursor_any _ p.bt p.gt _ HB.out.t).mono ?_
  rintro e w1 ⟨rfl, f1⟩
  have K := boxB_keep f1 (by simp)
  have k1 : w1.cell? ⟨w.heap.size, 1, none⟩ = some (.pointer (some ⟨p.b, 0, none⟩)) := K.1.cell 1
  have hl1 := K.1.lt
  have R1 := hide (HB.out.d.fr0 f1)
  have F1 := hide (FBH.out.then f1)
  clear K f1
  have ex : p.r.toT.x = p.r.x := rfl
  have ey : p.r.toT.y = p.r.y := rfl
  have es : p.r.toT.shown = !p.r.hidden := rfl
  go_wp2_with fail
  refine (refCursor_any _ p.b p.g _ (R1.out.fr0 ((Fr.refl _ _).alloc _))).mono ?_
  rintro e w2 ⟨rfl, f2⟩
  have B2 : Blk w2 w1.heap.size [.int .i64 p.r.x, .int .i64 p.r.y, .bool (!p.r.hidden)] 66 := (Blk.new _ _ _).fr0 f2
  have z0 : w2.cell? ⟨w1.heap.size, 0, none⟩ = some (.int .i64 p.r.x) := B2.cell 0
  have z1 : w2.cell? ⟨w1.heap.size, 1, none⟩ = some (.int .i64 p.r.y) := B2.cell 1
  have z2 : w2.cell? ⟨w1.heap.size, 2, none⟩ = some (.bool (!p.r.hidden)) := B2.cell 2
  have hl2 := B2.lt
  have F2 := hide (((F1.out.alloc _).then f2).alloc (.cells #[.int .i64 p.r.x, .int .i64 p.r.y, .bool (!p.r.hidden)] 66))
  clear f2 B2
  go_wp2
  go_ret
  exact ⟨rfl, F2.out⟩

set_option maxHeartbeats 4000000 in
set_option maxRecDepth 100000 in
theorem does_nil (k n a c : Int) (s : ByteArray) (av : Option Addr) (lv cv : Nat) (w : World) (k14 : k ≠ 14) :
    Calls Tryz.prog 10 #[.agg #[.pointer none, .pointer none], .agg #[.int .i64 k, .int .i64 n, .int .i64 a, .int .i64 c, .string s, .slice av lv cv]] w
      fun e w' => e = .returned (.bool true) ∧ Fr [] w w' := by
  have b14 : (k == 14) = false := by simpa using k14
  by_cases k2 : k = 2
  · subst k2
    clear k14 b14
    go_enter Tryz.func10, Tryz.ntmps10
    go_wp2_with (first | (go_at_call 16; refine (feed_nil _ _).mono ?_; rintro e w' ⟨rfl, rfl⟩) | (go_at_call 17; refine (rfeed_nil _ _).mono ?_; rintro e w' ⟨rfl, rfl⟩))
    go_ret
    exact ⟨rfl, ((Fr.refl _ _).alloc _).alloc _⟩
  have b2 : (k == 2) = false := by simpa using k2
  by_cases k3 : k = 3
  · subst k3
    clear k14 b14 k2 b2
    go_enter Tryz.func10, Tryz.ntmps10
    go_wp2_with (first | (go_at_call 18; refine (resize_nil _ _ _).mono ?_; rintro e w' ⟨rfl, rfl⟩) | (go_at_call 19; refine (rturn_nil _ _ _).mono ?_; rintro e w' ⟨rfl, rfl⟩))
    go_ret
    exact ⟨rfl, ((Fr.refl _ _).alloc _).alloc _⟩
  have b3 : (k == 3) = false := by simpa using k3
  by_cases k4 : k = 4
  · subst k4
    clear k14 b14 k2 b2 k3 b3
    go_enter Tryz.func10, Tryz.ntmps10
    go_wp2_with (first | (go_at_call 20; refine (row_nil _ _).mono ?_; rintro e w' ⟨rfl, rfl⟩) | (go_at_call 21; refine (refRow_nil _ _).mono ?_; rintro e w' ⟨rfl, rfl⟩))
    go_ret
    exact ⟨rfl, ((Fr.refl _ _).alloc _).alloc _⟩
  have b4 : (k == 4) = false := by simpa using k4
  clear k14 k2 k3 k4
  have FB := hide (boxB_fr w (.pointer none) (.pointer none) k n a c s (.slice av lv cv))
  go_enter Tryz.func10, Tryz.ntmps10
  go_wp2_with fail
  refine (cursor_nil _).mono ?_
  rintro e w1 ⟨rfl, f1⟩
  have K := boxB_keep f1 (by simp)
  have k1 : w1.cell? ⟨w.heap.size, 1, none⟩ = some (.pointer none) := K.1.cell 1
  have hl1 := K.1.lt
  have F1 := hide (FB.out.then f1)
  clear K f1
  go_wp2_with fail
  refine (refCursor_nil _).mono ?_
  rintro e w2 ⟨rfl, f2⟩
  have B2 : Blk w2 w1.heap.size [.int .i64 0, .int .i64 0, .bool false] 66 := (Blk.new _ _ _).fr0 f2
  have z0 : w2.cell? ⟨w1.heap.size, 0, none⟩ = some (.int .i64 0) := B2.cell 0
  have z1 : w2.cell? ⟨w1.heap.size, 1, none⟩ = some (.int .i64 0) := B2.cell 1
  have z2 : w2.cell? ⟨w1.heap.size, 2, none⟩ = some (.bool false) := B2.cell 2
  have hl2 := B2.lt
  have F2 := hide (((F1.out.alloc _).then f2).alloc (.cells #[.int .i64 0, .int .i64 0, .bool false] 66))
  clear f2 B2
  go_wp2
  go_ret
  exact ⟨rfl, F2.out⟩
end Go.Proofs.YtjhccghhinlmdabGreatDoor
