/- The program's painter: what is to stand on its terminal; the bytes that bring it there. -/
import Derived.Test.YtjhccghhinlmdaaDoorPainter
namespace Go.Proofs.YtjhccghhinlmdaaDoor
open Go.RowKit


set_option maxHeartbeats 2000000 in
set_option maxRecDepth 100000 in
theorem screen_any (w : World) (b : Nat) (g : PGh) (m : Pt) (l : List (Int × Int)) (h : PntRaw w b g m l) :
    Calls Tryd.prog 33 #[.pointer (some ⟨b, 0, none⟩)] w fun e w' => e = .returned (.agg #[.pointer (some ⟨g.bg, 0, none⟩), .int .i64 m.cur.x, .int .i64 m.cur.y, .bool m.cur.shown]) ∧ Fr [] w w' := by
  have c0 : w.cell? ⟨b, 0, none⟩ = some (.pointer (some ⟨g.bg, 0, none⟩)) := h.st.cell 0
  have c2 : w.cell? ⟨b, 2, none⟩ = some (.int .i64 m.cx) := h.st.cell 2
  have c3 : w.cell? ⟨b, 3, none⟩ = some (.int .i64 m.cy) := h.st.cell 3
  have bl := h.st.lt
  have HS := hide h.gr
  clear h
  by_cases on : m.on = true
  · have ec : m.cur = ⟨m.cx, m.cy, true⟩ := by simp [Pt.cur, on]
    rw [ec]
    have ON : Hid (0 ≤ m.cx ∧ m.cx < m.W ∧ 0 ≤ m.cy ∧ m.cy < m.H) := by
      simp [Pt.on] at on
      exact ⟨on.1.1.1, on.1.1.2, on.1.2, on.2⟩
    have HY : Hid (∀ w', Fr [] w w' → Calls Tryd.prog 50 #[.pointer (some ⟨g.bg, 0, none⟩), .int .i64 m.cx, .int .i64 m.cy] w' fun e w'' => e = .returned (.bool true) ∧ w'' = w') := by
      intro w' f
      have g' := HS.out.fr0 f
      exact (has_yes m.cx m.cy m.W m.H w' g.bg (g'.hd.cell 0) (g'.hd.cell 1) ON.out.1 ON.out.2.1 ON.out.2.2.1 ON.out.2.2.2).mono fun e w'' ⟨h1, h2⟩ => ⟨h1, h2.symm⟩
    clear on ec HS
    go_enter Tryd.func33, Tryd.ntmps33
    go_wp2
    go_quiet ((go_at_call 50; exact Calls.quiet_of_same (HY.out _ (by repeat first | exact Fr.refl _ _ | apply Fr.drew | apply Fr.drewN | apply Fr.alloc))))
    go_wp2
    go_region
    go_wp2
    refine bodyPost_ret (v := .agg #[.pointer (some ⟨g.bg, 0, none⟩), .int .i64 m.cx, .int .i64 m.cy, .bool true]) (by simp [results, Tryd.results33, go_sem]) rfl ?_
    refine ⟨rfl, ?_⟩
    repeat first | with_reducible exact Fr.refl _ _ | with_reducible apply Fr.drewN | with_reducible apply Fr.drew | with_reducible apply Fr.alloc | (with_reducible refine Fr.setCell ?_ (.inr (by simp)) _)
  · have off : m.on = false := by simpa using on
    have ec : m.cur = ⟨0, 0, false⟩ := by simp [Pt.cur, off]
    rw [ec]
    have ON : Hid (m.cx < 0 ∨ m.W ≤ m.cx ∨ m.cy < 0 ∨ m.H ≤ m.cy) := by
      show _ ∨ _
      simp [Pt.on] at off
      omega
    have HY : Hid (∀ w', Fr [] w w' → Calls Tryd.prog 50 #[.pointer (some ⟨g.bg, 0, none⟩), .int .i64 m.cx, .int .i64 m.cy] w' fun e w'' => e = .returned (.bool false) ∧ w'' = w') := by
      intro w' f
      have g' := HS.out.fr0 f
      exact (has_no m.cx m.cy m.W m.H w' g.bg (g'.hd.cell 0) (g'.hd.cell 1) ON.out).mono fun e w'' ⟨h1, h2⟩ => ⟨h1, h2.symm⟩
    clear on off ec HS
    go_enter Tryd.func33, Tryd.ntmps33
    go_wp2
    go_quiet ((go_at_call 50; exact Calls.quiet_of_same (HY.out _ (by repeat first | exact Fr.refl _ _ | apply Fr.drew | apply Fr.drewN | apply Fr.alloc))))
    go_wp2
    refine bodyPost_ret (v := .agg #[.pointer (some ⟨g.bg, 0, none⟩), .int .i64 0, .int .i64 0, .bool false]) (by simp [results, Tryd.results33, go_sem]) rfl ?_
    refine ⟨rfl, ?_⟩
    repeat first | with_reducible exact Fr.refl _ _ | with_reducible apply Fr.drewN | with_reducible apply Fr.drew | with_reducible apply Fr.alloc | (with_reducible refine Fr.setCell ?_ (.inr (by simp)) _)

set_option maxHeartbeats 2000000 in
set_option maxRecDepth 100000 in
/-- the painter has a new grid; what came back is the bytes that turn the screen that was into the one that is -/
theorem pchange_any (w : World) (b : Nat) (g : PGh) (m : Pt) (l : List (Int × Int)) (h : PntRaw w b g m l) (fg fc fcap : Nat) (fsp : List Value) (f : List (Int × Int)) (GF : Grid w fg fc fcap fsp m.W m.H f) (x y : Int) (s : Bool) :
    Calls Tryd.prog 34 #[.pointer (some ⟨b, 0, none⟩), .agg #[.pointer (some ⟨fg, 0, none⟩), .int .i64 x, .int .i64 y, .bool s]] w
      fun e w' => e = .returned (.string (strOfNums (change m.W m.H f (m.v.grid m.W m.H) ⟨x, y, s⟩ m.cur))) ∧ NewGrid b g m w w' := by
  have F1 : Hid (Fr [] w (w.alloc (.cells #[.pointer (some ⟨fg, 0, none⟩), .int .i64 x, .int .i64 y, .bool s] 76))) := (Fr.refl _ _).alloc _
  have PA := hide (paint_any _ b g m l (h.fr0 F1.out))
  have nb : Hid (b ≠ w.heap.size ∧ b ≠ fg ∧ b ≠ fc) := ⟨by have := h.st.lt; omega, h.st.ne GF.hd (by decide), h.st.ne GF.row (by decide)⟩
  have CB := hide m.cur_on
  have HG := hide GF
  clear h GF
  go_enter Tryd.func34, Tryd.ntmps34
  go_wp2_with fail
  refine PA.out.mono ?_
  rintro e w2 ⟨rfl, bg, bc, cap, sp, n1, n2, f2, p2⟩
  have K2 := (Blk.new w [.pointer (some ⟨fg, 0, none⟩), .int .i64 x, .int .i64 y, .bool s] 76).fr f2 (by simpa using nb.out.1.symm)
  have GF2 := hide ((HG.out.fr0 F1.out).fr f2 (by simpa using nb.out.2.1.symm) (by simpa using nb.out.2.2.symm))
  have F2 := hide ((F1.out.of_nil).then f2)
  have N2 : Hid (w.heap.size ≤ bg ∧ w.heap.size ≤ bc) := ⟨by simp at n1; omega, by simp at n2; omega⟩
  have SC := hide (screen_any _ b _ m _ p2)
  have P2 := hide p2
  have K2H := hide K2
  clear K2 f2 n1 n2 p2 PA
  go_wp2_with fail
  refine SC.out.mono ?_
  rintro e w3 ⟨rfl, f3⟩
  have K3 := K2H.out.fr0 f3
  have a0 : w3.cell? ⟨w.heap.size, 0, none⟩ = some (.pointer (some ⟨fg, 0, none⟩)) := K3.cell 0
  have a1 : w3.cell? ⟨w.heap.size, 1, none⟩ = some (.int .i64 x) := K3.cell 1
  have a2 : w3.cell? ⟨w.heap.size, 2, none⟩ = some (.int .i64 y) := K3.cell 2
  have a3 : w3.cell? ⟨w.heap.size, 3, none⟩ = some (.bool s) := K3.cell 3
  have lt3 := K3.lt
  have FA : Hid (Fr [] w2 (w3.alloc (.cells #[.pointer (some ⟨bg, 0, none⟩), .int .i64 m.cur.x, .int .i64 m.cur.y, .bool m.cur.shown] 76))) := f3.alloc _
  have P3 := P2.out.fr0 FA.out
  have CH := hide (bchange_any _ m.W m.H fg fc fcap fsp f bg bc cap sp (m.v.grid m.W m.H) ⟨x, y, s⟩ m.cur (GF2.out.fr0 FA.out) P3.gr (P3.ok.chars _ _) CB.out)
  clear K3 f3 SC P3
  go_wp2_with fail
  refine CH.out.mono ?_
  rintro e w4 ⟨rfl, f4⟩
  have F4 := hide ((F2.out.then FA.out.of_nil).then f4.of_nil)
  have P4 := hide (P2.out.fr0 (FA.out.then f4))
  clear f4 CH
  go_wp2
  go_ret
  exact ⟨rfl, bg, bc, cap, sp, N2.out.1, N2.out.2, F4.out, P4.out⟩
end Go.Proofs.YtjhccghhinlmdaaDoor
