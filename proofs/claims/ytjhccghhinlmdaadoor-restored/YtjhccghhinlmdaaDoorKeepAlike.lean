/- The statements' room: the terminal's rows read like the painter's. And plain facts of what is shown behind each step. -/
import Derived.Test.YtjhccghhinlmdaaDoorKeepShows
import Derived.Test.YtjhccghhinlmdaaDoorKeepLooked
import Derived.Test.YtjhccghhinlmdaaDoorFrontsWalk
namespace Go.Proofs.YtjhccghhinlmdaaDoor
open Go.RowKit

/-- a window's eight cells, a room's four -/
theorem Blk.win {w : World} {b : Nat} {o : Win} {ty : TypeId} (h : Blk w b o.vals ty) : w.cell? ⟨b, 0, none⟩ = some (.int .i64 o.key) ∧ w.cell? ⟨b, 1, none⟩ = some (.int .i64 o.x) ∧ w.cell? ⟨b, 2, none⟩ = some (.int .i64 o.y) ∧ w.cell? ⟨b, 3, none⟩ = some (.int .i64 o.w) ∧ w.cell? ⟨b, 4, none⟩ = some (.int .i64 o.h) ∧ w.cell? ⟨b, 5, none⟩ = some (.int .i64 o.layer) ∧ w.cell? ⟨b, 6, none⟩ = some (.int .i64 o.style) ∧ w.cell? ⟨b, 7, none⟩ = some (.string o.text) :=
  ⟨h.cell 0, h.cell 1, h.cell 2, h.cell 3, h.cell 4, h.cell 5, h.cell 6, h.cell 7⟩
theorem Blk.four {w : World} {b : Nat} {c0 c1 c2 c3 : Value} {ty : TypeId} (h : Blk w b [c0, c1, c2, c3] ty) : w.cell? ⟨b, 0, none⟩ = some c0 ∧ w.cell? ⟨b, 1, none⟩ = some c1 ∧ w.cell? ⟨b, 2, none⟩ = some c2 ∧ w.cell? ⟨b, 3, none⟩ = some c3 :=
  ⟨h.cell 0, h.cell 1, h.cell 2, h.cell 3⟩

/-- what a terminal shows is what its painter is to show -/
def Shown (t : T) (m : Pt) : Prop := Scr t m.W m.H m.grid m.cur
theorem shown_new (W H : Int) (w1 : 1 ≤ W) (w2 : W ≤ 40) (h1 : 1 ≤ H) (h2 : H ≤ 20) : Shown (T.new W H) ⟨W, H, [], 0, 0⟩ := by
  have on : Pt.on ⟨W, H, [], 0, 0⟩ = true := by simp [Pt.on]; omega
  have ec : Pt.cur ⟨W, H, [], 0, 0⟩ = ⟨0, 0, true⟩ := by simp [Pt.cur, on]
  have eg : Pt.grid ⟨W, H, [], 0, 0⟩ = List.replicate (W * H).toNat (32, 7) := grid_nil W H
  have hm := mul_bd w1 w2 h1 h2
  unfold Shown
  rw [ec, eg]
  exact ⟨rfl, rfl, w1, w2, h1, h2, rfl, by simp; omega, rfl, rfl, rfl, rfl, rfl, fun _ => ⟨rfl, rfl, rfl⟩⟩
theorem Shown.told {t : T} {m : Pt} (h : Shown t m) (m' : Pt) (eW : m'.W = m.W) (eH : m'.H = m.H) (ok : m'.v.Ok) : Shown (t.feed (m.told m')) m' := by
  have h' : Scr t m'.W m'.H m.grid m.cur := by rw [eW, eH]; exact h
  exact h'.change m'.grid (ok.chars _ _) (m'.v.grid_len h'.w1 h'.h1) m'.cur m'.cur_on
theorem Shown.whole {t : T} {m : Pt} (hc : t.Cln) (hW : t.W = m.W) (hH : t.H = m.H) (w1 : 1 ≤ m.W) (w2 : m.W ≤ 40) (h1 : 1 ≤ m.H) (h2 : m.H ≤ 20) (hl : (t.cells.length : Int) = m.W * m.H) (ok : m.v.Ok) : Shown (t.feed m.whole) m :=
  scr_whole t m.W m.H hc hW hH w1 w2 h1 h2 hl m.grid (ok.chars _ _) (m.v.grid_len w1 h1) m.cur m.cur_on
theorem Shown.cln {t : T} {m : Pt} (h : Shown t m) : t.Cln := fun _ => h.params

set_option maxHeartbeats 2000000 in
set_option maxRecDepth 100000 in
theorem alike_yes (w : World) (b : Nat) (g : PGh) (m : Pt) (bt : Nat) (gt : Gh) (t : T) (h : RoomAt w b g m bt gt t) (hs : Shown t m) :
    Calls Tryd.prog 26 #[.agg #[.pointer (some ⟨b, 0, none⟩), .pointer (some ⟨bt, 0, none⟩), .int .i64 m.W, .int .i64 m.H]] w fun e w' => e = .returned (.bool true) ∧ Fr [] w w' := by
  have H := hide h
  have HW := hide hs.w
  have HH := hide hs.h
  have HC := hide hs.cells
  have h1 := hs.h1
  have h2 := hs.h2
  have B0 := hide (Blk.new w [.pointer (some ⟨b, 0, none⟩), .pointer (some ⟨bt, 0, none⟩), .int .i64 m.W, .int .i64 m.H] 27)
  clear h hs
  go_enter Tryd.func26, Tryd.ntmps26
  go_wp2
  go_loopw [3] (fun i wr => ∃ k : Nat, i = .int .i64 k ∧ (k : Int) ≤ m.H ∧ Fr [] (w.alloc (.cells #[.pointer (some ⟨b, 0, none⟩), .pointer (some ⟨bt, 0, none⟩), .int .i64 m.W, .int .i64 m.H] 27)) wr) (fun i _ => (3000 - intOf i).toNat)
  case atStart => exact ⟨0, rfl, by omega, Fr.refl _ _⟩
  case round =>
    obtain ⟨k, rfl, hk, f⟩ := hrel
    have BR := B0.out.fr0 f
    obtain ⟨r0, r1, r2, r3⟩ := BR.four
    have rl := BR.lt
    have HF : Hid (Fr [] w wr) := ((Fr.refl _ _).alloc _).then f
    have FA := hide f
    have HBR := hide BR
    clear BR f
    by_cases hend : (k : Int) < m.H
    · have PR := hide (prow_yes wr b g m (PntRaw.fr0 H.out.p HF.out) k (by omega) hend)
      go_wp2_with fail
      refine PR.out.mono ?_
      rintro e w2 ⟨rfl, f2⟩
      have BR2 := HBR.out.fr0 f2
      obtain ⟨s0, s1, s2, s3⟩ := BR2.four
      have rl2 := BR2.lt
      have RD := hide (reads_yes k w2 bt gt t (H.out.t.fr0 (HF.out.then f2)) (by omega) (by rw [HH.out]; exact hend) _ _ (by rw [HW.out, HC.out]) (by rw [HW.out, HC.out]))
      have FA2 := hide (FA.out.then f2)
      clear BR2 PR r0 r1 r2 r3 f2
      go_wp2_with fail
      refine RD.out.mono ?_
      rintro e w3 ⟨rfl, f3⟩
      have FA3 := hide (FA2.out.then f3)
      clear f3
      go_wp2
      go_roundw
      case rel => exact ⟨k + 1, by go_num, by omega, FA3.out⟩
      case measure => simp [intOf]; omega
    · go_wp2
      go_ret
      exact ⟨rfl, HF.out⟩
end Go.Proofs.YtjhccghhinlmdaaDoor
