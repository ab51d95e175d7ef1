/- The program's terminal gets another size. -/
import Derived.Test.YtjhccghhinlmdabGreatDoorTermFeed
import Derived.Test.YtjhccghhinlmdabGreatDoorTurnModel
import Derived.Test.YtjhccghhinlmdabGreatDoorCellsAt
import Derived.Deep.RegionHeldLaw
namespace Go.Proofs.YtjhccghhinlmdabGreatDoor
open Go.RowKit

theorem resized_no (a c : Int) (w : World) (p : Value) (h : sizeB a c = false) :
    Calls Tryz.prog 38 #[p, .int .i64 a, .int .i64 c] w fun e w' => e = .returned (.tuple #[.pointer none, .bool false]) ∧ w = w' := by
  go_enter Tryz.func38, Tryz.ntmps38
  go_wp2_with (go_at_call 13; refine (new_no _ _ _ h).mono ?_; rintro e w' ⟨rfl, rfl⟩)
  go_ret2
  exact ⟨rfl, rfl⟩

def ResPost (w : World) (W H : Int) (l : List (Int × Int)) (a c : Int) (e : Ending) (w' : World) : Prop :=
  ∃ bg bc cap sp, e = .returned (.tuple #[.pointer (some ⟨bg, 0, none⟩), .bool true]) ∧ w.heap.size ≤ bg ∧ w.heap.size ≤ bc ∧ Fr [] w w' ∧ Grid w' bg bc cap sp a c (tn W H l a c H 0)

set_option maxHeartbeats 4000000 in
set_option maxRecDepth 100000 in
theorem resized_yes (a c : Int) (w : World) (bg bc cap : Nat) (sp : List Value) (W H : Int) (l : List (Int × Int)) (g : Grid w bg bc cap sp W H l) (h1 : 1 ≤ a) (h2 : a ≤ 40) (h3 : 1 ≤ c) (h4 : c ≤ 20) :
    Calls Tryz.prog 38 #[.pointer (some ⟨bg, 0, none⟩), .int .i64 a, .int .i64 c] w (ResPost w W H l a c) := by
  have w1 := g.w1
  have w2 := g.w2
  have e1 := g.h1
  have e2 := g.h2
  have HG := hide g
  have blt := g.hd.lt
  have blt2 := g.row.lt
  clear g
  go_enter Tryz.func38, Tryz.ntmps38
  go_wp2_with fail
  refine (new_yes _ _ _ h1 h2 h3 h4).mono ?_
  rintro e v1 ⟨ng, nc, ncap, nsp, rfl, hng, hnc, f1, hn⟩
  have hn' : Grid v1 ng nc ncap nsp a c (tn W H l a c 0 0) := by rw [tn_zero h1 h3]; exact hn
  have HN := hide hn'
  clear hn hn'
  go_wp2
  go_loopw [10] (fun i wr => ∃ k : Nat, i = .int .i64 k ∧ (k : Int) ≤ H ∧ Fr [] w wr ∧ Grid wr ng nc ncap nsp a c (tn W H l a c k 0)) (fun i _ => (3000 - intOf i).toNat)
  case atStart => exact ⟨0, rfl, by omega, f1, HN.out⟩
  case round =>
    obtain ⟨k, rfl, hk, f, hr⟩ := hrel
    have hg := HG.out.fr0 f
    have c0 : wr.cell? ⟨bg, 0, none⟩ = some (.int .i64 W) := hg.hd.cell 0
    have c1 : wr.cell? ⟨bg, 1, none⟩ = some (.int .i64 H) := hg.hd.cell 1
    have HR := hide hr
    clear hr hg
    by_cases hend : (k : Int) < H
    · go_wp2
      go_loopw [11] (fun i ws => ∃ j : Nat, i = .int .i64 j ∧ (j : Int) ≤ W ∧ Fr [] w ws ∧ Grid ws ng nc ncap nsp a c (tn W H l a c k j)) (fun i _ => (3000 - intOf i).toNat)
      case atStart => exact ⟨0, rfl, by omega, f, HR.out⟩
      case round =>
        obtain ⟨j, rfl, hj, fs, hs⟩ := hrel
        have hg := HG.out.fr0 fs
        have s0 : wr.cell? ⟨bg, 0, none⟩ = some (.int .i64 W) := hg.hd.cell 0
        have s2 : wr.cell? ⟨bg, 2, none⟩ = some (.slice (some ⟨bc, 0, none⟩) l.length cap) := hg.hd.cell 2
        have HS := hide hs
        clear hs c0 c1
        by_cases hje : (j : Int) < W
        · obtain ⟨q1, q2, q3⟩ := idx_bd (W := W) (H := H) (x := j) (y := k) w2 e2 (by omega) hje (by omega) hend
          have AT := hide (at_in j k W H wr bg bc cap sp l hg (by omega) hje (by omega) hend)
          clear hg q1 q2 q3
          by_cases hin : (j : Int) < a ∧ (k : Int) < c
          · have TI := hide (tn_in (H := H) (l := l) (h := c) (y := k) h1 h3 (by omega) hin.1 hje hend (k * a + j).toNat (k * W + j).toNat (by have := Int.mul_nonneg (show 0 ≤ (k : Int) by omega) (show 0 ≤ a by omega); rw [Int.mul_comm a]; omega) (by have := Int.mul_nonneg (show 0 ≤ (k : Int) by omega) (show 0 ≤ W by omega); rw [Int.mul_comm W]; omega))
            have HIN : Hid ((j : Int) < a ∧ (k : Int) < c ∧ 0 ≤ (j : Int) ∧ 0 ≤ (k : Int)) := ⟨hin.1, hin.2, by omega, by omega⟩
            clear hin
            go_wp2_with fail
            refine AT.out.mono ?_
            rintro e w3 ⟨rfl, f3⟩
            have F3 := hide f3
            clear f3 s0 s2
            generalize chr l (k * W + j).toNat = cc at *
            generalize sty l (k * W + j).toNat = ss at *
            go_wp2_with fail
            refine (put_in j k cc ss a c _ ng nc ncap nsp (tn W H l a c k j) (HS.out.fr0 (F3.out.alloc _)) HIN.out.2.2.1 HIN.out.1 HIN.out.2.2.2 HIN.out.2.1).mono ?_
            rintro e w4 ⟨rfl, k1, k2⟩
            have FS : Hid (Fr [] w w4) := ((fs.then F3.out).alloc _).trans k1 (by simp) (fun i hi => .inr (by simp at hi; omega))
            have K2 := hide k2
            clear k1 k2
            go_wp2
            go_roundw
            case rel => exact ⟨j + 1, by go_num, by omega, FS.out, by have := K2.out; rw [TI.out] at this; exact this⟩
            case measure => simp [intOf]; omega
          · have TK := hide (tn_skip (W := W) (H := H) (l := l) (w := a) (h := c) (y := k) (x := j) h1 h3 (by omega))
            have HIN : Hid ((j : Int) < 0 ∨ a ≤ j ∨ (k : Int) < 0 ∨ c ≤ k) := by show _ ∨ _; omega
            clear hin
            go_wp2_with fail
            refine AT.out.mono ?_
            rintro e w3 ⟨rfl, f3⟩
            have F3 := hide f3
            clear f3 s0 s2
            generalize chr l (k * W + j).toNat = cc at *
            generalize sty l (k * W + j).toNat = ss at *
            go_wp2_with fail
            refine (put_out j k cc ss a c _ ng nc ncap nsp (tn W H l a c k j) (HS.out.fr0 (F3.out.alloc _)) HIN.out).mono ?_
            rintro e w4 ⟨rfl, k1⟩
            have F4 : Hid (Fr [] wr w4) := (F3.out.alloc _).then k1
            clear k1
            go_wp2
            go_roundw
            case rel => exact ⟨j + 1, by go_num, by omega, fs.then F4.out, by have := HS.out; rw [TK.out] at this; exact this.fr0 F4.out⟩
            case measure => simp [intOf]; omega
        · have TR := hide (tn_row (W := W) (H := H) (l := l) (w := a) (h := c) (y := k) (x := j) h1 h3 (by omega))
          clear hg
          go_wp2
          go_roundw
          case rel => exact ⟨k + 1, by go_num, by omega, fs, by have := HS.out; rw [TR.out] at this; exact this⟩
          case measure => simp [intOf]; omega
    · have e : (k : Int) = H := by omega
      have E := hide e
      go_wp2
      go_ret2
      exact ⟨ng, nc, ncap, nsp, rfl, hng, hnc, f, by have := HR.out; rw [E.out] at this; exact this⟩

set_option maxHeartbeats 1000000 in
theorem moveTo_raw (x y : Int) (w : World) (bt : Nat) (g : Gh) (t : T) (hs : Blk w bt (stOf g t) 54) (gr : Grid w g.bg g.bc g.cap g.sp t.W t.H t.cells) :
    Calls Tryz.prog 39 #[.pointer (some ⟨bt, 0, none⟩), .int .i64 x, .int .i64 y] w
      fun e w' => e = .returned (.tuple #[]) ∧ w' = ((w.setCell ⟨bt, 1, none⟩ (.int .i64 (within x t.W))).setCell ⟨bt, 2, none⟩ (.int .i64 (within y t.H))).setCell ⟨bt, 4, none⟩ (.bool false) := by
  have c0 : w.cell? ⟨bt, 0, none⟩ = some (.pointer (some ⟨g.bg, 0, none⟩)) := hs.cell 0
  have c1 : w.cell? ⟨bt, 1, none⟩ = some (.int .i64 t.x) := hs.cell 1
  have c2 : w.cell? ⟨bt, 2, none⟩ = some (.int .i64 t.y) := hs.cell 2
  have c4 : w.cell? ⟨bt, 4, none⟩ = some (.bool t.full) := hs.cell 4
  have d0 : w.cell? ⟨g.bg, 0, none⟩ = some (.int .i64 t.W) := gr.hd.cell 0
  have d1 : w.cell? ⟨g.bg, 1, none⟩ = some (.int .i64 t.H) := gr.hd.cell 1
  have n1 : bt ≠ g.bg := hs.ne gr.hd (by decide)
  have n2 := n1.symm
  have f1 := hs.frozen 1
  have f2 := hs.frozen 2
  have f4 := hs.frozen 4
  have w1 := gr.w1
  have w2 := gr.w2
  have h1 := gr.h1
  have h2 := gr.h2
  clear hs gr
  go_enter Tryz.func39, Tryz.ntmps39
  go_wp2_with (go_at_call 66; refine (within_any _ _ _ (by omega) (by omega)).mono ?_; rintro e w' ⟨rfl, rfl⟩)
  go_end0
  exact ⟨rfl, rfl⟩

def T.resized (t : T) (a c : Int) : T := { t with W := a, H := c, cells := tn t.W t.H t.cells a c t.H 0, x := within t.x a, y := within t.y c, full := false }
theorem T.resized_ok {t : T} (o : t.Ok) {a c : Int} (h1 : 1 ≤ a) (h3 : 1 ≤ c) : (t.resized a c).Ok := by
  refine ⟨?_, ?_, ?_, ?_, o.c0, o.c1, o.s0, o.s1, o.p1, o.p2⟩
  all_goals simp only [T.resized, within]
  all_goals (repeat' split) <;> omega

theorem resize_nil (a c : Int) (w : World) :
    Calls Tryz.prog 18 #[.pointer none, .int .i64 a, .int .i64 c] w fun e w' => e = .returned (.int .i64 1) ∧ w = w' := by
  go_enter Tryz.func18, Tryz.ntmps18
  go_wp2
  go_ret
  exact ⟨rfl, rfl⟩
set_option maxHeartbeats 400000 in
theorem resize_no (a c : Int) (w : World) (bt : Nat) (g : Gh) (t : T) (h : TermAt w bt g t) (hz : sizeB a c = false) :
    Calls Tryz.prog 18 #[.pointer (some ⟨bt, 0, none⟩), .int .i64 a, .int .i64 c] w fun e w' => e = .returned (.int .i64 2) ∧ w = w' := by
  obtain ⟨c0, c1, c2, c3, c4, c5, c6, c7, c8, d0, d1⟩ := h.cells
  clear h c1 c2 c3 c4 c5 c6 c7 c8 d0 d1
  go_enter Tryz.func18, Tryz.ntmps18
  go_wp2_with (go_at_call 38; refine (resized_no _ _ _ _ hz).mono ?_; rintro e w' ⟨rfl, rfl⟩)
  go_ret
  exact ⟨rfl, rfl⟩

set_option maxHeartbeats 2000000 in
set_option maxRecDepth 100000 in
theorem resize_yes (a c : Int) (w : World) (bt : Nat) (g : Gh) (t : T) (h : TermAt w bt g t) (h1 : 1 ≤ a) (h2 : a ≤ 40) (h3 : 1 ≤ c) (h4 : c ≤ 20) :
    Calls Tryz.prog 18 #[.pointer (some ⟨bt, 0, none⟩), .int .i64 a, .int .i64 c] w fun e w' => e = .returned (.int .i64 0) ∧ Upd bt g (t.resized a c) w w' := by
  obtain ⟨c0, c1, c2, c3, c4, c5, c6, c7, c8, d0, d1⟩ := h.cells
  have HT := hide h
  have blt := h.st.lt
  clear h c1 c2 c3 c4 c5 c6 c7 c8 d0 d1
  go_enter Tryz.func18, Tryz.ntmps18
  go_wp2_with fail
  refine (resized_yes _ _ _ _ _ _ _ _ _ _ HT.out.gr h1 h2 h3 h4).mono ?_
  rintro e v1 ⟨bg, bc, cap, sp, rfl, hbg, hbc, f1, gr⟩
  have st1 := HT.out.st.fr0 f1
  have q0 : v1.cell? ⟨bt, 0, none⟩ = some (.pointer (some ⟨g.bg, 0, none⟩)) := st1.cell 0
  have q1 : v1.cell? ⟨bt, 1, none⟩ = some (.int .i64 t.x) := st1.cell 1
  have q2 : v1.cell? ⟨bt, 2, none⟩ = some (.int .i64 t.y) := st1.cell 2
  have z0 := st1.frozen 0
  have G1 : Hid (Blk (v1.setCell ⟨bt, 0, none⟩ (.pointer (some ⟨bg, 0, none⟩))) bt (stOf ⟨bg, bc, cap, sp, g.pv⟩ { t with W := a, H := c, cells := tn t.W t.H t.cells a c t.H 0 }) 54 ∧ Grid (v1.setCell ⟨bt, 0, none⟩ (.pointer (some ⟨bg, 0, none⟩))) bg bc cap sp a c (tn t.W t.H t.cells a c t.H 0)) :=
    ⟨st1.set 0 _, gr.fr ((Fr.refl [bt] _).setCell (p := ⟨bt, 0, none⟩) (by simp) _) (by simp; omega) (by simp; omega)⟩
  have S1 := hide st1
  have GR := hide gr
  clear st1 gr
  go_upto_region 7 with (fail)
  go_region_with (go_at_call 39; refine (moveTo_raw _ _ _ bt ⟨bg, bc, cap, sp, g.pv⟩ { t with W := a, H := c, cells := tn t.W t.H t.cells a c t.H 0 } ?ha ?hb).mono ?_; (case ha => exact G1.out.1.drew); (case hb => exact G1.out.2.fr0 (Fr.refl _ _).drew); rintro e w' ⟨rfl, rfl⟩)
  all_goals go_wp2
  all_goals go_ret
  all_goals
    refine ⟨rfl, ⟨bg, bc, cap, sp, g.pv⟩, ⟨?_, ?_, ?_, T.resized_ok HT.out.ok h1 h3⟩, ?_, ?_⟩
    · exact (((S1.out.set 0 (.pointer (some ⟨bg, 0, none⟩))).set 1 (.int .i64 (within t.x a))).set 2 (.int .i64 (within t.y c))).set 4 (.bool false)
    · exact GR.out.fr (S := [bt]) (((((Fr.refl [bt] _).setCell (p := ⟨bt, 0, none⟩) (by simp) _).setCell (p := ⟨bt, 1, none⟩) (by simp) _).setCell (p := ⟨bt, 2, none⟩) (by simp) _).setCell (p := ⟨bt, 4, none⟩) (by simp) _).drew (by simp; omega) (by simp; omega)
    · exact own_fr (S := [bt]) HT.out.pr (((((f1.of_nil.setCell (p := ⟨bt, 0, none⟩) (by simp) _).setCell (p := ⟨bt, 1, none⟩) (by simp) _).setCell (p := ⟨bt, 2, none⟩) (by simp) _).setCell (p := ⟨bt, 4, none⟩) (by simp) _).drew) (by intro b hb; simp at hb; subst hb; exact own_ne HT.out.pr HT.out.st (by decide))
    · exact ((((((f1.of_nil (S := [bt])).setCell (p := ⟨bt, 0, none⟩) (by simp) _).setCell (p := ⟨bt, 1, none⟩) (by simp) _).setCell (p := ⟨bt, 2, none⟩) (by simp) _).setCell (p := ⟨bt, 4, none⟩) (by simp) _).drew).mono (by simp [foot])
    · intro x hx
      simp only [foot, List.mem_cons] at hx ⊢
      rcases hx with rfl | rfl | rfl | hx
      · exact .inl (.inl rfl)
      · exact .inr hbg
      · exact .inr hbc
      · exact .inl (.inr (.inr (.inr hx)))
end Go.Proofs.YtjhccghhinlmdabGreatDoor
