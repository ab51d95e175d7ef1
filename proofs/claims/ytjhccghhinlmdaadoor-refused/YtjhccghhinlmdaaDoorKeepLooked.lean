/- A row as the front one of two windows tells it. -/
import Derived.Test.YtjhccghhinlmdaaDoorKeepPaint
namespace Go.Proofs.YtjhccghhinlmdaaDoor
open Go.RowKit

/-- a cell as the front one of two windows tells it -/
def lookC (a b : Win) (x y : Int) : Int × Int :=
  if b.has x y = true ∧ (a.has x y = false ∨ a.layer ≤ b.layer) then (b.charK x y, b.style) else if a.has x y = true then (a.charK x y, a.style) else (32, 7)
def lookR (a b : Win) (n : Nat) (y : Int) : List (Int × Int) := (List.range n).map fun (x : Nat) => lookC a b x y
theorem lookR_length (a b : Win) (n : Nat) (y : Int) : (lookR a b n y).length = n := by simp [lookR]
theorem lookR_get (a b : Win) (n : Nat) (y : Int) (k : Nat) (h : k < n) : ((lookR a b n y).map (·.1)).getD k 0 = (lookC a b k y).1 ∧ ((lookR a b n y).map (·.2)).getD k 0 = (lookC a b k y).2 := by
  simp [lookR, List.getD_eq_getElem?_getD, h]

theorem fill_lt (L : List Int) (k : Nat) (h : k < L.length) : k < (fill L k).length := by simp [fill]; omega
/-- the four blocks of looked, with k cells of the row told -/
structure LookAt (w : World) (hs : Nat) (a b : Win) (L M : List Int) (k : Nat) : Prop where
  a : Blk w hs a.vals 23
  b : Blk w (hs + 1) b.vals 23
  c : Blk w (hs + 2) (fill L k) 5
  s : Blk w (hs + 3) (fill M k) 5
theorem LookAt.fr0 {w w' : World} {hs : Nat} {a b : Win} {L M : List Int} {k : Nat} (h : LookAt w hs a b L M k) (f : Fr [] w w') : LookAt w' hs a b L M k := ⟨h.a.fr0 f, h.b.fr0 f, h.c.fr0 f, h.s.fr0 f⟩
/-- a cell more -/
theorem LookAt.step {w : World} {hs : Nat} {a b : Win} {L M : List Int} {k : Nat} (h : LookAt w hs a b L M k) (h1 : k < L.length) (h2 : k < M.length) (c s : Int) (hc : L.getD k 0 = c) (hs' : M.getD k 0 = s) :
    LookAt ((w.setCell ⟨hs + 2, k, none⟩ (.int .u8 c)).setCell ⟨hs + 3, k, none⟩ (.int .u8 s)) hs a b L M (k + 1) ∧ ∀ w0, Fr [] w0 w → w0.heap.size = hs → Fr [] w0 ((w.setCell ⟨hs + 2, k, none⟩ (.int .u8 c)).setCell ⟨hs + 3, k, none⟩ (.int .u8 s)) := by
  refine ⟨⟨(h.a.setOther (by simp) _).setOther (by simp) _, (h.b.setOther (by simp) _).setOther (by simp) _, ?_, ?_⟩, fun w0 f e => (f.setCell (p := ⟨hs + 2, k, none⟩) (.inr (by simp; omega)) _).setCell (p := ⟨hs + 3, k, none⟩) (.inr (by simp; omega)) _⟩
  · rw [← fill_step L k h1, hc]; exact (h.c.set k _).setOther (by simp) _
  · rw [← fill_step M k h2, hs']; exact (h.s.setOther (by simp) _).set k _
/-- the cell has been made blank -/
structure LookMid (w0 w : World) (a b : Win) (L M : List Int) (k : Nat) : Prop where
  a : Blk w w0.heap.size a.vals 23
  b : Blk w (w0.heap.size + 1) b.vals 23
  c : Blk w (w0.heap.size + 2) ((fill L k).set k (.int .u8 32)) 5
  s : Blk w (w0.heap.size + 3) ((fill M k).set k (.int .u8 7)) 5
  f : Fr [] w0 w
theorem LookAt.mid {w0 w w2 : World} {a b : Win} {L M : List Int} {k : Nat} {o1 o2 o3 : Obj} (h : LookAt w w0.heap.size a b L M k) (f : Fr [] w0 w) (hw : w2 = ((((w.setCell ⟨w0.heap.size + 2, k, none⟩ (.int .u8 32)).setCell ⟨w0.heap.size + 3, k, none⟩ (.int .u8 7)).alloc o1).alloc o2).alloc o3) : LookMid w0 w2 a b L M k := by
  subst hw
  refine ⟨((((h.a.setOther (by simp) _).setOther (by simp) _).alloc _).alloc _).alloc _, ((((h.b.setOther (by simp) _).setOther (by simp) _).alloc _).alloc _).alloc _, ((((h.c.set k _).setOther (by simp) _).alloc _).alloc _).alloc _, ((((h.s.setOther (by simp) _).set k _).alloc _).alloc _).alloc _, ?_⟩
  exact ((((f.setCell (p := ⟨w0.heap.size + 2, k, none⟩) (.inr (by simp)) _).setCell (p := ⟨w0.heap.size + 3, k, none⟩) (.inr (by simp)) _).alloc _).alloc _).alloc _
theorem LookMid.step {w0 w : World} {a b : Win} {L M : List Int} {k : Nat} (h : LookMid w0 w a b L M k) (h1 : k < L.length) (h2 : k < M.length) (c s : Int) (hc : L.getD k 0 = c) (hs' : M.getD k 0 = s) :
    LookAt ((w.setCell ⟨w0.heap.size + 2, k, none⟩ (.int .u8 c)).setCell ⟨w0.heap.size + 3, k, none⟩ (.int .u8 s)) w0.heap.size a b L M (k + 1) ∧ Fr [] w0 ((w.setCell ⟨w0.heap.size + 2, k, none⟩ (.int .u8 c)).setCell ⟨w0.heap.size + 3, k, none⟩ (.int .u8 s)) := by
  subst hc
  subst hs'
  refine ⟨⟨(h.a.setOther (by simp) _).setOther (by simp) _, (h.b.setOther (by simp) _).setOther (by simp) _, ?_, ?_⟩, (h.f.setCell (p := ⟨w0.heap.size + 2, k, none⟩) (.inr (by simp)) _).setCell (p := ⟨w0.heap.size + 3, k, none⟩) (.inr (by simp)) _⟩
  · have := (h.c.set k (.int .u8 (L.getD k 0))).setOther (p := ⟨w0.heap.size + 3, k, none⟩) (by simp) (.int .u8 (M.getD k 0))
    rw [List.set_set, fill_step L k h1] at this
    exact this
  · have := (h.s.setOther (p := ⟨w0.heap.size + 2, k, none⟩) (by simp) (.int .u8 (L.getD k 0))).set k (.int .u8 (M.getD k 0))
    rw [List.set_set, fill_step M k h2] at this
    exact this

set_option maxHeartbeats 4000000 in
set_option maxRecDepth 100000 in
theorem looked_any (a b : Win) (n : Nat) (y : Int) (w : World) (oka : a.Ok) (okb : b.Ok) (hn : n ≤ 40) (y1 : 0 ≤ y) (y2 : y ≤ 20) :
    Calls Tryd.prog 12 #[.agg #[.int .i64 a.key, .int .i64 a.x, .int .i64 a.y, .int .i64 a.w, .int .i64 a.h, .int .i64 a.layer, .int .i64 a.style, .string a.text], .agg #[.int .i64 b.key, .int .i64 b.x, .int .i64 b.y, .int .i64 b.w, .int .i64 b.h, .int .i64 b.layer, .int .i64 b.style, .string b.text], .int .i64 n, .int .i64 y] w
      fun e w' => e = .returned (.tuple #[.string (strOfNums ((lookR a b n y).map (·.1))), .string (strOfNums ((lookR a b n y).map (·.2)))]) ∧ Fr [] w w' := by
  have hmk := run_make_row' (P := Tryd.prog) 66 5 (.int .u8 0) 1 Tryd.underlying66 info_u8 rfl .i64 .i64 n (by omega) (by omega)
  have HL := hide (show ((lookR a b n y).map (·.1)).length = n by simp [lookR])
  have HM := hide (show ((lookR a b n y).map (·.2)).length = n by simp [lookR])
  have as1 := oka.s1
  have as2 := oka.s2
  have bs1 := okb.s1
  have bs2 := okb.s2
  have OA := hide oka
  have OB := hide okb
  clear oka okb
  go_enter Tryd.func12, Tryd.ntmps12
  go_wp2
  go_loopw [12] (fun i wr => ∃ k : Nat, i = .int .i64 k ∧ k ≤ n ∧ Fr [] w wr ∧ LookAt wr w.heap.size a b ((lookR a b n y).map (·.1)) ((lookR a b n y).map (·.2)) k) (fun i _ => (3000 - intOf i).toNat)
  case atStart =>
    refine ⟨0, rfl, by omega, ((((Fr.refl _ _).alloc _).alloc _).alloc _).alloc _, ?_⟩
    refine ⟨?_, ?_, ?_, ?_⟩
    · exact (((Blk.new _ a.vals _).alloc _).alloc _).alloc _
    · have := (((Blk.new (w.alloc (.cells a.vals.toArray 23)) b.vals 23).alloc (.cells (madeCells #[.int .u8 0] n) 5)).alloc (.cells (madeCells #[.int .u8 0] n) 5))
      rw [World.size_alloc] at this
      exact this
    · rw [fill_zero, HL.out, made_eq]
      have := (Blk.new ((w.alloc (.cells a.vals.toArray 23)).alloc (.cells b.vals.toArray 23)) (List.replicate n (.int .u8 0)) 5).alloc (.cells (List.replicate n (.int .u8 0)).toArray 5)
      rw [World.size_alloc, World.size_alloc] at this
      exact this
    · rw [fill_zero, HM.out, made_eq]
      have := Blk.new (((w.alloc (.cells a.vals.toArray 23)).alloc (.cells b.vals.toArray 23)).alloc (.cells (List.replicate n (.int .u8 0)).toArray 5)) (List.replicate n (.int .u8 0)) 5
      rw [World.size_alloc, World.size_alloc, World.size_alloc] at this
      exact this
  case round =>
    obtain ⟨k, rfl, hk, f, L⟩ := hrel
    by_cases hend : k < n
    · have g1 := hide (lookR_get a b n y k hend).1
      have g2 := hide (lookR_get a b n y k hend).2
      have hsz := L.s.lt
      have aa0 : wr.cell? ⟨w.heap.size, 0, none⟩ = some (.int .i64 a.key) := L.a.cell 0
      have aa1 : wr.cell? ⟨w.heap.size, 1, none⟩ = some (.int .i64 a.x) := L.a.cell 1
      have aa2 : wr.cell? ⟨w.heap.size, 2, none⟩ = some (.int .i64 a.y) := L.a.cell 2
      have aa3 : wr.cell? ⟨w.heap.size, 3, none⟩ = some (.int .i64 a.w) := L.a.cell 3
      have aa4 : wr.cell? ⟨w.heap.size, 4, none⟩ = some (.int .i64 a.h) := L.a.cell 4
      have aa5 : wr.cell? ⟨w.heap.size, 5, none⟩ = some (.int .i64 a.layer) := L.a.cell 5
      have aa6 : wr.cell? ⟨w.heap.size, 6, none⟩ = some (.int .i64 a.style) := L.a.cell 6
      have aa7 : wr.cell? ⟨w.heap.size, 7, none⟩ = some (.string a.text) := L.a.cell 7
      have bb0 : wr.cell? ⟨w.heap.size + 1, 0, none⟩ = some (.int .i64 b.key) := L.b.cell 0
      have bb1 : wr.cell? ⟨w.heap.size + 1, 1, none⟩ = some (.int .i64 b.x) := L.b.cell 1
      have bb2 : wr.cell? ⟨w.heap.size + 1, 2, none⟩ = some (.int .i64 b.y) := L.b.cell 2
      have bb3 : wr.cell? ⟨w.heap.size + 1, 3, none⟩ = some (.int .i64 b.w) := L.b.cell 3
      have bb4 : wr.cell? ⟨w.heap.size + 1, 4, none⟩ = some (.int .i64 b.h) := L.b.cell 4
      have bb5 : wr.cell? ⟨w.heap.size + 1, 5, none⟩ = some (.int .i64 b.layer) := L.b.cell 5
      have bb6 : wr.cell? ⟨w.heap.size + 1, 6, none⟩ = some (.int .i64 b.style) := L.b.cell 6
      have bb7 : wr.cell? ⟨w.heap.size + 1, 7, none⟩ = some (.string b.text) := L.b.cell 7
      obtain ⟨u, hu⟩ := fill_at ((lookR a b n y).map (·.1)) k (by rw [HL.out]; exact hend)
      obtain ⟨v, hv⟩ := fill_at ((lookR a b n y).map (·.2)) k (by rw [HM.out]; exact hend)
      have ck : wr.cell? ⟨w.heap.size + 2, k, none⟩ = some u := by rw [L.c.cell, hu]
      have sk : wr.cell? ⟨w.heap.size + 3, k, none⟩ = some v := by rw [L.s.cell, hv]
      have fc := L.c.frozen k
      have fs := L.s.frozen k
      have b1 : (k : Int) < n := by omega
      have lt0 : w.heap.size < wr.heap.size := by omega
      have lt1 : w.heap.size + 1 < wr.heap.size := by omega
      have lt2 : w.heap.size + 2 < wr.heap.size := by omega
      have lt3 : w.heap.size + 3 < wr.heap.size := by omega
      have LL := hide L
      have WA := hide (fun w' => kwithin_any a k y w' OA.out (by omega) (by omega) y1 y2)
      have WB := hide (fun w' => kwithin_any b k y w' OB.out (by omega) (by omega) y1 y2)
      have HC : Hid (lookC a b k y = if b.has k y = true ∧ (a.has k y = false ∨ a.layer ≤ b.layer) then (b.charK k y, b.style) else if a.has k y = true then (a.charK k y, a.style) else (32, 7)) := rfl
      clear L hu hv
      by_cases hb : b.has k y = true
      · have hh := hide hb
        by_cases ha : a.has k y = true
        · have hha := hide ha
          by_cases hl : a.layer ≤ b.layer
          · have E : Hid (lookC a b k y = (b.charK k y, b.style)) := by show _ = _; rw [HC.out, if_pos ⟨hb, .inr hl⟩]
            rw [ha] at WA
            rw [hb] at WB
            clear HC ha hb
            have CB := hide (kchar_any b k y)
            go_wp2_with fail
            refine (WA.out _).mono ?_
            rintro e w' ⟨rfl, rfl⟩
            go_wp2_with fail
            refine (WB.out _).mono ?_
            rintro e w' ⟨rfl, rfl⟩
            go_wp2_with fail
            refine (CB.out _ OB.out hh.out (by omega) (by omega) y1 y2).mono ?_
            rintro e w2 ⟨rfl, hw⟩
            have MD := hide (LL.out.mid f hw)
            have m6 : w2.cell? ⟨w.heap.size + 1, 6, none⟩ = some (.int .i64 b.style) := MD.out.b.cell 6
            have mc : w2.cell? ⟨w.heap.size + 2, k, none⟩ = some (.int .u8 32) := by rw [MD.out.c.cell, List.getElem?_set_self (fill_lt _ k (by rw [HL.out]; exact hend))]
            have ms : w2.cell? ⟨w.heap.size + 3, k, none⟩ = some (.int .u8 7) := by rw [MD.out.s.cell, List.getElem?_set_self (fill_lt _ k (by rw [HM.out]; exact hend))]
            have mz := MD.out.c.frozen k
            have my := MD.out.s.frozen k
            have mb := MD.out.s.lt
            clear hw aa0 aa1 aa2 aa3 aa4 aa5 aa6 aa7 bb0 bb1 bb2 bb3 bb4 bb5 bb6 bb7 ck sk fc fs
            go_wp2
            go_roundw
            case rel =>
              have S := MD.out.step (by rw [HL.out]; exact hend) (by rw [HM.out]; exact hend) _ _ (by rw [g1.out, E.out]) (by rw [g2.out, E.out])
              exact ⟨k + 1, by go_num, by omega, S.2, S.1⟩
            case measure => simp [intOf]; omega
          · have E : Hid (lookC a b k y = (a.charK k y, a.style)) := by show _ = _; rw [HC.out, if_neg (by simp [ha, hl]), if_pos ha]
            rw [ha] at WA
            rw [hb] at WB
            clear HC ha hb
            have CB := hide (kchar_any a k y)
            go_wp2_with fail
            refine (WA.out _).mono ?_
            rintro e w' ⟨rfl, rfl⟩
            go_wp2_with fail
            refine (WB.out _).mono ?_
            rintro e w' ⟨rfl, rfl⟩
            go_wp2_with fail
            refine (CB.out _ OA.out hha.out (by omega) (by omega) y1 y2).mono ?_
            rintro e w2 ⟨rfl, hw⟩
            have MD := hide (LL.out.mid f hw)
            have m6 : w2.cell? ⟨w.heap.size, 6, none⟩ = some (.int .i64 a.style) := MD.out.a.cell 6
            have mc : w2.cell? ⟨w.heap.size + 2, k, none⟩ = some (.int .u8 32) := by rw [MD.out.c.cell, List.getElem?_set_self (fill_lt _ k (by rw [HL.out]; exact hend))]
            have ms : w2.cell? ⟨w.heap.size + 3, k, none⟩ = some (.int .u8 7) := by rw [MD.out.s.cell, List.getElem?_set_self (fill_lt _ k (by rw [HM.out]; exact hend))]
            have mz := MD.out.c.frozen k
            have my := MD.out.s.frozen k
            have mb := MD.out.s.lt
            clear hw aa0 aa1 aa2 aa3 aa4 aa5 aa6 aa7 bb0 bb1 bb2 bb3 bb4 bb5 bb6 bb7 ck sk fc fs
            go_wp2
            go_roundw
            case rel =>
              have S := MD.out.step (by rw [HL.out]; exact hend) (by rw [HM.out]; exact hend) _ _ (by rw [g1.out, E.out]) (by rw [g2.out, E.out])
              exact ⟨k + 1, by go_num, by omega, S.2, S.1⟩
            case measure => simp [intOf]; omega
        · have ha' : a.has k y = false := by simpa using ha
          have E : Hid (lookC a b k y = (b.charK k y, b.style)) := by show _ = _; rw [HC.out, if_pos ⟨hb, .inl ha'⟩]
          rw [ha'] at WA
          rw [hb] at WB
          clear HC ha hb ha'
          have CB := hide (kchar_any b k y)
          go_wp2_with fail
          refine (WA.out _).mono ?_
          rintro e w' ⟨rfl, rfl⟩
          go_wp2_with fail
          refine (WB.out _).mono ?_
          rintro e w' ⟨rfl, rfl⟩
          go_wp2_with fail
          refine (CB.out _ OB.out hh.out (by omega) (by omega) y1 y2).mono ?_
          rintro e w2 ⟨rfl, hw⟩
          have MD := hide (LL.out.mid f hw)
          have m6 : w2.cell? ⟨w.heap.size + 1, 6, none⟩ = some (.int .i64 b.style) := MD.out.b.cell 6
          have mc : w2.cell? ⟨w.heap.size + 2, k, none⟩ = some (.int .u8 32) := by rw [MD.out.c.cell, List.getElem?_set_self (fill_lt _ k (by rw [HL.out]; exact hend))]
          have ms : w2.cell? ⟨w.heap.size + 3, k, none⟩ = some (.int .u8 7) := by rw [MD.out.s.cell, List.getElem?_set_self (fill_lt _ k (by rw [HM.out]; exact hend))]
          have mz := MD.out.c.frozen k
          have my := MD.out.s.frozen k
          have mb := MD.out.s.lt
          clear hw aa0 aa1 aa2 aa3 aa4 aa5 aa6 aa7 bb0 bb1 bb2 bb3 bb4 bb5 bb6 bb7 ck sk fc fs
          go_wp2
          go_roundw
          case rel =>
            have S := MD.out.step (by rw [HL.out]; exact hend) (by rw [HM.out]; exact hend) _ _ (by rw [g1.out, E.out]) (by rw [g2.out, E.out])
            exact ⟨k + 1, by go_num, by omega, S.2, S.1⟩
          case measure => simp [intOf]; omega
      · have hb' : b.has k y = false := by simpa using hb
        by_cases ha : a.has k y = true
        · have hha := hide ha
          have E : Hid (lookC a b k y = (a.charK k y, a.style)) := by show _ = _; rw [HC.out, if_neg (by simp [hb']), if_pos ha]
          rw [ha] at WA
          rw [hb'] at WB
          clear HC ha hb hb'
          have CB := hide (kchar_any a k y)
          go_wp2_with fail
          refine (WA.out _).mono ?_
          rintro e w' ⟨rfl, rfl⟩
          go_wp2_with fail
          refine (WB.out _).mono ?_
          rintro e w' ⟨rfl, rfl⟩
          go_wp2_with fail
          refine (CB.out _ OA.out hha.out (by omega) (by omega) y1 y2).mono ?_
          rintro e w2 ⟨rfl, hw⟩
          have MD := hide (LL.out.mid f hw)
          have m6 : w2.cell? ⟨w.heap.size, 6, none⟩ = some (.int .i64 a.style) := MD.out.a.cell 6
          have mc : w2.cell? ⟨w.heap.size + 2, k, none⟩ = some (.int .u8 32) := by rw [MD.out.c.cell, List.getElem?_set_self (fill_lt _ k (by rw [HL.out]; exact hend))]
          have ms : w2.cell? ⟨w.heap.size + 3, k, none⟩ = some (.int .u8 7) := by rw [MD.out.s.cell, List.getElem?_set_self (fill_lt _ k (by rw [HM.out]; exact hend))]
          have mz := MD.out.c.frozen k
          have my := MD.out.s.frozen k
          have mb := MD.out.s.lt
          clear hw aa0 aa1 aa2 aa3 aa4 aa5 aa6 aa7 bb0 bb1 bb2 bb3 bb4 bb5 bb6 bb7 ck sk fc fs
          go_wp2
          go_roundw
          case rel =>
            have S := MD.out.step (by rw [HL.out]; exact hend) (by rw [HM.out]; exact hend) _ _ (by rw [g1.out, E.out]) (by rw [g2.out, E.out])
            exact ⟨k + 1, by go_num, by omega, S.2, S.1⟩
          case measure => simp [intOf]; omega
        · have ha' : a.has k y = false := by simpa using ha
          have E : Hid (lookC a b k y = (32, 7)) := by show _ = _; rw [HC.out, if_neg (by simp [hb']), if_neg ha]
          rw [ha'] at WA
          rw [hb'] at WB
          clear HC ha hb hb' ha'
          go_wp2_with fail
          refine (WA.out _).mono ?_
          rintro e w' ⟨rfl, rfl⟩
          go_wp2_with fail
          refine (WB.out _).mono ?_
          rintro e w' ⟨rfl, rfl⟩
          go_wp2
          go_roundw
          case rel =>
            have S := LL.out.step (by rw [HL.out]; exact hend) (by rw [HM.out]; exact hend) 32 7 (by rw [g1.out, E.out]) (by rw [g2.out, E.out])
            exact ⟨k + 1, by go_num, by omega, ((S.2 _ f rfl).alloc _).alloc _, S.1.fr0 (((Fr.refl _ _).alloc _).alloc _)⟩
          case measure => simp [intOf]; omega
    · have e1 : k = ((lookR a b n y).map (·.1)).length := by rw [HL.out]; omega
      have e2 : k = ((lookR a b n y).map (·.2)).length := by rw [HM.out]; omega
      have kc : (convert 66 9 (.slice (some ⟨w.heap.size + 2, 0, none⟩) n n)).run Tryd.prog wr.drew = .ok (.string (strOfNums ((lookR a b n y).map (·.1)))) wr.drew := by
        have := blk_string (cap := n) (by have := L.c; rw [e1, fill_all] at this; exact this.drew)
        rw [HL.out] at this
        exact this
      have ks : (convert 66 9 (.slice (some ⟨w.heap.size + 3, 0, none⟩) n n)).run Tryd.prog wr.drew = .ok (.string (strOfNums ((lookR a b n y).map (·.2)))) wr.drew := by
        have := blk_string (cap := n) (by have := L.s; rw [e2, fill_all] at this; exact this.drew)
        rw [HM.out] at this
        exact this
      clear L e1 e2
      go_wp2
      go_region
      go_wp2
      go_ret2
      exact ⟨rfl, f.drew⟩
end Go.Proofs.YtjhccghhinlmdaaDoor
