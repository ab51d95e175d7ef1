/- The document's terminal (package repaintref): where it lies, and its small functions. -/
import Derived.Test.YtjhccghhinlmdabGreatDoorStr
namespace Go.Proofs.YtjhccghhinlmdabGreatDoor
open Go.RowKit

def flatR (l : List (Int × Int)) : List Value := l.flatMap fun c => [.int .u8 c.1, .int .i64 c.2]
theorem flatR_length (l : List (Int × Int)) : (flatR l).length = l.length * 2 := by
  induction l with
  | nil => rfl
  | cons c l ih => simp [flatR] at ih ⊢; omega
theorem flatR_cons (c : Int × Int) (l : List (Int × Int)) : flatR (c :: l) = .int .u8 c.1 :: .int .i64 c.2 :: flatR l := by simp [flatR]
theorem flatR_append (l r : List (Int × Int)) : flatR (l ++ r) = flatR l ++ flatR r := by simp [flatR]
theorem flatR_chr (l : List (Int × Int)) (k : Nat) (h : k < l.length) : (flatR l)[k * 2]? = some (.int .u8 (chr l k)) := by
  induction l generalizing k with
  | nil => simp at h
  | cons c l ih =>
    cases k with
    | zero => simp [flatR_cons, chr]
    | succ k =>
      have e : (k + 1) * 2 = k * 2 + 1 + 1 := by omega
      rw [flatR_cons, e, List.getElem?_cons_succ, List.getElem?_cons_succ, ih k (by simpa using h)]
      simp [chr]
theorem flatR_sty (l : List (Int × Int)) (k : Nat) (h : k < l.length) : (flatR l)[k * 2 + 1]? = some (.int .i64 (sty l k)) := by
  induction l generalizing k with
  | nil => simp at h
  | cons c l ih =>
    cases k with
    | zero => simp [flatR_cons, sty]
    | succ k =>
      have e : (k + 1) * 2 + 1 = (k * 2 + 1) + 1 + 1 := by omega
      rw [flatR_cons, e, List.getElem?_cons_succ, List.getElem?_cons_succ, ih k (by simpa using h)]
      simp [sty]
theorem flatR_set (l : List (Int × Int)) (k : Nat) (c s : Int) : ((flatR l).set (k * 2) (.int .u8 c)).set (k * 2 + 1) (.int .i64 s) = flatR (l.set k (c, s)) := by
  induction l generalizing k with
  | nil => simp [flatR]
  | cons d l ih =>
    cases k with
    | zero => simp [flatR_cons]
    | succ k =>
      have e : (k + 1) * 2 = (k * 2) + 1 + 1 := by omega
      have e1 : (k + 1) * 2 + 1 = (k * 2 + 1) + 1 + 1 := by omega
      rw [flatR_cons, e1, e, List.set_cons_succ, List.set_cons_succ, List.set_cons_succ, List.set_cons_succ, ih k, List.set_cons_succ, flatR_cons]

/-- a row of the document's cells lies at the head of block bc -/
structure RRow (w : World) (bc cap : Nat) (sp : List Value) (l : List (Int × Int)) : Prop where
  row : Blk w bc (flatR l ++ sp) 84
  capLe : l.length ≤ cap

theorem RRow.cells {w : World} {bc cap : Nat} {sp : List Value} {l : List (Int × Int)} (g : RRow w bc cap sp l) (k : Nat) (hk : k < l.length) :
    w.cell? ⟨bc, k * 2, none⟩ = some (.int .u8 (chr l k)) ∧ w.cell? ⟨bc, k * 2 + 1, none⟩ = some (.int .i64 (sty l k)) := by
  have hf := flatR_length l
  constructor
  · rw [g.row.cell, List.getElem?_append_left (by omega), flatR_chr l k hk]
  · rw [g.row.cell, List.getElem?_append_left (by omega), flatR_sty l k hk]
theorem RRow.set {w : World} {bc cap : Nat} {sp : List Value} {l : List (Int × Int)} (g : RRow w bc cap sp l) (k : Nat) (hk : k < l.length) (c s : Int) :
    RRow ((w.setCell ⟨bc, k * 2, none⟩ (.int .u8 c)).setCell ⟨bc, k * 2 + 1, none⟩ (.int .i64 s)) bc cap sp (l.set k (c, s)) := by
  have hf := flatR_length l
  refine ⟨?_, by simpa using g.capLe⟩
  have := (g.row.set (k * 2) (.int .u8 c)).set (k * 2 + 1) (.int .i64 s)
  rwa [List.set_append_left _ _ (by omega), List.set_append_left _ _ (by rw [List.length_set]; omega), flatR_set] at this
theorem RRow.fr {w w' : World} {S : List Nat} {bc cap : Nat} {sp : List Value} {l : List (Int × Int)} (g : RRow w bc cap sp l) (f : Fr S w w') (h : bc ∉ S) : RRow w' bc cap sp l := ⟨g.row.fr f h, g.capLe⟩
theorem RRow.fr0 {w w' : World} {bc cap : Nat} {sp : List Value} {l : List (Int × Int)} (g : RRow w bc cap sp l) (f : Fr [] w w') : RRow w' bc cap sp l := g.fr f (by simp)
/-- a slice that owns such a row -/
theorem RRow.of {w : World} {base : Nat} {v : Value} {n : Nat} {l : List (Int × Int)} (h : w.ownsRow base 84 2 v n (flatR l)) (hn : l.length = n) (h1 : 1 ≤ n) :
    ∃ bc cap sp, v = .slice (some ⟨bc, 0, none⟩) n cap ∧ base ≤ bc ∧ RRow w bc cap sp l := by
  rcases h.2 with ⟨_, h0⟩ | ⟨g, cap, cur, rfl, hb, hg, hc1, hc2, hc3, hc4⟩
  · omega
  · refine ⟨g, cap, cur.toList.drop (n * 2), rfl, hb, ?_, by omega⟩
    rw [← hc4, List.take_append_drop]; exact hg

/-- the document's terminal, as plain data -/
structure R where
  W : Int
  H : Int
  cells : List (Int × Int)
  x : Int
  y : Int
  hidden : Bool
  full : Bool
  pen : Int
  begun : ByteArray

structure RGh where
  bc : Nat
  cap : Nat
  sp : List Value

def rstOf (g : RGh) (r : R) : List Value := [.int .i64 r.W, .int .i64 r.H, .slice (some ⟨g.bc, 0, none⟩) r.cells.length g.cap, .int .i64 r.x, .int .i64 r.y, .bool r.hidden, .bool r.full, .int .i64 r.pen, .string r.begun]

structure R.Ok (r : R) : Prop where
  w1 : 1 ≤ r.W
  w2 : r.W ≤ 40
  h1 : 1 ≤ r.H
  h2 : r.H ≤ 20
  len : (r.cells.length : Int) = r.W * r.H
  x0 : 0 ≤ r.x
  x1 : r.x < r.W
  y0 : 0 ≤ r.y
  y1 : r.y < r.H
  p0 : 0 ≤ r.pen
  p1 : r.pen ≤ 15

structure RefAt (w : World) (b : Nat) (g : RGh) (r : R) : Prop where
  st : Blk w b (rstOf g r) 59
  row : RRow w g.bc g.cap g.sp r.cells
  ok : r.Ok

def rfoot (b : Nat) (g : RGh) : List Nat := [b, g.bc]

theorem RefAt.bc {w : World} {b : Nat} {g : RGh} {r : R} (h : RefAt w b g r) : b ≠ g.bc := h.st.ne h.row.row (by decide)
theorem RefAt.cells {w : World} {b : Nat} {g : RGh} {r : R} (h : RefAt w b g r) :
    w.cell? ⟨b, 0, none⟩ = some (.int .i64 r.W) ∧ w.cell? ⟨b, 1, none⟩ = some (.int .i64 r.H) ∧ w.cell? ⟨b, 2, none⟩ = some (.slice (some ⟨g.bc, 0, none⟩) r.cells.length g.cap) ∧ w.cell? ⟨b, 3, none⟩ = some (.int .i64 r.x) ∧
    w.cell? ⟨b, 4, none⟩ = some (.int .i64 r.y) ∧ w.cell? ⟨b, 5, none⟩ = some (.bool r.hidden) ∧ w.cell? ⟨b, 6, none⟩ = some (.bool r.full) ∧ w.cell? ⟨b, 7, none⟩ = some (.int .i64 r.pen) ∧ w.cell? ⟨b, 8, none⟩ = some (.string r.begun) :=
  ⟨h.st.cell 0, h.st.cell 1, h.st.cell 2, h.st.cell 3, h.st.cell 4, h.st.cell 5, h.st.cell 6, h.st.cell 7, h.st.cell 8⟩
theorem RefAt.fr {w w' : World} {S : List Nat} {b : Nat} {g : RGh} {r : R} (h : RefAt w b g r) (f : Fr S w w') (hn : ∀ x ∈ rfoot b g, x ∉ S) : RefAt w' b g r :=
  ⟨h.st.fr f (hn _ (by simp [rfoot])), h.row.fr f (hn _ (by simp [rfoot])), h.ok⟩
theorem RefAt.fr0 {w w' : World} {b : Nat} {g : RGh} {r : R} (h : RefAt w b g r) (f : Fr [] w w') : RefAt w' b g r := h.fr f (by simp)
theorem RefAt.lt {w : World} {b : Nat} {g : RGh} {r : R} (h : RefAt w b g r) : ∀ x ∈ rfoot b g, x < w.heap.size := by
  intro x hx
  simp only [rfoot, List.mem_cons, List.not_mem_nil, or_false] at hx
  rcases hx with rfl | rfl
  · exact h.st.lt
  · exact h.row.row.lt
/-- its own block has been written -/
theorem RefAt.write {w w' : World} {b : Nat} {g : RGh} {r r' : R} (h : RefAt w b g r) (f : Fr [b] w w') (hs : Blk w' b (rstOf g r') 59) (e : r'.cells = r.cells) (ok : r'.Ok) : RefAt w' b g r' :=
  ⟨hs, by rw [e]; exact h.row.fr f (by simpa using h.bc.symm), ok⟩
theorem RefAt.bd {w : World} {b : Nat} {g : RGh} {r : R} (h : RefAt w b g r) : 1 ≤ r.cells.length ∧ r.cells.length ≤ 800 := by
  have := mul_bd h.ok.w1 h.ok.w2 h.ok.h1 h.ok.h2; have := h.ok.len; omega
theorem RefAt.idx {w : World} {b : Nat} {g : RGh} {r : R} (h : RefAt w b g r) : 0 ≤ r.W * r.y ∧ r.W * r.y ≤ 800 ∧ r.W * r.y + r.x < r.cells.length ∧ r.W * r.y + r.x < 800 := by
  have := idx_bd h.ok.w2 h.ok.h2 h.ok.x0 h.ok.x1 h.ok.y0 h.ok.y1
  have := h.ok.len
  have := h.bd
  rw [Int.mul_comm r.W r.y]
  omega

set_option maxHeartbeats 400000 in
theorem rsize_yes (a b : Int) (w : World) (h1 : 1 ≤ a) (h2 : a ≤ 40) (h3 : 1 ≤ b) (h4 : b ≤ 20) :
    Calls Tryz.prog 14 #[.int .i64 a, .int .i64 b] w fun e w' => e = .returned (.bool true) ∧ w = w' := by
  go_enter Tryz.func14, Tryz.ntmps14
  go_wp2
  go_ret
  exact ⟨rfl, rfl⟩
set_option maxHeartbeats 400000 in
theorem rsize_no (a b : Int) (w : World) (h : sizeB a b = false) :
    Calls Tryz.prog 14 #[.int .i64 a, .int .i64 b] w fun e w' => e = .returned (.bool false) ∧ w = w' := by
  have h' : ¬ (1 ≤ a ∧ a ≤ 40 ∧ 1 ≤ b ∧ b ≤ 20) := by simp [sizeB] at h; omega
  clear h
  go_enter Tryz.func14, Tryz.ntmps14
  go_wp2
  all_goals go_ret
  all_goals exact ⟨by simp; try omega, rfl⟩
set_option maxHeartbeats 400000 in
theorem rblank_any (w : World) :
    Calls Tryz.prog 34 #[] w fun e w' => e = .returned (.agg #[.int .u8 32, .int .i64 7]) ∧ w' = w.alloc (.cells #[.int .u8 32, .int .i64 7] 84) := by
  go_enter Tryz.func34, Tryz.ntmps34
  go_wp2
  exact bodyPost_ret (v := .agg #[.int .u8 32, .int .i64 7]) (by simp [results, Tryz.results34, go_sem]) rfl ⟨rfl, rfl⟩

def least (a b : Int) : Int := if a < b then a else b
set_option maxHeartbeats 400000 in
theorem least_any (a b : Int) (w : World) :
    Calls Tryz.prog 40 #[.int .i64 a, .int .i64 b] w fun e w' => e = .returned (.int .i64 (least a b)) ∧ w = w' := by
  by_cases h : a < b
  · have E := hide (show least a b = a by simp [least, h])
    go_enter Tryz.func40, Tryz.ntmps40
    go_wp2
    go_ret
    exact ⟨ret_int E.out.symm, rfl⟩
  · have E := hide (show least a b = b by simp [least, h])
    go_enter Tryz.func40, Tryz.ntmps40
    go_wp2
    go_ret
    exact ⟨ret_int E.out.symm, rfl⟩

def oneI (n : Int) : Int := if n = 0 then 1 else n
set_option maxHeartbeats 400000 in
theorem one_any (n : Int) (w : World) :
    Calls Tryz.prog 83 #[.int .i64 n] w fun e w' => e = .returned (.int .i64 (oneI n)) ∧ w = w' := by
  by_cases h : n = 0
  · subst h
    go_enter Tryz.func83, Tryz.ntmps83
    go_wp2
    go_ret
    exact ⟨rfl, rfl⟩
  · have E := hide (show oneI n = n by simp [oneI, h])
    have hb : (n == 0) = false := by simpa using h
    clear h
    go_enter Tryz.func83, Tryz.ntmps83
    go_wp2
    go_ret
    exact ⟨ret_int E.out.symm, rfl⟩

theorem info_rcell : (Tryz.prog.info? 84).map (fun i => (i.zero, i.size, i.bytes)) = some (some (.agg #[.int .u8 0, .int .i64 0]), 2, 16) := by kernel_rfl

theorem flatR_snoc (l : List (Int × Int)) (c : Int × Int) : flatR l ++ [.int .u8 c.1, .int .i64 c.2] = flatR (l ++ [c]) := by
  rw [flatR_append]; rfl

theorem new_blk (w : World) (o : Obj) (n : Nat) (hn : n = w.heap.size) : (w.alloc o).heap[n]? = some o := by subst hn; exact heap_alloc_new w o

/-- so many blank cells in new memory -/
def BlanksPost (w : World) (n : Nat) (e : Ending) (w' : World) : Prop :=
  ∃ v, e = .returned v ∧ Fr [] w w' ∧ w'.ownsRow w.heap.size 84 2 v n (flatR (List.replicate n (32, 7)))

set_option maxHeartbeats 1000000 in
set_option maxRecDepth 100000 in
theorem blanks_any (n : Nat) (w : World) (hn : n ≤ 800) : Calls Tryz.prog 15 #[.int .i64 n] w (BlanksPost w n) := by
  obtain ⟨i0, hi, hz0, hz1, hz2⟩ := info_parts info_rcell
  go_enter Tryz.func15, Tryz.ntmps15
  go_wp2
  go_loopw [3, 4] (fun v i wr => ∃ k : Nat, i = .int .i64 k ∧ k ≤ n ∧ Fr [] w wr ∧ wr.ownsRow w.heap.size 84 2 v k (flatR (List.replicate k (32, 7)))) (fun _ i _ => (3000 - intOf i).toNat)
  case atStart => exact ⟨0, rfl, by omega, Fr.refl _ _, World.ownsRow_nil _ _ _ _⟩
  case round =>
    obtain ⟨k, rfl, hk, f, hown⟩ := hrel
    have HO := hide hown
    have hsz := f.size
    clear hown
    by_cases hlt : k < n
    · go_wp2_with (first | (at_builtin; refine wpList_append_lies _ rfl (.tmp 12) (.tmp 14) 56 rfl w.heap.size 84 i0 (.agg #[.int .u8 0, .int .i64 0]) 2 16 Tryz.underlying56 hi hz0 hz1 hz2 rfl (by decide) u3 k (flatR (List.replicate k (32, 7))) rfl (own_fr0 HO.out (by repeat first | exact Fr.refl _ _ | apply Fr.drew | apply Fr.alloc)) ⟨wr.heap.size + 2, 0, none⟩ 1 1 [.int .u8 32, .int .i64 7] rfl rfl (World.news_of_block (cs := #[.int .u8 32, .int .i64 7]) (t := 84) (fr := (0, 0)) (new_blk _ _ _ (by simp))) (two_one _ _ rfl rfl) (by omega) (by unfold maxLen; omega) (by omega) (by simp; omega) (wr.heap.size + 3) (by simp) ?_; intro g1 cap1 w1 hown1 hgrow hat hlt1; have R1 : Hid (Fr [] w w1 ∧ w1.ownsRow w.heap.size 84 2 (.slice (some ⟨g1, 0, none⟩) (k + 1) cap1) (k + 1) (flatR (List.replicate (k + 1) (32, 7)))) := ⟨Fr.grown (((f.alloc _).alloc _).alloc _) hgrow (fun j hj => .inr (HO.out.lt j hj).1), (by rw [List.replicate_succ', ← flatR_snoc]; exact hown1)⟩; clear hown1 hgrow hat) | (go_at_call 34; refine (rblank_any _).mono ?_; rintro e w' ⟨rfl, rfl⟩))
      go_roundw
      case rel => exact ⟨k + 1, by go_num, by omega, R1.out.1, R1.out.2⟩
      case measure => simp [intOf]; omega
    · have e : k = n := by omega
      subst e
      go_wp2
      go_ret
      exact ⟨_, rfl, f, HO.out⟩

def R.new (W H : Int) : R := { W := W, H := H, cells := List.replicate (W * H).toNat (32, 7), x := 0, y := 0, hidden := false, full := false, pen := 7, begun := ByteArray.empty }
theorem R.new_ok (W H : Int) (h1 : 1 ≤ W) (h2 : W ≤ 40) (h3 : 1 ≤ H) (h4 : H ≤ 20) : (R.new W H).Ok := by
  have := mul_bd h1 h2 h3 h4
  exact ⟨h1, h2, h3, h4, by simp [R.new]; omega, by simp [R.new], by simp only [R.new]; omega, by simp [R.new], by simp only [R.new]; omega, by simp [R.new], by simp [R.new]⟩

set_option maxHeartbeats 400000 in
theorem newTerm_no (W H : Int) (w : World) (h : sizeB W H = false) :
    Calls Tryz.prog 8 #[.int .i64 W, .int .i64 H] w fun e w' => e = .returned (.tuple #[.pointer none, .int .i64 2]) ∧ w = w' := by
  go_enter Tryz.func8, Tryz.ntmps8
  go_wp2_with (go_at_call 14; refine (rsize_no _ _ _ h).mono ?_; rintro e w' ⟨rfl, rfl⟩)
  go_ret2
  exact ⟨rfl, rfl⟩

def RefPost (w : World) (W H : Int) (e : Ending) (w' : World) : Prop :=
  ∃ b g, e = .returned (.tuple #[.pointer (some ⟨b, 0, none⟩), .int .i64 0]) ∧ (∀ x ∈ rfoot b g, w.heap.size ≤ x) ∧ Fr [] w w' ∧ RefAt w' b g (R.new W H)

set_option maxHeartbeats 400000 in
theorem newTerm_yes (W H : Int) (w : World) (h1 : 1 ≤ W) (h2 : W ≤ 40) (h3 : 1 ≤ H) (h4 : H ≤ 20) :
    Calls Tryz.prog 8 #[.int .i64 W, .int .i64 H] w (RefPost w W H) := by
  obtain ⟨m1, m2⟩ := mul_bd h1 h2 h3 h4
  obtain ⟨n, hn⟩ := Int.eq_ofNat_of_zero_le (show 0 ≤ W * H by omega)
  have HN := hide hn
  have hn2 : n ≤ 800 := by omega
  have hn1 : 1 ≤ n := by omega
  clear hn
  go_enter Tryz.func8, Tryz.ntmps8
  go_wp2_with (go_at_call 14; refine (rsize_yes _ _ _ h1 h2 h3 h4).mono ?_; rintro e w' ⟨rfl, rfl⟩)
  rw [HN.out]
  refine (blanks_any n _ hn2).mono ?_
  rintro e w1 ⟨v, rfl, f, ho⟩
  obtain ⟨bc, cap, sp, rfl, hb, hr⟩ := RRow.of ho (by simp) hn1
  have HR := hide hr
  clear ho hr
  go_wp2
  go_ret2
  refine ⟨w1.heap.size, ⟨bc, cap, sp⟩, rfl, ?_, f.alloc _, ?_⟩
  · have := f.size
    intro b hb
    simp only [rfoot, List.mem_cons, List.not_mem_nil, or_false] at hb
    rcases hb with rfl | rfl <;> omega
  · have e : (W * H).toNat = n := by rw [HN.out]; rfl
    refine ⟨?_, ?_, R.new_ok W H h1 h2 h3 h4⟩
    · have := Blk.new w1 (rstOf ⟨bc, cap, sp⟩ (R.new W H)) 59
      simp only [rstOf, R.new, List.length_replicate, e] at this ⊢
      exact this
    · simp only [R.new, e]
      exact HR.out.fr0 ((Fr.refl _ _).alloc _)
end Go.Proofs.YtjhccghhinlmdabGreatDoor
