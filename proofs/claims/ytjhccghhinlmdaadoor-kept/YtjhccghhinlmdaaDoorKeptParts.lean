/- Kept's small functions. -/
import Derived.Test.YtjhccghhinlmdaaDoorKeptPure
import Derived.Test.YtjhccghhinlmdaaDoorKeepShows
namespace Go.Proofs.YtjhccghhinlmdaaDoor
open Go.RowKit

def leastF (a b : Int) : Int := if a < b then a else b
set_option maxHeartbeats 400000 in
theorem least_any (a b : Int) (w : World) :
    Calls Tryd.prog 22 #[.int .i64 a, .int .i64 b] w fun e w' => e = .returned (.int .i64 (leastF a b)) ∧ w = w' := by
  by_cases h : a < b
  · have E : Hid (leastF a b = a) := if_pos h
    go_enter Tryd.func22, Tryd.ntmps22
    go_wp2
    go_ret
    exact ⟨ret_int E.out.symm, rfl⟩
  · have E : Hid (leastF a b = b) := if_neg h
    go_enter Tryd.func22, Tryd.ntmps22
    go_wp2
    go_ret
    exact ⟨ret_int E.out.symm, rfl⟩
def mostF (a b : Int) : Int := if a > b then a else b
set_option maxHeartbeats 400000 in
theorem most_any (a b : Int) (w : World) :
    Calls Tryd.prog 21 #[.int .i64 a, .int .i64 b] w fun e w' => e = .returned (.int .i64 (mostF a b)) ∧ w = w' := by
  by_cases h : a > b
  · have E : Hid (mostF a b = a) := if_pos h
    go_enter Tryd.func21, Tryd.ntmps21
    go_wp2
    go_ret
    exact ⟨ret_int E.out.symm, rfl⟩
  · have E : Hid (mostF a b = b) := if_neg h
    go_enter Tryd.func21, Tryd.ntmps21
    go_wp2
    go_ret
    exact ⟨ret_int E.out.symm, rfl⟩
set_option maxHeartbeats 400000 in
theorem slit_any (key : Int) (s : ByteArray) (w : World) :
    Calls Tryd.prog 17 #[.int .i64 key, .string s] w fun e w' => e = .returned (.agg #[.int .i64 key, .int .i64 0, .int .i64 0, .int .i64 1, .int .i64 1, .int .i64 0, .int .i64 3, .string s]) ∧ Fr [] w w' := by
  go_enter Tryd.func17, Tryd.ntmps17
  go_wp2
  refine bodyPost_ret (v := .agg #[.int .i64 key, .int .i64 0, .int .i64 0, .int .i64 1, .int .i64 1, .int .i64 0, .int .i64 3, .string s]) (by simp [results, Tryd.results17, go_sem]) rfl ?_
  exact ⟨rfl, by first | exact (Fr.refl _ _).alloc _ | exact (((((((((Fr.refl _ _).alloc _).setCell (.inr (by simp)) _).setCell (.inr (by simp)) _).setCell (.inr (by simp)) _).setCell (.inr (by simp)) _).setCell (.inr (by simp)) _).setCell (.inr (by simp)) _).setCell (.inr (by simp)) _).setCell (.inr (by simp)) _⟩

theorem colN_size (n : Nat) (h : n ≤ 25) : (colN n).length ≤ 51 := by rw [colN_length]; omega

set_option maxHeartbeats 2000000 in
set_option maxRecDepth 100000 in
theorem column_any (n : Nat) (w : World) (h : n ≤ 25) :
    Calls Tryd.prog 18 #[.int .i64 (1 + (n : Int))] w fun e w' => e = .returned (.string (colS n)) ∧ Fr [] w w' := by
  obtain ⟨i0, hi, hz0, hz1, hz2⟩ := info_parts info_u8
  go_enter Tryd.func18, Tryd.ntmps18
  go_wp2
  go_loopw [3, 4] (fun u i wr => ∃ k : Nat, i = .int .i64 ((k : Int) + 1) ∧ k ≤ n ∧ Fr [] w wr ∧ wr.ownsRow w.heap.size 5 1 u (2 * k + 1) ((colN k).map (Value.int .u8))) (fun _ i _ => (3000 - intOf i).toNat)
  case atStart =>
    exact ⟨0, rfl, by omega, (Fr.refl _ _).alloc _, rfl, .inr ⟨w.heap.size, 1, #[.int .u8 97], rfl, Nat.le_refl _, heap_alloc_new w _, by decide, by unfold maxLen; omega, rfl, rfl⟩⟩
  case round =>
    obtain ⟨k, rfl, hk, f, hown⟩ := hrel
    have hsz := f.size
    by_cases hend : k < n
    · have HO := hide hown
      clear hown
      go_wp2_with (first | (at_builtin; refine wpList_append_lies _ rfl (.tmp 11) (.tmp 12) 66 rfl w.heap.size 5 i0 (.int .u8 0) 1 1 Tryd.underlying66 hi hz0 hz1 hz2 rfl (by decide) u3 (2 * k + 1) ((colN k).map (Value.int .u8)) rfl (own_fr0 HO.out ((Fr.refl _ _).alloc _)) ⟨wr.heap.size, 0, none⟩ 1 1 [.int .u8 10] rfl rfl (World.news_of_block (cs := #[.int .u8 10]) (t := 5) (fr := (0, 0)) (by exact heap_alloc_new wr _)) (one_one _ rfl) (by omega) (by unfold maxLen; omega) (by omega) (by simp; omega) (wr.heap.size + 1) (by simp) ?_; intro g1 cap1 w1 hown1 hgrow hat hlt1; have F1 : Hid (Fr [] w w1) := (Fr.grown (f.alloc _) hgrow (fun j hj => .inr (HO.out.lt j hj).1)); have hsz1 := F1.out.size; have H1 := hide hown1; clear hown1 hgrow hat) | (at_builtin; refine wpList_append_lies _ rfl (.tmp 14) (.tmp 18) 66 rfl w.heap.size 5 i0 (.int .u8 0) 1 1 Tryd.underlying66 hi hz0 hz1 hz2 rfl (by decide) (.slice (some ⟨g1, 0, none⟩) (2 * k + 1 + 1) cap1) (2 * k + 1 + 1) ((colN k).map (Value.int .u8) ++ [.int .u8 10]) rfl (own_fr0 H1.out ((Fr.refl _ _).alloc _)) ⟨w1.heap.size, 0, none⟩ 1 1 [.int .u8 (97 + ((k : Int) + 1))] rfl rfl (World.news_of_block (cs := #[.int .u8 (97 + ((k : Int) + 1))]) (t := 5) (fr := (0, 0)) (by exact heap_alloc_new w1 _)) (one_one _ rfl) (by omega) (by unfold maxLen; omega) (by omega) (by simp; omega) (w1.heap.size + 1) (by simp) ?_; intro g2 cap2 w2 hown2 hgrow2 hat2 hlt2; have F2 : Hid (Fr [] w w2) := (Fr.grown (F1.out.alloc _) hgrow2 (fun j hj => .inr (H1.out.lt j hj).1)); have H2 := hide hown2; clear hown2 hgrow2 hat2))
      go_roundw
      case rel =>
        refine ⟨k + 1, by go_num, by omega, F2.out, ?_⟩
        have := H2.out
        rw [colN]
        simpa [List.append_assoc, Nat.mul_add] using this
      case measure => simp [intOf]; omega
    · have hk' : k = n := by omega
      subst hk'
      obtain ⟨g, cap, rfl, kc⟩ := own_string (src := 66) (dst := 9) hown (by omega) Tryd.underlying66 Tryd.underlying5 Tryd.underlying9
      have kc2 := kc wr (Fr.refl _ _)
      have E : Hid (colS k = strOfNums (colN k)) := rfl
      rw [← E.out] at kc2
      clear hown kc
      go_wp2
      go_ret
      exact ⟨rfl, f⟩

theorem str_at (L : List Int) (hb : ∀ c ∈ L, 0 ≤ c ∧ c ≤ 255) (k : Nat) (h : k < (strOfNums L).size) : ((strOfNums L)[k].toNat : Int) = L.getD k 0 := by
  rw [← byteAt_eq _ k h]
  unfold byteAt
  rw [nums_str L hb]

theorem V.cell_bd (v : V) (hv : v.Ok) (x y : Int) : (0 ≤ (v.cell x y).1 ∧ (v.cell x y).1 ≤ 255) ∧ 0 ≤ (v.cell x y).2 ∧ (v.cell x y).2 ≤ 255 := by
  unfold V.cell
  cases h : v.best x y v.length with
  | none => simp
  | some j =>
    have ok := (hv.at (v.best_lt x y _ j h)).1
    have := charF_bd (cutF (v.at j).1.text (v.at j).1.w) (x - (v.at j).1.x) (y - (v.at j).1.y + (v.at j).2)
    have h1 := ok.s1
    have h2 := ok.s2
    simp only [Win.cell]
    omega

set_option maxHeartbeats 2000000 in
set_option maxRecDepth 100000 in
theorem letter_any (w : World) (b bt : Nat) (g : PGh) (m : Pt) (h : PntAt w b g m) (n : Int) (Wn Hn : Nat) (hW : m.W = Wn) (hH : m.H = Hn) (hc : m.v.cell 0 0 = (97 + n, 3)) (n1 : 0 ≤ n) (n2 : n ≤ 25) :
    Calls Tryd.prog 19 #[.agg #[.pointer (some ⟨b, 0, none⟩), .pointer (some ⟨bt, 0, none⟩), .int .i64 (Wn : Int), .int .i64 (Hn : Int)], .int .i64 n] w fun e w' => e = .returned (.bool true) ∧ Fr [] w w' := by
  have FA : Hid (Fr [] w (w.alloc (.cells #[.pointer (some ⟨b, 0, none⟩), .pointer (some ⟨bt, 0, none⟩), .int .i64 (Wn : Int), .int .i64 (Hn : Int)] 27))) := (Fr.refl _ _).alloc _
  have g1 := h.gr.w1
  have g2 := h.gr.w2
  have g3 := h.gr.h1
  have PR := hide (prow_yes _ b g m (h.fr0 FA.out) 0 (by omega) (by omega))
  have hrow := rowOf_grid m.v Wn Hn 0 (by omega) (by omega)
  rw [hW, hH] at PR
  rw [hrow] at PR
  have hok := h.ok
  have b1 : ∀ c ∈ ((List.range Wn).map fun (x : Nat) => m.v.cell x 0).map (·.1), 0 ≤ c ∧ c ≤ 255 := by
    intro c hcm
    simp only [List.map_map, List.mem_map] at hcm
    obtain ⟨x, _, rfl⟩ := hcm
    exact (V.cell_bd m.v hok x 0).1
  have b2 : ∀ c ∈ ((List.range Wn).map fun (x : Nat) => m.v.cell x 0).map (·.2), 0 ≤ c ∧ c ≤ 255 := by
    intro c hcm
    simp only [List.map_map, List.mem_map] at hcm
    obtain ⟨x, _, rfl⟩ := hcm
    exact (V.cell_bd m.v hok x 0).2
  have wn1 : 1 ≤ Wn := by omega
  have z1 : (strOfNums (((List.range Wn).map fun (x : Nat) => m.v.cell x 0).map (·.1))).size = Wn := by rw [strOfNums_size]; simp
  have z2 : (strOfNums (((List.range Wn).map fun (x : Nat) => m.v.cell x 0).map (·.2))).size = Wn := by rw [strOfNums_size]; simp
  have c1 : ∀ hh : 0 < (strOfNums (((List.range Wn).map fun (x : Nat) => m.v.cell x 0).map (·.1))).size, ((strOfNums (((List.range Wn).map fun (x : Nat) => m.v.cell x 0).map (·.1)))[0].toNat : Int) = 97 + n := by
    intro hh
    rw [str_at _ b1 0 hh]
    simp only [List.getD_eq_getElem?_getD, List.getElem?_map, List.getElem?_range (show 0 < Wn by omega), Option.map_some, Option.getD_some]
    show (m.v.cell 0 0).1 = _
    rw [hc]
  have c2 : ∀ hh : 0 < (strOfNums (((List.range Wn).map fun (x : Nat) => m.v.cell x 0).map (·.2))).size, ((strOfNums (((List.range Wn).map fun (x : Nat) => m.v.cell x 0).map (·.2)))[0].toNat : Int) = 3 := by
    intro hh
    rw [str_at _ b2 0 hh]
    simp only [List.getD_eq_getElem?_getD, List.getElem?_map, List.getElem?_range (show 0 < Wn by omega), Option.map_some, Option.getD_some]
    show (m.v.cell 0 0).2 = _
    rw [hc]
  generalize strOfNums (((List.range Wn).map fun (x : Nat) => m.v.cell x 0).map (·.1)) = sc at *
  generalize strOfNums (((List.range Wn).map fun (x : Nat) => m.v.cell x 0).map (·.2)) = ss at *
  have hp1 : 0 < sc.size := by omega
  have hp2 : 0 < ss.size := by omega
  have d1 := c1 hp1
  have d2 := c2 hp2
  have lt1 : (sc.size : Int) = Wn := by omega
  have lt2 : (ss.size : Int) = Wn := by omega
  have wle : Wn ≤ 40 := by omega
  clear h hrow hok b1 b2 z1 z2 c1 c2 hW hH hc g1 g2 g3
  go_enter Tryd.func19, Tryd.ntmps19
  go_wp2_with fail
  refine PR.out.mono ?_
  rintro e w1 ⟨rfl, f1⟩
  have B := (Blk.new w [.pointer (some ⟨b, 0, none⟩), .pointer (some ⟨bt, 0, none⟩), .int .i64 (Wn : Int), .int .i64 (Hn : Int)] 27).fr0 f1
  have r2 : w1.cell? ⟨w.heap.size, 2, none⟩ = some (.int .i64 (Wn : Int)) := B.cell 2
  have F1 : Hid (Fr [] w w1) := FA.out.then f1
  clear B f1 PR FA
  go_wp2
  go_ret
  exact ⟨rfl, F1.out⟩

/-- no block of another type is a painter's -/
theorem PntRaw.off {w : World} {b : Nat} {g : PGh} {m : Pt} {l : List (Int × Int)} (h : PntRaw w b g m l) {x : Nat} {us : List Value} {ty : TypeId} (hx : Blk w x us ty) (h1 : ty ≠ 73) (h2 : ty ≠ 102) (h3 : ty ≠ 104) (h4 : ty ≠ 94) (h5 : ty ≠ 9) : x ∉ pfoot b g := by
  intro hm
  simp only [pfoot, List.mem_cons, List.mem_append, Option.mem_toList, List.mem_map] at hm
  rcases hm with rfl | rfl | rfl | hm | ⟨p, hp, rfl⟩
  · exact (hx.ne h.st h1) rfl
  · exact (hx.ne h.gr.hd h2) rfl
  · exact (hx.ne h.gr.row h3) rfl
  · obtain ⟨vs, hv⟩ := own_pane h.pn hm
    exact (hx.ne hv h4) rfl
  · exact ((h.pn.ok p hp).1.ls.ne hx (fun e => h5 e.symm)) rfl

/-- a room and the other window lie there; the painter is m -/
structure KAt (w : World) (rb ob b bt : Nat) (g : PGh) (m : Pt) : Prop where
  r : Blk w rb [.pointer (some ⟨b, 0, none⟩), .pointer (some ⟨bt, 0, none⟩), .int .i64 ((10 : Nat) : Int), .int .i64 ((10 : Nat) : Int)] 27
  o : Blk w ob otherW.vals 23
  p : PntAt w b g m
theorem KAt.fr0 {w w' : World} {rb ob b bt : Nat} {g : PGh} {m : Pt} (h : KAt w rb ob b bt g m) (f : Fr [] w w') : KAt w' rb ob b bt g m := ⟨h.r.fr0 f, h.o.fr0 f, h.p.fr0 f⟩
/-- the painter has become m' -/
theorem KAt.upd {w w' : World} {rb ob b bt : Nat} {g : PGh} {m m' : Pt} (h : KAt w rb ob b bt g m) (u : PUpd b g m' w w') : ∃ g', KAt w' rb ob b bt g' m' ∧ (∀ x us, Blk w x us 23 → Blk w' x us 23) ∧ Fr (pfoot b g) w w' ∧ ∀ x ∈ pfoot b g', x ∈ pfoot b g ∨ w.heap.size ≤ x := by
  obtain ⟨g', p, f, s⟩ := u
  refine ⟨g', ⟨h.r.fr f (h.p.off h.r (by decide) (by decide) (by decide) (by decide) (by decide)), h.o.fr f (h.p.off h.o (by decide) (by decide) (by decide) (by decide) (by decide)), p⟩, ?_, f, s⟩
  intro x us hx
  exact hx.fr f (h.p.off hx (by decide) (by decide) (by decide) (by decide) (by decide))
/-- what a load of the room or of the other window finds -/
theorem KAt.cells {w : World} {rb ob b bt : Nat} {g : PGh} {m : Pt} (h : KAt w rb ob b bt g m) : w.cell? ⟨rb, 0, none⟩ = some (.pointer (some ⟨b, 0, none⟩)) ∧ w.cell? ⟨rb, 1, none⟩ = some (.pointer (some ⟨bt, 0, none⟩)) ∧ w.cell? ⟨rb, 2, none⟩ = some (.int .i64 ((10 : Nat) : Int)) ∧ w.cell? ⟨rb, 3, none⟩ = some (.int .i64 ((10 : Nat) : Int)) ∧ w.cell? ⟨ob, 0, none⟩ = some (.int .i64 8) ∧ w.cell? ⟨ob, 1, none⟩ = some (.int .i64 4) ∧ w.cell? ⟨ob, 2, none⟩ = some (.int .i64 4) ∧ w.cell? ⟨ob, 3, none⟩ = some (.int .i64 3) ∧ w.cell? ⟨ob, 4, none⟩ = some (.int .i64 3) ∧ w.cell? ⟨ob, 5, none⟩ = some (.int .i64 0) ∧ w.cell? ⟨ob, 6, none⟩ = some (.int .i64 0) ∧ w.cell? ⟨ob, 7, none⟩ = some (.string ⟨#[111, 116, 104, 101, 114]⟩) :=
  ⟨h.r.cell 0, h.r.cell 1, h.r.cell 2, h.r.cell 3, h.o.cell 0, h.o.cell 1, h.o.cell 2, h.o.cell 3, h.o.cell 4, h.o.cell 5, h.o.cell 6, h.o.cell 7⟩

theorem errV_kept (key : Int) (n : Nat) (h : n ≤ 25) (k1 : 1 ≤ key) (k2 : key ≤ 999) (k3 : key ≠ 8) : errV [otherW, slitW key n] = 0 ∧ errV [slitW key n, otherW] = 0 :=
  ⟨errV_two _ _ otherW_ok (slitW_ok key n h k1 k2) (fun e => k3 e.symm), errV_two _ _ (slitW_ok key n h k1 k2) otherW_ok k3⟩
end Go.Proofs.YtjhccghhinlmdaaDoor
