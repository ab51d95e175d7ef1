/- Package views' check: why a list of windows is no view. -/
import Derived.Test.YtjhccghhinlmdaaDoorPaintModel
import Derived.Deep.RegionHeldLaw
namespace Go.Proofs.YtjhccghhinlmdaaDoor
open Go.RowKit

/-- windows lie one behind the other -/
structure WCells (w : World) (b c : Nat) (o : Win) : Prop where
  c0 : w.cell? ⟨b, c, none⟩ = some (.int .i64 o.key)
  c1 : w.cell? ⟨b, c + 1, none⟩ = some (.int .i64 o.x)
  c2 : w.cell? ⟨b, c + 2, none⟩ = some (.int .i64 o.y)
  c3 : w.cell? ⟨b, c + 3, none⟩ = some (.int .i64 o.w)
  c4 : w.cell? ⟨b, c + 4, none⟩ = some (.int .i64 o.h)
  c5 : w.cell? ⟨b, c + 5, none⟩ = some (.int .i64 o.layer)
  c6 : w.cell? ⟨b, c + 6, none⟩ = some (.int .i64 o.style)
  c7 : w.cell? ⟨b, c + 7, none⟩ = some (.string o.text)
def WinsAt (w : World) (av : Option Addr) (ws : List Win) : Prop := ∀ (i : Nat) o, ws[i]? = some o → ∃ b off, av = some ⟨b, off, none⟩ ∧ WCells w b (off + i * 8) o
theorem WCells.fr {w w' : World} {S : List Nat} {b c : Nat} {o : Win} (h : WCells w b c o) (f : Fr S w w') (hn : b ∉ S) : WCells w' b c o := by
  have k : ∀ {off : Nat} {v : Value}, w.cell? ⟨b, off, none⟩ = some v → w'.cell? ⟨b, off, none⟩ = some v := by
    intro off v hq
    rw [← hq]; exact World.cell?_of_block (w := w) (f.block b (World.block_lt_of_cell? w _ hq) hn)
  exact ⟨k h.c0, k h.c1, k h.c2, k h.c3, k h.c4, k h.c5, k h.c6, k h.c7⟩
theorem WinsAt.fr {w w' : World} {S : List Nat} {av : Option Addr} {ws : List Win} (h : WinsAt w av ws) (f : Fr S w w') (hn : ∀ a, av = some a → a.block ∉ S) : WinsAt w' av ws := by
  intro i o ho
  obtain ⟨b, off, rfl, c⟩ := h i o ho
  exact ⟨b, off, rfl, c.fr f (hn _ rfl)⟩
theorem WinsAt.take {w : World} {av : Option Addr} {ws : List Win} (h : WinsAt w av ws) (n : Nat) : WinsAt w av (ws.take n) := by
  intro i o ho
  refine h i o ?_
  rw [List.getElem?_take] at ho
  split at ho
  · exact ho
  · cases ho

set_option maxHeartbeats 1000000 in
set_option maxRecDepth 100000 in
theorem taken_any (key : Int) (av : Option Addr) (ws : List Win) (cap n : Nat) (w : World) (h : WinsAt w av ws) (hl : ws.length ≤ 1000) (hn : ws.length = n) :
    Calls Tryd.prog 70 #[.int .i64 key, .slice av n cap] w fun e w' => e = .returned (.bool (ws.any fun q => q.key == key)) ∧ w = w' := by
  subst hn
  have H := hide h
  clear h
  go_enter Tryd.func70, Tryd.ntmps70
  go_wp2
  go_loopw [5] (fun i wr => ∃ k : Nat, i = .int .i64 k ∧ k ≤ ws.length ∧ w = wr ∧ (ws.take k).any (fun q => q.key == key) = false) (fun i _ => (3000 - intOf i).toNat)
  case atStart => exact ⟨0, rfl, by omega, rfl, by simp⟩
  case round =>
    obtain ⟨k, rfl, hk, rfl, hno⟩ := hrel
    by_cases hend : k < ws.length
    · obtain ⟨o, ho⟩ : ∃ o, ws[k]? = some o := ⟨_, List.getElem?_eq_getElem hend⟩
      obtain ⟨b, off, rfl, C⟩ := H.out k o ho
      have c0 := C.c0
      have ht : ws.take (k + 1) = ws.take k ++ [o] := by rw [List.take_add_one, ho]; rfl
      by_cases hq : o.key = key
      · have E : Hid (ws.any (fun q => q.key == key) = true) := by
          refine List.any_eq_true.2 ⟨o, List.mem_of_getElem? ho, by simp [hq]⟩
        have bq : (o.key == key) = true := by simpa using hq
        clear ht C H hq hno
        go_wp2
        go_ret
        exact ⟨ret_bool E.out.symm, rfl⟩
      · have E : Hid ((ws.take (k + 1)).any (fun q => q.key == key) = false) := by
          show _ = _; rw [ht, List.any_append, hno]; simpa using hq
        have bq : (o.key == key) = false := by simpa using hq
        clear ht C H hq hno
        go_wp2
        go_roundw
        case rel => exact ⟨k + 1, by go_num, by omega, by trivial, E.out⟩
        case measure => simp [intOf]; omega
    · have E : Hid (ws.any (fun q => q.key == key) = false) := by
        rw [List.take_of_length_le (by omega)] at hno; exact hno
      clear hno
      go_wp2
      go_ret
      exact ⟨ret_bool E.out.symm, rfl⟩

/-- is it where it may be? -/
def Win.placed (o : Win) : Bool := !decide (o.x < -99 ∨ 99 < o.x ∨ o.y < -99 ∨ 99 < o.y ∨ o.w < 1 ∨ 99 < o.w ∨ o.h < 1 ∨ 99 < o.h)
def Win.styled (o : Win) : Bool := !decide (o.layer < -9 ∨ 9 < o.layer ∨ o.style < 0 ∨ 15 < o.style)

set_option maxHeartbeats 1000000 in
set_option maxRecDepth 100000 in
theorem placed_any (o : Win) (w : World) :
    Calls Tryd.prog 71 #[.agg #[.int .i64 o.key, .int .i64 o.x, .int .i64 o.y, .int .i64 o.w, .int .i64 o.h, .int .i64 o.layer, .int .i64 o.style, .string o.text]] w fun e w' => e = .returned (.bool o.placed) ∧ Fr [] w w' := by
  have HP : Hid (o.placed = !decide (o.x < -99 ∨ 99 < o.x ∨ o.y < -99 ∨ 99 < o.y ∨ o.w < 1 ∨ 99 < o.w ∨ o.h < 1 ∨ 99 < o.h)) := rfl
  go_enter Tryd.func71, Tryd.ntmps71
  go_wp2
  all_goals go_ret
  all_goals exact ⟨ret_bool (by rw [HP.out, Bool.eq_iff_iff]; simp; try omega), (Fr.refl _ _).alloc _⟩
set_option maxHeartbeats 1000000 in
set_option maxRecDepth 100000 in
theorem styled_any (o : Win) (w : World) :
    Calls Tryd.prog 72 #[.agg #[.int .i64 o.key, .int .i64 o.x, .int .i64 o.y, .int .i64 o.w, .int .i64 o.h, .int .i64 o.layer, .int .i64 o.style, .string o.text]] w fun e w' => e = .returned (.bool o.styled) ∧ Fr [] w w' := by
  have HP : Hid (o.styled = !decide (o.layer < -9 ∨ 9 < o.layer ∨ o.style < 0 ∨ 15 < o.style)) := rfl
  go_enter Tryd.func72, Tryd.ntmps72
  go_wp2
  all_goals go_ret
  all_goals exact ⟨ret_bool (by rw [HP.out, Bool.eq_iff_iff]; simp; try omega), (Fr.refl _ _).alloc _⟩

def Win.vals (o : Win) : List Value := [.int .i64 o.key, .int .i64 o.x, .int .i64 o.y, .int .i64 o.w, .int .i64 o.h, .int .i64 o.layer, .int .i64 o.style, .string o.text]
theorem errAt_eq (ws : List Win) (i : Nat) (o : Win) : errAt ws i o = if o.key < 1 ∨ 999 < o.key ∨ (ws.take i).any (fun q => q.key == o.key) = true then 4 else if o.placed = false then 5 else if o.styled = false then 6 else if 400 < o.text.size then 7 else 0 := by
  unfold errAt Win.placed Win.styled
  simp only [Bool.not_eq_false', decide_eq_true_eq]

set_option maxHeartbeats 2000000 in
set_option maxRecDepth 100000 in
theorem checkWindow_any (ws : List Win) (i : Nat) (o : Win) (av : Option Addr) (n cap : Nat) (w : World) (h : WinsAt w av (ws.take i)) (hn : (ws.take i).length = n) (hl : n ≤ 1000) (hsz : o.text.size ≤ 9223372036854775807) :
    Calls Tryd.prog 60 #[.agg #[.int .i64 o.key, .int .i64 o.x, .int .i64 o.y, .int .i64 o.w, .int .i64 o.h, .int .i64 o.layer, .int .i64 o.style, .string o.text], .slice av n cap] w fun e w' => e = .returned (.int .i64 (errAt ws i o)) ∧ Fr [] w w' := by
  have HE := hide (errAt_eq ws i o)
  have FA : Hid (Fr [] w (w.alloc (.cells #[.int .i64 o.key, .int .i64 o.x, .int .i64 o.y, .int .i64 o.w, .int .i64 o.h, .int .i64 o.layer, .int .i64 o.style, .string o.text] 23))) := (Fr.refl _ _).alloc _
  have BA : Hid (Blk (w.alloc (.cells #[.int .i64 o.key, .int .i64 o.x, .int .i64 o.y, .int .i64 o.w, .int .i64 o.h, .int .i64 o.layer, .int .i64 o.style, .string o.text] 23)) w.heap.size o.vals 23) := Blk.new _ _ _
  have HT := hide (taken_any o.key av (ws.take i) cap n _ (h.fr FA.out (by simp)) (by omega) hn)
  clear h hn
  by_cases h1 : o.key < 1
  · have E : Hid (errAt ws i o = 4) := by show _ = _; rw [HE.out, if_pos (.inl h1)]
    go_enter Tryd.func60, Tryd.ntmps60
    go_wp2
    go_ret
    exact ⟨ret_int E.out.symm, FA.out⟩
  by_cases h2 : 999 < o.key
  · have E : Hid (errAt ws i o = 4) := by show _ = _; rw [HE.out, if_pos (.inr (.inl h2))]
    go_enter Tryd.func60, Tryd.ntmps60
    go_wp2
    go_ret
    exact ⟨ret_int E.out.symm, FA.out⟩
  by_cases h3 : (ws.take i).any (fun q => q.key == o.key) = true
  · have E : Hid (errAt ws i o = 4) := by show _ = _; rw [HE.out, if_pos (.inr (.inr h3))]
    rw [h3] at HT
    clear h3
    go_enter Tryd.func60, Tryd.ntmps60
    go_wp2_with (go_at_call 70; refine HT.out.mono ?_; rintro e w' ⟨rfl, rfl⟩)
    go_ret
    exact ⟨ret_int E.out.symm, FA.out⟩
  have h3' : (ws.take i).any (fun q => q.key == o.key) = false := by simpa using h3
  have E1 : Hid (errAt ws i o = if o.placed = false then 5 else if o.styled = false then 6 else if 400 < o.text.size then 7 else 0) := by
    show _ = _; rw [HE.out, if_neg (fun h => h.elim h1 (fun h => h.elim h2 h3))]
  rw [h3'] at HT
  clear h3 h3' HE
  have HP := hide (placed_any o (w.alloc (.cells #[.int .i64 o.key, .int .i64 o.x, .int .i64 o.y, .int .i64 o.w, .int .i64 o.h, .int .i64 o.layer, .int .i64 o.style, .string o.text] 23)))
  by_cases h4 : o.placed = false
  · have E : Hid (errAt ws i o = 5) := by show _ = _; rw [E1.out, if_pos h4]
    rw [h4] at HP
    clear E1 h4
    go_enter Tryd.func60, Tryd.ntmps60
    go_wp2_with (first | (go_at_call 70; refine HT.out.mono ?_; rintro e w' ⟨rfl, rfl⟩) | (go_at_call 71; refine HP.out.mono ?_; rintro e w1 ⟨rfl, f1⟩))
    go_ret
    exact ⟨ret_int E.out.symm, FA.out.then f1⟩
  have h4' : o.placed = true := by simpa using h4
  have E2 : Hid (errAt ws i o = if o.styled = false then 6 else if 400 < o.text.size then 7 else 0) := by show _ = _; rw [E1.out, if_neg h4]
  rw [h4'] at HP
  clear h4 h4' E1
  go_enter Tryd.func60, Tryd.ntmps60
  go_upto_region 3 with (go_at_call 70; refine HT.out.mono ?_; rintro e w' ⟨rfl, rfl⟩)
  go_wp2_with fail
  refine HP.out.mono ?_
  rintro e w1 ⟨rfl, f1⟩
  have B1 := hide (BA.out.fr0 f1)
  have F1 := hide (FA.out.then f1)
  have c0 : w1.cell? ⟨w.heap.size, 0, none⟩ = some (.int .i64 o.key) := B1.out.cell 0
  have c1 : w1.cell? ⟨w.heap.size, 1, none⟩ = some (.int .i64 o.x) := B1.out.cell 1
  have c2 : w1.cell? ⟨w.heap.size, 2, none⟩ = some (.int .i64 o.y) := B1.out.cell 2
  have c3 : w1.cell? ⟨w.heap.size, 3, none⟩ = some (.int .i64 o.w) := B1.out.cell 3
  have c4 : w1.cell? ⟨w.heap.size, 4, none⟩ = some (.int .i64 o.h) := B1.out.cell 4
  have c5 : w1.cell? ⟨w.heap.size, 5, none⟩ = some (.int .i64 o.layer) := B1.out.cell 5
  have c6 : w1.cell? ⟨w.heap.size, 6, none⟩ = some (.int .i64 o.style) := B1.out.cell 6
  have c7 : w1.cell? ⟨w.heap.size, 7, none⟩ = some (.string o.text) := B1.out.cell 7
  clear f1 HP HT FA BA
  go_wp2_with fail
  refine (styled_any o w1).mono ?_
  rintro e w2 ⟨rfl, f2⟩
  have d7 : w2.cell? ⟨w.heap.size, 7, none⟩ = some (.string o.text) := (B1.out.fr0 f2).cell 7
  have F2 := hide (F1.out.then f2)
  clear f2 c0 c1 c2 c3 c4 c5 c6 c7 B1
  by_cases h5 : o.styled = false
  · have E : Hid (errAt ws i o = 6) := by show _ = _; rw [E2.out, if_pos h5]
    rw [h5]
    clear h5 E2
    go_wp2
    go_ret
    exact ⟨ret_int E.out.symm, F2.out⟩
  have h5' : o.styled = true := by simpa using h5
  rw [h5']
  have E3 : Hid (errAt ws i o = if 400 < o.text.size then 7 else 0) := by show _ = _; rw [E2.out, if_neg h5]
  clear h5 h5' E2
  by_cases h6 : 400 < o.text.size
  · have E : Hid (errAt ws i o = 7) := by show _ = _; rw [E3.out, if_pos h6]
    go_wp2
    go_ret
    exact ⟨ret_int E.out.symm, F2.out⟩
  · have E : Hid (errAt ws i o = 0) := by show _ = _; rw [E3.out, if_neg h6]
    go_wp2
    go_ret
    exact ⟨ret_int E.out.symm, F2.out⟩

theorem errFrom_step (ws : List Win) (k : Nat) (o : Win) (h : ws[k]? = some o) : errFrom ws k (ws.drop k) = if errAt ws k o = 0 then errFrom ws (k + 1) (ws.drop (k + 1)) else errAt ws k o := by
  have hk : k < ws.length := (List.getElem?_eq_some_iff.1 h).1
  rw [List.drop_eq_getElem_cons hk]
  rw [List.getElem?_eq_getElem hk] at h
  simp at h
  rw [h]
  rfl

set_option maxHeartbeats 2000000 in
set_option maxRecDepth 100000 in
theorem check_any (ws : List Win) (av : Option Addr) (n cap : Nat) (w : World) (h : WinsAt w av ws) (hn : ws.length = n) (hcap : n ≤ cap) (hl : n ≤ 9223372036854775807) (hsz : ∀ o ∈ ws, o.text.size ≤ 9223372036854775807) :
    Calls Tryd.prog 46 #[.slice av n cap] w fun e w' => e = .returned (.int .i64 (errV ws)) ∧ Fr [] w w' := by
  subst hn
  by_cases h12 : 12 < ws.length
  · have E : Hid (errV ws = 3) := by show _ = _; unfold errV; rw [if_pos h12]
    clear h
    go_enter Tryd.func46, Tryd.ntmps46
    go_wp2
    go_ret
    exact ⟨ret_int E.out.symm, Fr.refl _ _⟩
  have E : Hid (errV ws = errFrom ws 0 ws) := by show _ = _; unfold errV; rw [if_neg h12]
  have H := hide h
  have HS := hide hsz
  clear h hsz
  go_enter Tryd.func46, Tryd.ntmps46
  go_wp2
  go_loopw [3] (fun i wr => ∃ k : Nat, i = .int .i64 k ∧ k ≤ ws.length ∧ Fr [] w wr ∧ errV ws = errFrom ws k (ws.drop k)) (fun i _ => (3000 - intOf i).toNat)
  case atStart => exact ⟨0, rfl, by omega, Fr.refl _ _, E.out⟩
  case round =>
    obtain ⟨k, rfl, hk, f, he⟩ := hrel
    by_cases hend : k < ws.length
    · obtain ⟨o, ho⟩ : ∃ o, ws[k]? = some o := ⟨_, List.getElem?_eq_getElem hend⟩
      have hw := H.out.fr f (by simp)
      obtain ⟨b, off, rfl, C⟩ := hw k o ho
      obtain ⟨c0, c1, c2, c3, c4, c5, c6, c7⟩ := C
      have ST := hide (errFrom_step ws k o ho)
      rw [← he] at ST
      have CW : Hid (∀ w', Fr [] wr w' → Calls Tryd.prog 60 #[.agg #[.int .i64 o.key, .int .i64 o.x, .int .i64 o.y, .int .i64 o.w, .int .i64 o.h, .int .i64 o.layer, .int .i64 o.style, .string o.text], .slice (some ⟨b, off, none⟩) k cap] w' fun e w'' => e = .returned (.int .i64 (errAt ws k o)) ∧ Fr [] w' w'') := by
        intro w' f'
        exact checkWindow_any ws k o _ k cap w' ((hw.take k).fr f' (by simp)) (by simp; omega) (by omega) (HS.out o (List.mem_of_getElem? ho))
      have blt : b < wr.heap.size := World.block_lt_of_cell? wr _ c0
      have b1 : (k : Int) < ws.length := by omega
      have b2 : (k : Int) ≤ cap := by omega
      clear hw H HS he ho
      by_cases hz : errAt ws k o = 0
      · rw [hz] at CW
        rw [if_pos hz] at ST
        clear hz
        go_wp2
        go_region_with ((go_at_call 60; refine (CW.out _ ?hf).mono ?_; (case hf => (repeat first | exact Fr.refl _ _ | apply Fr.drew | apply Fr.drewN)); rintro e w1 ⟨rfl, f1⟩; have F1 : Hid (Fr [] w w1) := (f.drew).then f1; clear f1))
        all_goals go_wp2
        all_goals
          go_roundw
          case rel => exact ⟨k + 1, by go_num, by omega, F1.out, ST.out⟩
          case measure => simp [intOf]; omega
      · rw [if_neg hz] at ST
        have bz : (errAt ws k o == 0) = false := by simpa using hz
        clear hz
        generalize errAt ws k o = er at *
        go_wp2
        go_region_with ((go_at_call 60; refine (CW.out _ ?hf).mono ?_; (case hf => (repeat first | exact Fr.refl _ _ | apply Fr.drew | apply Fr.drewN)); rintro e w1 ⟨rfl, f1⟩; have F1 : Hid (Fr [] w w1) := (f.drew).then f1; clear f1))
        all_goals go_wp2
        all_goals
          go_ret
          exact ⟨ret_int ST.out.symm, F1.out⟩
    · have E2 : Hid (errV ws = 0) := by
        rw [List.drop_eq_nil_of_le (by omega)] at he; exact he
      go_wp2
      go_ret
      exact ⟨ret_int E2.out.symm, f⟩
end Go.Proofs.YtjhccghhinlmdaaDoor
