/- Package views' View: the view that comes behind. -/
import Derived.Test.YtjhccghhinlmdaaDoorPaintView
import Derived.Test.YtjhccghhinlmdaaDoorPaintCheck
namespace Go.Proofs.YtjhccghhinlmdaaDoor
open Go.RowKit

theorem view_drop {ps : List Pane} {k : Nat} {p : Pane} (h : ps[k]? = some p) : (view ps).drop k = (p.o, p.off) :: (view ps).drop (k + 1) := by
  have hk : k < ps.length := (List.getElem?_eq_some_iff.1 h).1
  have hk2 : k < (view ps).length := by simpa [view] using hk
  rw [List.drop_eq_getElem_cons hk2]
  rw [List.getElem?_eq_getElem hk] at h
  simp at h
  simp [view, h, Pane.wo]

set_option maxHeartbeats 1000000 in
set_option maxRecDepth 100000 in
theorem offset_any (b c : Nat) (av : Option Addr) (cap : Nat) (ps : List Pane) (key : Int) (w : World) (h0 : w.cell? ⟨b, c, none⟩ = some (.slice av ps.length cap)) (h : PanesAt w av ps) (hn : ps.length ≤ 12) :
    Calls Tryd.prog 48 #[.pointer (some ⟨b, c, none⟩), .int .i64 key] w fun e w' => e = .returned (.int .i64 ((view ps).offOf key)) ∧ w = w' := by
  have H := hide h
  clear h
  go_enter Tryd.func48, Tryd.ntmps48
  go_wp2
  go_loopw [5] (fun i wr => ∃ k : Nat, i = .int .i64 k ∧ k ≤ ps.length ∧ w = wr ∧ (view ps).offOf key = V.offOf ((view ps).drop k) key) (fun i _ => (3000 - intOf i).toNat)
  case atStart => exact ⟨0, rfl, by omega, rfl, by simp⟩
  case round =>
    obtain ⟨k, rfl, hk, rfl, he⟩ := hrel
    by_cases hend : k < ps.length
    · obtain ⟨p, hp⟩ : ∃ p, ps[k]? = some p := ⟨_, List.getElem?_eq_getElem hend⟩
      obtain ⟨g, rfl, C, OK⟩ := H.out k p hp
      have c0 := C.c0
      have c8 := C.c8
      have b1 : (k : Int) < ps.length := by omega
      rw [view_drop hp, show V.offOf ((p.o, p.off) :: (view ps).drop (k + 1)) key = if p.o.key = key then p.off else V.offOf ((view ps).drop (k + 1)) key from rfl] at he
      by_cases hq : p.o.key = key
      · rw [if_pos hq] at he
        have E := hide he
        have bq : (p.o.key == key) = true := by simpa using hq
        clear he C OK H hq hp
        go_wp2
        go_ret
        exact ⟨ret_int E.out.symm, rfl⟩
      · rw [if_neg hq] at he
        have E := hide he
        have bq : (p.o.key == key) = false := by simpa using hq
        clear he C OK H hq hp
        go_wp2
        go_roundw
        case rel => exact ⟨k + 1, by go_num, by omega, by trivial, E.out⟩
        case measure => simp [intOf]; omega
    · have E : Hid ((view ps).offOf key = 0) := by
        rw [List.drop_eq_nil_of_le (by simp [view]; omega)] at he; exact he
      clear he
      go_wp2
      go_ret
      exact ⟨ret_int E.out.symm, rfl⟩

def flatP (ps : List Pane) : List Value := ps.flatMap Pane.vals
theorem flatP_length (ps : List Pane) : (flatP ps).length = ps.length * 9 := by
  induction ps with
  | nil => rfl
  | cons p ps ih => simp only [flatP, List.flatMap_cons, List.length_append, List.length_cons, Pane.vals, List.length_nil] at *; omega
theorem flatP_snoc (ps : List Pane) (p : Pane) : flatP ps ++ p.vals = flatP (ps ++ [p]) := by simp [flatP]
theorem flatP_at (ps : List Pane) : ∀ (i : Nat) (p : Pane), ps[i]? = some p → ∀ j, j < 9 → (flatP ps)[i * 9 + j]? = p.vals[j]? := by
  induction ps with
  | nil => intro i p h; simp at h
  | cons q ps ih =>
    intro i p h j hj
    have hq : q.vals.length = 9 := rfl
    cases i with
    | zero =>
      simp at h; subst h
      simp only [flatP, List.flatMap_cons, Nat.zero_mul, Nat.zero_add]
      rw [List.getElem?_append_left (by omega)]
    | succ i =>
      simp at h
      have := ih i p h j hj
      simp only [flatP, List.flatMap_cons] at *
      rw [List.getElem?_append_right (by omega), hq, show (i + 1) * 9 + j - 9 = i * 9 + j by omega]
      exact this

/-- a slice of panes, and where they lie -/
structure PanesIn (base : Nat) (w : World) (v : Value) (ps : List Pane) : Prop where
  row : (v = .slice none 0 0 ∧ ps = []) ∨ ∃ g cap sp, v = .slice (some ⟨g, 0, none⟩) ps.length cap ∧ Blk w g (flatP ps ++ sp) 94 ∧ base ≤ g
  ok : ∀ p ∈ ps, PaneOk w p ∧ base ≤ p.lb
theorem PanesIn.at' {base : Nat} {w : World} {v : Value} {ps : List Pane} (h : PanesIn base w v ps) : ∃ av cap, v = .slice av ps.length cap ∧ PanesAt w av ps := by
  rcases h.row with ⟨rfl, rfl⟩ | ⟨g, cap, sp, rfl, hb, _⟩
  · exact ⟨none, 0, rfl, fun i p hp => by simp at hp⟩
  · refine ⟨_, cap, rfl, fun i p hp => ⟨g, rfl, ?_, (h.ok p (List.mem_of_getElem? hp)).1⟩⟩
    have hi : i < ps.length := (List.getElem?_eq_some_iff.1 hp).1
    have hl := flatP_length ps
    have k : ∀ j, j < 9 → w.cell? ⟨g, i * 9 + j, none⟩ = p.vals[j]? := by
      intro j hj
      rw [hb.cell, List.getElem?_append_left (by omega), flatP_at ps i p hp j hj]
    exact ⟨k 0 (by decide), k 1 (by decide), k 2 (by decide), k 3 (by decide), k 4 (by decide), k 5 (by decide), k 6 (by decide), k 7 (by decide), k 8 (by decide)⟩
theorem PanesIn.fr {base : Nat} {w w' : World} {S : List Nat} {v : Value} {ps : List Pane} (h : PanesIn base w v ps) (f : Fr S w w') (h1 : ∀ g, v.ownBlock = some g → g ∉ S) (h2 : ∀ p ∈ ps, p.lb ∉ S) : PanesIn base w' v ps := by
  refine ⟨?_, fun p hp => ⟨(h.ok p hp).1.fr f (h2 p hp), (h.ok p hp).2⟩⟩
  rcases h.row with h0 | ⟨g, cap, sp, rfl, hb, hg⟩
  · exact .inl h0
  · exact .inr ⟨g, cap, sp, rfl, hb.fr f (h1 g rfl), hg⟩

theorem LinesAt.ne {w : World} {b c : Nat} {ls : List ByteArray} {vs : List Value} {ty : TypeId} (h : LinesAt w b ls) (k : Blk w c vs ty) (ht : 9 ≠ ty) : b ≠ c := by
  obtain ⟨us, hu, _⟩ := h
  exact hu.ne k ht
theorem LinesAt.grown {w w' : World} {row : Option Nat} {b : Nat} {ls : List ByteArray} (h : LinesAt w b ls) (hg : w.grownBy w' row) (hn : some b ≠ row) : LinesAt w' b ls := by
  obtain ⟨us, hu, h2⟩ := h
  exact ⟨us, hu.grown hg hn, h2⟩
theorem LinesAt.off {w : World} {base : Nat} {b : Nat} {ls : List ByteArray} {v : Value} {n size : Nat} {xs : List Value} (h : LinesAt w b ls) (k : w.ownsRow base 94 size v n xs) : some b ≠ v.ownBlock := by
  obtain ⟨us, hu, _⟩ := h
  exact own_ne k hu (by decide)
/-- what a slice owns is a block of its type -/
theorem own_blk' {w : World} {base : Nat} {e : TypeId} {size : Nat} {v : Value} {n : Nat} {xs : List Value} (h : w.ownsRow base e size v n xs) {g : Nat} (hv : v.ownBlock = some g) : ∃ us, Blk w g us e := by
  rcases h.2 with ⟨rfl, _⟩ | ⟨g', cap, cur, rfl, _, hg, _⟩
  · simp [Value.ownBlock] at hv
  · simp [Value.ownBlock] at hv
    subst hv
    exact ⟨cur.toList, by unfold Blk; rw [hg]⟩
theorem nine_one (a0 a1 a2 a3 a4 a5 a6 : Int) (v : Value) (a8 : Int) (hv : v.oneCell' = true) : ∀ u ∈ [Value.int .i64 a0, .int .i64 a1, .int .i64 a2, .int .i64 a3, .int .i64 a4, .int .i64 a5, .int .u8 a6, v, .int .i64 a8], u.oneCell' = true := by
  intro u hu
  simp only [List.mem_cons, List.not_mem_nil, or_false] at hu
  rcases hu with rfl | rfl | rfl | rfl | rfl | rfl | rfl | rfl | rfl <;> first | exact hv | rfl

set_option maxHeartbeats 1000000 in
set_option maxRecDepth 100000 in
theorem next_no (pv : Option Addr) (wa : Option Addr) (ws : List Win) (n wcap : Nat) (w : World) (h : WinsAt w wa ws) (hn : ws.length = n) (hcap : n ≤ wcap) (hl : n ≤ 9223372036854775807) (hsz : ∀ o ∈ ws, o.text.size ≤ 9223372036854775807) (he : errV ws ≠ 0) :
    Calls Tryd.prog 32 #[.pointer pv, .slice wa n wcap] w fun e w' => e = .returned (.tuple #[.agg #[.slice none 0 0], .int .i64 (errV ws)]) ∧ Fr [] w w' := by
  have CK := hide (check_any ws wa n wcap (w.alloc (.cells #[.slice none 0 0] 69)) (h.fr ((Fr.refl [] _).alloc _) (by simp)) hn hcap hl hsz)
  have be : (errV ws == 0) = false := by simpa using he
  clear h hsz he
  generalize errV ws = er at *
  go_enter Tryd.func32, Tryd.ntmps32
  go_wp2_with fail
  refine CK.out.mono ?_
  rintro e w1 ⟨rfl, f1⟩
  have B := (Blk.new w [.slice none 0 0] 69).fr0 f1
  have c0 : w1.cell? ⟨w.heap.size, 0, none⟩ = some (.slice none 0 0) := B.cell 0
  have z0 := B.frozen 0
  have F : Hid (Fr [] w w1) := ((Fr.refl _ _).alloc _).then f1
  clear B f1
  go_wp2
  refine bodyPost_ret (v := .tuple #[.agg #[.slice none 0 0], .int .i64 er]) (by simp [results, Tryd.results32, go_sem, c0]) rfl ?_
  exact ⟨rfl, F.out.setCell (.inr (by simp)) _⟩

/-- the view that comes behind is handed back -/
def NextPost (w : World) (ps : List Pane) (ws : List Win) (e : Ending) (w' : World) : Prop :=
  ∃ v qs, e = .returned (.tuple #[.agg #[v], .int .i64 0]) ∧ view qs = (view ps).next ws ∧ PanesIn w.heap.size w' v qs ∧ Fr [] w w'

theorem next_take (v : V) (ws : List Win) (k : Nat) (o : Win) (h : ws[k]? = some o) : (v.next ws).take (k + 1) = (v.next ws).take k ++ [(o, o.fits (v.offOf o.key))] := by
  rw [List.take_add_one]
  simp [V.next, h]

theorem info_pane : (Tryd.prog.info? 94).map (fun i => (i.zero, i.size, i.bytes)) = some (some (.agg #[.int .i64 0, .int .i64 0, .int .i64 0, .int .i64 0, .int .i64 0, .int .i64 0, .int .u8 0, .slice none 0 0, .int .i64 0]), 9, 88) := by kernel_rfl
end Go.Proofs.YtjhccghhinlmdaaDoor
