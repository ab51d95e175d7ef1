import Derived.Test.YtjhccghhinlmdaaGreatDoorPackPaintView
import Derived.Test.YtjhccghhinlmdaaGreatDoorTermFeed
import Derived.Test.YtjhccghhinlmdaaGreatDoorStr
import Derived.Lib.AppendStr
import Derived.Lib.ItoaNum
import Derived.Lib.ItoaWalk
import Derived.Lib.Strings
import Derived.Test.YtjhccghhinlmdaaGreatDoorCellsRow
import Derived.Test.YtjhccghhinlmdaaGreatDoorCellsAt
/- Package views' View: the view that comes behind. -/
namespace Go.Proofs.YtjhccghhinlmdaaGreatDoor
open Go.RowKit

theorem view_drop {ps : List Pane} {k : Nat} {p : Pane} (h : ps[k]? = some p) : (view ps).drop k = (p.o, p.off) :: (view ps).drop (k + 1) := by
  have hk : k < ps.length := (List.getElem?_eq_some_iff.1 h).1
  have hk2 : k < (view ps).length := by simpa [view] using hk
  rw [List.drop_eq_getElem_cons hk2]
  rw [List.getElem?_eq_getElem hk] at h
  simp at h
  simp [view, h, Pane.wo]

set_option maxHeartbeats 1000000 in
set_option maxRecDepth 100000 in
theorem offset_any (b c : Nat) (av : Option Addr) (cap : Nat) (ps : List Pane) (key : Int) (w : World) (h0 : w.cell? ⟨b, c, none⟩ = some (.slice av ps.length cap)) (h : PanesAt w av ps) (hn : ps.length ≤ 12) :
    Calls Tryz.prog 92 #[.pointer (some ⟨b, c, none⟩), .int .i64 key] w fun e w' => e = .returned (.int .i64 ((view ps).offOf key)) ∧ w = w' := by
  have H := hide h
  clear h
  go_enter Tryz.func92, Tryz.ntmps92
  go_wp2
  go_loopw [5] (fun i wr => ∃ k : Nat, i = .int .i64 k ∧ k ≤ ps.length ∧ w = wr ∧ (view ps).offOf key = V.offOf ((view ps).drop k) key) (fun i _ => (3000 - intOf i).toNat)
  case atStart => exact ⟨0, rfl, by omega, rfl, by simp⟩
  case round =>
    obtain ⟨k, rfl, hk, rfl, he⟩ := hrel
    by_cases hend : k < ps.length
    · obtain ⟨p, hp⟩ : ∃ p, ps[k]? = some p := ⟨_, List.getElem?_eq_getElem hend⟩
      obtain ⟨g, rfl, C, OK⟩ := H.out k p hp
      have c0 := C.c0
      have c8 := C.c8
      have b1 : (k : Int) < ps.length := by omega
      rw [view_drop hp, show V.offOf ((p.o, p.off) :: (view ps).drop (k + 1)) key = if p.o.key = key then p.off else V.offOf ((view ps).drop (k + 1)) key from rfl] at he
      by_cases hq : p.o.key = key
      · rw [if_pos hq] at he
        have E := hide he
        have bq : (p.o.key == key) = true := by simpa using hq
        clear he C OK H hq hp
        go_wp2
        go_ret
        exact ⟨ret_int E.out.symm, rfl⟩
      · rw [if_neg hq] at he
        have E := hide he
        have bq : (p.o.key == key) = false := by simpa using hq
        clear he C OK H hq hp
        go_wp2
        go_roundw
        case rel => exact ⟨k + 1, by go_num, by omega, by trivial, E.out⟩
        case measure => simp [intOf]; omega
    · have E : Hid ((view ps).offOf key = 0) := by
        rw [List.drop_eq_nil_of_le (by simp [view]; omega)] at he; exact he
      clear he
      go_wp2
      go_ret
      exact ⟨ret_int E.out.symm, rfl⟩

def flatP (ps : List Pane) : List Value := ps.flatMap Pane.vals
theorem flatP_length (ps : List Pane) : (flatP ps).length = ps.length * 9 := by
  induction ps with
  | nil => rfl
  | cons p ps ih => simp only [flatP, List.flatMap_cons, List.length_append, List.length_cons, Pane.vals, List.length_nil] at *; omega
theorem flatP_snoc (ps : List Pane) (p : Pane) : flatP ps ++ p.vals = flatP (ps ++ [p]) := by simp [flatP]
theorem flatP_at (ps : List Pane) : ∀ (i : Nat) (p : Pane), ps[i]? = some p → ∀ j, j < 9 → (flatP ps)[i * 9 + j]? = p.vals[j]? := by
  induction ps with
  | nil => intro i p h; simp at h
  | cons q ps ih =>
    intro i p h j hj
    have hq : q.vals.length = 9 := rfl
    cases i with
    | zero =>
      simp at h; subst h
      simp only [flatP, List.flatMap_cons, Nat.zero_mul, Nat.zero_add]
      rw [List.getElem?_append_left (by omega)]
    | succ i =>
      simp at h
      have := ih i p h j hj
      simp only [flatP, List.flatMap_cons] at *
      rw [List.getElem?_append_right (by omega), hq, show (i + 1) * 9 + j - 9 = i * 9 + j by omega]
      exact this

/-- a slice of panes, and where they lie -/
structure PanesIn (base : Nat) (w : World) (v : Value) (ps : List Pane) : Prop where
  row : (v = .slice none 0 0 ∧ ps = []) ∨ ∃ g cap sp, v = .slice (some ⟨g, 0, none⟩) ps.length cap ∧ Blk w g (flatP ps ++ sp) 140 ∧ base ≤ g
  ok : ∀ p ∈ ps, PaneOk w p ∧ base ≤ p.lb
theorem PanesIn.at' {base : Nat} {w : World} {v : Value} {ps : List Pane} (h : PanesIn base w v ps) : ∃ av cap, v = .slice av ps.length cap ∧ PanesAt w av ps := by
  rcases h.row with ⟨rfl, rfl⟩ | ⟨g, cap, sp, rfl, hb, _⟩
  · exact ⟨none, 0, rfl, fun i p hp => by simp at hp⟩
  · refine ⟨_, cap, rfl, fun i p hp => ⟨g, rfl, ?_, (h.ok p (List.mem_of_getElem? hp)).1⟩⟩
    have hi : i < ps.length := (List.getElem?_eq_some_iff.1 hp).1
    have hl := flatP_length ps
    have k : ∀ j, j < 9 → w.cell? ⟨g, i * 9 + j, none⟩ = p.vals[j]? := by
      intro j hj
      rw [hb.cell, List.getElem?_append_left (by omega), flatP_at ps i p hp j hj]
    exact ⟨k 0 (by decide), k 1 (by decide), k 2 (by decide), k 3 (by decide), k 4 (by decide), k 5 (by decide), k 6 (by decide), k 7 (by decide), k 8 (by decide)⟩
theorem PanesIn.fr {base : Nat} {w w' : World} {S : List Nat} {v : Value} {ps : List Pane} (h : PanesIn base w v ps) (f : Fr S w w') (h1 : ∀ g, v.ownBlock = some g → g ∉ S) (h2 : ∀ p ∈ ps, p.lb ∉ S) : PanesIn base w' v ps := by
  refine ⟨?_, fun p hp => ⟨(h.ok p hp).1.fr f (h2 p hp), (h.ok p hp).2⟩⟩
  rcases h.row with h0 | ⟨g, cap, sp, rfl, hb, hg⟩
  · exact .inl h0
  · exact .inr ⟨g, cap, sp, rfl, hb.fr f (h1 g rfl), hg⟩

theorem LinesAt.ne {w : World} {b c : Nat} {ls : List ByteArray} {vs : List Value} {ty : TypeId} (h : LinesAt w b ls) (k : Blk w c vs ty) (ht : 9 ≠ ty) : b ≠ c := by
  obtain ⟨us, hu, _⟩ := h
  exact hu.ne k ht
theorem LinesAt.grown {w w' : World} {row : Option Nat} {b : Nat} {ls : List ByteArray} (h : LinesAt w b ls) (hg : w.grownBy w' row) (hn : some b ≠ row) : LinesAt w' b ls := by
  obtain ⟨us, hu, h2⟩ := h
  exact ⟨us, hu.grown hg hn, h2⟩
theorem LinesAt.off {w : World} {base : Nat} {b : Nat} {ls : List ByteArray} {v : Value} {n size : Nat} {xs : List Value} (h : LinesAt w b ls) (k : w.ownsRow base 140 size v n xs) : some b ≠ v.ownBlock := by
  obtain ⟨us, hu, _⟩ := h
  exact own_ne k hu (by decide)
/-- what a slice owns is a block of its type -/
theorem own_blk' {w : World} {base : Nat} {e : TypeId} {size : Nat} {v : Value} {n : Nat} {xs : List Value} (h : w.ownsRow base e size v n xs) {g : Nat} (hv : v.ownBlock = some g) : ∃ us, Blk w g us e := by
  rcases h.2 with ⟨rfl, _⟩ | ⟨g', cap, cur, rfl, _, hg, _⟩
  · simp [Value.ownBlock] at hv
  · simp [Value.ownBlock] at hv
    subst hv
    exact ⟨cur.toList, by unfold Blk; rw [hg]⟩
theorem nine_one (a0 a1 a2 a3 a4 a5 a6 : Int) (v : Value) (a8 : Int) (hv : v.oneCell' = true) : ∀ u ∈ [Value.int .i64 a0, .int .i64 a1, .int .i64 a2, .int .i64 a3, .int .i64 a4, .int .i64 a5, .int .u8 a6, v, .int .i64 a8], u.oneCell' = true := by
  intro u hu
  simp only [List.mem_cons, List.not_mem_nil, or_false] at hu
  rcases hu with rfl | rfl | rfl | rfl | rfl | rfl | rfl | rfl | rfl <;> first | exact hv | rfl

set_option maxHeartbeats 1000000 in
set_option maxRecDepth 100000 in
theorem next_no (pv : Option Addr) (wa : Option Addr) (ws : List Win) (n wcap : Nat) (w : World) (h : WinsAt w wa ws) (hn : ws.length = n) (hcap : n ≤ wcap) (hl : n ≤ 9223372036854775807) (hsz : ∀ o ∈ ws, o.text.size ≤ 9223372036854775807) (he : errV ws ≠ 0) :
    Calls Tryz.prog 72 #[.pointer pv, .slice wa n wcap] w fun e w' => e = .returned (.tuple #[.agg #[.slice none 0 0], .int .i64 (errV ws)]) ∧ Fr [] w w' := by
  have CK := hide (check_any ws wa n wcap (w.alloc (.cells #[.slice none 0 0] 94)) (h.fr ((Fr.refl [] _).alloc _) (by simp)) hn hcap hl hsz)
  have be : (errV ws == 0) = false := by simpa using he
  clear h hsz he
  generalize errV ws = er at *
  go_enter Tryz.func72, Tryz.ntmps72
  go_wp2_with fail
  refine CK.out.mono ?_
  rintro e w1 ⟨rfl, f1⟩
  have B := (Blk.new w [.slice none 0 0] 94).fr0 f1
  have c0 : w1.cell? ⟨w.heap.size, 0, none⟩ = some (.slice none 0 0) := B.cell 0
  have z0 := B.frozen 0
  have F : Hid (Fr [] w w1) := ((Fr.refl _ _).alloc _).then f1
  clear B f1
  go_wp2
  refine bodyPost_ret (v := .tuple #[.agg #[.slice none 0 0], .int .i64 er]) (by simp [results, Tryz.results72, go_sem, c0]) rfl ?_
  exact ⟨rfl, F.out.setCell (.inr (by simp)) _⟩

/-- the view that comes behind is handed back -/
def NextPost (w : World) (ps : List Pane) (ws : List Win) (e : Ending) (w' : World) : Prop :=
  ∃ v qs, e = .returned (.tuple #[.agg #[v], .int .i64 0]) ∧ view qs = (view ps).next ws ∧ PanesIn w.heap.size w' v qs ∧ Fr [] w w'

theorem next_take (v : V) (ws : List Win) (k : Nat) (o : Win) (h : ws[k]? = some o) : (v.next ws).take (k + 1) = (v.next ws).take k ++ [(o, o.fits (v.offOf o.key))] := by
  rw [List.take_add_one]
  simp [V.next, h]

theorem info_pane : (Tryz.prog.info? 140).map (fun i => (i.zero, i.size, i.bytes)) = some (some (.agg #[.int .i64 0, .int .i64 0, .int .i64 0, .int .i64 0, .int .i64 0, .int .i64 0, .int .u8 0, .slice none 0 0, .int .i64 0]), 9, 88) := by kernel_rfl
end Go.Proofs.YtjhccghhinlmdaaGreatDoor
/- Package views' View: the view that comes behind, of windows that may be. -/
namespace Go.Proofs.YtjhccghhinlmdaaGreatDoor
open Go.RowKit

theorem PaneOk.off {w : World} {base : Nat} {p : Pane} {v : Value} {n size : Nat} {xs : List Value} (h : PaneOk w p) (k : w.ownsRow base 140 size v n xs) : some p.lb ≠ v.ownBlock := h.ls.off k
theorem PaneOk.grown {w w' : World} {row : Option Nat} {p : Pane} (h : PaneOk w p) (hg : w.grownBy w' row) (hn : some p.lb ≠ row) : PaneOk w' p := ⟨h.ok, h.o1, h.o2, h.ls.grown hg hn⟩

/-- so many panes of the new view have been made -/
structure Made (base : Nat) (w : World) (nb : Nat) (v : Value) (qs : List Pane) : Prop where
  hd : Blk w nb [v] 94
  row : w.ownsRow base 140 9 v qs.length (flatP qs)
  ok : ∀ p ∈ qs, PaneOk w p ∧ base ≤ p.lb
theorem Made.fr {base : Nat} {w w' : World} {S : List Nat} {nb : Nat} {v : Value} {qs : List Pane} (h : Made base w nb v qs) (f : Fr S w w') (hs : ∀ x ∈ S, w.heap.size ≤ x) : Made base w' nb v qs := by
  have f0 : Fr [] w w' := f.weak (fun i hi => .inr (hs i hi))
  exact ⟨h.hd.fr0 f0, own_fr0 h.row f0, fun p hp => ⟨(h.ok p hp).1.fr f0 (by simp), (h.ok p hp).2⟩⟩
theorem Made.more {base : Nat} {w w1 w2 : World} {nb g cap : Nat} {v : Value} {qs : List Pane} {q : Pane} {o : Obj} (h : Made base w nb v qs) (hq : PaneOk w q) (hb : base ≤ q.lb) (hw : w1 = w.alloc o)
    (hown : w2.ownsRow base 140 9 (.slice (some ⟨g, 0, none⟩) (qs.length + 1) cap) (qs.length + 1) (flatP qs ++ q.vals)) (hg : w1.grownBy w2 v.ownBlock) :
    Blk w2 nb [v] 94 ∧ Made base (w2.setCell ⟨nb, 0, none⟩ (.slice (some ⟨g, 0, none⟩) (qs.length + 1) cap)) nb (.slice (some ⟨g, 0, none⟩) (qs.length + 1) cap) (qs ++ [q]) := by
  subst hw
  have hA := h.fr ((Fr.refl [] w).alloc o) (by simp)
  have hqA : PaneOk (w.alloc o) q := hq.fr ((Fr.refl [] _).alloc _) (by simp)
  have hd2 : Blk w2 nb [v] 94 := hA.hd.grown hg (own_ne hA.row hA.hd (by decide))
  have fs : Fr [nb] w2 (w2.setCell ⟨nb, 0, none⟩ (.slice (some ⟨g, 0, none⟩) (qs.length + 1) cap)) := (Fr.refl _ _).setCell (.inl (by simp)) _
  have each : ∀ p, PaneOk (w.alloc o) p → PaneOk (w2.setCell ⟨nb, 0, none⟩ (.slice (some ⟨g, 0, none⟩) (qs.length + 1) cap)) p := by
    intro p hp
    have h2 : PaneOk w2 p := hp.grown hg (hp.off hA.row)
    exact h2.fr fs (by simpa using h2.ls.ne hd2 (by decide))
  refine ⟨hd2, hd2.set 0 _, ?_, ?_⟩
  · rw [← flatP_snoc, List.length_append]
    exact own_fr hown fs (by intro b hb; simp at hb; subst hb; exact own_ne hown hd2 (by decide))
  · intro p hp
    rcases List.mem_append.1 hp with hp | hp
    · exact ⟨each p (hA.ok p hp).1, (h.ok p hp).2⟩
    · simp at hp; subst hp; exact ⟨each p hqA, hb⟩

set_option maxHeartbeats 4000000 in
set_option maxRecDepth 100000 in
theorem next_yes (b c : Nat) (av : Option Addr) (cap : Nat) (ps : List Pane) (wa : Option Addr) (ws : List Win) (n wcap : Nat) (w : World) (h0 : w.cell? ⟨b, c, none⟩ = some (.slice av ps.length cap)) (hps : PanesAt w av ps) (hn12 : ps.length ≤ 12)
    (h : WinsAt w wa ws) (hn : ws.length = n) (hcap : n ≤ wcap) (hsz : ∀ o ∈ ws, o.text.size ≤ 9223372036854775807) (he : errV ws = 0) :
    Calls Tryz.prog 72 #[.pointer (some ⟨b, c, none⟩), .slice wa n wcap] w (NextPost w ps ws) := by
  subst hn
  obtain ⟨l12, hok⟩ := errV_ok he
  have CK := hide (check_any ws wa _ wcap (w.alloc (.cells #[.slice none 0 0] 94)) (h.fr ((Fr.refl [] _).alloc _) (by simp)) rfl hcap (by omega) hsz)
  rw [he] at CK
  obtain ⟨i0, hi, hz0, hz1, hz2⟩ := info_parts info_pane
  have H := hide h
  have HP := hide hps
  have HK := hide hok
  clear h hsz he hps hok
  go_enter Tryz.func72, Tryz.ntmps72
  go_wp2_with fail
  refine CK.out.mono ?_
  rintro e w1 ⟨rfl, f1⟩
  have FW : Hid (Fr [] w w1) := ((Fr.refl _ _).alloc _).then f1
  have B0 : Hid (Blk w1 w.heap.size [.slice none 0 0] 94) := (Blk.new w [.slice none 0 0] 94).fr0 f1
  clear f1 CK
  have hw1 : w.heap.size < w1.heap.size := B0.out.lt
  go_wp2
  go_loopw [8] (fun i wr => ∃ (k : Nat) (v : Value) (qs : List Pane), i = .int .i64 k ∧ k ≤ ws.length ∧ qs.length = k ∧ Fr [] w wr ∧ Blk wr w.heap.size [.slice none 0 0] 94 ∧ Made w.heap.size wr w1.heap.size v qs ∧ view qs = ((view ps).next ws).take k) (fun i _ => (3000 - intOf i).toNat)
  case atStart => exact ⟨0, .slice none 0 0, [], rfl, by omega, rfl, FW.out.alloc _, B0.out.alloc _, ⟨Blk.new w1 [.slice none 0 0] 94, World.ownsRow_nil _ _ _ _, by simp⟩, by simp [view]⟩
  case round =>
    obtain ⟨k, v, qs, rfl, hk, hq, f, hb0, hm, hv⟩ := hrel
    subst hq
    by_cases hend : qs.length < ws.length
    · obtain ⟨o, ho⟩ : ∃ o, ws[qs.length]? = some o := ⟨_, List.getElem?_eq_getElem hend⟩
      have ok := (errAt_ok (HK.out qs.length o ho)).1
      have NT := hide (next_take (view ps) ws qs.length o ho)
      obtain ⟨wb, woff, rfl, C⟩ := H.out.fr f (by simp) qs.length o ho
      obtain ⟨c0, c1, c2, c3, c4, c5, c6, c7⟩ := C
      have b1 : (qs.length : Int) < ws.length := by omega
      have HB0 := hide hb0
      have HM := hide hm
      have HV := hide hv
      clear hb0 hm hv ho
      go_wp2_with fail
      refine (newPane_any o _ ok).mono ?_
      rintro e w2 ⟨p, hpo, hpf, rfl, hlb, pok, f2⟩
      subst hpo
      have F2 := hide f2
      have FP : Hid (Fr [] w w2) := f.then f2
      have POK := hide pok
      have M2 : Hid (Made w.heap.size w2 w1.heap.size v qs) := HM.out.fr f2 (by simp)
      have PF := hide hpf
      have LB : Hid (w.heap.size ≤ p.lb) := Nat.le_trans f.size hlb
      clear c0 c1 c2 c3 c4 c5 c6 c7 f2 pok hpf hlb HM
      have FA : Hid (Fr [] w (w2.alloc (.cells #[.int .i64 p.o.key, .int .i64 p.o.x, .int .i64 p.o.y, .int .i64 p.o.w, .int .i64 p.o.h, .int .i64 p.o.layer, .int .u8 p.o.style, .slice (some ⟨p.lb, 0, none⟩) p.ls.length p.lc, .int .i64 0] 140))) := FP.out.alloc _
      have OF : Hid (Calls Tryz.prog 92 #[.pointer (some ⟨b, c, none⟩), .int .i64 p.o.key] (w2.alloc (.cells #[.int .i64 p.o.key, .int .i64 p.o.x, .int .i64 p.o.y, .int .i64 p.o.w, .int .i64 p.o.h, .int .i64 p.o.layer, .int .u8 p.o.style, .slice (some ⟨p.lb, 0, none⟩) p.ls.length p.lc, .int .i64 0] 140)) fun e w' => e = .returned (.int .i64 ((view ps).offOf p.o.key)) ∧ (w2.alloc (.cells #[.int .i64 p.o.key, .int .i64 p.o.x, .int .i64 p.o.y, .int .i64 p.o.w, .int .i64 p.o.h, .int .i64 p.o.layer, .int .u8 p.o.style, .slice (some ⟨p.lb, 0, none⟩) p.ls.length p.lc, .int .i64 0] 140)) = w') :=
        offset_any b c av cap ps p.o.key _ (by rw [← h0]; exact World.cell?_of_block (w := w) (FA.out.block b (World.block_lt_of_cell? w _ h0) (by simp))) (HP.out.fr0 FA.out) hn12
      have SC : Hid (Calls Tryz.prog 93 #[.pointer (some ⟨w2.heap.size, 0, none⟩), .int .i64 ((view ps).offOf p.o.key)] (w2.alloc (.cells #[.int .i64 p.o.key, .int .i64 p.o.x, .int .i64 p.o.y, .int .i64 p.o.w, .int .i64 p.o.h, .int .i64 p.o.layer, .int .u8 p.o.style, .slice (some ⟨p.lb, 0, none⟩) p.ls.length p.lc, .int .i64 0] 140)) fun e w' => e = .returned (.tuple #[]) ∧ Fr [w2.heap.size] (w2.alloc (.cells #[.int .i64 p.o.key, .int .i64 p.o.x, .int .i64 p.o.y, .int .i64 p.o.w, .int .i64 p.o.h, .int .i64 p.o.layer, .int .u8 p.o.style, .slice (some ⟨p.lb, 0, none⟩) p.ls.length p.lc, .int .i64 0] 140)) w' ∧ Blk w' w2.heap.size [.int .i64 p.o.key, .int .i64 p.o.x, .int .i64 p.o.y, .int .i64 p.o.w, .int .i64 p.o.h, .int .i64 p.o.layer, .int .u8 p.o.style, .slice (some ⟨p.lb, 0, none⟩) p.ls.length p.lc, .int .i64 (p.o.fits ((view ps).offOf p.o.key))] 140) :=
        scrollTo_any w2.heap.size 0 p.lb p.lc p.o ((view ps).offOf p.o.key) _ [.int .i64 p.o.key, .int .i64 p.o.x, .int .i64 p.o.y, .int .i64 p.o.w, .int .i64 p.o.h, .int .i64 p.o.layer, .int .u8 p.o.style, .slice (some ⟨p.lb, 0, none⟩) p.ls.length p.lc, .int .i64 0] 140 (Blk.new _ _ _) 0 rfl rfl rfl ok
      have ft := Win.fits_bd p.o ok ((view ps).offOf p.o.key)
      generalize hoff : (view ps).offOf p.o.key = off at *
      go_wp2_with fail
      refine OF.out.mono ?_
      rintro e w3 ⟨rfl, wc⟩
      subst wc
      go_wp2_with fail
      refine SC.out.mono ?_
      rintro e w3 ⟨rfl, f3, b3⟩
      have F3 : Hid (Fr [] w2 w3) := (((Fr.refl _ _).alloc _).of_nil.then f3).weak (by simp)
      have M3 : Hid (Made w.heap.size w3 w1.heap.size v qs) := M2.out.fr F3.out (by simp)
      have B3 := hide b3
      have PQ : Hid (PaneOk w3 ⟨p.o, p.o.fits off, p.lb, p.lc⟩) := ⟨ok, ft.1, ft.2, POK.out.ls.fr F3.out (by simp)⟩
      have a0 : w3.cell? ⟨w2.heap.size, 0, none⟩ = some (.int .i64 p.o.key) := b3.cell 0
      have a1 : w3.cell? ⟨w2.heap.size, 1, none⟩ = some (.int .i64 p.o.x) := b3.cell 1
      have a2 : w3.cell? ⟨w2.heap.size, 2, none⟩ = some (.int .i64 p.o.y) := b3.cell 2
      have a3 : w3.cell? ⟨w2.heap.size, 3, none⟩ = some (.int .i64 p.o.w) := b3.cell 3
      have a4 : w3.cell? ⟨w2.heap.size, 4, none⟩ = some (.int .i64 p.o.h) := b3.cell 4
      have a5 : w3.cell? ⟨w2.heap.size, 5, none⟩ = some (.int .i64 p.o.layer) := b3.cell 5
      have a6 : w3.cell? ⟨w2.heap.size, 6, none⟩ = some (.int .u8 p.o.style) := b3.cell 6
      have a7 : w3.cell? ⟨w2.heap.size, 7, none⟩ = some (.slice (some ⟨p.lb, 0, none⟩) p.ls.length p.lc) := b3.cell 7
      have a8 : w3.cell? ⟨w2.heap.size, 8, none⟩ = some (.int .i64 (p.o.fits off)) := b3.cell 8
      have blt := b3.lt
      have e0 : w3.cell? ⟨w1.heap.size, 0, none⟩ = some v := M3.out.hd.cell 0
      have FZ : Hid (Fr [] w w3) := FP.out.then F3.out
      have OB : Hid (w.heap.size ≤ w3.heap.size) := FZ.out.size
      have B03 : Hid (Blk w3 w.heap.size [.slice none 0 0] 94) := HB0.out.fr0 (F2.out.then F3.out)
      have VS : Hid (view (qs ++ [⟨p.o, p.o.fits off, p.lb, p.lc⟩]) = ((view ps).next ws).take (qs.length + 1)) := by
        have := NT.out
        show _ = _
        rw [this, ← HV.out]
        simp [view, Pane.wo]
      clear f3 b3 SC OF POK M2 B3 FA HV NT hoff
      go_wp2_with (at_builtin; refine wpList_append_lies _ rfl (.tmp 35) (.tmp 37) 92 rfl w.heap.size 140 i0 (.agg #[.int .i64 0, .int .i64 0, .int .i64 0, .int .i64 0, .int .i64 0, .int .i64 0, .int .u8 0, .slice none 0 0, .int .i64 0]) 9 88 Tryz.underlying92 hi hz0 hz1 hz2 rfl (by decide) v qs.length (flatP qs) rfl (own_fr0 M3.out.row ((Fr.refl _ _).alloc _)) ⟨w3.heap.size, 0, none⟩ 1 1 [.int .i64 p.o.key, .int .i64 p.o.x, .int .i64 p.o.y, .int .i64 p.o.w, .int .i64 p.o.h, .int .i64 p.o.layer, .int .u8 p.o.style, .slice (some ⟨p.lb, 0, none⟩) p.ls.length p.lc, .int .i64 (p.o.fits off)] rfl rfl (World.news_of_block (cs := #[.int .i64 p.o.key, .int .i64 p.o.x, .int .i64 p.o.y, .int .i64 p.o.w, .int .i64 p.o.h, .int .i64 p.o.layer, .int .u8 p.o.style, .slice (some ⟨p.lb, 0, none⟩) p.ls.length p.lc, .int .i64 (p.o.fits off)]) (t := 140) (fr := (0, 0)) (by exact heap_alloc_new w3 _)) (nine_one _ _ _ _ _ _ _ _ _ rfl) (by omega) (by unfold maxLen; omega) (by omega) (by simp; have := OB.out; omega) (w3.heap.size + 1) (by simp) ?_; intro g1 cap1 w4 hown1 hgrow hat hlt1; have D := Made.more M3.out PQ.out LB.out rfl hown1 hgrow; have q3 : w4.cell? ⟨w1.heap.size, 0, none⟩ = some v := D.1.cell 0; have fz3 := D.1.frozen 0; have D1 := hide D.1; have D2 := hide D.2; have F4 : Hid (Fr [] w w4) := (Fr.grown (FZ.out.alloc _) hgrow (fun j hj => .inr (M3.out.row.lt j hj).1)); have B04 : Hid (Blk w4 w.heap.size [.slice none 0 0] 94) := ((B03.out.alloc _).grown hgrow (own_ne M3.out.row B03.out (by decide))); clear D hown1 hgrow hat)
      go_roundw
      case rel =>
        refine ⟨qs.length + 1, _, _, by go_num, by omega, by simp, F4.out.setCell (.inr (by simp; omega)) _, ?_, D2.out, VS.out⟩
        exact B04.out.setOther (by simp; omega) _
      case measure => simp [intOf]; omega
    · have hk' : qs.length = ws.length := by omega
      have HV : Hid (view qs = (view ps).next ws) := by
        show _ = _; rw [hv, List.take_of_length_le (by simp [V.next]; omega)]
      have HPN : Hid (PanesIn w.heap.size wr v qs) := by
        refine ⟨?_, hm.ok⟩
        rcases hm.row.2 with ⟨rfl, h00⟩ | ⟨g, cap', cur, rfl, hbg, hg, hc1, hc2, hc3, hc4⟩
        · exact .inl ⟨rfl, List.eq_nil_of_length_eq_zero h00⟩
        · refine .inr ⟨g, cap', cur.toList.drop (qs.length * 9), rfl, ?_, hbg⟩
          rw [← hc4, List.take_append_drop]; exact hg
      have NE : Hid (∀ g, v.ownBlock = some g → g ∉ [w.heap.size]) := by
        intro g hg
        obtain ⟨us, hu⟩ := own_blk' hm.row hg
        simpa using hu.ne hb0 (by decide)
      have NL : Hid (∀ p ∈ qs, p.lb ∉ [w.heap.size]) := by
        intro p hp
        simpa using (hm.ok p hp).1.ls.ne hb0 (by decide)
      have e0 : wr.cell? ⟨w1.heap.size, 0, none⟩ = some v := hm.hd.cell 0
      have r0 : wr.cell? ⟨w.heap.size, 0, none⟩ = some (.slice none 0 0) := hb0.cell 0
      have z0 := hb0.frozen 0
      have blt := hb0.lt
      have hone : v.oneCell' = true := by
        rcases hm.row.2 with ⟨rfl, _⟩ | ⟨g, cap', cur, rfl, _⟩ <;> rfl
      obtain ⟨sa, sl, sc, rfl⟩ : ∃ sa sl sc, v = .slice sa sl sc := by
        rcases hm.row.2 with ⟨rfl, _⟩ | ⟨g, cap', cur, rfl, _⟩ <;> exact ⟨_, _, _, rfl⟩
      clear hm hb0 hv hone
      go_wp2
      refine bodyPost_ret (v := .tuple #[.agg #[.slice sa sl sc], .int .i64 0]) (by simp [results, Tryz.results72, go_sem, r0]) rfl ?_
      exact ⟨_, qs, rfl, HV.out, HPN.out.fr (S := [w.heap.size]) ((Fr.refl _ _).setCell (.inl (by simp)) _) NE.out NL.out, f.setCell (.inr (by simp)) _⟩
end Go.Proofs.YtjhccghhinlmdaaGreatDoor
/- Package views' View: a window is scrolled. -/
namespace Go.Proofs.YtjhccghhinlmdaaGreatDoor
open Go.RowKit

theorem V.idx_cons (o : Win) (n : Int) (v : V) (key : Int) : V.idx ((o, n) :: v) key = if o.key = key then some 0 else (V.idx v key).map (· + 1) := rfl

set_option maxHeartbeats 2000000 in
set_option maxRecDepth 100000 in
theorem vscroll_no (b c : Nat) (av : Option Addr) (cap : Nat) (ps : List Pane) (key n : Int) (w : World) (h0 : w.cell? ⟨b, c, none⟩ = some (.slice av ps.length cap)) (h : PanesAt w av ps) (hn : ps.length ≤ 12) (hi : (view ps).idx key = none) :
    Calls Tryz.prog 77 #[.pointer (some ⟨b, c, none⟩), .int .i64 key, .int .i64 n] w fun e w' => e = .returned (.int .i64 4) ∧ w = w' := by
  have H := hide h
  have HI := hide hi
  clear h hi
  go_enter Tryz.func77, Tryz.ntmps77
  go_wp2
  go_loopw [7] (fun i wr => ∃ k : Nat, i = .int .i64 k ∧ k ≤ ps.length ∧ w = wr ∧ V.idx ((view ps).drop k) key = none) (fun i _ => (3000 - intOf i).toNat)
  case atStart => exact ⟨0, rfl, by omega, rfl, HI.out⟩
  case round =>
    obtain ⟨k, rfl, hk, rfl, he⟩ := hrel
    by_cases hend : k < ps.length
    · obtain ⟨p, hp⟩ : ∃ p, ps[k]? = some p := ⟨_, List.getElem?_eq_getElem hend⟩
      obtain ⟨g, rfl, C, OK⟩ := H.out k p hp
      have c0 := C.c0
      have b1 : (k : Int) < ps.length := by omega
      rw [view_drop hp, V.idx_cons] at he
      have hq : p.o.key ≠ key := by intro hq; rw [if_pos hq] at he; cases he
      rw [if_neg hq] at he
      have E := hide (show V.idx ((view ps).drop (k + 1)) key = none by simpa using he)
      have bq : (p.o.key == key) = false := by simpa using hq
      clear he C OK H hq hp
      go_wp2
      go_roundw
      case rel => exact ⟨k + 1, by go_num, by omega, by trivial, E.out⟩
      case measure => simp [intOf]; omega
    · go_wp2
      go_ret
      exact ⟨rfl, rfl⟩

set_option maxHeartbeats 2000000 in
set_option maxRecDepth 100000 in
theorem vscroll_far (b c : Nat) (av : Option Addr) (cap : Nat) (ps : List Pane) (key n : Int) (i : Nat) (w : World) (h0 : w.cell? ⟨b, c, none⟩ = some (.slice av ps.length cap)) (h : PanesAt w av ps) (hn : ps.length ≤ 12) (hi : (view ps).idx key = some i) (hf : n < -500 ∨ 500 < n) :
    Calls Tryz.prog 77 #[.pointer (some ⟨b, c, none⟩), .int .i64 key, .int .i64 n] w fun e w' => e = .returned (.int .i64 8) ∧ w = w' := by
  have H := hide h
  have HI := hide hi
  clear h hi
  go_enter Tryz.func77, Tryz.ntmps77
  go_wp2
  go_loopw [7] (fun i wr => ∃ k : Nat, i = .int .i64 k ∧ k ≤ ps.length ∧ w = wr ∧ ∃ j, V.idx ((view ps).drop k) key = some j) (fun i _ => (3000 - intOf i).toNat)
  case atStart => exact ⟨0, rfl, by omega, rfl, i, HI.out⟩
  case round =>
    obtain ⟨k, rfl, hk, rfl, j, he⟩ := hrel
    by_cases hend : k < ps.length
    · obtain ⟨p, hp⟩ : ∃ p, ps[k]? = some p := ⟨_, List.getElem?_eq_getElem hend⟩
      obtain ⟨g, rfl, C, OK⟩ := H.out k p hp
      have c0 := C.c0
      have b1 : (k : Int) < ps.length := by omega
      rw [view_drop hp, V.idx_cons] at he
      by_cases hq : p.o.key = key
      · have bq : (p.o.key == key) = true := by simpa using hq
        clear he C OK H hq hp
        rcases hf with hf | hf
        · go_wp2
          go_ret
          exact ⟨rfl, rfl⟩
        · go_wp2
          go_ret
          exact ⟨rfl, rfl⟩
      · rw [if_neg hq] at he
        have E : Hid (∃ j, V.idx ((view ps).drop (k + 1)) key = some j) := by
          obtain ⟨q, hq, _⟩ := Option.map_eq_some_iff.1 he
          exact ⟨q, hq⟩
        have bq : (p.o.key == key) = false := by simpa using hq
        clear he C OK H hq hp
        go_wp2
        go_roundw
        case rel => exact ⟨k + 1, by go_num, by omega, by trivial, E.out⟩
        case measure => simp [intOf]; omega
    · rw [List.drop_eq_nil_of_le (by simp [view]; omega)] at he; cases he

theorem flatP_set (ps : List Pane) : ∀ (i : Nat) (p : Pane) (n : Int), ps[i]? = some p → (flatP ps).set (i * 9 + 8) (.int .i64 n) = flatP (ps.set i { p with off := n }) := by
  induction ps with
  | nil => intro i p n h; simp at h
  | cons q ps ih =>
    intro i p n h
    cases i with
    | zero =>
      simp at h; subst h
      simp only [flatP, List.flatMap_cons, Nat.zero_mul, Nat.zero_add, List.set_cons_zero]
      rw [List.set_append_left _ _ (by simp [Pane.vals])]
      rfl
    | succ i =>
      simp at h
      have := ih i p n h
      have hq : q.vals.length = 9 := rfl
      simp only [flatP, List.flatMap_cons, List.set_cons_succ] at *
      rw [List.set_append_right _ _ (by omega), hq, show (i + 1) * 9 + 8 - 9 = i * 9 + 8 by omega, this]
theorem view_set (ps : List Pane) (i : Nat) (p : Pane) (n : Int) (h : ps[i]? = some p) : view (ps.set i { p with off := n }) = (view ps).put i n := by
  unfold V.put
  rw [view_at h]
  simp [view, List.map_set, Pane.wo]

/-- a pane's offset has been turned -/
theorem PanesIn.turn {base : Nat} {w w' : World} {g cap : Nat} {sp : List Value} {ps : List Pane} {i : Nat} {p : Pane} {n : Int} (h : PanesIn base w (.slice (some ⟨g, 0, none⟩) ps.length cap) ps) (hb : Blk w g (flatP ps ++ sp) 140) (hg : base ≤ g) (hp : ps[i]? = some p) (f : Fr [g] w w') (hb2 : Blk w' g ((flatP ps ++ sp).set (i * 9 + 8) (.int .i64 n)) 140) (n1 : 0 ≤ n) (n2 : n ≤ 401) :
    PanesIn base w' (.slice (some ⟨g, 0, none⟩) ps.length cap) (ps.set i { p with off := n }) := by
  have hi : i < ps.length := (List.getElem?_eq_some_iff.1 hp).1
  have hl := flatP_length ps
  have each : ∀ q ∈ ps, PaneOk w' q := fun q hq => (h.ok q hq).1.fr f (by simpa using (h.ok q hq).1.ls.ne hb (by decide))
  refine ⟨.inr ⟨g, cap, sp, by simp, ?_, hg⟩, ?_⟩
  · rw [List.set_append_left _ _ (by omega), flatP_set ps i p n hp] at hb2
    exact hb2
  · intro q hq
    rcases List.mem_or_eq_of_mem_set hq with hq | hq
    · exact ⟨each q hq, (h.ok q hq).2⟩
    · subst hq
      have := each p (List.mem_of_getElem? hp)
      exact ⟨⟨this.ok, n1, n2, this.ls⟩, (h.ok p (List.mem_of_getElem? hp)).2⟩

/-- a window of the view has been scrolled -/
def ScrollPost (base : Nat) (w : World) (v : Value) (ps : List Pane) (i : Nat) (n : Int) (e : Ending) (w' : World) : Prop :=
  e = .returned (.int .i64 0) ∧ ∃ qs, view qs = (view ps).scroll i n ∧ PanesIn base w' v qs ∧ Fr v.ownBlock.toList w w' ∧ qs.map Pane.lb = ps.map Pane.lb ∧ qs.length = ps.length

set_option maxHeartbeats 2000000 in
set_option maxRecDepth 100000 in
theorem vscroll_yes (b c : Nat) (v : Value) (ps : List Pane) (key n : Int) (i base : Nat) (w : World) (h0 : w.cell? ⟨b, c, none⟩ = some v) (h : PanesIn base w v ps) (hn : ps.length ≤ 12) (hi : (view ps).idx key = some i) (n1 : -500 ≤ n) (n2 : n ≤ 500) :
    Calls Tryz.prog 77 #[.pointer (some ⟨b, c, none⟩), .int .i64 key, .int .i64 n] w (ScrollPost base w v ps i n) := by
  have hlt : i < ps.length := by simpa [view] using V.idx_lt hi
  rcases h.row with ⟨_, rfl⟩ | ⟨g, cap, sp, rfl, hb, hg⟩
  · simp at hlt
  obtain ⟨av, cap', hv, hat⟩ := h.at'
  simp only [Value.slice.injEq, true_and] at hv
  obtain ⟨rfl, rfl⟩ := hv
  have H := hide h
  have HI := hide hi
  have HB := hide hb
  have HA := hide hat
  clear h hi hb hat
  go_enter Tryz.func77, Tryz.ntmps77
  go_wp2
  go_loopw [7] (fun u wr => ∃ k : Nat, u = .int .i64 k ∧ k ≤ ps.length ∧ w = wr ∧ ∃ j, V.idx ((view ps).drop k) key = some j ∧ i = k + j) (fun i _ => (3000 - intOf i).toNat)
  case atStart => exact ⟨0, rfl, by omega, rfl, i, HI.out, by omega⟩
  case round =>
    obtain ⟨k, rfl, hk, rfl, j, he, hj⟩ := hrel
    by_cases hend : k < ps.length
    · obtain ⟨p, hp⟩ : ∃ p, ps[k]? = some p := ⟨_, List.getElem?_eq_getElem hend⟩
      obtain ⟨g', hg', C, OK⟩ := HA.out k p hp
      simp only [Option.some.injEq, Addr.mk.injEq, and_true] at hg'
      subst hg'
      have c0 := C.c0
      have c8 := C.c8
      have b1 : (k : Int) < ps.length := by omega
      rw [view_drop hp, V.idx_cons] at he
      by_cases hq : p.o.key = key
      · rw [if_pos hq] at he
        have hj0 : j = 0 := by simpa using he.symm
        subst hj0
        simp only [Nat.add_zero] at hj
        subst hj
        have hl := flatP_length ps
        have v4 : (flatP ps ++ sp)[i * 9 + 4]? = some (.int .i64 p.o.h) := by rw [List.getElem?_append_left (by omega), flatP_at ps i p hp 4 (by decide)]; rfl
        have v7 : (flatP ps ++ sp)[i * 9 + 7]? = some (.slice (some ⟨p.lb, 0, none⟩) p.ls.length p.lc) := by rw [List.getElem?_append_left (by omega), flatP_at ps i p hp 7 (by decide)]; rfl
        have v8 : (flatP ps ++ sp)[i * 9 + 8]? = some (.int .i64 p.off) := by rw [List.getElem?_append_left (by omega), flatP_at ps i p hp 8 (by decide)]; rfl
        have SC : Hid (∀ w', Fr [] w w' → Calls Tryz.prog 93 #[.pointer (some ⟨g, i * 9, none⟩), .int .i64 (p.off + n)] w' fun e w'' => e = .returned (.tuple #[]) ∧ Fr [g] w' w'' ∧ Blk w'' g ((flatP ps ++ sp).set (i * 9 + 8) (.int .i64 (p.o.fits (p.off + n)))) 140) :=
          fun w' f' => scrollTo_any g (i * 9) p.lb p.lc p.o (p.off + n) w' _ _ (HB.out.fr0 f') p.off v4 v7 v8 OK.ok
        have o1 := OK.o1
        have o2 := OK.o2
        have ft := hide (Win.fits_bd p.o OK.ok (p.off + n))
        have FIN : Hid (∀ w1 w2, Fr [] w w1 → Fr [g] w1 w2 → Blk w2 g ((flatP ps ++ sp).set (i * 9 + 8) (.int .i64 (p.o.fits (p.off + n)))) 140 → ∃ qs, view qs = (view ps).scroll i n ∧ PanesIn base w2 (.slice (some ⟨g, 0, none⟩) ps.length cap) qs ∧ Fr (Value.slice (some ⟨g, 0, none⟩) ps.length cap).ownBlock.toList w w2 ∧ qs.map Pane.lb = ps.map Pane.lb ∧ qs.length = ps.length) := by
          intro w1 w2 f1 f2 hb2
          have f12 : Fr [g] w w2 := f1.of_nil.then f2
          refine ⟨ps.set i { p with off := p.o.fits (p.off + n) }, ?_, H.out.turn HB.out hg hp f12 hb2 ft.out.1 ft.out.2, by simpa [Value.ownBlock] using f12, ?_, by simp⟩
          · rw [view_set ps i p _ hp]; unfold V.scroll; rw [view_at hp]
          · rw [List.map_set]
            apply List.ext_getElem? ; intro m
            by_cases hm : m = i
            · subst hm; rw [List.getElem?_set_self (by simpa using hend), List.getElem?_map, hp]; rfl
            · rw [List.getElem?_set_ne (fun q => hm q.symm)]
        have bq : (p.o.key == key) = true := by simpa using hq
        have wrp : IntKind.i64.wrap (p.off + n) = p.off + n := by rw [IntKind.wrap_i64]; omega
        have blt : g < w.heap.size := HB.out.lt
        clear he C OK HA hq hp v4 v7 v8 HB H HI
        go_wp2
        go_region_with ((go_at_call 93; refine (SC.out _ ?hf).mono ?_; (case hf => (repeat first | exact Fr.refl _ _ | apply Fr.drew | apply Fr.drewN)); rintro e w1 ⟨rfl, f1, b1⟩; have FN := hide (FIN.out _ w1 (by repeat first | exact Fr.refl _ _ | apply Fr.drew | apply Fr.drewN) f1 b1); clear f1 b1))
        all_goals go_wp2
        all_goals
          go_ret
          exact ⟨rfl, FN.out⟩
      · rw [if_neg hq] at he
        have E : Hid (∃ j, V.idx ((view ps).drop (k + 1)) key = some j ∧ i = k + 1 + j) := by
          obtain ⟨q, hq, hq2⟩ := Option.map_eq_some_iff.1 he
          exact ⟨q, hq, by omega⟩
        have bq : (p.o.key == key) = false := by simpa using hq
        clear he C OK HA hq hp HB H
        go_wp2
        go_roundw
        case rel => exact ⟨k + 1, by go_num, by omega, by trivial, E.out⟩
        case measure => simp [intOf]; omega
    · rw [List.drop_eq_nil_of_le (by simp [view]; omega)] at he; cases he
end Go.Proofs.YtjhccghhinlmdaaGreatDoor
/- Whatever came: behind an end of all that has begun, a new pen, an empty screen and a Z in the corner there is that Z alone. Plain data alone. -/
namespace Go.Proofs.YtjhccghhinlmdaaGreatDoor
namespace T

/-- parameters are kept in a sequence alone -/
def Cln (t : T) : Prop := t.stage ≠ 2 → t.params = []

theorem feed_append (t : T) (a b : List Int) : t.feed (a ++ b) = (t.feed a).feed b := by simp [feed]
theorem feed_cons (t : T) (c : Int) (l : List Int) : t.feed (c :: l) = (t.take c).feed l := rfl
theorem feed_nil (t : T) : t.feed [] = t := rfl

/-- what no byte changes, but for sequences: the stage and the parameters -/
theorem rowDown_sp (t : T) : t.rowDown.stage = t.stage ∧ t.rowDown.params = t.params ∧ t.rowDown.W = t.W ∧ t.rowDown.H = t.H := by unfold rowDown; split <;> simp
theorem write_sp (t : T) (c : Int) : (t.write c).stage = t.stage ∧ (t.write c).params = t.params ∧ (t.write c).W = t.W ∧ (t.write c).H = t.H := by
  have h1 : ∀ u : T, (u.onward).stage = u.stage ∧ u.onward.params = u.params ∧ u.onward.W = u.W ∧ u.onward.H = u.H := by intro u; unfold onward; split <;> simp
  have h2 := rowDown_sp { t with x := 0 }
  have h3 : t.fresh.stage = t.stage ∧ t.fresh.params = t.params ∧ t.fresh.W = t.W ∧ t.fresh.H = t.H := by
    unfold fresh
    split
    · exact ⟨h2.1, h2.2.1, h2.2.2.1, h2.2.2.2⟩
    · exact ⟨rfl, rfl, rfl, rfl⟩
  have h4 := h1 (t.fresh.put c)
  exact ⟨h4.1.trans h3.1, h4.2.1.trans h3.2.1, h4.2.2.1.trans h3.2.2.1, h4.2.2.2.trans h3.2.2.2⟩
theorem takePlain_sp (t : T) (c : Int) : (t.takePlain c).params = t.params ∧ (t.takePlain c).W = t.W ∧ (t.takePlain c).H = t.H ∧ ((t.takePlain c).stage = t.stage ∨ (t.takePlain c).stage = 1) := by
  unfold takePlain
  have h1 := rowDown_sp t
  have h2 := write_sp t c
  repeat' split
  · exact ⟨rfl, rfl, rfl, .inr rfl⟩
  · exact ⟨rfl, rfl, rfl, .inl rfl⟩
  · exact ⟨h1.2.1, h1.2.2.1, h1.2.2.2, .inl h1.1⟩
  · exact ⟨rfl, rfl, rfl, .inl rfl⟩
  · exact ⟨h2.2.1, h2.2.2.1, h2.2.2.2, .inl h2.1⟩
  · exact ⟨rfl, rfl, rfl, .inl rfl⟩
theorem setPen_WH (l : List Int) : ∀ t : T, (t.setPen l).W = t.W ∧ (t.setPen l).H = t.H := by
  induction l with
  | nil => intro t; exact ⟨rfl, rfl⟩
  | cons n l ih =>
    intro t
    have h := ih (t.penBy n)
    have h2 : (t.penBy n).W = t.W ∧ (t.penBy n).H = t.H := by unfold penBy; (repeat' split) <;> simp
    exact ⟨h.1.trans h2.1, h.2.trans h2.2⟩
theorem obey_WH (t : T) (c : Int) : (t.obey c).W = t.W ∧ (t.obey c).H = t.H := by
  have he : ∀ n a b, (t.erase n a b).W = t.W ∧ (t.erase n a b).H = t.H := by intro n a b; unfold erase; (repeat' split) <;> simp
  unfold obey
  split
  · exact ⟨rfl, rfl⟩
  · unfold query; (repeat' split) <;> simp
  · unfold does
    repeat' split
    all_goals first | exact he _ _ _ | exact setPen_WH _ _ | exact ⟨rfl, rfl⟩
theorem take_WH (t : T) (c : Int) : (t.take c).W = t.W ∧ (t.take c).H = t.H := by
  unfold take
  split
  · have := takePlain_sp t c; exact ⟨this.2.1, this.2.2.1⟩
  · split
    · exact ⟨rfl, rfl⟩
    · unfold takeParam
      split
      · unfold keepParam; split <;> simp
      · split
        · exact obey_WH t c
        · exact ⟨rfl, rfl⟩
theorem feed_WH (l : List Int) : ∀ t : T, (t.feed l).W = t.W ∧ (t.feed l).H = t.H := by
  induction l with
  | nil => intro t; exact ⟨rfl, rfl⟩
  | cons c l ih =>
    intro t
    have h := ih (t.take c)
    have h2 := take_WH t c
    exact ⟨h.1.trans h2.1, h.2.trans h2.2⟩

theorem take_cln (t : T) (c : Int) (h : t.Cln) (ho : 0 ≤ t.stage ∧ t.stage ≤ 2) : (t.take c).Cln ∧ 0 ≤ (t.take c).stage ∧ (t.take c).stage ≤ 2 := by
  unfold take
  split
  · rename_i h0
    have := takePlain_sp t c
    refine ⟨fun _ => ?_, ?_⟩
    · rw [this.1]; exact h (by omega)
    · rcases this.2.2.2 with h1 | h1 <;> omega
  · split
    · rename_i h0 h1
      refine ⟨fun _ => ?_, ?_⟩
      · show t.params = []; exact h (by omega)
      · show 0 ≤ (if c = 91 then 2 else if c = 27 then 1 else 0 : Int) ∧ (if c = 91 then 2 else if c = 27 then 1 else 0 : Int) ≤ 2
        (repeat' split) <;> omega
    · rename_i h0 h1
      have hd : ∀ u : T, (u.drop c).Cln ∧ 0 ≤ (u.drop c).stage ∧ (u.drop c).stage ≤ 2 := by
        intro u
        refine ⟨fun _ => rfl, ?_⟩
        show 0 ≤ (if c = 27 then 1 else 0 : Int) ∧ (if c = 27 then 1 else 0 : Int) ≤ 2
        split <;> omega
      unfold takeParam
      split
      · have e : (t.keepParam c).stage = t.stage := by unfold keepParam; split <;> rfl
        rw [e]
        refine ⟨fun h2 => ?_, ho⟩
        rw [e] at h2; omega
      · split
        · exact hd _
        · exact hd _
theorem feed_cln (l : List Int) : ∀ t : T, t.Cln → 0 ≤ t.stage ∧ t.stage ≤ 2 → (t.feed l).Cln ∧ 0 ≤ (t.feed l).stage ∧ (t.feed l).stage ≤ 2 := by
  induction l with
  | nil => intro t h1 h2; exact ⟨h1, h2⟩
  | cons c l ih =>
    intro t h1 h2
    have := take_cln t c h1 h2
    exact ih _ this.1 this.2

/-- 27 ends whatever has begun -/
theorem take_27 (t : T) (h : t.Cln) : t.take 27 = { t with stage := 1, params := [] } := by
  unfold take
  split
  · rename_i h0
    have hp := h (by omega)
    simp [takePlain, hp]
  · split
    · rename_i h0 h1
      have hp := h (by omega)
      show { t with stage := _ } = _
      rw [← hp]; rfl
    · unfold takeParam
      rw [if_neg (by omega), if_neg (by omega)]
      rfl

theorem take_91 (t : T) : ({ t with stage := 1, params := [] } : T).take 91 = { t with stage := 2, params := [] } := rfl
theorem read_nil : readP [] = some (false, [0]) := by decide
theorem read_2 : readP [50] = some (false, [2]) := by decide
theorem take_m (t : T) : ({ t with stage := 2, params := [] } : T).take 109 = { t with colour := 7, bold := false, stage := 0, params := [] } := by
  show (({ t with stage := 2, params := [] } : T).obey 109).drop 109 = _
  have e : ({ t with stage := 2, params := [] } : T).obey 109 = { t with colour := 7, bold := false, stage := 2, params := [] } := by
    simp only [obey, read_nil]
    rfl
  rw [e]
  rfl
theorem take_2J (t : T) : (({ t with stage := 2, params := [] } : T).take 50).take 74 = { t with cells := clr t.cells 0 (t.W * t.H), stage := 0, params := [] } := by
  have e0 : ({ t with stage := 2, params := [] } : T).take 50 = { t with stage := 2, params := [50] } := rfl
  rw [e0]
  show (({ t with stage := 2, params := [50] } : T).obey 74).drop 74 = _
  have e : ({ t with stage := 2, params := [50] } : T).obey 74 = { t with cells := clr t.cells 0 (t.W * t.H), stage := 2, params := [50] } := by
    simp only [obey, read_2]
    rfl
  rw [e]
  rfl
theorem take_H (t : T) (hw : 1 ≤ t.W) (hh : 1 ≤ t.H) : ({ t with stage := 2, params := [] } : T).take 72 = { t with x := 0, y := 0, full := false, stage := 0, params := [] } := by
  show (({ t with stage := 2, params := [] } : T).obey 72).drop 72 = _
  have a : within 0 t.W = 0 := by unfold within; rw [if_neg (by omega), if_neg (by omega)]
  have b : within 0 t.H = 0 := by unfold within; rw [if_neg (by omega), if_neg (by omega)]
  have e : ({ t with stage := 2, params := [] } : T).obey 72 = { t with x := within 0 t.W, y := within 0 t.H, full := false, stage := 2, params := [] } := by
    simp only [obey, read_nil]
    rfl
  rw [e, a, b]
  rfl

theorem clr_all (l : List (Int × Int)) (n : Int) (h : (l.length : Int) = n) : clr l 0 n = List.replicate l.length (32, 7) := by
  apply List.ext_getElem (by simp [clr])
  intro i h1 h2
  simp only [clr, List.getElem_mapIdx, List.getElem_replicate]
  rw [if_pos]
  have : i < l.length := by simpa [clr] using h1
  omega

def resetBytes : List Int := [27, 91, 109, 27, 91, 50, 74, 27, 91, 72, 90]
theorem reset (t : T) (h : t.Cln) (hw : 1 ≤ t.W) (hh : 1 ≤ t.H) (hl : (t.cells.length : Int) = t.W * t.H) :
    (t.feed resetBytes).cells = (List.replicate t.cells.length (32, 7)).set 0 (90, 7) ∧ (t.feed resetBytes).W = t.W ∧ (t.feed resetBytes).H = t.H := by
  refine ⟨?_, feed_WH _ _⟩
  unfold resetBytes
  rw [feed_cons, take_27 t h, feed_cons, take_91, feed_cons, take_m, feed_cons, take_27 _ (fun _ => rfl), feed_cons, take_91, feed_cons, feed_cons, take_2J, feed_cons, take_27 _ (fun _ => rfl), feed_cons, take_91, feed_cons, take_H _ (by exact hw) (by exact hh), feed_cons, feed_nil]
  simp only []
  rw [clr_all _ _ hl]
  have e : ∀ u : T, u.stage = 0 → u.full = false → u.take 90 = (u.put 90).onward := by
    intro u h0 hf
    unfold take; rw [if_pos h0]
    unfold takePlain; rw [if_neg (by omega), if_neg (by omega), if_neg (by omega), if_neg (by omega), if_pos ⟨by omega, by omega⟩]
    have : u.fresh = u := by simp [fresh, hf]
    unfold write; rw [this]
  rw [e _ rfl rfl]
  have on : ∀ u : T, u.onward.cells = u.cells := by intro u; unfold onward; split <;> rfl
  rw [on]
  simp only [put, pen]
  rw [show ((0 : Int) * t.W + 0).toNat = 0 by simp]
  rfl
end T
end Go.Proofs.YtjhccghhinlmdaaGreatDoor
/- What the brush writes, as plain data, and what a terminal makes of it. Nothing of memory here. -/
namespace Go.Proofs.YtjhccghhinlmdaaGreatDoor

/-- a number below a hundred, in digits -/
def dig (n : Int) : List Int := if n < 10 then [48 + n] else [48 + n / 10, 48 + n % 10]
theorem dig_ok {n : Int} (h0 : 0 ≤ n) (h1 : n < 100) : (∀ c ∈ dig n, 48 ≤ c ∧ c ≤ 57) ∧ 1 ≤ (dig n).length ∧ (dig n).length ≤ 2 := by
  unfold dig; split
  · refine ⟨fun c hc => ?_, by simp, by simp⟩
    simp at hc; omega
  · refine ⟨fun c hc => ?_, by simp, by simp⟩
    simp at hc; omega
theorem rn_dig {n : Int} (h0 : 0 ≤ n) (h1 : n < 100) (r acc : List Int) : ∃ d, rn (dig n ++ r) acc 0 0 = rn r acc n d := by
  unfold dig; split
  · refine ⟨0 + 1, ?_⟩
    show rn ((48 + n) :: r) acc 0 0 = _
    rw [rn, if_neg (by omega), if_pos (by omega)]
    congr 1; omega
  · refine ⟨0 + 1 + 1, ?_⟩
    show rn ((48 + n / 10) :: (48 + n % 10) :: r) acc 0 0 = _
    rw [rn, if_neg (by omega), if_pos (by omega), rn, if_neg (by omega), if_pos (by omega)]
    congr 1; omega

/-- a move, a pen -/
def moveL (x y : Int) : List Int := 27 :: 91 :: (dig (y + 1) ++ 59 :: dig (x + 1)) ++ [72]
def penP (s : Int) : List Int := (if s < 8 then 48 else 49) :: 59 :: dig (30 + s % 8)
def penL (s : Int) : List Int := 27 :: 91 :: penP s ++ [109]
def showL : List Int := [27, 91, 63, 50, 53, 104]
def hideL : List Int := [27, 91, 63, 50, 53, 108]
def wipeL : List Int := [27, 91, 109, 27, 91, 50, 74] ++ hideL

theorem read_move {x y : Int} (x0 : 0 ≤ x) (x1 : x < 40) (y0 : 0 ≤ y) (y1 : y < 20) : readP (dig (y + 1) ++ 59 :: dig (x + 1)) = some (false, [y + 1, x + 1]) := by
  obtain ⟨a1, a2, a3⟩ := dig_ok (n := y + 1) (by omega) (by omega)
  obtain ⟨b1, b2, b3⟩ := dig_ok (n := x + 1) (by omega) (by omega)
  unfold readP
  rw [if_neg (by simp; omega)]
  have hd : (dig (y + 1) ++ 59 :: dig (x + 1)).head? ≠ some 63 := by
    intro h
    cases hq : dig (y + 1) with
    | nil => rw [hq] at a2; simp at a2
    | cons c l =>
      rw [hq] at h; simp at h
      have := a1 c (by rw [hq]; simp)
      omega
  rw [if_neg hd]
  unfold numbers
  obtain ⟨d, e⟩ := rn_dig (n := y + 1) (by omega) (by omega) (59 :: dig (x + 1)) []
  rw [e, rn, if_pos rfl]
  obtain ⟨d2, e2⟩ := rn_dig (n := x + 1) (by omega) (by omega) [] ([] ++ [y + 1])
  rw [List.append_nil] at e2
  rw [e2, rn]
  rfl
theorem read_pen (s : Int) : readP (penP s) = some (false, [if s < 8 then 0 else 1, 30 + s % 8]) := by
  obtain ⟨b1, b2, b3⟩ := dig_ok (n := 30 + s % 8) (by omega) (by omega)
  obtain ⟨d2, e2⟩ := rn_dig (n := 30 + s % 8) (by omega) (by omega) [] ([] ++ [if s < 8 then 0 else 1])
  rw [List.append_nil] at e2
  unfold readP penP
  rw [if_neg (by simp; omega)]
  by_cases h : s < 8
  · simp only [if_pos h] at e2 ⊢
    rw [if_neg (by simp)]
    unfold numbers
    rw [rn, if_neg (by omega), if_pos (by omega), rn, if_pos rfl]
    simp only [Int.zero_mul, Int.sub_self, Int.add_zero] at e2 ⊢
    rw [e2, rn]; rfl
  · simp only [if_neg h] at e2 ⊢
    rw [if_neg (by simp)]
    unfold numbers
    rw [rn, if_neg (by omega), if_pos (by omega), rn, if_pos rfl]
    rw [show (0 : Int) * 10 + (49 - 48) = 1 by omega, e2, rn]; rfl

namespace T
theorem feed_params (t : T) : ∀ (ps a : List Int), (∀ c ∈ ps, 32 ≤ c ∧ c ≤ 63) → a.length + ps.length ≤ 13 → ({ t with stage := 2, params := a } : T).feed ps = { t with stage := 2, params := a ++ ps } := by
  intro ps
  induction ps with
  | nil => intro a _ _; simp [feed]
  | cons c ps ih =>
    intro a h hl
    rw [feed_cons]
    have hc := h c (by simp)
    have e : ({ t with stage := 2, params := a } : T).take c = { t with stage := 2, params := a ++ [c] } := by
      show ({ t with stage := 2, params := a } : T).takeParam c = _
      unfold takeParam
      rw [if_pos hc]
      unfold keepParam
      rw [if_pos (by simp at hl ⊢; omega)]
    rw [e, ih (a ++ [c]) (fun d hd => h d (by simp [hd])) (by simp at hl ⊢; omega)]
    simp
/-- a whole sequence -/
theorem feed_seq (t : T) (ps : List Int) (c : Int) (hp : t.params = []) (h : ∀ c ∈ ps, 32 ≤ c ∧ c ≤ 63) (hl : ps.length ≤ 13) (c1 : 64 ≤ c) (c2 : c ≤ 126) :
    t.feed (27 :: 91 :: ps ++ [c]) = (({ t with stage := 2, params := ps } : T).obey c).drop c := by
  rw [show 27 :: 91 :: ps ++ [c] = 27 :: 91 :: (ps ++ [c]) by simp, feed_cons, take_27 t (fun _ => hp), feed_cons, take_91, feed_append, feed_params t ps [] h (by simpa using hl), List.nil_append, feed_cons, feed_nil]
  show ({ t with stage := 2, params := ps } : T).takeParam c = _
  unfold takeParam
  rw [if_neg (by omega), if_pos ⟨c1, c2⟩]
theorem feed_move (t : T) (x y : Int) (h0 : t.stage = 0) (hp : t.params = []) (x0 : 0 ≤ x) (x1 : x < t.W) (y0 : 0 ≤ y) (y1 : y < t.H) (hw : t.W ≤ 40) (hh : t.H ≤ 20) :
    t.feed (moveL x y) = { t with x := x, y := y, full := false } := by
  obtain ⟨a1, a2, a3⟩ := dig_ok (n := y + 1) (by omega) (by omega)
  obtain ⟨b1, b2, b3⟩ := dig_ok (n := x + 1) (by omega) (by omega)
  unfold moveL
  rw [feed_seq t _ 72 hp ?_ (by simp; omega) (by omega) (by omega)]
  · unfold obey
    simp only [read_move x0 (by omega) y0 (by omega)]
    unfold does
    rw [if_pos rfl]
    have e1 : atLeast ([y + 1, x + 1].getD 1 0) - 1 = x := by simp [atLeast]; omega
    have e2 : atLeast ([y + 1, x + 1].getD 0 0) - 1 = y := by simp [atLeast]; omega
    rw [e1, e2]
    unfold moveTo
    have w1 : within x t.W = x := by unfold within; rw [if_neg (by omega), if_neg (by omega)]
    have w2 : within y t.H = y := by unfold within; rw [if_neg (by omega), if_neg (by omega)]
    simp only [w1, w2]
    simp only [drop]
    rw [if_neg (by omega), h0.symm, hp.symm]
  · intro c hc
    simp at hc
    rcases hc with hc | rfl | hc
    · have := a1 c hc; omega
    · omega
    · have := b1 c hc; omega
theorem feed_pen (t : T) (s : Int) (h0 : t.stage = 0) (hp : t.params = []) :
    t.feed (penL s) = { t with colour := s % 8, bold := decide (8 ≤ s) } := by
  obtain ⟨b1, b2, b3⟩ := dig_ok (n := 30 + s % 8) (by omega) (by omega)
  unfold penL
  rw [feed_seq t _ 109 hp ?_ (by simp [penP]; omega) (by omega) (by omega)]
  · unfold obey
    simp only [read_pen s]
    unfold does
    rw [if_neg (by omega), if_neg (by omega), if_neg (by omega), if_neg (by omega), if_neg (by omega), if_neg (by omega), if_neg (by omega), if_neg (by omega), if_pos rfl]
    unfold setPen
    simp only [List.foldl_cons, List.foldl_nil]
    have e : ∀ u : T, u.penBy (30 + s % 8) = { u with colour := s % 8 } := by
      intro u
      unfold penBy
      rw [if_neg (by omega), if_neg (by omega), if_neg (by omega), if_pos (by omega)]
      rw [show 30 + s % 8 - 30 = s % 8 by omega]
    rw [e]
    by_cases h : s < 8
    · rw [if_pos h]
      have d : decide (8 ≤ s) = false := by simp; omega
      unfold penBy
      rw [if_pos rfl, d]
      simp only [drop]
      rw [if_neg (by omega), h0.symm, hp.symm]
    · rw [if_neg h]
      have d : decide (8 ≤ s) = true := by simp; omega
      unfold penBy
      rw [if_neg (by omega), if_pos rfl, d]
      simp only [drop]
      rw [if_neg (by omega), h0.symm, hp.symm]
  · intro c hc
    unfold penP at hc
    simp only [List.mem_cons] at hc
    rcases hc with rfl | rfl | hc
    · split <;> omega
    · omega
    · have := b1 c hc; omega
theorem read_25 : readP [63, 50, 53] = some (true, [25]) := by decide
theorem feed_show (t : T) (h0 : t.stage = 0) (hp : t.params = []) : t.feed showL = { t with shown := true } := by
  show t.feed (27 :: 91 :: [63, 50, 53] ++ [104]) = _
  rw [feed_seq t _ 104 hp (by decide) (by decide) (by omega) (by omega)]
  unfold obey
  simp only [read_25]
  simp only [query, drop]
  rw [h0.symm, hp.symm]
  rfl
theorem feed_hide (t : T) (h0 : t.stage = 0) (hp : t.params = []) : t.feed hideL = { t with shown := false } := by
  show t.feed (27 :: 91 :: [63, 50, 53] ++ [108]) = _
  rw [feed_seq t _ 108 hp (by decide) (by decide) (by omega) (by omega)]
  unfold obey
  simp only [read_25]
  simp only [query, drop]
  rw [h0.symm, hp.symm]
  rfl
theorem feed_char (t : T) (c : Int) (h0 : t.stage = 0) (hf : t.full = false) (c1 : 32 ≤ c) (c2 : c ≤ 126) : t.feed [c] = (t.put c).onward := by
  rw [feed_cons, feed_nil]
  unfold take; rw [if_pos h0]
  unfold takePlain; rw [if_neg (by omega), if_neg (by omega), if_neg (by omega), if_neg (by omega), if_pos ⟨c1, c2⟩]
  have : t.fresh = t := by simp [fresh, hf]
  unfold write; rw [this]
end T

/-- the brush as plain data -/
structure B where
  bytes : List Int
  x : Int
  y : Int
  pen : Int
namespace B
def moveTo (b : B) (x y : Int) : B := if x = b.x ∧ y = b.y then b else ⟨b.bytes ++ moveL x y, x, y, b.pen⟩
def setPen (b : B) (s : Int) : B := if s = b.pen then b else ⟨b.bytes ++ penL s, b.x, b.y, s⟩
def write (b : B) (c : Int) : B := ⟨b.bytes ++ [c], b.x + 1, b.y, b.pen⟩
/-- one cell, if it is to be another one -/
def cell (W : Int) (f g : List (Int × Int)) (b : B) (i : Nat) : B :=
  if g.getD i (32, 7) = f.getD i (32, 7) then b else ((b.moveTo ((i : Int) % W) ((i : Int) / W)).setPen (g.getD i (32, 7)).2).write (g.getD i (32, 7)).1
def first : B := ⟨[], -1, -1, 7⟩
/-- the first n cells -/
def upto (W : Int) (f g : List (Int × Int)) (n : Nat) : B := (List.range n).foldl (cell W f g) first
def paint (W H : Int) (f g : List (Int × Int)) : B := (upto W f g (W * H).toNat).setPen 7
end B
/-- a cursor as plain data -/
structure Cur where
  x : Int
  y : Int
  shown : Bool
deriving DecidableEq
def B.cursor (b : B) (c d : Cur) : List Int :=
  (if d.shown then (b.moveTo d.x d.y).bytes else b.bytes) ++ (if d.shown && !c.shown then showL else []) ++ (if c.shown && !d.shown then hideL else [])
def change (W H : Int) (f g : List (Int × Int)) (c d : Cur) : List Int :=
  if (B.paint W H f g).bytes = [] ∧ c = d then [] else (B.paint W H f g).cursor c d
def whole (W H : Int) (g : List (Int × Int)) (d : Cur) : List Int :=
  wipeL ++ change W H (List.replicate (W * H).toNat (32, 7)) g ⟨0, 0, false⟩ d

/-- what a terminal shows that the painter's bytes have gone to -/
structure Scr (t : T) (W H : Int) (f : List (Int × Int)) (c : Cur) : Prop where
  w : t.W = W
  h : t.H = H
  w1 : 1 ≤ W
  w2 : W ≤ 40
  h1 : 1 ≤ H
  h2 : H ≤ 20
  cells : t.cells = f
  len : (f.length : Int) = W * H
  stage : t.stage = 0
  params : t.params = []
  colour : t.colour = 7
  bold : t.bold = false
  shown : t.shown = c.shown
  at' : c.shown = true → t.x = c.x ∧ t.y = c.y ∧ t.full = false

/-- a grid of characters, with styles that there are -/
def Chars (g : List (Int × Int)) : Prop := ∀ c ∈ g, 32 ≤ c.1 ∧ c.1 ≤ 126 ∧ 0 ≤ c.2 ∧ c.2 ≤ 15

/-- the terminal behind the brush's bytes -/
structure Behind (t : T) (W H : Int) (l : List (Int × Int)) (sh : Bool) (b : B) : Prop where
  w : t.W = W
  h : t.H = H
  cells : t.cells = l
  stage : t.stage = 0
  params : t.params = []
  p0 : 0 ≤ b.pen
  p1 : b.pen ≤ 15
  colour : t.colour = b.pen % 8
  bold : t.bold = decide (8 ≤ b.pen)
  shown : t.shown = sh
  at' : 0 ≤ b.x → b.x < W → t.x = b.x ∧ t.y = b.y ∧ t.full = false

theorem Behind.move {t : T} {W H : Int} {l : List (Int × Int)} {sh : Bool} {b : B} (h : Behind (t.feed b.bytes) W H l sh b) (x y : Int) (x0 : 0 ≤ x) (x1 : x < W) (y0 : 0 ≤ y) (y1 : y < H) (hw : W ≤ 40) (hh : H ≤ 20) :
    Behind (t.feed (b.moveTo x y).bytes) W H l sh (b.moveTo x y) ∧ (b.moveTo x y).x = x ∧ (b.moveTo x y).y = y := by
  unfold B.moveTo
  split
  · rename_i e; exact ⟨h, e.1.symm, e.2.symm⟩
  · refine ⟨?_, rfl, rfl⟩
    simp only [T.feed_append]
    rw [T.feed_move _ x y h.stage h.params x0 (by rw [h.w]; exact x1) y0 (by rw [h.h]; exact y1) (by rw [h.w]; exact hw) (by rw [h.h]; exact hh)]
    exact ⟨h.w, h.h, h.cells, h.stage, h.params, h.p0, h.p1, h.colour, h.bold, h.shown, fun _ _ => ⟨rfl, rfl, rfl⟩⟩
theorem Behind.setPen {t : T} {W H : Int} {l : List (Int × Int)} {sh : Bool} {b : B} (h : Behind (t.feed b.bytes) W H l sh b) (s : Int) (s0 : 0 ≤ s) (s1 : s ≤ 15) :
    Behind (t.feed (b.setPen s).bytes) W H l sh (b.setPen s) ∧ (b.setPen s).pen = s ∧ (b.setPen s).x = b.x ∧ (b.setPen s).y = b.y := by
  unfold B.setPen
  split
  · rename_i e; exact ⟨h, e.symm, rfl, rfl⟩
  · refine ⟨?_, rfl, rfl, rfl⟩
    simp only [T.feed_append]
    rw [T.feed_pen _ s h.stage h.params]
    exact ⟨h.w, h.h, h.cells, h.stage, h.params, s0, s1, rfl, rfl, h.shown, h.at'⟩
theorem Behind.write {t : T} {W H : Int} {l : List (Int × Int)} {sh : Bool} {b : B} (h : Behind (t.feed b.bytes) W H l sh b) (c : Int) (c1 : 32 ≤ c) (c2 : c ≤ 126) (x0 : 0 ≤ b.x) (x1 : b.x < W) :
    Behind (t.feed (b.write c).bytes) W H (l.set (b.y * W + b.x).toNat (c, b.pen)) sh (b.write c) := by
  obtain ⟨a1, a2, a3⟩ := h.at' x0 x1
  unfold B.write
  simp only [T.feed_append]
  generalize t.feed b.bytes = u at *
  rw [T.feed_char u c h.stage a3 c1 c2]
  have hp : u.pen = b.pen := by
    unfold T.pen
    have e1 := h.colour
    have e2 := h.bold
    have := h.p0
    have := h.p1
    rw [e1, e2]
    by_cases hb : 8 ≤ b.pen
    · rw [if_pos (by simpa using hb)]; omega
    · rw [if_neg (by simpa using hb)]; omega
  have hc : (u.put c).cells = l.set (b.y * W + b.x).toNat (c, b.pen) := by
    unfold T.put
    simp only [h.cells, hp, a1, a2, h.w]
  unfold T.onward
  have e1 : (u.put c).x = b.x := a1
  have e2 : (u.put c).W = W := h.w
  rw [e1, e2]
  split
  · rename_i hx
    exact ⟨rfl, h.h, hc, h.stage, h.params, h.p0, h.p1, h.colour, h.bold, h.shown, fun _ _ => ⟨rfl, a2, a3⟩⟩
  · rename_i hx
    exact ⟨rfl, h.h, hc, h.stage, h.params, h.p0, h.p1, h.colour, h.bold, h.shown, fun _ h2 => absurd h2 hx⟩

/-- the first k cells are g's, the others f's -/
def mixed (f g : List (Int × Int)) (k : Nat) : List (Int × Int) := g.take k ++ f.drop k
theorem mixed_set (f g : List (Int × Int)) (k : Nat) (hf : k < f.length) (hg : k < g.length) : (mixed f g k).set k (g.getD k (32, 7)) = mixed f g (k + 1) := by
  unfold mixed
  have e : (g.take k).length = k := by simp; omega
  rw [List.set_append_right _ _ (by omega), e, Nat.sub_self, List.drop_eq_getElem_cons hf, List.set_cons_zero, List.take_succ_eq_append_getElem hg, List.append_assoc]
  have e1 : g.getD k (32, 7) = g[k] := by simp [List.getD_eq_getElem?_getD, hg]
  rw [e1]; rfl
theorem mixed_same (f g : List (Int × Int)) (k : Nat) (hf : k < f.length) (hg : k < g.length) (h : g.getD k (32, 7) = f.getD k (32, 7)) : mixed f g k = mixed f g (k + 1) := by
  unfold mixed
  rw [List.drop_eq_getElem_cons hf, List.take_succ_eq_append_getElem hg]
  simp [List.getD_eq_getElem?_getD, hg, hf] at h
  simp [h]
theorem B.upto_succ (W : Int) (f g : List (Int × Int)) (n : Nat) : B.upto W f g (n + 1) = B.cell W f g (B.upto W f g n) n := by
  unfold B.upto; rw [List.range_succ, List.foldl_append]; rfl
theorem at_row {W H : Int} (w1 : 1 ≤ W) (i : Nat) (hi : (i : Int) < W * H) : 0 ≤ (i : Int) % W ∧ (i : Int) % W < W ∧ 0 ≤ (i : Int) / W ∧ (i : Int) / W < H ∧ (i : Int) / W * W + (i : Int) % W = i := by
  refine ⟨Int.emod_nonneg _ (by omega), Int.emod_lt_of_pos _ (by omega), Int.ediv_nonneg (by omega) (by omega), ?_, ?_⟩
  · exact Int.ediv_lt_of_lt_mul (by omega) (by rw [Int.mul_comm]; exact hi)
  · rw [Int.mul_comm]; exact Int.mul_ediv_add_emod _ _

theorem Scr.upto {t : T} {W H : Int} {f : List (Int × Int)} {c : Cur} (h : Scr t W H f c) (g : List (Int × Int)) (hg : Chars g) (hl : (g.length : Int) = W * H) :
    ∀ n : Nat, (n : Int) ≤ W * H → Behind (t.feed (B.upto W f g n).bytes) W H (mixed f g n) c.shown (B.upto W f g n) := by
  intro n
  induction n with
  | zero =>
    intro _
    exact ⟨h.w, h.h, by simp [mixed, B.upto, B.first, T.feed, h.cells], h.stage, h.params, (by decide : (0 : Int) ≤ 7), (by decide : (7 : Int) ≤ 15), h.colour, h.bold, h.shown, fun h0 => absurd h0 (by decide : ¬ (0 : Int) ≤ -1)⟩
  | succ n ih =>
    intro hn
    have ih := ih (by omega)
    have hlen := h.len
    have hnf : n < f.length := by omega
    have hng : n < g.length := by omega
    obtain ⟨r1, r2, r3, r4, r5⟩ := at_row h.w1 n (by omega : (n : Int) < W * H)
    rw [B.upto_succ]
    unfold B.cell
    split
    · rename_i e
      rw [← mixed_same f g n hnf hng e]; exact ih
    · have hm : g.getD n (32, 7) ∈ g := by simp [List.getD_eq_getElem?_getD, hng]
      obtain ⟨k1, k2, k3, k4⟩ := hg _ hm
      obtain ⟨m1, m2, m3⟩ := ih.move _ _ r1 r2 r3 r4 h.w2 h.h2
      obtain ⟨p1, p2, p3, p4⟩ := m1.setPen _ k3 k4
      have := p1.write _ k1 k2 (by rw [p3, m2]; exact r1) (by rw [p3, m2]; exact r2)
      rw [p2, p3, p4, m2, m3, r5] at this
      rw [← mixed_set f g n hnf hng]
      exact this
theorem Scr.paint {t : T} {W H : Int} {f : List (Int × Int)} {c : Cur} (h : Scr t W H f c) (g : List (Int × Int)) (hg : Chars g) (hl : (g.length : Int) = W * H) :
    Behind (t.feed (B.paint W H f g).bytes) W H g c.shown (B.paint W H f g) ∧ (B.paint W H f g).pen = 7 := by
  have e : mixed f g (W * H).toNat = g := by
    have := h.len
    unfold mixed
    rw [List.take_of_length_le (by omega), List.drop_of_length_le (by omega), List.append_nil]
  have hb : 0 ≤ W * H := by have := h.len; omega
  have := h.upto g hg hl (W * H).toNat (by omega)
  rw [e] at this
  obtain ⟨p1, p2, _⟩ := this.setPen 7 (by omega) (by omega)
  exact ⟨p1, p2⟩
/-- the brush has begun: its bytes are not none, or nothing has been told -/
theorem Scr.change {t : T} {W H : Int} {f : List (Int × Int)} {c : Cur} (h : Scr t W H f c) (g : List (Int × Int)) (hg : Chars g) (hl : (g.length : Int) = W * H) (d : Cur) (hd : d.shown = true → 0 ≤ d.x ∧ d.x < W ∧ 0 ≤ d.y ∧ d.y < H) :
    Scr (t.feed (change W H f g c d)) W H g d := by
  obtain ⟨p1, p2⟩ := h.paint g hg hl
  unfold Go.Proofs.YtjhccghhinlmdaaGreatDoor.change
  split
  · rename_i e
    obtain ⟨e1, e2⟩ := e
    subst e2
    have hc := p1.cells
    rw [e1] at hc
    exact ⟨h.w, h.h, h.w1, h.w2, h.h1, h.h2, hc, hl, h.stage, h.params, h.colour, h.bold, h.shown, h.at'⟩
  · generalize B.paint W H f g = b at *
    unfold B.cursor
    have c7 : (7 : Int) % 8 = 7 := by decide
    have b7 : decide ((8 : Int) ≤ 7) = false := by decide
    by_cases hs : d.shown = true
    · obtain ⟨d1, d2, d3, d4⟩ := hd hs
      obtain ⟨m1, m2, m3⟩ := p1.move d.x d.y d1 d2 d3 d4 h.w2 h.h2
      have pen2 : (b.moveTo d.x d.y).pen = 7 := by unfold B.moveTo; split <;> exact p2
      have at2 := m1.at' (by rw [m2]; exact d1) (by rw [m2]; exact d2)
      rw [m2, m3] at at2
      rw [if_pos hs, hs]
      simp only [Bool.not_true, Bool.and_false, Bool.false_eq_true, if_false, List.append_nil, Bool.true_and]
      rw [T.feed_append]
      generalize t.feed (b.moveTo d.x d.y).bytes = u at *
      have hcol := m1.colour
      have hbold := m1.bold
      rw [pen2] at hcol hbold
      have hsh := m1.shown
      by_cases hc : c.shown = true
      · rw [hc]
        rw [hc] at hsh
        simp only [Bool.not_true, Bool.false_eq_true, if_false, T.feed_nil]
        exact ⟨m1.w, m1.h, h.w1, h.w2, h.h1, h.h2, m1.cells, hl, m1.stage, m1.params, by rw [hcol, c7], by rw [hbold, b7], by rw [hsh, hs], fun _ => at2⟩
      · have hc' : c.shown = false := by simpa using hc
        rw [hc']
        simp only [Bool.not_false, if_true]
        rw [T.feed_show u m1.stage m1.params]
        exact ⟨m1.w, m1.h, h.w1, h.w2, h.h1, h.h2, m1.cells, hl, m1.stage, m1.params, by rw [← c7]; exact hcol, by rw [← b7]; exact hbold, hs.symm, fun _ => at2⟩
    · have hs' : d.shown = false := by simpa using hs
      rw [hs']
      simp only [Bool.false_eq_true, if_false, Bool.false_and, List.append_nil, Bool.not_false, Bool.and_true]
      rw [T.feed_append]
      generalize t.feed b.bytes = u at *
      have hcol := p1.colour
      have hbold := p1.bold
      rw [p2] at hcol hbold
      have hsh := p1.shown
      by_cases hc : c.shown = true
      · rw [if_pos hc, T.feed_hide u p1.stage p1.params]
        exact ⟨p1.w, p1.h, h.w1, h.w2, h.h1, h.h2, p1.cells, hl, p1.stage, p1.params, by rw [← c7]; exact hcol, by rw [← b7]; exact hbold, hs'.symm, fun hx => absurd hx hs⟩
      · rw [if_neg hc, T.feed_nil]
        have hc' : c.shown = false := by simpa using hc
        exact ⟨p1.w, p1.h, h.w1, h.w2, h.h1, h.h2, p1.cells, hl, p1.stage, p1.params, by rw [← c7]; exact hcol, by rw [← b7]; exact hbold, by rw [hsh, hc', hs'], fun hx => absurd hx hs⟩

/-- any terminal is brought to a screen -/
theorem scr_whole (t : T) (W H : Int) (h : t.Cln) (hW : t.W = W) (hH : t.H = H) (w1 : 1 ≤ W) (w2 : W ≤ 40) (h1 : 1 ≤ H) (h2 : H ≤ 20) (hlen : (t.cells.length : Int) = W * H) (g : List (Int × Int)) (hg : Chars g) (hl : (g.length : Int) = W * H) (d : Cur) (hd : d.shown = true → 0 ≤ d.x ∧ d.x < W ∧ 0 ≤ d.y ∧ d.y < H) :
    Scr (t.feed (whole W H g d)) W H g d := by
  unfold whole
  rw [T.feed_append]
  refine Scr.change ?_ g hg hl d hd
  unfold wipeL
  rw [T.feed_append]
  rw [T.feed_cons, T.take_27 t h, T.feed_cons, T.take_91, T.feed_cons, T.take_m, T.feed_cons, T.take_27 _ (fun _ => rfl), T.feed_cons, T.take_91, T.feed_cons, T.feed_cons, T.take_2J, T.feed_nil, T.feed_hide _ rfl rfl]
  have e : clr t.cells 0 (t.W * t.H) = List.replicate (W * H).toNat (32, 7) := by
    rw [hW, hH, T.clr_all _ _ hlen]; congr 1; omega
  exact ⟨hW, hH, w1, w2, h1, h2, e, by simp; omega, rfl, rfl, rfl, rfl, rfl, fun hx => by cases hx⟩
end Go.Proofs.YtjhccghhinlmdaaGreatDoor
/- How many bytes the brush writes, and that they are bytes. Plain data alone. -/
namespace Go.Proofs.YtjhccghhinlmdaaGreatDoor

theorem dig_len (n : Int) : (dig n).length ≤ 2 := by unfold dig; split <;> simp
theorem moveL_len (x y : Int) : (moveL x y).length ≤ 8 := by
  have := dig_len (x + 1); have := dig_len (y + 1); simp [moveL]; omega
theorem penL_len (s : Int) : (penL s).length ≤ 7 := by
  have := dig_len (30 + s % 8); simp [penL, penP]; omega

/-- how many of the first n cells differ -/
def others (f g : List (Int × Int)) : Nat → Nat
  | 0 => 0
  | n + 1 => others f g n + if g.getD n (32, 7) = f.getD n (32, 7) then 0 else 1
theorem others_le (f g : List (Int × Int)) (n : Nat) : others f g n ≤ n := by
  induction n with
  | zero => exact Nat.le_refl _
  | succ n ih => unfold others; split <;> omega
theorem others_same (f : List (Int × Int)) (n : Nat) : others f f n = 0 := by
  induction n with
  | zero => rfl
  | succ n ih => unfold others; rw [if_pos rfl, ih]

namespace B
theorem moveTo_len (b : B) (x y : Int) : (b.moveTo x y).bytes.length ≤ b.bytes.length + 8 := by
  have := moveL_len x y
  unfold moveTo; split
  · omega
  · simp; omega
theorem setPen_len (b : B) (s : Int) : (b.setPen s).bytes.length ≤ b.bytes.length + 7 := by
  have := penL_len s
  unfold setPen; split
  · omega
  · simp; omega
theorem cell_len (W : Int) (f g : List (Int × Int)) (b : B) (i : Nat) : (cell W f g b i).bytes.length ≤ b.bytes.length + 16 := by
  unfold cell; split
  · omega
  · have h1 := moveTo_len b ((i : Int) % W) ((i : Int) / W)
    have h2 := setPen_len (b.moveTo ((i : Int) % W) ((i : Int) / W)) (g.getD i (32, 7)).2
    simp only [write, List.length_append, List.length_cons, List.length_nil]
    omega
theorem upto_len (W : Int) (f g : List (Int × Int)) (n : Nat) : (upto W f g n).bytes.length ≤ 16 * others f g n := by
  induction n with
  | zero => simp [upto, first]
  | succ n ih =>
    rw [upto_succ]
    unfold others
    split
    · rename_i e; unfold cell; rw [if_pos e]; omega
    · have := cell_len W f g (upto W f g n) n; omega
theorem upto_none (W : Int) (f g : List (Int × Int)) (n : Nat) (h : others f g n = 0) : upto W f g n = first := by
  induction n with
  | zero => rfl
  | succ n ih =>
    unfold others at h
    split at h
    · rename_i e
      rw [upto_succ, ih (by omega)]; unfold cell; rw [if_pos e]
    · omega
theorem paint_len (W H : Int) (f g : List (Int × Int)) : (paint W H f g).bytes.length ≤ 16 * others f g (W * H).toNat + 7 := by
  have h1 := upto_len W f g (W * H).toNat
  have h2 := setPen_len (upto W f g (W * H).toNat) 7
  unfold paint; omega
theorem paint_none (W H : Int) (f g : List (Int × Int)) (h : others f g (W * H).toNat = 0) : (paint W H f g).bytes = [] := by
  unfold paint; rw [upto_none _ _ _ _ h]; rfl
theorem cursor_len (b : B) (c d : Cur) : (b.cursor c d).length ≤ b.bytes.length + 14 := by
  have h1 := moveTo_len b d.x d.y
  have h2 : (if d.shown then (b.moveTo d.x d.y).bytes else b.bytes).length ≤ b.bytes.length + 8 := by split <;> omega
  have h3 : (if d.shown && !c.shown then showL else []).length + (if c.shown && !d.shown then hideL else []).length ≤ 6 := by
    cases d.shown <;> cases c.shown <;> simp [showL, hideL]
  unfold cursor
  simp only [List.length_append]
  omega
end B
theorem change_len (W H : Int) (f g : List (Int × Int)) (c d : Cur) : (change W H f g c d).length ≤ 16 * others f g (W * H).toNat + 21 := by
  have h1 := B.paint_len W H f g
  have h2 := B.cursor_len (B.paint W H f g) c d
  unfold change; split
  · simp
  · omega
theorem change_none (W H : Int) (f g : List (Int × Int)) (c : Cur) (h : others f g (W * H).toNat = 0) : change W H f g c c = [] := by
  unfold change; rw [if_pos ⟨B.paint_none W H f g h, rfl⟩]
theorem change_same (W H : Int) (f : List (Int × Int)) (c : Cur) : change W H f f c c = [] := change_none W H f f c (others_same _ _)
theorem whole_len (W H : Int) (g : List (Int × Int)) (d : Cur) : (whole W H g d).length ≤ 16 * (W * H).toNat + 34 := by
  have h1 := change_len W H (List.replicate (W * H).toNat (32, 7)) g ⟨0, 0, false⟩ d
  have h2 := others_le (List.replicate (W * H).toNat (32, 7)) g (W * H).toNat
  unfold whole
  simp only [List.length_append, wipeL, hideL, List.length_cons, List.length_nil]
  omega

/-- all of them are bytes -/
def AreBytes (l : List Int) : Prop := ∀ c ∈ l, 0 ≤ c ∧ c ≤ 255
theorem AreBytes.append {a b : List Int} (ha : AreBytes a) (hb : AreBytes b) : AreBytes (a ++ b) := by
  intro c hc; rcases List.mem_append.1 hc with h | h
  · exact ha c h
  · exact hb c h
theorem AreBytes.nil : AreBytes [] := fun _ h => by cases h
theorem AreBytes.cons {a : Int} {l : List Int} (ha : 0 ≤ a ∧ a ≤ 255) (h : AreBytes l) : AreBytes (a :: l) := by
  intro c hc; rcases List.mem_cons.1 hc with h1 | h1
  · subst h1; exact ha
  · exact h c h1
theorem dig_bytes {n : Int} (h0 : 0 ≤ n) (h1 : n < 100) : AreBytes (dig n) := fun c hc => by have := (dig_ok h0 h1).1 c hc; omega
theorem moveL_bytes {x y : Int} (x0 : 0 ≤ x) (x1 : x < 99) (y0 : 0 ≤ y) (y1 : y < 99) : AreBytes (moveL x y) := by
  unfold moveL
  exact .append (.cons (by omega) (.cons (by omega) ((dig_bytes (by omega) (by omega)).append (.cons (by omega) (dig_bytes (by omega) (by omega)))))) (.cons (by omega) .nil)
theorem penL_bytes (s : Int) : AreBytes (penL s) := by
  unfold penL penP
  exact .append (.cons (by omega) (.cons (by omega) (.cons (by split <;> omega) (.cons (by omega) (dig_bytes (by omega) (by omega)))))) (.cons (by omega) .nil)
theorem showL_bytes : AreBytes showL := by unfold AreBytes; decide
theorem hideL_bytes : AreBytes hideL := by unfold AreBytes; decide
theorem wipeL_bytes : AreBytes wipeL := by unfold AreBytes; decide
namespace B
theorem moveTo_bytes {b : B} (h : AreBytes b.bytes) {x y : Int} (x0 : 0 ≤ x) (x1 : x < 99) (y0 : 0 ≤ y) (y1 : y < 99) : AreBytes (b.moveTo x y).bytes := by
  unfold moveTo; split
  · exact h
  · exact h.append (moveL_bytes x0 x1 y0 y1)
theorem setPen_bytes {b : B} (h : AreBytes b.bytes) (s : Int) : AreBytes (b.setPen s).bytes := by
  unfold setPen; split
  · exact h
  · exact h.append (penL_bytes s)
theorem upto_bytes {W H : Int} (w1 : 1 ≤ W) (w2 : W ≤ 40) (h2 : H ≤ 20) (f g : List (Int × Int)) (hg : Chars g) (n : Nat) (hn : (n : Int) ≤ W * H) : AreBytes (upto W f g n).bytes := by
  induction n with
  | zero => exact .nil
  | succ n ih =>
    obtain ⟨r1, r2, r3, r4, _⟩ := at_row (H := H) w1 n (by omega)
    rw [upto_succ]
    unfold cell; split
    · exact ih (by omega)
    · refine (setPen_bytes (moveTo_bytes (ih (by omega)) r1 (by omega) r3 (by omega)) _).append (.cons ?_ .nil)
      by_cases h : n < g.length
      · have hm : g.getD n (32, 7) ∈ g := by simp [List.getD_eq_getElem?_getD, h]
        have := hg _ hm
        omega
      · have : g.getD n (32, 7) = (32, 7) := by simp [List.getD_eq_getElem?_getD]; rw [List.getElem?_eq_none (by omega)]; rfl
        rw [this]; simp
end B
theorem change_bytes {W H : Int} (w1 : 1 ≤ W) (w2 : W ≤ 40) (h1 : 1 ≤ H) (h2 : H ≤ 20) (f g : List (Int × Int)) (hg : Chars g) (c d : Cur) (hd : d.shown = true → 0 ≤ d.x ∧ d.x < W ∧ 0 ≤ d.y ∧ d.y < H) : AreBytes (change W H f g c d) := by
  have hp : AreBytes (B.paint W H f g).bytes := B.setPen_bytes (B.upto_bytes w1 w2 h2 f g hg _ (by have := Int.mul_nonneg (show 0 ≤ W by omega) (show 0 ≤ H by omega); omega)) 7
  unfold change; split
  · exact .nil
  · unfold B.cursor
    refine .append (.append ?_ ?_) ?_
    · split
      · rename_i h
        have := hd h
        exact B.moveTo_bytes hp (by omega) (by omega) (by omega) (by omega)
      · exact hp
    · split
      · exact showL_bytes
      · exact .nil
    · split
      · exact hideL_bytes
      · exact .nil
theorem whole_bytes {W H : Int} (w1 : 1 ≤ W) (w2 : W ≤ 40) (h1 : 1 ≤ H) (h2 : H ≤ 20) (g : List (Int × Int)) (hg : Chars g) (d : Cur) (hd : d.shown = true → 0 ≤ d.x ∧ d.x < W ∧ 0 ≤ d.y ∧ d.y < H) : AreBytes (whole W H g d) :=
  wipeL_bytes.append (change_bytes w1 w2 h1 h2 _ g hg _ d hd)
end Go.Proofs.YtjhccghhinlmdaaGreatDoor
/- What is to be seen of a view is characters, with styles that there are. Plain data alone. -/
namespace Go.Proofs.YtjhccghhinlmdaaGreatDoor

theorem shownC_bd (c : Int) : 32 ≤ shownC c ∧ shownC c ≤ 126 := by unfold shownC; split <;> omega
theorem charF_vis (ls : List ByteArray) (a b : Int) : 32 ≤ charF ls a b ∧ charF ls a b ≤ 126 := by
  unfold charF; split
  · omega
  · exact shownC_bd _
theorem V.Ok.cell {v : V} (h : v.Ok) (x y : Int) : 32 ≤ (v.cell x y).1 ∧ (v.cell x y).1 ≤ 126 ∧ 0 ≤ (v.cell x y).2 ∧ (v.cell x y).2 ≤ 15 := by
  unfold V.cell
  split
  · exact ⟨by decide, by decide, by decide, by decide⟩
  · rename_i j hj
    have hl := V.best_lt v x y _ _ hj
    have hw := (h.at hl).1
    have := charF_vis (cutF (v.at j).1.text (v.at j).1.w) (x - (v.at j).1.x) (y - (v.at j).1.y + (v.at j).2)
    exact ⟨this.1, this.2, hw.s1, hw.s2⟩
theorem V.Ok.chars {v : V} (h : v.Ok) (W H : Int) : Chars (v.grid W H) := by
  intro c hc
  unfold V.grid V.gridTo at hc
  obtain ⟨i, _, rfl⟩ := List.mem_map.1 hc
  exact h.cell _ _
theorem V.grid_len (v : V) {W H : Int} (w1 : 1 ≤ W) (h1 : 1 ≤ H) : ((v.grid W H).length : Int) = W * H := by
  rw [V.grid_length]
  have := Int.mul_nonneg (show 0 ≤ W by omega) (show 0 ≤ H by omega)
  omega
end Go.Proofs.YtjhccghhinlmdaaGreatDoor
/- Go's own strconv.Itoa at numbers below a hundred: their digits; nothing is turned. -/
namespace Go.Proofs.YtjhccghhinlmdaaGreatDoor
open Go.RowKit

/-- a text that says the number n -/
def DigPost (n : Nat) (w : World) (e : Ending) (w' : World) : Prop := w = w' ∧ ∃ s : ByteArray, nums s = dig n ∧ e = .returned (.string s)
theorem nums_piece (s : ByteArray) (a b : Nat) (l : List Int) (h : ((nums s).drop a).take (b - a) = l) : nums (s.extract a b) = l := by rw [nums_extract]; exact h
theorem dig_one : ∀ i : Fin 10, ((nums Lib.digits36).drop i.val).take (i.val + 1 - i.val) = dig i.val := by decide +kernel
theorem dig_two : ∀ i : Fin 100, 10 ≤ i.val → ((nums Lib.smalls).drop (i.val * 2)).take (i.val * 2 + 2 - i.val * 2) = dig i.val := by decide +kernel

set_option maxHeartbeats 1000000 in
set_option maxRecDepth 100000 in
theorem small_any (i : Nat) (h : i < 100) (w : World) :
    Calls Tryz.prog 127 #[.int .i64 i] w (DigPost i w) := by
  go_enter Tryz.func127, Tryz.ntmps127
  go_name_bytes_deep 45 SM hSM
  have eSM : SM = Lib.smalls := by rw [← hSM]; decide +kernel
  subst eSM
  clear hSM
  go_name_bytes_deep 30 DG hDG
  have eDG : DG = Lib.digits36 := by rw [← hDG]; decide +kernel
  subst eDG
  clear hDG
  by_cases h10 : i < 10
  · have hsl : ∀ w, (Instr.slice 9 (.string Lib.digits36) (some (.int .i64 (i : Int))) (some (.int .i64 ((i : Int) + 1))) none).run Tryz.prog w = .ok (.string (Lib.digits36.extract i (i + 1))) w := fun w => by
      rw [run_slice_string w 9 Lib.digits36 .i64 .i64 _ _ Tryz.underlying9 (by omega) (by omega) (by rw [Lib.digits36_size]; omega), show ((i : Int)).toNat = i by omega, show ((i : Int) + 1).toNat = i + 1 by omega]
    go_wp2
    go_ret
    exact ⟨rfl, _, nums_piece _ _ _ _ (dig_one ⟨i, h10⟩), rfl⟩
  · have hsl : ∀ w, (Instr.slice 9 (.string Lib.smalls) (some (.int .i64 ((i : Int) * 2))) (some (.int .i64 ((i : Int) * 2 + 2))) none).run Tryz.prog w = .ok (.string (Lib.smalls.extract (i * 2) (i * 2 + 2))) w := fun w => by
      rw [run_slice_string w 9 Lib.smalls .i64 .i64 _ _ Tryz.underlying9 (by omega) (by omega) (by rw [Lib.smalls_size]; omega), show ((i : Int) * 2).toNat = i * 2 by omega, show ((i : Int) * 2 + 2).toNat = i * 2 + 2 by omega]
    go_wp2
    go_ret
    exact ⟨rfl, _, nums_piece _ _ _ _ (dig_two ⟨i, h⟩ (by show 10 ≤ i; omega)), rfl⟩

set_option maxHeartbeats 1000000 in
theorem formatInt_any (i : Nat) (h : i < 100) (w : World) :
    Calls Tryz.prog 126 #[.int .i64 i, .int .i64 10] w (DigPost i w) := by
  go_enter Tryz.func126, Tryz.ntmps126
  go_wp2_with (go_at_call 127; refine (small_any i h _).mono ?_; rintro e w' ⟨rfl, s, hs, rfl⟩)
  go_ret
  exact ⟨rfl, s, hs, rfl⟩
set_option maxHeartbeats 1000000 in
theorem itoaIn_any (i : Nat) (h : i < 100) (w : World) :
    Calls Tryz.prog 125 #[.int .i64 i] w (DigPost i w) := by
  go_enter Tryz.func125, Tryz.ntmps125
  go_wp2_with (go_at_call 126; refine (formatInt_any i h _).mono ?_; rintro e w' ⟨rfl, s, hs, rfl⟩)
  go_ret
  exact ⟨rfl, s, hs, rfl⟩
set_option maxHeartbeats 1000000 in
theorem itoa_any (n : Int) (h0 : 0 ≤ n) (h : n < 100) (w : World) :
    Calls Tryz.prog 124 #[.int .i64 n] w fun e w' => w = w' ∧ ∃ s : ByteArray, nums s = dig n ∧ e = .returned (.string s) := by
  obtain ⟨i, rfl⟩ := Int.eq_ofNat_of_zero_le h0
  go_enter Tryz.func124, Tryz.ntmps124
  go_wp2_with (go_at_call 125; refine (itoaIn_any i (by omega) _).mono ?_; rintro e w' ⟨rfl, s, hs, rfl⟩)
  go_ret
  exact ⟨rfl, s, hs, rfl⟩
end Go.Proofs.YtjhccghhinlmdaaGreatDoor
/- The brush walked: what it writes is gathered in a row of its own. -/
namespace Go.Proofs.YtjhccghhinlmdaaGreatDoor
open Go.RowKit

theorem ret_str {a b : ByteArray} (h : a = b) : Ending.returned (.string a) = .returned (.string b) := by rw [h]
/-- a brush lies at block bb, its bytes in a row of its own, both from base on -/
structure BrAt (w : World) (base bb : Nat) (b : B) : Prop where
  row : ∃ v, Blk w bb [v, .int .i64 b.x, .int .i64 b.y, .int .u8 b.pen] 157 ∧ w.ownsRow base 5 1 v b.bytes.length (b.bytes.map (Value.int .u8))
  ge : base ≤ bb
theorem BrAt.lt {w : World} {base bb : Nat} {b : B} (h : BrAt w base bb b) : bb < w.heap.size := by
  obtain ⟨v, hb, _⟩ := h.row; exact hb.lt
theorem BrAt.fr0 {w w' : World} {base bb : Nat} {b : B} (h : BrAt w base bb b) (f : Fr [] w w') : BrAt w' base bb b := by
  obtain ⟨⟨v, hb, ho⟩, hg⟩ := h; exact ⟨⟨v, hb.fr0 f, own_fr0 ho f⟩, hg⟩
theorem below_fr {B : Nat} {a b : World} (h : Below B a b) (hB : a.heap.size ≤ B) : Fr [] a b := ⟨h.os, h.tape, h.output, h.size, fun k hk _ => h.block k (by omega)⟩
theorem Fr.toBelow {B : Nat} {a b : World} (h : Fr [] a b) (hB : B ≤ a.heap.size) : Below B a b := h.below hB (by simp)
theorem below_set {B : Nat} {a b : World} (h : Below B a b) {p : Addr} (hp : B ≤ p.block) (v : Value) : Below B a (b.setCell p v) :=
  h.trans ⟨rfl, rfl, rfl, by simp, fun k hk => heap_setCell_other b p k v (by omega)⟩
theorem Blk.below {w w' : World} {B b : Nat} {vs : List Value} {ty : TypeId} (h : Blk w b vs ty) (k : Below B w w') (hb : b < B) : Blk w' b vs ty := (k.block b hb).trans h
theorem Grid.below {w w' : World} {B bg bc cap : Nat} {sp : List Value} {W H : Int} {l : List (Int × Int)} (g : Grid w bg bc cap sp W H l) (k : Below B w w') (h1 : bg < B) (h2 : bc < B) : Grid w' bg bc cap sp W H l :=
  ⟨g.hd.below k h1, g.row.below k h2, g.w1, g.w2, g.h1, g.h2, g.len, g.capLe⟩
theorem own_below {w w1 : World} {base : Nat} {e : TypeId} {size : Nat} {v : Value} {n : Nat} {xs : List Value} (h : w.ownsRow base e size v n xs) (hB : base ≤ w.heap.size) (hg : w.grownBy w1 v.ownBlock) : Below base w w1 :=
  ⟨hg.os, hg.tape, hg.output, hg.size, fun k hk => hg.block k (by omega) (fun e => by have := (h.lt k e.symm).1; omega)⟩
theorem own_slice {w : World} {base : Nat} {e : TypeId} {size : Nat} {v : Value} {n : Nat} {xs : List Value} (h : w.ownsRow base e size v n xs) : ∃ sa sn sc, v = .slice sa sn sc := by
  rcases h.2 with ⟨rfl, _⟩ | ⟨g, cap, cur, rfl, _⟩
  · exact ⟨_, _, _, rfl⟩
  · exact ⟨_, _, _, rfl⟩
/-- what lies below base has not turned, nor has any block but of brushes and bytes -/
structure Keeps (base : Nat) (w w' : World) : Prop where
  below : Below base w w'
  blk : ∀ k us ty, Blk w k us ty → ty ≠ 157 → ty ≠ 5 → Blk w' k us ty
theorem Keeps.refl (base : Nat) (w : World) : Keeps base w w := ⟨Below.refl _ _, fun _ _ _ h _ _ => h⟩
theorem Keeps.trans {base : Nat} {a b c : World} (h : Keeps base a b) (k : Keeps base b c) : Keeps base a c := ⟨h.below.trans k.below, fun i us ty hb h1 h2 => k.blk i us ty (h.blk i us ty hb h1 h2) h1 h2⟩
theorem Fr.keeps {base : Nat} {a b : World} (h : Fr [] a b) (hB : base ≤ a.heap.size) : Keeps base a b := ⟨h.toBelow hB, fun _ _ _ hb _ _ => hb.fr0 h⟩
theorem Keeps.set {base : Nat} {a b : World} (h : Keeps base a b) {p : Addr} (hp : base ≤ p.block) {us : List Value} (hb : Blk b p.block us 157) (v : Value) : Keeps base a (b.setCell p v) :=
  h.trans ⟨below_set (Below.refl _ _) hp v, fun _ _ _ hk h1 _ => hk.setOther (hk.ne hb h1) v⟩
theorem own_keeps {w w1 : World} {base : Nat} {size : Nat} {v : Value} {n : Nat} {xs : List Value} (h : w.ownsRow base 5 size v n xs) (hB : base ≤ w.heap.size) (hg : w.grownBy w1 v.ownBlock) : Keeps base w w1 :=
  ⟨own_below h hB hg, fun _ _ _ hk _ h2 => hk.grown hg (own_ne h hk h2)⟩
theorem strCells_nums (s : ByteArray) : Lib.strCells s = (nums s).map (Value.int .u8) := by simp [Lib.strCells, nums]

set_option maxHeartbeats 1000000 in
set_option maxRecDepth 100000 in
theorem badd_any (s : ByteArray) (w : World) (base bb : Nat) (b : B) (h : BrAt w base bb b) (hl : b.bytes.length ≤ 100000) (hs : s.size ≤ 100000) :
    Calls Tryz.prog 121 #[.pointer (some ⟨bb, 0, none⟩), .string s] w fun e w' => e = .returned (.tuple #[]) ∧ Keeps base w w' ∧ BrAt w' base bb { b with bytes := b.bytes ++ nums s } := by
  obtain ⟨⟨v, hb, ho⟩, hge⟩ := h
  obtain ⟨i0, hi, hz0, hz1, hz2⟩ := info_parts info_u8
  have c0 : w.cell? ⟨bb, 0, none⟩ = some v := hb.cell 0
  have lt := hb.lt
  have HB := hide hb
  have HO := hide ho
  clear hb ho
  go_enter Tryz.func121, Tryz.ntmps121
  go_wp2_with (at_builtin; refine Lib.wpList_append_own_string _ rfl (.tmp 8) (.tmp 9) 52 9 rfl base 5 i0 Tryz.underlying52 Tryz.underlying9 hi hz0 hz1 hz2 v b.bytes.length (b.bytes.map (Value.int .u8)) rfl HO.out s rfl (by unfold maxLen; omega) (by omega) (by omega) ?_; intro v1 w1 hown1 hgrow hnil; obtain ⟨sa, sn, sc, e1⟩ := own_slice hown1; subst e1; have b1 : Blk w1 bb [v, .int .i64 b.x, .int .i64 b.y, .int .u8 b.pen] 157 := HB.out.grown hgrow (own_ne HO.out HB.out (by decide)); have c0n : w1.cell? ⟨bb, 0, none⟩ = some v := b1.cell 0; have f0n := b1.frozen 0; have HL : Hid (Keeps base w w1) := own_keeps HO.out (by omega) hgrow; have HB1 := hide b1; have HO1 := hide hown1; clear b1 hown1 hgrow hnil)
  go_end0
  refine ⟨rfl, HL.out.set hge HB1.out _, ⟨.slice sa sn sc, HB1.out.set 0 _, ?_⟩, hge⟩
  have := HO1.out
  rw [strCells_nums, ← List.map_append, show b.bytes.length + s.size = (b.bytes ++ nums s).length by rw [List.length_append, nums_length]] at this
  exact own_fr (S := [bb]) this ((Fr.refl _ _).setCell (.inl (by simp)) _) (by intro x hx; simp at hx; subst hx; exact own_ne this HB1.out (by decide))

set_option maxHeartbeats 1000000 in
set_option maxRecDepth 100000 in
theorem bwrite_any (c : Int) (w : World) (base bb : Nat) (b : B) (h : BrAt w base bb b) (hl : b.bytes.length ≤ 100000) (x0 : -2 ≤ b.x) (x1 : b.x ≤ 100) :
    Calls Tryz.prog 120 #[.pointer (some ⟨bb, 0, none⟩), .int .u8 c] w fun e w' => e = .returned (.tuple #[]) ∧ Keeps base w w' ∧ BrAt w' base bb (b.write c) := by
  obtain ⟨⟨v, hb, ho⟩, hge⟩ := h
  obtain ⟨i0, hi, hz0, hz1, hz2⟩ := info_parts info_u8
  have c0 : w.cell? ⟨bb, 0, none⟩ = some v := hb.cell 0
  have lt := hb.lt
  have HB := hide hb
  have HO := hide ho
  clear hb ho
  go_enter Tryz.func120, Tryz.ntmps120
  go_wp2_with (at_builtin; refine wpList_append_lies _ rfl (.tmp 8) (.tmp 10) 52 rfl base 5 i0 (.int .u8 0) 1 1 Tryz.underlying52 hi hz0 hz1 hz2 rfl (by decide) v b.bytes.length (b.bytes.map (Value.int .u8)) rfl (own_fr0 HO.out ((Fr.refl _ _).alloc _)) ⟨w.heap.size, 0, none⟩ 1 1 [.int .u8 c] rfl rfl (World.news_of_block (cs := #[.int .u8 c]) (t := 5) (fr := (0, 0)) (by exact heap_alloc_new w _)) (one_one _ rfl) (by omega) (by unfold maxLen; omega) (by omega) (by simp; omega) (w.heap.size + 1) (by simp) ?_; intro g1 cap1 w1 hown1 hgrow hat hlt; have b1 : Blk w1 bb [v, .int .i64 b.x, .int .i64 b.y, .int .u8 b.pen] 157 := (HB.out.alloc _).grown hgrow (own_ne HO.out HB.out (by decide)); have c0n : w1.cell? ⟨bb, 0, none⟩ = some v := b1.cell 0; have c1n : w1.cell? ⟨bb, 1, none⟩ = some (.int .i64 b.x) := b1.cell 1; have f0n := b1.frozen 0; have f1n := b1.frozen 1; have lt1 := b1.lt; have HL : Hid (Keeps base w w1) := (((Fr.refl [] w).alloc _).keeps (by omega)).trans (own_keeps (own_fr0 HO.out ((Fr.refl _ _).alloc _)) (by simp; omega) hgrow); have HB1 := hide b1; have HO1 := hide hown1; clear b1 hown1 hgrow hat)
  go_end0
  refine ⟨rfl, (HL.out.set hge HB1.out _).set hge (HB1.out.set 0 _) _, ⟨.slice (some ⟨g1, 0, none⟩) (b.bytes.length + 1) cap1, (HB1.out.set 0 _).set 1 _, ?_⟩, hge⟩
  have : w1.ownsRow base 5 1 (.slice (some ⟨g1, 0, none⟩) (b.bytes.length + 1) cap1) (b.write c).bytes.length ((b.write c).bytes.map (Value.int .u8)) := by
    have := HO1.out
    simpa [B.write] using this
  exact own_fr (S := [bb]) this (((Fr.refl _ _).setCell (.inl (by simp)) _).setCell (.inl (by simp)) _) (by intro x hx; simp at hx; subst hx; exact own_ne this HB1.out (by decide))
end Go.Proofs.YtjhccghhinlmdaaGreatDoor
