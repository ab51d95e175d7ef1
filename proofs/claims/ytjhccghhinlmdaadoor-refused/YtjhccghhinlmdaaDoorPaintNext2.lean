/- Package views' View: the view that comes behind, of windows that may be. -/
import Derived.Test.YtjhccghhinlmdaaDoorPaintNext
namespace Go.Proofs.YtjhccghhinlmdaaDoor
open Go.RowKit

theorem PaneOk.off {w : World} {base : Nat} {p : Pane} {v : Value} {n size : Nat} {xs : List Value} (h : PaneOk w p) (k : w.ownsRow base 94 size v n xs) : some p.lb ≠ v.ownBlock := h.ls.off k
theorem PaneOk.grown {w w' : World} {row : Option Nat} {p : Pane} (h : PaneOk w p) (hg : w.grownBy w' row) (hn : some p.lb ≠ row) : PaneOk w' p := ⟨h.ok, h.o1, h.o2, h.ls.grown hg hn⟩

/-- so many panes of the new view have been made -/
structure Made (base : Nat) (w : World) (nb : Nat) (v : Value) (qs : List Pane) : Prop where
  hd : Blk w nb [v] 69
  row : w.ownsRow base 94 9 v qs.length (flatP qs)
  ok : ∀ p ∈ qs, PaneOk w p ∧ base ≤ p.lb
theorem Made.fr {base : Nat} {w w' : World} {S : List Nat} {nb : Nat} {v : Value} {qs : List Pane} (h : Made base w nb v qs) (f : Fr S w w') (hs : ∀ x ∈ S, w.heap.size ≤ x) : Made base w' nb v qs := by
  have f0 : Fr [] w w' := f.weak (fun i hi => .inr (hs i hi))
  exact ⟨h.hd.fr0 f0, own_fr0 h.row f0, fun p hp => ⟨(h.ok p hp).1.fr f0 (by simp), (h.ok p hp).2⟩⟩
theorem Made.more {base : Nat} {w w1 w2 : World} {nb g cap : Nat} {v : Value} {qs : List Pane} {q : Pane} {o : Obj} (h : Made base w nb v qs) (hq : PaneOk w q) (hb : base ≤ q.lb) (hw : w1 = w.alloc o)
    (hown : w2.ownsRow base 94 9 (.slice (some ⟨g, 0, none⟩) (qs.length + 1) cap) (qs.length + 1) (flatP qs ++ q.vals)) (hg : w1.grownBy w2 v.ownBlock) :
    Blk w2 nb [v] 69 ∧ Made base (w2.setCell ⟨nb, 0, none⟩ (.slice (some ⟨g, 0, none⟩) (qs.length + 1) cap)) nb (.slice (some ⟨g, 0, none⟩) (qs.length + 1) cap) (qs ++ [q]) := by
  subst hw
  have hA := h.fr ((Fr.refl [] w).alloc o) (by simp)
  have hqA : PaneOk (w.alloc o) q := hq.fr ((Fr.refl [] _).alloc _) (by simp)
  have hd2 : Blk w2 nb [v] 69 := hA.hd.grown hg (own_ne hA.row hA.hd (by decide))
  have fs : Fr [nb] w2 (w2.setCell ⟨nb, 0, none⟩ (.slice (some ⟨g, 0, none⟩) (qs.length + 1) cap)) := (Fr.refl _ _).setCell (.inl (by simp)) _
  have each : ∀ p, PaneOk (w.alloc o) p → PaneOk (w2.setCell ⟨nb, 0, none⟩ (.slice (some ⟨g, 0, none⟩) (qs.length + 1) cap)) p := by
    intro p hp
    have h2 : PaneOk w2 p := hp.grown hg (hp.off hA.row)
    exact h2.fr fs (by simpa using h2.ls.ne hd2 (by decide))
  refine ⟨hd2, hd2.set 0 _, ?_, ?_⟩
  · rw [← flatP_snoc, List.length_append]
    exact own_fr hown fs (by intro b hb; simp at hb; subst hb; exact own_ne hown hd2 (by decide))
  · intro p hp
    rcases List.mem_append.1 hp with hp | hp
    · exact ⟨each p (hA.ok p hp).1, (h.ok p hp).2⟩
    · simp at hp; subst hp; exact ⟨each p hqA, hb⟩

set_option maxHeartbeats 4000000 in
set_option maxRecDepth 100000 in
theorem next_yes (b c : Nat) (av : Option Addr) (cap : Nat) (ps : List Pane) (wa : Option Addr) (ws : List Win) (n wcap : Nat) (w : World) (h0 : w.cell? ⟨b, c, none⟩ = some (.slice av ps.length cap)) (hps : PanesAt w av ps) (hn12 : ps.length ≤ 12)
    (h : WinsAt w wa ws) (hn : ws.length = n) (hcap : n ≤ wcap) (hsz : ∀ o ∈ ws, o.text.size ≤ 9223372036854775807) (he : errV ws = 0) :
    Calls Tryd.prog 32 #[.pointer (some ⟨b, c, none⟩), .slice wa n wcap] w (NextPost w ps ws) := by
  subst hn
  obtain ⟨l12, hok⟩ := errV_ok he
  have CK := hide (check_any ws wa _ wcap (w.alloc (.cells #[.slice none 0 0] 69)) (h.fr ((Fr.refl [] _).alloc _) (by simp)) rfl hcap (by omega) hsz)
  rw [he] at CK
  obtain ⟨i0, hi, hz0, hz1, hz2⟩ := info_parts info_pane
  have H := hide h
  have HP := hide hps
  have HK := hide hok
  clear h hsz he hps hok
  go_enter Tryd.func32, Tryd.ntmps32
  go_wp2_with fail
  refine CK.out.mono ?_
  rintro e w1 ⟨rfl, f1⟩
  have FW : Hid (Fr [] w w1) := ((Fr.refl _ _).alloc _).then f1
  have B0 : Hid (Blk w1 w.heap.size [.slice none 0 0] 69) := (Blk.new w [.slice none 0 0] 69).fr0 f1
  clear f1 CK
  have hw1 : w.heap.size < w1.heap.size := B0.out.lt
  go_wp2
  go_loopw [8] (fun i wr => ∃ (k : Nat) (v : Value) (qs : List Pane), i = .int .i64 k ∧ k ≤ ws.length ∧ qs.length = k ∧ Fr [] w wr ∧ Blk wr w.heap.size [.slice none 0 0] 69 ∧ Made w.heap.size wr w1.heap.size v qs ∧ view qs = ((view ps).next ws).take k) (fun i _ => (3000 - intOf i).toNat)
  case atStart => exact ⟨0, .slice none 0 0, [], rfl, by omega, rfl, FW.out.alloc _, B0.out.alloc _, ⟨Blk.new w1 [.slice none 0 0] 69, World.ownsRow_nil _ _ _ _, by simp⟩, by simp [view]⟩
  case round =>
    obtain ⟨k, v, qs, rfl, hk, hq, f, hb0, hm, hv⟩ := hrel
    subst hq
    by_cases hend : qs.length < ws.length
    · obtain ⟨o, ho⟩ : ∃ o, ws[qs.length]? = some o := ⟨_, List.getElem?_eq_getElem hend⟩
      have ok := (errAt_ok (HK.out qs.length o ho)).1
      have NT := hide (next_take (view ps) ws qs.length o ho)
      obtain ⟨wb, woff, rfl, C⟩ := H.out.fr f (by simp) qs.length o ho
      obtain ⟨c0, c1, c2, c3, c4, c5, c6, c7⟩ := C
      have b1 : (qs.length : Int) < ws.length := by omega
      have HB0 := hide hb0
      have HM := hide hm
      have HV := hide hv
      clear hb0 hm hv ho
      go_wp2_with fail
      refine (newPane_any o _ ok).mono ?_
      rintro e w2 ⟨p, hpo, hpf, rfl, hlb, pok, f2⟩
      subst hpo
      have F2 := hide f2
      have FP : Hid (Fr [] w w2) := f.then f2
      have POK := hide pok
      have M2 : Hid (Made w.heap.size w2 w1.heap.size v qs) := HM.out.fr f2 (by simp)
      have PF := hide hpf
      have LB : Hid (w.heap.size ≤ p.lb) := Nat.le_trans f.size hlb
      clear c0 c1 c2 c3 c4 c5 c6 c7 f2 pok hpf hlb HM
      have FA : Hid (Fr [] w (w2.alloc (.cells #[.int .i64 p.o.key, .int .i64 p.o.x, .int .i64 p.o.y, .int .i64 p.o.w, .int .i64 p.o.h, .int .i64 p.o.layer, .int .u8 p.o.style, .slice (some ⟨p.lb, 0, none⟩) p.ls.length p.lc, .int .i64 0] 94))) := FP.out.alloc _
      have OF : Hid (Calls Tryd.prog 48 #[.pointer (some ⟨b, c, none⟩), .int .i64 p.o.key] (w2.alloc (.cells #[.int .i64 p.o.key, .int .i64 p.o.x, .int .i64 p.o.y, .int .i64 p.o.w, .int .i64 p.o.h, .int .i64 p.o.layer, .int .u8 p.o.style, .slice (some ⟨p.lb, 0, none⟩) p.ls.length p.lc, .int .i64 0] 94)) fun e w' => e = .returned (.int .i64 ((view ps).offOf p.o.key)) ∧ (w2.alloc (.cells #[.int .i64 p.o.key, .int .i64 p.o.x, .int .i64 p.o.y, .int .i64 p.o.w, .int .i64 p.o.h, .int .i64 p.o.layer, .int .u8 p.o.style, .slice (some ⟨p.lb, 0, none⟩) p.ls.length p.lc, .int .i64 0] 94)) = w') :=
        offset_any b c av cap ps p.o.key _ (by rw [← h0]; exact World.cell?_of_block (w := w) (FA.out.block b (World.block_lt_of_cell? w _ h0) (by simp))) (HP.out.fr0 FA.out) hn12
      have SC : Hid (Calls Tryd.prog 49 #[.pointer (some ⟨w2.heap.size, 0, none⟩), .int .i64 ((view ps).offOf p.o.key)] (w2.alloc (.cells #[.int .i64 p.o.key, .int .i64 p.o.x, .int .i64 p.o.y, .int .i64 p.o.w, .int .i64 p.o.h, .int .i64 p.o.layer, .int .u8 p.o.style, .slice (some ⟨p.lb, 0, none⟩) p.ls.length p.lc, .int .i64 0] 94)) fun e w' => e = .returned (.tuple #[]) ∧ Fr [w2.heap.size] (w2.alloc (.cells #[.int .i64 p.o.key, .int .i64 p.o.x, .int .i64 p.o.y, .int .i64 p.o.w, .int .i64 p.o.h, .int .i64 p.o.layer, .int .u8 p.o.style, .slice (some ⟨p.lb, 0, none⟩) p.ls.length p.lc, .int .i64 0] 94)) w' ∧ Blk w' w2.heap.size [.int .i64 p.o.key, .int .i64 p.o.x, .int .i64 p.o.y, .int .i64 p.o.w, .int .i64 p.o.h, .int .i64 p.o.layer, .int .u8 p.o.style, .slice (some ⟨p.lb, 0, none⟩) p.ls.length p.lc, .int .i64 (p.o.fits ((view ps).offOf p.o.key))] 94) :=
        scrollTo_any w2.heap.size 0 p.lb p.lc p.o ((view ps).offOf p.o.key) _ [.int .i64 p.o.key, .int .i64 p.o.x, .int .i64 p.o.y, .int .i64 p.o.w, .int .i64 p.o.h, .int .i64 p.o.layer, .int .u8 p.o.style, .slice (some ⟨p.lb, 0, none⟩) p.ls.length p.lc, .int .i64 0] 94 (Blk.new _ _ _) 0 rfl rfl rfl ok
      have ft := Win.fits_bd p.o ok ((view ps).offOf p.o.key)
      generalize hoff : (view ps).offOf p.o.key = off at *
      go_wp2_with fail
      refine OF.out.mono ?_
      rintro e w3 ⟨rfl, wc⟩
      subst wc
      go_wp2_with fail
      refine SC.out.mono ?_
      rintro e w3 ⟨rfl, f3, b3⟩
      have F3 : Hid (Fr [] w2 w3) := (((Fr.refl _ _).alloc _).of_nil.then f3).weak (by simp)
      have M3 : Hid (Made w.heap.size w3 w1.heap.size v qs) := M2.out.fr F3.out (by simp)
      have B3 := hide b3
      have PQ : Hid (PaneOk w3 ⟨p.o, p.o.fits off, p.lb, p.lc⟩) := ⟨ok, ft.1, ft.2, POK.out.ls.fr F3.out (by simp)⟩
      have a0 : w3.cell? ⟨w2.heap.size, 0, none⟩ = some (.int .i64 p.o.key) := b3.cell 0
      have a1 : w3.cell? ⟨w2.heap.size, 1, none⟩ = some (.int .i64 p.o.x) := b3.cell 1
      have a2 : w3.cell? ⟨w2.heap.size, 2, none⟩ = some (.int .i64 p.o.y) := b3.cell 2
      have a3 : w3.cell? ⟨w2.heap.size, 3, none⟩ = some (.int .i64 p.o.w) := b3.cell 3
      have a4 : w3.cell? ⟨w2.heap.size, 4, none⟩ = some (.int .i64 p.o.h) := b3.cell 4
      have a5 : w3.cell? ⟨w2.heap.size, 5, none⟩ = some (.int .i64 p.o.layer) := b3.cell 5
      have a6 : w3.cell? ⟨w2.heap.size, 6, none⟩ = some (.int .u8 p.o.style) := b3.cell 6
      have a7 : w3.cell? ⟨w2.heap.size, 7, none⟩ = some (.slice (some ⟨p.lb, 0, none⟩) p.ls.length p.lc) := b3.cell 7
      have a8 : w3.cell? ⟨w2.heap.size, 8, none⟩ = some (.int .i64 (p.o.fits off)) := b3.cell 8
      have blt := b3.lt
      have e0 : w3.cell? ⟨w1.heap.size, 0, none⟩ = some v := M3.out.hd.cell 0
      have FZ : Hid (Fr [] w w3) := FP.out.then F3.out
      have OB : Hid (w.heap.size ≤ w3.heap.size) := FZ.out.size
      have B03 : Hid (Blk w3 w.heap.size [.slice none 0 0] 69) := HB0.out.fr0 (F2.out.then F3.out)
      have VS : Hid (view (qs ++ [⟨p.o, p.o.fits off, p.lb, p.lc⟩]) = ((view ps).next ws).take (qs.length + 1)) := by
        have := NT.out
        show _ = _
        rw [this, ← HV.out]
        simp [view, Pane.wo]
      clear f3 b3 SC OF POK M2 B3 FA HV NT hoff
      go_wp2_with (at_builtin; refine wpList_append_lies _ rfl (.tmp 35) (.tmp 37) 67 rfl w.heap.size 94 i0 (.agg #[.int .i64 0, .int .i64 0, .int .i64 0, .int .i64 0, .int .i64 0, .int .i64 0, .int .u8 0, .slice none 0 0, .int .i64 0]) 9 88 Tryd.underlying67 hi hz0 hz1 hz2 rfl (by decide) v qs.length (flatP qs) rfl (own_fr0 M3.out.row ((Fr.refl _ _).alloc _)) ⟨w3.heap.size, 0, none⟩ 1 1 [.int .i64 p.o.key, .int .i64 p.o.x, .int .i64 p.o.y, .int .i64 p.o.w, .int .i64 p.o.h, .int .i64 p.o.layer, .int .u8 p.o.style, .slice (some ⟨p.lb, 0, none⟩) p.ls.length p.lc, .int .i64 (p.o.fits off)] rfl rfl (World.news_of_block (cs := #[.int .i64 p.o.key, .int .i64 p.o.x, .int .i64 p.o.y, .int .i64 p.o.w, .int .i64 p.o.h, .int .i64 p.o.layer, .int .u8 p.o.style, .slice (some ⟨p.lb, 0, none⟩) p.ls.length p.lc, .int .i64 (p.o.fits off)]) (t := 94) (fr := (0, 0)) (by exact heap_alloc_new w3 _)) (nine_one _ _ _ _ _ _ _ _ _ rfl) (by omega) (by unfold maxLen; omega) (by omega) (by simp; have := OB.out; omega) (w3.heap.size + 1) (by simp) ?_; intro g1 cap1 w4 hown1 hgrow hat hlt1; have D := Made.more M3.out PQ.out LB.out rfl hown1 hgrow; have q3 : w4.cell? ⟨w1.heap.size, 0, none⟩ = some v := D.1.cell 0; have fz3 := D.1.frozen 0; have D1 := hide D.1; have D2 := hide D.2; have F4 : Hid (Fr [] w w4) := (Fr.grown (FZ.out.alloc _) hgrow (fun j hj => .inr (M3.out.row.lt j hj).1)); have B04 : Hid (Blk w4 w.heap.size [.slice none 0 0] 69) := ((B03.out.alloc _).grown hgrow (own_ne M3.out.row B03.out (by decide))); clear D hown1 hgrow hat)
      go_roundw
      case rel =>
        refine ⟨qs.length + 1, _, _, by go_num, by omega, by simp, F4.out.setCell (.inr (by simp; omega)) _, ?_, D2.out, VS.out⟩
        exact B04.out.setOther (by simp; omega) _
      case measure => simp [intOf]; omega
    · have hk' : qs.length = ws.length := by omega
      have HV : Hid (view qs = (view ps).next ws) := by
        show _ = _; rw [hv, List.take_of_length_le (by simp [V.next]; omega)]
      have HPN : Hid (PanesIn w.heap.size wr v qs) := by
        refine ⟨?_, hm.ok⟩
        rcases hm.row.2 with ⟨rfl, h00⟩ | ⟨g, cap', cur, rfl, hbg, hg, hc1, hc2, hc3, hc4⟩
        · exact .inl ⟨rfl, List.eq_nil_of_length_eq_zero h00⟩
        · refine .inr ⟨g, cap', cur.toList.drop (qs.length * 9), rfl, ?_, hbg⟩
          rw [← hc4, List.take_append_drop]; exact hg
      have NE : Hid (∀ g, v.ownBlock = some g → g ∉ [w.heap.size]) := by
        intro g hg
        obtain ⟨us, hu⟩ := own_blk' hm.row hg
        simpa using hu.ne hb0 (by decide)
      have NL : Hid (∀ p ∈ qs, p.lb ∉ [w.heap.size]) := by
        intro p hp
        simpa using (hm.ok p hp).1.ls.ne hb0 (by decide)
      have e0 : wr.cell? ⟨w1.heap.size, 0, none⟩ = some v := hm.hd.cell 0
      have r0 : wr.cell? ⟨w.heap.size, 0, none⟩ = some (.slice none 0 0) := hb0.cell 0
      have z0 := hb0.frozen 0
      have blt := hb0.lt
      have hone : v.oneCell' = true := by
        rcases hm.row.2 with ⟨rfl, _⟩ | ⟨g, cap', cur, rfl, _⟩ <;> rfl
      obtain ⟨sa, sl, sc, rfl⟩ : ∃ sa sl sc, v = .slice sa sl sc := by
        rcases hm.row.2 with ⟨rfl, _⟩ | ⟨g, cap', cur, rfl, _⟩ <;> exact ⟨_, _, _, rfl⟩
      clear hm hb0 hv hone
      go_wp2
      refine bodyPost_ret (v := .tuple #[.agg #[.slice sa sl sc], .int .i64 0]) (by simp [results, Tryd.results32, go_sem, r0]) rfl ?_
      exact ⟨_, qs, rfl, HV.out, HPN.out.fr (S := [w.heap.size]) ((Fr.refl _ _).setCell (.inl (by simp)) _) NE.out NL.out, f.setCell (.inr (by simp)) _⟩
end Go.Proofs.YtjhccghhinlmdaaDoor
