/- The program's painter: its calls. -/
import Derived.Test.YtjhccghhinlmdaaDoorPainterScreen
namespace Go.Proofs.YtjhccghhinlmdaaDoor
open Go.RowKit

theorem PanesIn.weak {base : Nat} {w : World} {v : Value} {ps : List Pane} (h : PanesIn base w v ps) : PanesIn 0 w v ps := by
  refine ⟨?_, fun p hp => ⟨(h.ok p hp).1, Nat.zero_le _⟩⟩
  rcases h.row with h0 | ⟨g, cap, sp, rfl, hb, _⟩
  · exact .inl h0
  · exact .inr ⟨g, cap, sp, rfl, hb, Nat.zero_le _⟩
theorem PanesIn.slice {base : Nat} {w : World} {v : Value} {ps : List Pane} (h : PanesIn base w v ps) : ∃ sa sc, v = .slice sa ps.length sc := by
  rcases h.row with ⟨rfl, rfl⟩ | ⟨g, cap, sp, rfl, _, _⟩
  · exact ⟨_, _, rfl⟩
  · exact ⟨_, _, rfl⟩
theorem PanesIn.ge {base : Nat} {w : World} {v : Value} {ps : List Pane} (h : PanesIn base w v ps) : ∀ x ∈ v.ownBlock.toList ++ ps.map Pane.lb, base ≤ x := by
  intro x hx
  simp only [List.mem_append, Option.mem_toList, List.mem_map] at hx
  rcases hx with hx | ⟨p, hp, rfl⟩
  · rcases h.row with ⟨rfl, _⟩ | ⟨g, cap, sp, rfl, _, hg⟩
    · simp [Value.ownBlock] at hx
    · simp [Value.ownBlock] at hx; subst hx; exact hg
  · exact (h.ok p hp).2

/-- the painter has another view and another place of its cursor -/
theorem PntRaw.newView {w : World} {b base : Nat} {g : PGh} {m : Pt} {l : List (Int × Int)} {v : Value} {qs : List Pane} {v' : V} (h : PntRaw w b g m l) (hq : PanesIn base w v qs) (hv : view qs = v') (hok : v'.Ok) (cx cy : Int) :
    PntRaw (((w.setCell ⟨b, 1, none⟩ v).setCell ⟨b, 2, none⟩ (.int .i64 cx)).setCell ⟨b, 3, none⟩ (.int .i64 cy)) b { g with pv := v, ps := qs } { m with v := v', cx := cx, cy := cy } l ∧ Fr [b] w (((w.setCell ⟨b, 1, none⟩ v).setCell ⟨b, 2, none⟩ (.int .i64 cx)).setCell ⟨b, 3, none⟩ (.int .i64 cy)) := by
  have f : Fr [b] w (((w.setCell ⟨b, 1, none⟩ v).setCell ⟨b, 2, none⟩ (.int .i64 cx)).setCell ⟨b, 3, none⟩ (.int .i64 cy)) := (((Fr.refl _ _).setCell (.inl (by simp)) _).setCell (.inl (by simp)) _).setCell (.inl (by simp)) _
  have ap := hq.apart h.st (by decide) (by decide)
  refine ⟨⟨((h.st.set 1 v).set 2 _).set 3 _, h.gr.fr f ?_ ?_, (hq.weak).fr f ap.1 ap.2, hv, hok⟩, f⟩
  · simpa using h.gr.hd.ne h.st (by decide)
  · simpa using h.gr.row.ne h.st (by decide)

/-- a new grid behind a view that has turned -/
theorem PUpd.of {w w1 w2 : World} {b : Nat} {g g1 : PGh} {m : Pt} (f : Fr (pfoot b g) w w1) (hb : g1.bg = g.bg) (hc : g1.bc = g.bc) (hs : ∀ x ∈ g1.pv.ownBlock.toList ++ g1.ps.map Pane.lb, x ∈ pfoot b g ∨ w.heap.size ≤ x) (u : NewGrid b g1 m w1 w2) : PUpd b g m w w2 := by
  obtain ⟨g2, p2, f2, s2⟩ := u.foot
  have fs : ∀ x ∈ pfoot b g1, x ∈ pfoot b g ∨ w.heap.size ≤ x := by
    intro x hx
    simp only [pfoot, List.mem_cons, hb, hc] at hx
    rcases hx with rfl | rfl | rfl | hx
    · exact .inl (by simp [pfoot])
    · exact .inl (by simp [pfoot])
    · exact .inl (by simp [pfoot])
    · exact hs x hx
  refine ⟨g2, p2, f.trans f2 (fun i hi => .inl hi) fs, fun x hx => ?_⟩
  rcases s2 x hx with h | h
  · exact fs x h
  · exact .inr (Nat.le_trans f.size h)

set_option maxHeartbeats 2000000 in
set_option maxRecDepth 100000 in
theorem show_yes (w : World) (b : Nat) (g : PGh) (m : Pt) (h : PntAt w b g m) (wa : Option Addr) (ws : List Win) (n wcap : Nat) (cx cy : Int) (hw : WinsAt w wa ws) (hn : ws.length = n) (hcap : n ≤ wcap) (hsz : ∀ o ∈ ws, o.text.size ≤ 9223372036854775807) (he : errV ws = 0) :
    Calls Tryd.prog 11 #[.pointer (some ⟨b, 0, none⟩), .slice wa n wcap, .agg #[.int .i64 cx, .int .i64 cy]] w fun e w' => e = .returned (.tuple #[.string (strOfNums (m.told { m with v := m.v.next ws, cx := cx, cy := cy })), .int .i64 0]) ∧ PUpd b g { m with v := m.v.next ws, cx := cx, cy := cy } w w' := by
  obtain ⟨av, cap, hv, hat⟩ := h.pn.at'
  have FA : Hid (Fr [] w (w.alloc (.cells #[.int .i64 cx, .int .i64 cy] 36))) := (Fr.refl _ _).alloc _
  have hc1 := (h.fr0 FA.out).st.cell 1
  simp only [List.getElem?_cons_succ, List.getElem?_cons_zero] at hc1
  rw [hv] at hc1
  have NX := hide (next_yes b 1 av cap g.ps wa ws n wcap _ hc1 (hat.fr0 FA.out) h.len (hw.fr FA.out (by simp)) hn hcap hsz he)
  have HOK := hide (V.ok_next m.v he)
  have H := hide h
  have B0 : Hid (Blk (w.alloc (.cells #[.int .i64 cx, .int .i64 cy] 36)) w.heap.size [.int .i64 cx, .int .i64 cy] 36) := Blk.new _ _ _
  have blt : b < w.heap.size := h.st.lt
  clear h hat hw hsz he hc1
  go_enter Tryd.func11, Tryd.ntmps11
  go_wp2_with fail
  refine NX.out.mono ?_
  rintro e w1 ⟨v, qs, rfl, hq1, hq2, f1⟩
  obtain ⟨sa, sc, rfl⟩ := hq2.slice
  have F1 : Hid (Fr [] w w1) := FA.out.then f1
  have F1p := hide f1
  have HQ1 := hide hq1
  have HQ2 := hide hq2
  have SC := hide (screen_any (w1.alloc (.cells #[.slice sa qs.length sc] 69)) b g m _ (H.out.fr0 (F1.out.alloc _)))
  clear f1 hq1 hq2 NX FA hv
  go_wp2_with fail
  refine SC.out.mono ?_
  rintro e w2 ⟨rfl, f2⟩
  have F2 : Hid (Fr [] w w2) := (F1.out.alloc _).then f2
  have BV := (Blk.new w1 [.slice sa qs.length sc] 69).fr0 f2
  have v0 : w2.cell? ⟨w1.heap.size, 0, none⟩ = some (.slice sa qs.length sc) := BV.cell 0
  have vlt := BV.lt
  have B2 := B0.out.fr0 ((F1p.out.alloc _).then f2)
  have k0 : w2.cell? ⟨w.heap.size, 0, none⟩ = some (.int .i64 cx) := B2.cell 0
  have k1 : w2.cell? ⟨w.heap.size, 1, none⟩ = some (.int .i64 cy) := B2.cell 1
  have h2 := H.out.fr0 F2.out
  have s1 : ∃ u, w2.cell? ⟨b, 1, none⟩ = some u := ⟨_, h2.st.cell 1⟩
  have s2 : w2.cell? ⟨b, 2, none⟩ = some (.int .i64 m.cx) := h2.st.cell 2
  have s3 : w2.cell? ⟨b, 3, none⟩ = some (.int .i64 m.cy) := h2.st.cell 3
  obtain ⟨u1, s1⟩ := s1
  have z1 := h2.st.frozen 1
  have z2 := h2.st.frozen 2
  have z3 := h2.st.frozen 3
  have bl2 : b < w2.heap.size := h2.st.lt
  have bl3 : w.heap.size < w2.heap.size := B2.lt
  have bl1 := F1.out.size
  have ne1 : b ≠ w.heap.size := by omega
  have ne2 : w.heap.size ≠ b := by omega
  have ne3 : b ≠ w1.heap.size := by omega
  have ne4 : w1.heap.size ≠ b := by omega
  have q2 := HQ2.out.fr (((Fr.refl [] _).alloc _).then f2) (by simp) (by simp)
  have NV := hide (h2.newView (v' := m.v.next ws) q2 (by rw [HQ1.out, H.out.vw]) HOK.out cx cy)
  have GE := hide HQ2.out.ge
  clear B2 BV h2 q2 f2 SC HQ1 HQ2 F1p B0
  have NVA := hide (NV.out.1.fr0 ((Fr.refl _ _).alloc (.cells #[.pointer (some ⟨g.bg, 0, none⟩), .int .i64 m.cur.x, .int .i64 m.cur.y, .bool m.cur.shown] 76)))
  have CH := hide (pchange_any _ b _ _ _ NVA.out g.bg g.bc g.gcap g.sp _ NVA.out.gr m.cur.x m.cur.y m.cur.shown)
  go_wp2_with fail
  refine CH.out.mono ?_
  rintro e w3 ⟨rfl, u3⟩
  have U3 : Hid (PUpd b g { m with v := m.v.next ws, cx := cx, cy := cy } w w3) := by
    refine PUpd.of (g1 := { g with pv := .slice sa qs.length sc, ps := qs }) (((F2.out.of_nil).then (NV.out.2.mono (by intro i hi; simp at hi; subst hi; simp [pfoot]))).alloc _) rfl rfl ?_ u3
    intro x hx
    have := GE.out x hx
    simp only [World.size_alloc] at this
    exact .inr (by omega)
  clear u3 CH
  go_wp2
  go_ret2
  exact ⟨rfl, U3.out⟩

set_option maxHeartbeats 1000000 in
set_option maxRecDepth 100000 in
theorem show_no (w : World) (b : Nat) (wa : Option Addr) (ws : List Win) (n wcap : Nat) (cx cy : Int) (hw : WinsAt w wa ws) (hn : ws.length = n) (hcap : n ≤ wcap) (hl : n ≤ 9223372036854775807) (hsz : ∀ o ∈ ws, o.text.size ≤ 9223372036854775807) (he : errV ws ≠ 0) :
    Calls Tryd.prog 11 #[.pointer (some ⟨b, 0, none⟩), .slice wa n wcap, .agg #[.int .i64 cx, .int .i64 cy]] w fun e w' => e = .returned (.tuple #[.string ByteArray.empty, .int .i64 (errV ws)]) ∧ Fr [] w w' := by
  have FA : Hid (Fr [] w (w.alloc (.cells #[.int .i64 cx, .int .i64 cy] 36))) := (Fr.refl _ _).alloc _
  have NX := hide (next_no (some ⟨b, 1, none⟩) wa ws n wcap _ (hw.fr FA.out (by simp)) hn hcap hl hsz he)
  have be : (errV ws == 0) = false := by simpa using he
  clear hw hsz he
  generalize errV ws = er at *
  go_enter Tryd.func11, Tryd.ntmps11
  go_wp2_with fail
  refine NX.out.mono ?_
  rintro e w1 ⟨rfl, f1⟩
  have F1 : Hid (Fr [] w w1) := FA.out.then f1
  clear f1 NX FA
  go_wp2
  go_ret2
  exact ⟨rfl, F1.out.alloc _⟩
set_option maxHeartbeats 1000000 in
theorem show_nil (w : World) (wa : Option Addr) (n wcap : Nat) (cx cy : Int) :
    Calls Tryd.prog 11 #[.pointer none, .slice wa n wcap, .agg #[.int .i64 cx, .int .i64 cy]] w fun e w' => e = .returned (.tuple #[.string ByteArray.empty, .int .i64 1]) ∧ Fr [] w w' := by
  go_enter Tryd.func11, Tryd.ntmps11
  go_wp2
  go_ret2
  exact ⟨rfl, (Fr.refl _ _).alloc _⟩

/-- a window of the view has been scrolled; the grid has not been painted -/
theorem PntRaw.scrolled {w w' : World} {b : Nat} {g : PGh} {m : Pt} {l : List (Int × Int)} {qs : List Pane} {v' : V} (h : PntRaw w b g m l) (f : Fr g.pv.ownBlock.toList w w') (hq : PanesIn 0 w' g.pv qs) (hv : view qs = v') (hok : v'.Ok) :
    PntRaw w' b { g with ps := qs } { m with v := v' } l := by
  have off : ∀ {x us ty}, Blk w x us ty → ty ≠ 94 → x ∉ g.pv.ownBlock.toList := by
    intro x us ty hx ht hm
    obtain ⟨vs, hv⟩ := own_pane h.pn (Option.mem_toList.1 hm)
    exact (hx.ne hv ht) rfl
  exact ⟨h.st.fr f (off h.st (by decide)), h.gr.fr f (off h.gr.hd (by decide)) (off h.gr.row (by decide)), hq, hv, hok⟩

set_option maxHeartbeats 2000000 in
set_option maxRecDepth 100000 in
theorem scroll_yes (w : World) (b : Nat) (g : PGh) (m : Pt) (h : PntAt w b g m) (key n : Int) (i : Nat) (hi : m.v.idx key = some i) (n1 : -500 ≤ n) (n2 : n ≤ 500) :
    Calls Tryd.prog 20 #[.pointer (some ⟨b, 0, none⟩), .int .i64 key, .int .i64 n] w fun e w' => e = .returned (.tuple #[.string (strOfNums (m.told { m with v := m.v.scroll i n })), .int .i64 0]) ∧ PUpd b g { m with v := m.v.scroll i n } w w' := by
  have HOK := hide (V.ok_scroll h.ok i (V.idx_lt hi) n)
  have H := hide h
  have HI := hide hi
  have SC := hide (screen_any w b g m _ h)
  have SZ := hide h.lt
  clear h hi
  go_enter Tryd.func20, Tryd.ntmps20
  go_wp2_with fail
  refine SC.out.mono ?_
  rintro e w1 ⟨rfl, f1⟩
  have F1 : Hid (Fr [] w (w1.alloc (.cells #[.pointer (some ⟨g.bg, 0, none⟩), .int .i64 m.cur.x, .int .i64 m.cur.y, .bool m.cur.shown] 76))) := f1.alloc _
  have p1 := H.out.fr0 F1.out
  have VS := hide (vscroll_yes b 1 g.pv g.ps key n i 0 _ (p1.st.cell 1) p1.pn p1.len (by rw [p1.vw]; exact HI.out) n1 n2)
  have W1 := hide f1.size
  have P1 := hide p1
  clear f1 p1 SC
  go_wp2_with fail
  refine VS.out.mono ?_
  rintro e w2 ⟨rfl, qs, hv, hq, f2, hlb, hlen⟩
  have P2 := hide (P1.out.scrolled (v' := m.v.scroll i n) f2 hq (by rw [hv, P1.out.vw]) HOK.out)
  have NB : w1.heap.size ∉ g.pv.ownBlock.toList := fun hm => by
    have := SZ.out w1.heap.size (by simp only [pfoot, List.mem_cons, List.mem_append]; exact .inr (.inr (.inr (.inl hm))))
    have := W1.out; omega
  have K2 := (Blk.new w1 [.pointer (some ⟨g.bg, 0, none⟩), .int .i64 m.cur.x, .int .i64 m.cur.y, .bool m.cur.shown] 76).fr f2 NB
  have a0 : w2.cell? ⟨w1.heap.size, 0, none⟩ = some (.pointer (some ⟨g.bg, 0, none⟩)) := K2.cell 0
  have a1 : w2.cell? ⟨w1.heap.size, 1, none⟩ = some (.int .i64 m.cur.x) := K2.cell 1
  have a2 : w2.cell? ⟨w1.heap.size, 2, none⟩ = some (.int .i64 m.cur.y) := K2.cell 2
  have a3 : w2.cell? ⟨w1.heap.size, 3, none⟩ = some (.bool m.cur.shown) := K2.cell 3
  have klt := K2.lt
  have F2 : Hid (Fr (pfoot b g) w w2) := (F1.out.of_nil).then (f2.mono (by intro i hi; simp only [pfoot, List.mem_cons, List.mem_append]; exact .inr (.inr (.inr (.inl hi)))))
  have LB := hide hlb
  have CH := hide (pchange_any _ b _ _ _ P2.out g.bg g.bc g.gcap g.sp _ P2.out.gr m.cur.x m.cur.y m.cur.shown)
  clear hv hq f2 hlb hlen K2 NB VS
  go_wp2_with fail
  refine CH.out.mono ?_
  rintro e w3 ⟨rfl, u3⟩
  have U3 : Hid (PUpd b g { m with v := m.v.scroll i n } w w3) := by
    refine PUpd.of (g1 := { g with ps := qs }) F2.out rfl rfl ?_ u3
    intro x hx
    simp only [LB.out] at hx
    exact .inl (by simp only [pfoot, List.mem_cons]; exact .inr (.inr (.inr hx)))
  clear u3 CH
  go_wp2
  go_ret2
  exact ⟨rfl, U3.out⟩
set_option maxHeartbeats 1000000 in
set_option maxRecDepth 100000 in
theorem scroll_none (w : World) (b : Nat) (g : PGh) (m : Pt) (h : PntAt w b g m) (key n : Int) (hi : m.v.idx key = none) :
    Calls Tryd.prog 20 #[.pointer (some ⟨b, 0, none⟩), .int .i64 key, .int .i64 n] w fun e w' => e = .returned (.tuple #[.string ByteArray.empty, .int .i64 4]) ∧ Fr [] w w' := by
  have H := hide h
  have SC := hide (screen_any w b g m _ h)
  have HI := hide hi
  clear h hi
  go_enter Tryd.func20, Tryd.ntmps20
  go_wp2_with fail
  refine SC.out.mono ?_
  rintro e w1 ⟨rfl, f1⟩
  have F1 : Hid (Fr [] w (w1.alloc (.cells #[.pointer (some ⟨g.bg, 0, none⟩), .int .i64 m.cur.x, .int .i64 m.cur.y, .bool m.cur.shown] 76))) := f1.alloc _
  have p1 := H.out.fr0 F1.out
  obtain ⟨av, cap, hv, hat⟩ := p1.pn.at'
  have VS := hide (vscroll_no b 1 av cap g.ps key n _ (by rw [← hv]; exact p1.st.cell 1) hat p1.len (by rw [p1.vw]; exact HI.out))
  clear f1 p1 SC hv hat
  go_wp2_with fail
  refine VS.out.mono ?_
  rintro e w2 ⟨rfl, wc⟩
  subst wc
  go_wp2
  go_ret2
  exact ⟨rfl, F1.out⟩
set_option maxHeartbeats 1000000 in
set_option maxRecDepth 100000 in
theorem scroll_far (w : World) (b : Nat) (g : PGh) (m : Pt) (h : PntAt w b g m) (key n : Int) (i : Nat) (hi : m.v.idx key = some i) (hf : n < -500 ∨ 500 < n) :
    Calls Tryd.prog 20 #[.pointer (some ⟨b, 0, none⟩), .int .i64 key, .int .i64 n] w fun e w' => e = .returned (.tuple #[.string ByteArray.empty, .int .i64 8]) ∧ Fr [] w w' := by
  have H := hide h
  have SC := hide (screen_any w b g m _ h)
  have HI := hide hi
  have HF := hide hf
  clear h hi hf
  go_enter Tryd.func20, Tryd.ntmps20
  go_wp2_with fail
  refine SC.out.mono ?_
  rintro e w1 ⟨rfl, f1⟩
  have F1 : Hid (Fr [] w (w1.alloc (.cells #[.pointer (some ⟨g.bg, 0, none⟩), .int .i64 m.cur.x, .int .i64 m.cur.y, .bool m.cur.shown] 76))) := f1.alloc _
  have p1 := H.out.fr0 F1.out
  obtain ⟨av, cap, hv, hat⟩ := p1.pn.at'
  have VS := hide (vscroll_far b 1 av cap g.ps key n i _ (by rw [← hv]; exact p1.st.cell 1) hat p1.len (by rw [p1.vw]; exact HI.out) HF.out)
  clear f1 p1 SC hv hat
  go_wp2_with fail
  refine VS.out.mono ?_
  rintro e w2 ⟨rfl, wc⟩
  subst wc
  go_wp2
  go_ret2
  exact ⟨rfl, F1.out⟩
theorem scroll_nil (w : World) (key n : Int) :
    Calls Tryd.prog 20 #[.pointer none, .int .i64 key, .int .i64 n] w fun e w' => e = .returned (.tuple #[.string ByteArray.empty, .int .i64 1]) ∧ w = w' := by
  go_enter Tryd.func20, Tryd.ntmps20
  go_wp2
  go_ret2
  exact ⟨rfl, rfl⟩

set_option maxHeartbeats 2000000 in
set_option maxRecDepth 100000 in
theorem predraw_any (w : World) (b : Nat) (g : PGh) (m : Pt) (h : PntAt w b g m) :
    Calls Tryd.prog 28 #[.pointer (some ⟨b, 0, none⟩)] w fun e w' => e = .returned (.tuple #[.string (strOfNums m.whole), .int .i64 0]) ∧ Fr [] w w' := by
  have SC := hide (screen_any w b g m _ h)
  have H := hide h
  have CB := hide m.cur_on
  clear h
  go_enter Tryd.func28, Tryd.ntmps28
  go_wp2_with fail
  refine SC.out.mono ?_
  rintro e w1 ⟨rfl, f1⟩
  have F1 : Hid (Fr [] w (w1.alloc (.cells #[.pointer (some ⟨g.bg, 0, none⟩), .int .i64 m.cur.x, .int .i64 m.cur.y, .bool m.cur.shown] 76))) := f1.alloc _
  have p1 := H.out.fr0 F1.out
  have WH := hide (bwhole_any _ m.W m.H g.bg g.bc g.gcap g.sp (m.v.grid m.W m.H) m.cur p1.gr (p1.ok.chars _ _) CB.out)
  clear f1 p1 SC
  go_wp2_with fail
  refine WH.out.mono ?_
  rintro e w2 ⟨rfl, f2⟩
  have F2 := hide (F1.out.then f2)
  clear f2 WH
  go_wp2
  go_ret2
  exact ⟨rfl, F2.out⟩
theorem predraw_nil (w : World) :
    Calls Tryd.prog 28 #[.pointer none] w fun e w' => e = .returned (.tuple #[.string ByteArray.empty, .int .i64 1]) ∧ w = w' := by
  go_enter Tryd.func28, Tryd.ntmps28
  go_wp2
  go_ret2
  exact ⟨rfl, rfl⟩

set_option maxHeartbeats 2000000 in
set_option maxRecDepth 100000 in
theorem presize_yes (w : World) (b : Nat) (g : PGh) (m : Pt) (h : PntAt w b g m) (a c : Int) (h1 : 1 ≤ a) (h2 : a ≤ 40) (h3 : 1 ≤ c) (h4 : c ≤ 20) :
    Calls Tryd.prog 23 #[.pointer (some ⟨b, 0, none⟩), .int .i64 a, .int .i64 c] w fun e w' => e = .returned (.tuple #[.string (strOfNums (Pt.whole { m with W := a, H := c })), .int .i64 0]) ∧ PUpd b g { m with W := a, H := c } w w' := by
  have H := hide h
  clear h
  go_enter Tryd.func23, Tryd.ntmps23
  go_wp2_with fail
  refine (new_yes _ _ _ h1 h2 h3 h4).mono ?_
  rintro e w1 ⟨bg, bc, cap, sp, rfl, hbg, hbc, f1, hg⟩
  have p1 := H.out.fr0 f1
  have s0 : w1.cell? ⟨b, 0, none⟩ = some (.pointer (some ⟨g.bg, 0, none⟩)) := p1.st.cell 0
  have z0 := p1.st.frozen 0
  have P2 : Hid (PntRaw (w1.setCell ⟨b, 0, none⟩ (.pointer (some ⟨bg, 0, none⟩))) b { g with bg := bg, bc := bc, gcap := cap, sp := sp } { m with W := a, H := c } (List.replicate (a * c).toNat (32, 7))) := by
    have f : Fr [b] w1 (w1.setCell ⟨b, 0, none⟩ (.pointer (some ⟨bg, 0, none⟩))) := (Fr.refl _ _).setCell (.inl (by simp)) _
    have ap := p1.pn.apart p1.st (by decide) (by decide)
    exact ⟨p1.st.set 0 _, hg.fr f (by simpa using hg.hd.ne p1.st (by decide)) (by simpa using hg.row.ne p1.st (by decide)), p1.pn.fr f ap.1 ap.2, p1.vw, p1.ok⟩
  have F2 : Hid (Fr [b] w (w1.setCell ⟨b, 0, none⟩ (.pointer (some ⟨bg, 0, none⟩)))) := (f1.of_nil).setCell (.inl (by simp)) _
  clear p1 f1 hg hbg hbc
  go_wp2_with fail
  refine (paint_any _ b _ _ _ P2.out).mono ?_
  rintro e w2 ⟨rfl, bg2, bc2, cap2, sp2, n1, n2, f2, p2⟩
  have U2 : PUpd b g { m with W := a, H := c } w w2 := by
    have sz := F2.out.size
    refine ⟨_, p2, (F2.out.then f2).mono (by intro i hi; simp at hi; subst hi; simp [pfoot]), ?_⟩
    intro x hx
    simp only [pfoot, List.mem_cons] at hx
    rcases hx with rfl | rfl | rfl | hx
    · exact .inl (by simp [pfoot])
    · exact .inr (by omega)
    · exact .inr (by omega)
    · exact .inl (by simp only [pfoot, List.mem_cons]; exact .inr (.inr (.inr hx)))
  have RD := hide (predraw_any _ b _ _ p2)
  have U2H := hide U2
  clear f2 p2 n1 n2 U2
  go_wp2_with fail
  refine RD.out.mono ?_
  rintro e w3 ⟨rfl, f3⟩
  have U3 : Hid (PUpd b g { m with W := a, H := c } w w3) := by
    obtain ⟨g', p', f', s'⟩ := U2H.out
    exact ⟨g', p'.fr0 f3, f'.then f3.of_nil, s'⟩
  clear f3 RD
  go_wp2
  go_ret2
  exact ⟨rfl, U3.out⟩
theorem presize_no (w : World) (pb : Addr) (a c : Int) (hz : sizeB a c = false) :
    Calls Tryd.prog 23 #[.pointer (some pb), .int .i64 a, .int .i64 c] w fun e w' => e = .returned (.tuple #[.string ByteArray.empty, .int .i64 2]) ∧ w = w' := by
  go_enter Tryd.func23, Tryd.ntmps23
  go_wp2_with (go_at_call 39; refine (new_no _ _ _ hz).mono ?_; rintro e w' ⟨rfl, rfl⟩)
  go_ret2
  exact ⟨rfl, rfl⟩
theorem presize_nil (w : World) (a c : Int) :
    Calls Tryd.prog 23 #[.pointer none, .int .i64 a, .int .i64 c] w fun e w' => e = .returned (.tuple #[.string ByteArray.empty, .int .i64 1]) ∧ w = w' := by
  go_enter Tryd.func23, Tryd.ntmps23
  go_wp2
  go_ret2
  exact ⟨rfl, rfl⟩

set_option maxHeartbeats 1000000 in
theorem prow_yes (w : World) (b : Nat) (g : PGh) (m : Pt) (h : PntAt w b g m) (y : Int) (hy : 0 ≤ y) (hy2 : y < m.H) :
    Calls Tryd.prog 13 #[.pointer (some ⟨b, 0, none⟩), .int .i64 y] w fun e w' => e = .returned (.tuple #[.string (strOfNums ((rowOf m.W y (m.v.grid m.W m.H)).map (·.1))), .string (strOfNums ((rowOf m.W y (m.v.grid m.W m.H)).map (·.2))), .int .i64 0]) ∧ Fr [] w w' := by
  have s0 : w.cell? ⟨b, 0, none⟩ = some (.pointer (some ⟨g.bg, 0, none⟩)) := h.st.cell 0
  have GR := hide (gridRow_yes y m.W m.H w g.bg g.bc g.gcap g.sp _ h.gr hy hy2)
  clear h
  go_enter Tryd.func13, Tryd.ntmps13
  go_wp2_with (go_at_call 37; refine GR.out.mono ?_; rintro e w1 ⟨rfl, f1⟩)
  go_ret3
  exact ⟨rfl, f1⟩
set_option maxHeartbeats 1000000 in
theorem prow_no (w : World) (b : Nat) (g : PGh) (m : Pt) (h : PntAt w b g m) (y : Int) (hy : y < 0 ∨ m.H ≤ y) :
    Calls Tryd.prog 13 #[.pointer (some ⟨b, 0, none⟩), .int .i64 y] w fun e w' => e = .returned (.tuple #[.string ByteArray.empty, .string ByteArray.empty, .int .i64 8]) ∧ w = w' := by
  have s0 : w.cell? ⟨b, 0, none⟩ = some (.pointer (some ⟨g.bg, 0, none⟩)) := h.st.cell 0
  have GR := hide (gridRow_no y m.W m.H w g.bg g.bc g.gcap g.sp _ h.gr hy)
  clear h hy
  go_enter Tryd.func13, Tryd.ntmps13
  go_wp2_with (go_at_call 37; refine GR.out.mono ?_; rintro e w1 ⟨rfl, rfl⟩)
  go_ret3
  exact ⟨rfl, rfl⟩
theorem prow_nil (w : World) (y : Int) :
    Calls Tryd.prog 13 #[.pointer none, .int .i64 y] w fun e w' => e = .returned (.tuple #[.string ByteArray.empty, .string ByteArray.empty, .int .i64 1]) ∧ w = w' := by
  go_enter Tryd.func13, Tryd.ntmps13
  go_wp2
  go_ret3
  exact ⟨rfl, rfl⟩

/-- a new painter of this size is handed back -/
def PntPost (w : World) (W H : Int) (e : Ending) (w' : World) : Prop :=
  ∃ b g, e = .returned (.tuple #[.pointer (some ⟨b, 0, none⟩), .int .i64 0]) ∧ (∀ x ∈ pfoot b g, w.heap.size ≤ x) ∧ Fr [] w w' ∧ PntAt w' b g ⟨W, H, [], 0, 0⟩
theorem grid_nil (W H : Int) : V.grid [] W H = List.replicate (W * H).toNat (32, 7) := by
  unfold V.grid V.gridTo
  apply List.ext_getElem
  · simp
  · intro i h1 h2; simp [V.cell, V.best]
set_option maxHeartbeats 1000000 in
set_option maxRecDepth 100000 in
theorem newPainter_yes (W H : Int) (w : World) (h1 : 1 ≤ W) (h2 : W ≤ 40) (h3 : 1 ≤ H) (h4 : H ≤ 20) :
    Calls Tryd.prog 30 #[.int .i64 W, .int .i64 H] w (PntPost w W H) := by
  go_enter Tryd.func30, Tryd.ntmps30
  go_wp2_with fail
  refine (new_yes _ _ _ h1 h2 h3 h4).mono ?_
  rintro e w1 ⟨bg, bc, cap, sp, rfl, hbg, hbc, f1, hg⟩
  have HG := hide hg
  have F1 := hide f1
  have NG : Hid (w.heap.size ≤ bg ∧ w.heap.size ≤ bc) := ⟨hbg, hbc⟩
  clear hg f1 hbg hbc
  go_wp2
  go_ret2
  refine ⟨w1.heap.size, ⟨bg, bc, cap, sp, .slice none 0 0, []⟩, rfl, ?_, F1.out.alloc _, Blk.new _ _ _, ?_, ⟨.inl ⟨rfl, rfl⟩, by simp⟩, rfl, V.ok_nil⟩
  · intro x hx
    simp only [pfoot, List.mem_cons, Value.ownBlock, Option.toList, List.map_nil, List.append_nil, List.not_mem_nil, or_false] at hx
    have := F1.out.size
    rcases hx with rfl | rfl | rfl
    · exact this
    · exact NG.out.1
    · exact NG.out.2
  · show Grid _ bg bc cap sp W H (V.grid [] W H)
    rw [grid_nil]
    exact HG.out.fr0 ((Fr.refl _ _).alloc _)
theorem newPainter_no (W H : Int) (w : World) (h : sizeB W H = false) :
    Calls Tryd.prog 30 #[.int .i64 W, .int .i64 H] w fun e w' => e = .returned (.tuple #[.pointer none, .int .i64 2]) ∧ w = w' := by
  go_enter Tryd.func30, Tryd.ntmps30
  go_wp2_with (go_at_call 39; refine (new_no _ _ _ h).mono ?_; rintro e w' ⟨rfl, rfl⟩)
  go_ret2
  exact ⟨rfl, rfl⟩
end Go.Proofs.YtjhccghhinlmdaaDoor
