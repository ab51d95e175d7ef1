import Derived.Test.YtjhccghhinlmdabGreatDoorPackBrushWhole
import Derived.Test.YtjhccghhinlmdabGreatDoorPackPaintNext2
import Derived.Test.YtjhccghhinlmdabGreatDoorRefAsk
import Derived.Test.YtjhccghhinlmdabGreatDoorCellsRow
import Derived.Test.YtjhccghhinlmdabGreatDoorRefMove
/- The program's painter: where it lies, what is to stand on its terminal, and what brings its grid up to the view. -/
namespace Go.Proofs.YtjhccghhinlmdabGreatDoor
open Go.RowKit

/-- a painter as plain data -/
structure Pt where
  W : Int
  H : Int
  v : V
  cx : Int
  cy : Int
/-- does the cursor's place lie on the screen? -/
def Pt.on (m : Pt) : Bool := decide (0 ≤ m.cx) && decide (m.cx < m.W) && decide (0 ≤ m.cy) && decide (m.cy < m.H)
/-- the cursor as it is to be seen -/
def Pt.cur (m : Pt) : Cur := ⟨if m.on then m.cx else 0, if m.on then m.cy else 0, m.on⟩
def Pt.grid (m : Pt) : List (Int × Int) := m.v.grid m.W m.H
theorem Pt.cur_on (m : Pt) : m.cur.shown = true → 0 ≤ m.cur.x ∧ m.cur.x < m.W ∧ 0 ≤ m.cur.y ∧ m.cur.y < m.H := by
  intro h
  have h : m.on = true := h
  simp only [Pt.cur, h, if_true]
  simp [Pt.on] at h
  omega
/-- the bytes that turn the terminal of one painter into that of another -/
def Pt.told (m m' : Pt) : List Int := change m'.W m'.H m.grid m'.grid m.cur m'.cur
def Pt.whole (m : Pt) : List Int := Proofs.YtjhccghhinlmdabGreatDoor.whole m.W m.H m.grid m.cur
/-- where its parts lie -/
structure PGh where
  bg : Nat
  bc : Nat
  gcap : Nat
  sp : List Value
  pv : Value
  ps : List Pane
def pfoot (b : Nat) (g : PGh) : List Nat := b :: g.bg :: g.bc :: (g.pv.ownBlock.toList ++ g.ps.map Pane.lb)
/-- a painter lies at block b; its grid's cells are l -/
structure PntRaw (w : World) (b : Nat) (g : PGh) (m : Pt) (l : List (Int × Int)) : Prop where
  st : Blk w b [.pointer (some ⟨g.bg, 0, none⟩), g.pv, .int .i64 m.cx, .int .i64 m.cy] 98
  gr : Grid w g.bg g.bc g.gcap g.sp m.W m.H l
  pn : PanesIn 0 w g.pv g.ps
  vw : view g.ps = m.v
  ok : m.v.Ok
/-- a painter lies at block b -/
def PntAt (w : World) (b : Nat) (g : PGh) (m : Pt) : Prop := PntRaw w b g m (m.v.grid m.W m.H)

theorem PntRaw.fr {w w' : World} {S : List Nat} {b : Nat} {g : PGh} {m : Pt} {l : List (Int × Int)} (h : PntRaw w b g m l) (f : Fr S w w') (hs : ∀ x ∈ pfoot b g, x ∉ S) : PntRaw w' b g m l := by
  simp only [pfoot, List.mem_cons, List.mem_append, Option.mem_toList, List.mem_map] at hs
  refine ⟨h.st.fr f (hs _ (.inl rfl)), h.gr.fr f (hs _ (.inr (.inl rfl))) (hs _ (.inr (.inr (.inl rfl)))), h.pn.fr f ?_ ?_, h.vw, h.ok⟩
  · exact fun x hx => hs x (.inr (.inr (.inr (.inl hx))))
  · exact fun p hp => hs _ (.inr (.inr (.inr (.inr ⟨p, hp, rfl⟩))))
theorem PntRaw.fr0 {w w' : World} {b : Nat} {g : PGh} {m : Pt} {l : List (Int × Int)} (h : PntRaw w b g m l) (f : Fr [] w w') : PntRaw w' b g m l := h.fr f (by simp)
theorem PntRaw.len {w : World} {b : Nat} {g : PGh} {m : Pt} {l : List (Int × Int)} (h : PntRaw w b g m l) : g.ps.length ≤ 12 := by
  have := h.ok.n; rw [← h.vw] at this; simpa [view] using this
theorem own_pane {w : World} {base : Nat} {v : Value} {ps : List Pane} (h : PanesIn base w v ps) {x : Nat} (hx : v.ownBlock = some x) : ∃ us, Blk w x us 140 := by
  rcases h.row with ⟨rfl, _⟩ | ⟨g, cap, sp, rfl, hb, _⟩
  · simp [Value.ownBlock] at hx
  · simp [Value.ownBlock] at hx; subst hx; exact ⟨_, hb⟩
/-- a painter's panes lie apart from a block of another type -/
theorem PanesIn.apart {w : World} {base : Nat} {v : Value} {ps : List Pane} (h : PanesIn base w v ps) {x : Nat} {us : List Value} {ty : TypeId} (hx : Blk w x us ty) (h1 : ty ≠ 140) (h2 : ty ≠ 9) : (∀ g, v.ownBlock = some g → g ∉ [x]) ∧ ∀ p ∈ ps, p.lb ∉ [x] := by
  constructor
  · intro g hg
    obtain ⟨vs, hv⟩ := own_pane h hg
    simpa using hv.ne hx (fun e => h1 e.symm)
  · intro p hp
    simpa using (h.ok p hp).1.ls.ne hx (fun e => h2 e.symm)
theorem PntRaw.lt {w : World} {b : Nat} {g : PGh} {m : Pt} {l : List (Int × Int)} (h : PntRaw w b g m l) : ∀ x ∈ pfoot b g, x < w.heap.size := by
  intro x hx
  simp only [pfoot, List.mem_cons, List.mem_append, Option.mem_toList, List.mem_map] at hx
  rcases hx with rfl | rfl | rfl | hx | ⟨p, hp, rfl⟩
  · exact h.st.lt
  · exact h.gr.hd.lt
  · exact h.gr.row.lt
  · obtain ⟨us, hu⟩ := own_pane h.pn hx; exact hu.lt
  · exact (h.pn.ok p hp).1.ls.lt

/-- what a call leaves: the painter is m' now, its parts old or new; no other block has turned -/
def PUpd (b : Nat) (g : PGh) (m' : Pt) (w w' : World) : Prop := ∃ g', PntAt w' b g' m' ∧ Fr (pfoot b g) w w' ∧ ∀ x ∈ pfoot b g', x ∈ pfoot b g ∨ w.heap.size ≤ x

theorem slice_own {sa : Option Addr} {n cap : Nat} {a : Addr} (ha : sa = some a) (h0 : a.spot = none) : (Value.slice sa n cap).ownBlock = some a.block := by
  subst ha; obtain ⟨b, o, s⟩ := a; simp only at h0; subst h0; rfl

/-- the painter has a new grid, which lies in new memory -/
def NewGrid (b : Nat) (g : PGh) (m : Pt) (w w' : World) : Prop :=
  ∃ bg bc cap sp, w.heap.size ≤ bg ∧ w.heap.size ≤ bc ∧ Fr [b] w w' ∧ PntAt w' b { g with bg := bg, bc := bc, gcap := cap, sp := sp } m
theorem NewGrid.foot {b : Nat} {g : PGh} {m : Pt} {w w' : World} (h : NewGrid b g m w w') : PUpd b g m w w' := by
  obtain ⟨bg, bc, cap, sp, h1, h2, f, p⟩ := h
  refine ⟨_, p, f.mono (by intro i hi; simp at hi; subst hi; simp [pfoot]), ?_⟩
  intro x hx
  simp only [pfoot, List.mem_cons] at hx
  rcases hx with rfl | rfl | rfl | hx
  · exact .inl (by simp [pfoot])
  · exact .inr h1
  · exact .inr h2
  · exact .inl (by simp only [pfoot, List.mem_cons]; exact .inr (.inr (.inr hx)))

set_option maxHeartbeats 2000000 in
set_option maxRecDepth 100000 in
theorem paint_any (w : World) (b : Nat) (g : PGh) (m : Pt) (l : List (Int × Int)) (h : PntRaw w b g m l) :
    Calls Tryz.prog 75 #[.pointer (some ⟨b, 0, none⟩)] w fun e w' => e = .returned (.tuple #[]) ∧ NewGrid b g m w w' := by
  have c0 : w.cell? ⟨b, 0, none⟩ = some (.pointer (some ⟨g.bg, 0, none⟩)) := h.st.cell 0
  have BL := hide (gblank_any m.W m.H w g.bg g.bc g.gcap g.sp l h.gr)
  have H := hide h
  clear h
  go_enter Tryz.func75, Tryz.ntmps75
  go_wp2_with fail
  refine BL.out.mono ?_
  rintro e w1 ⟨bg, bc, cap, sp, rfl, n1, n2, f1, hg⟩
  have p1 := H.out.fr0 f1
  have s0 : w1.cell? ⟨b, 0, none⟩ = some (.pointer (some ⟨g.bg, 0, none⟩)) := p1.st.cell 0
  have z0 := p1.st.frozen 0
  have lt1 := p1.st.lt
  have P2 : PntRaw (w1.setCell ⟨b, 0, none⟩ (.pointer (some ⟨bg, 0, none⟩))) b { g with bg := bg, bc := bc, gcap := cap, sp := sp } m (List.replicate (m.W * m.H).toNat (32, 7)) := by
    have f : Fr [b] w1 (w1.setCell ⟨b, 0, none⟩ (.pointer (some ⟨bg, 0, none⟩))) := (Fr.refl _ _).setCell (.inl (by simp)) _
    have ap := p1.pn.apart p1.st (by decide) (by decide)
    exact ⟨p1.st.set 0 _, hg.fr f (by simpa using hg.hd.ne p1.st (by decide)) (by simpa using hg.row.ne p1.st (by decide)), p1.pn.fr f ap.1 ap.2, p1.vw, p1.ok⟩
  have F2 : Hid (Fr [b] w (w1.setCell ⟨b, 0, none⟩ (.pointer (some ⟨bg, 0, none⟩)))) := (f1.of_nil).setCell (.inl (by simp)) _
  have NG : Hid (w.heap.size ≤ bg ∧ w.heap.size ≤ bc) := ⟨n1, n2⟩
  have PP : Hid (∀ w', Fr [] (w1.setCell ⟨b, 0, none⟩ (.pointer (some ⟨bg, 0, none⟩))) w' → Calls Tryz.prog 93 #[.pointer (some ⟨b, 1, none⟩), .pointer (some ⟨bg, 0, none⟩)] w' fun e w'' => e = .returned (.tuple #[]) ∧ w''.cell? ⟨b, 0, none⟩ = some (.pointer (some ⟨bg, 0, none⟩)) ∧ Fr [bc] w' w'' ∧ PntAt w'' b { g with bg := bg, bc := bc, gcap := cap, sp := sp } m) := by
    intro w' f'
    have h' := P2.fr0 f'
    obtain ⟨av, pcap, hv, hat⟩ := h'.pn.at'
    have nb : b ≠ bc := h'.st.ne h'.gr.row (by decide)
    have ap := h'.pn.apart h'.gr.row (by decide) (by decide)
    refine (vpaint_any b 1 av pcap g.ps m.W m.H bg bc cap sp w' (by rw [← hv]; exact h'.st.cell 1) hat h'.len h'.gr ⟨nb, ?_, ap.2⟩).mono ?_
    · intro x hx
      rcases h'.pn.row with ⟨hv0, hp0⟩ | ⟨q, cp, sp, hv0, hb, _⟩
      · rw [hv0] at hv; simp at hv; rw [hx] at hv; simp at hv
      · rw [hv0, hx] at hv; simp at hv
        have := ap.1 q (by rw [hv0]; rfl)
        rw [← hv.1]; exact this
    · rintro e w'' ⟨he, f2, g2⟩
      have ev : view g.ps = m.v := h'.vw
      rw [ev] at g2
      have st2 := h'.st.fr f2 (by simpa using nb)
      exact ⟨he, st2.cell 0, f2, st2, g2, h'.pn.fr f2 ap.1 ap.2, h'.vw, h'.ok⟩
  have k0 : (w1.setCell ⟨b, 0, none⟩ (.pointer (some ⟨bg, 0, none⟩))).cell? ⟨b, 0, none⟩ = some (.pointer (some ⟨bg, 0, none⟩)) := P2.st.cell 0
  have K0 := hide k0
  clear p1 f1 hg n1 n2 P2 BL k0
  go_wp2
  generalize w1.setCell ⟨b, 0, none⟩ (.pointer (some ⟨bg, 0, none⟩)) = wz at *
  have k0 := K0.out
  go_region_held (fun w' => w'.cell? ⟨b, 0, none⟩ = some (.pointer (some ⟨bg, 0, none⟩))) (go_keep) ((go_at_call 93; refine (PP.out _ ?hf).mono ?_; (case hf => (repeat first | exact Fr.refl _ _ | apply Fr.drew | apply Fr.drewN)); rintro e w2 ⟨rfl, k3, f2, h2⟩; have F3 : Hid (Fr [b] w w2) := (((F2.out).drew).trans f2 (fun i hi => .inl hi) (by intro i hi; simp at hi; subst hi; exact .inr NG.out.2)); have H2 := hide h2; clear f2 h2))
  all_goals
    go_wp2
    go_end0
    exact ⟨rfl, bg, bc, cap, sp, NG.out.1, NG.out.2, F3.out, H2.out⟩
end Go.Proofs.YtjhccghhinlmdabGreatDoor
/- The program's painter: what is to stand on its terminal; the bytes that bring it there. -/
namespace Go.Proofs.YtjhccghhinlmdabGreatDoor
open Go.RowKit


set_option maxHeartbeats 2000000 in
set_option maxRecDepth 100000 in
theorem screen_any (w : World) (b : Nat) (g : PGh) (m : Pt) (l : List (Int × Int)) (h : PntRaw w b g m l) :
    Calls Tryz.prog 70 #[.pointer (some ⟨b, 0, none⟩)] w fun e w' => e = .returned (.agg #[.pointer (some ⟨g.bg, 0, none⟩), .int .i64 m.cur.x, .int .i64 m.cur.y, .bool m.cur.shown]) ∧ Fr [] w w' := by
  have c0 : w.cell? ⟨b, 0, none⟩ = some (.pointer (some ⟨g.bg, 0, none⟩)) := h.st.cell 0
  have c2 : w.cell? ⟨b, 2, none⟩ = some (.int .i64 m.cx) := h.st.cell 2
  have c3 : w.cell? ⟨b, 3, none⟩ = some (.int .i64 m.cy) := h.st.cell 3
  have bl := h.st.lt
  have HS := hide h.gr
  clear h
  by_cases on : m.on = true
  · have ec : m.cur = ⟨m.cx, m.cy, true⟩ := by simp [Pt.cur, on]
    rw [ec]
    have ON : Hid (0 ≤ m.cx ∧ m.cx < m.W ∧ 0 ≤ m.cy ∧ m.cy < m.H) := by
      simp [Pt.on] at on
      exact ⟨on.1.1.1, on.1.1.2, on.1.2, on.2⟩
    have HY : Hid (∀ w', Fr [] w w' → Calls Tryz.prog 86 #[.pointer (some ⟨g.bg, 0, none⟩), .int .i64 m.cx, .int .i64 m.cy] w' fun e w'' => e = .returned (.bool true) ∧ w'' = w') := by
      intro w' f
      have g' := HS.out.fr0 f
      exact (has_yes m.cx m.cy m.W m.H w' g.bg (g'.hd.cell 0) (g'.hd.cell 1) ON.out.1 ON.out.2.1 ON.out.2.2.1 ON.out.2.2.2).mono fun e w'' ⟨h1, h2⟩ => ⟨h1, h2.symm⟩
    clear on ec HS
    go_enter Tryz.func70, Tryz.ntmps70
    go_wp2
    go_quiet ((go_at_call 86; exact Calls.quiet_of_same (HY.out _ (by repeat first | exact Fr.refl _ _ | apply Fr.drew | apply Fr.drewN | apply Fr.alloc))))
    go_wp2
    go_region
    go_wp2
    refine bodyPost_ret (v := .agg #[.pointer (some ⟨g.bg, 0, none⟩), .int .i64 m.cx, .int .i64 m.cy, .bool true]) (by simp [results, Tryz.results70, go_sem]) rfl ?_
    refine ⟨rfl, ?_⟩
    repeat first | with_reducible exact Fr.refl _ _ | with_reducible apply Fr.drewN | with_reducible apply Fr.drew | with_reducible apply Fr.alloc | (with_reducible refine Fr.setCell ?_ (.inr (by simp)) _)
  · have off : m.on = false := by simpa using on
    have ec : m.cur = ⟨0, 0, false⟩ := by simp [Pt.cur, off]
    rw [ec]
    have ON : Hid (m.cx < 0 ∨ m.W ≤ m.cx ∨ m.cy < 0 ∨ m.H ≤ m.cy) := by
      show _ ∨ _
      simp [Pt.on] at off
      omega
    have HY : Hid (∀ w', Fr [] w w' → Calls Tryz.prog 86 #[.pointer (some ⟨g.bg, 0, none⟩), .int .i64 m.cx, .int .i64 m.cy] w' fun e w'' => e = .returned (.bool false) ∧ w'' = w') := by
      intro w' f
      have g' := HS.out.fr0 f
      exact (has_no m.cx m.cy m.W m.H w' g.bg (g'.hd.cell 0) (g'.hd.cell 1) ON.out).mono fun e w'' ⟨h1, h2⟩ => ⟨h1, h2.symm⟩
    clear on off ec HS
    go_enter Tryz.func70, Tryz.ntmps70
    go_wp2
    go_quiet ((go_at_call 86; exact Calls.quiet_of_same (HY.out _ (by repeat first | exact Fr.refl _ _ | apply Fr.drew | apply Fr.drewN | apply Fr.alloc))))
    go_wp2
    refine bodyPost_ret (v := .agg #[.pointer (some ⟨g.bg, 0, none⟩), .int .i64 0, .int .i64 0, .bool false]) (by simp [results, Tryz.results70, go_sem]) rfl ?_
    refine ⟨rfl, ?_⟩
    repeat first | with_reducible exact Fr.refl _ _ | with_reducible apply Fr.drewN | with_reducible apply Fr.drew | with_reducible apply Fr.alloc | (with_reducible refine Fr.setCell ?_ (.inr (by simp)) _)

set_option maxHeartbeats 2000000 in
set_option maxRecDepth 100000 in
/-- the painter has a new grid; what came back is the bytes that turn the screen that was into the one that is -/
theorem pchange_any (w : World) (b : Nat) (g : PGh) (m : Pt) (l : List (Int × Int)) (h : PntRaw w b g m l) (fg fc fcap : Nat) (fsp : List Value) (f : List (Int × Int)) (GF : Grid w fg fc fcap fsp m.W m.H f) (x y : Int) (s : Bool) :
    Calls Tryz.prog 71 #[.pointer (some ⟨b, 0, none⟩), .agg #[.pointer (some ⟨fg, 0, none⟩), .int .i64 x, .int .i64 y, .bool s]] w
      fun e w' => e = .returned (.string (strOfNums (change m.W m.H f (m.v.grid m.W m.H) ⟨x, y, s⟩ m.cur))) ∧ NewGrid b g m w w' := by
  have F1 : Hid (Fr [] w (w.alloc (.cells #[.pointer (some ⟨fg, 0, none⟩), .int .i64 x, .int .i64 y, .bool s] 128))) := (Fr.refl _ _).alloc _
  have PA := hide (paint_any _ b g m l (h.fr0 F1.out))
  have nb : Hid (b ≠ w.heap.size ∧ b ≠ fg ∧ b ≠ fc) := ⟨by have := h.st.lt; omega, h.st.ne GF.hd (by decide), h.st.ne GF.row (by decide)⟩
  have CB := hide m.cur_on
  have HG := hide GF
  clear h GF
  go_enter Tryz.func71, Tryz.ntmps71
  go_wp2_with fail
  refine PA.out.mono ?_
  rintro e w2 ⟨rfl, bg, bc, cap, sp, n1, n2, f2, p2⟩
  have K2 := (Blk.new w [.pointer (some ⟨fg, 0, none⟩), .int .i64 x, .int .i64 y, .bool s] 128).fr f2 (by simpa using nb.out.1.symm)
  have GF2 := hide ((HG.out.fr0 F1.out).fr f2 (by simpa using nb.out.2.1.symm) (by simpa using nb.out.2.2.symm))
  have F2 := hide ((F1.out.of_nil).then f2)
  have N2 : Hid (w.heap.size ≤ bg ∧ w.heap.size ≤ bc) := ⟨by simp at n1; omega, by simp at n2; omega⟩
  have SC := hide (screen_any _ b _ m _ p2)
  have P2 := hide p2
  have K2H := hide K2
  clear K2 f2 n1 n2 p2 PA
  go_wp2_with fail
  refine SC.out.mono ?_
  rintro e w3 ⟨rfl, f3⟩
  have K3 := K2H.out.fr0 f3
  have a0 : w3.cell? ⟨w.heap.size, 0, none⟩ = some (.pointer (some ⟨fg, 0, none⟩)) := K3.cell 0
  have a1 : w3.cell? ⟨w.heap.size, 1, none⟩ = some (.int .i64 x) := K3.cell 1
  have a2 : w3.cell? ⟨w.heap.size, 2, none⟩ = some (.int .i64 y) := K3.cell 2
  have a3 : w3.cell? ⟨w.heap.size, 3, none⟩ = some (.bool s) := K3.cell 3
  have lt3 := K3.lt
  have FA : Hid (Fr [] w2 (w3.alloc (.cells #[.pointer (some ⟨bg, 0, none⟩), .int .i64 m.cur.x, .int .i64 m.cur.y, .bool m.cur.shown] 128))) := f3.alloc _
  have P3 := P2.out.fr0 FA.out
  have CH := hide (bchange_any _ m.W m.H fg fc fcap fsp f bg bc cap sp (m.v.grid m.W m.H) ⟨x, y, s⟩ m.cur (GF2.out.fr0 FA.out) P3.gr (P3.ok.chars _ _) CB.out)
  clear K3 f3 SC P3
  go_wp2_with fail
  refine CH.out.mono ?_
  rintro e w4 ⟨rfl, f4⟩
  have F4 := hide ((F2.out.then FA.out.of_nil).then f4.of_nil)
  have P4 := hide (P2.out.fr0 (FA.out.then f4))
  clear f4 CH
  go_wp2
  go_ret
  exact ⟨rfl, bg, bc, cap, sp, N2.out.1, N2.out.2, F4.out, P4.out⟩
end Go.Proofs.YtjhccghhinlmdabGreatDoor
/- The program's painter: its calls. -/
namespace Go.Proofs.YtjhccghhinlmdabGreatDoor
open Go.RowKit

theorem PanesIn.weak {base : Nat} {w : World} {v : Value} {ps : List Pane} (h : PanesIn base w v ps) : PanesIn 0 w v ps := by
  refine ⟨?_, fun p hp => ⟨(h.ok p hp).1, Nat.zero_le _⟩⟩
  rcases h.row with h0 | ⟨g, cap, sp, rfl, hb, _⟩
  · exact .inl h0
  · exact .inr ⟨g, cap, sp, rfl, hb, Nat.zero_le _⟩
theorem PanesIn.slice {base : Nat} {w : World} {v : Value} {ps : List Pane} (h : PanesIn base w v ps) : ∃ sa sc, v = .slice sa ps.length sc := by
  rcases h.row with ⟨rfl, rfl⟩ | ⟨g, cap, sp, rfl, _, _⟩
  · exact ⟨_, _, rfl⟩
  · exact ⟨_, _, rfl⟩
theorem PanesIn.ge {base : Nat} {w : World} {v : Value} {ps : List Pane} (h : PanesIn base w v ps) : ∀ x ∈ v.ownBlock.toList ++ ps.map Pane.lb, base ≤ x := by
  intro x hx
  simp only [List.mem_append, Option.mem_toList, List.mem_map] at hx
  rcases hx with hx | ⟨p, hp, rfl⟩
  · rcases h.row with ⟨rfl, _⟩ | ⟨g, cap, sp, rfl, _, hg⟩
    · simp [Value.ownBlock] at hx
    · simp [Value.ownBlock] at hx; subst hx; exact hg
  · exact (h.ok p hp).2

/-- the painter has another view and another place of its cursor -/
theorem PntRaw.newView {w : World} {b base : Nat} {g : PGh} {m : Pt} {l : List (Int × Int)} {v : Value} {qs : List Pane} {v' : V} (h : PntRaw w b g m l) (hq : PanesIn base w v qs) (hv : view qs = v') (hok : v'.Ok) (cx cy : Int) :
    PntRaw (((w.setCell ⟨b, 1, none⟩ v).setCell ⟨b, 2, none⟩ (.int .i64 cx)).setCell ⟨b, 3, none⟩ (.int .i64 cy)) b { g with pv := v, ps := qs } { m with v := v', cx := cx, cy := cy } l ∧ Fr [b] w (((w.setCell ⟨b, 1, none⟩ v).setCell ⟨b, 2, none⟩ (.int .i64 cx)).setCell ⟨b, 3, none⟩ (.int .i64 cy)) := by
  have f : Fr [b] w (((w.setCell ⟨b, 1, none⟩ v).setCell ⟨b, 2, none⟩ (.int .i64 cx)).setCell ⟨b, 3, none⟩ (.int .i64 cy)) := (((Fr.refl _ _).setCell (.inl (by simp)) _).setCell (.inl (by simp)) _).setCell (.inl (by simp)) _
  have ap := hq.apart h.st (by decide) (by decide)
  refine ⟨⟨((h.st.set 1 v).set 2 _).set 3 _, h.gr.fr f ?_ ?_, (hq.weak).fr f ap.1 ap.2, hv, hok⟩, f⟩
  · simpa using h.gr.hd.ne h.st (by decide)
  · simpa using h.gr.row.ne h.st (by decide)

/-- a new grid behind a view that has turned -/
theorem PUpd.of {w w1 w2 : World} {b : Nat} {g g1 : PGh} {m : Pt} (f : Fr (pfoot b g) w w1) (hb : g1.bg = g.bg) (hc : g1.bc = g.bc) (hs : ∀ x ∈ g1.pv.ownBlock.toList ++ g1.ps.map Pane.lb, x ∈ pfoot b g ∨ w.heap.size ≤ x) (u : NewGrid b g1 m w1 w2) : PUpd b g m w w2 := by
  obtain ⟨g2, p2, f2, s2⟩ := u.foot
  have fs : ∀ x ∈ pfoot b g1, x ∈ pfoot b g ∨ w.heap.size ≤ x := by
    intro x hx
    simp only [pfoot, List.mem_cons, hb, hc] at hx
    rcases hx with rfl | rfl | rfl | hx
    · exact .inl (by simp [pfoot])
    · exact .inl (by simp [pfoot])
    · exact .inl (by simp [pfoot])
    · exact hs x hx
  refine ⟨g2, p2, f.trans f2 (fun i hi => .inl hi) fs, fun x hx => ?_⟩
  rcases s2 x hx with h | h
  · exact fs x h
  · exact .inr (Nat.le_trans f.size h)

set_option maxHeartbeats 2000000 in
set_option maxRecDepth 100000 in
theorem show_yes (w : World) (b : Nat) (g : PGh) (m : Pt) (h : PntAt w b g m) (wa : Option Addr) (ws : List Win) (n wcap : Nat) (cx cy : Int) (hw : WinsAt w wa ws) (hn : ws.length = n) (hcap : n ≤ wcap) (hsz : ∀ o ∈ ws, o.text.size ≤ 9223372036854775807) (he : errV ws = 0) :
    Calls Tryz.prog 46 #[.pointer (some ⟨b, 0, none⟩), .slice wa n wcap, .agg #[.int .i64 cx, .int .i64 cy]] w fun e w' => e = .returned (.tuple #[.string (strOfNums (m.told { m with v := m.v.next ws, cx := cx, cy := cy })), .int .i64 0]) ∧ PUpd b g { m with v := m.v.next ws, cx := cx, cy := cy } w w' := by
  obtain ⟨av, cap, hv, hat⟩ := h.pn.at'
  have FA : Hid (Fr [] w (w.alloc (.cells #[.int .i64 cx, .int .i64 cy] 96))) := (Fr.refl _ _).alloc _
  have hc1 := (h.fr0 FA.out).st.cell 1
  simp only [List.getElem?_cons_succ, List.getElem?_cons_zero] at hc1
  rw [hv] at hc1
  have NX := hide (next_yes b 1 av cap g.ps wa ws n wcap _ hc1 (hat.fr0 FA.out) h.len (hw.fr FA.out (by simp)) hn hcap hsz he)
  have HOK := hide (V.ok_next m.v he)
  have H := hide h
  have B0 : Hid (Blk (w.alloc (.cells #[.int .i64 cx, .int .i64 cy] 96)) w.heap.size [.int .i64 cx, .int .i64 cy] 96) := Blk.new _ _ _
  have blt : b < w.heap.size := h.st.lt
  clear h hat hw hsz he hc1
  go_enter Tryz.func46, Tryz.ntmps46
  go_wp2_with fail
  refine NX.out.mono ?_
  rintro e w1 ⟨v, qs, rfl, hq1, hq2, f1⟩
  obtain ⟨sa, sc, rfl⟩ := hq2.slice
  have F1 : Hid (Fr [] w w1) := FA.out.then f1
  have F1p := hide f1
  have HQ1 := hide hq1
  have HQ2 := hide hq2
  have SC := hide (screen_any (w1.alloc (.cells #[.slice sa qs.length sc] 94)) b g m _ (H.out.fr0 (F1.out.alloc _)))
  clear f1 hq1 hq2 NX FA hv
  go_wp2_with fail
  refine SC.out.mono ?_
  rintro e w2 ⟨rfl, f2⟩
  have F2 : Hid (Fr [] w w2) := (F1.out.alloc _).then f2
  have BV := (Blk.new w1 [.slice sa qs.length sc] 94).fr0 f2
  have v0 : w2.cell? ⟨w1.heap.size, 0, none⟩ = some (.slice sa qs.length sc) := BV.cell 0
  have vlt := BV.lt
  have B2 := B0.out.fr0 ((F1p.out.alloc _).then f2)
  have k0 : w2.cell? ⟨w.heap.size, 0, none⟩ = some (.int .i64 cx) := B2.cell 0
  have k1 : w2.cell? ⟨w.heap.size, 1, none⟩ = some (.int .i64 cy) := B2.cell 1
  have h2 := H.out.fr0 F2.out
  have s1 : ∃ u, w2.cell? ⟨b, 1, none⟩ = some u := ⟨_, h2.st.cell 1⟩
  have s2 : w2.cell? ⟨b, 2, none⟩ = some (.int .i64 m.cx) := h2.st.cell 2
  have s3 : w2.cell? ⟨b, 3, none⟩ = some (.int .i64 m.cy) := h2.st.cell 3
  obtain ⟨u1, s1⟩ := s1
  have z1 := h2.st.frozen 1
  have z2 := h2.st.frozen 2
  have z3 := h2.st.frozen 3
  have bl2 : b < w2.heap.size := h2.st.lt
  have bl3 : w.heap.size < w2.heap.size := B2.lt
  have bl1 := F1.out.size
  have ne1 : b ≠ w.heap.size := by omega
  have ne2 : w.heap.size ≠ b := by omega
  have ne3 : b ≠ w1.heap.size := by omega
  have ne4 : w1.heap.size ≠ b := by omega
  have q2 := HQ2.out.fr (((Fr.refl [] _).alloc _).then f2) (by simp) (by simp)
  have NV := hide (h2.newView (v' := m.v.next ws) q2 (by rw [HQ1.out, H.out.vw]) HOK.out cx cy)
  have GE := hide HQ2.out.ge
  clear B2 BV h2 q2 f2 SC HQ1 HQ2 F1p B0
  have NVA := hide (NV.out.1.fr0 ((Fr.refl _ _).alloc (.cells #[.pointer (some ⟨g.bg, 0, none⟩), .int .i64 m.cur.x, .int .i64 m.cur.y, .bool m.cur.shown] 128)))
  have CH := hide (pchange_any _ b _ _ _ NVA.out g.bg g.bc g.gcap g.sp _ NVA.out.gr m.cur.x m.cur.y m.cur.shown)
  go_wp2_with fail
  refine CH.out.mono ?_
  rintro e w3 ⟨rfl, u3⟩
  have U3 : Hid (PUpd b g { m with v := m.v.next ws, cx := cx, cy := cy } w w3) := by
    refine PUpd.of (g1 := { g with pv := .slice sa qs.length sc, ps := qs }) (((F2.out.of_nil).then (NV.out.2.mono (by intro i hi; simp at hi; subst hi; simp [pfoot]))).alloc _) rfl rfl ?_ u3
    intro x hx
    have := GE.out x hx
    simp only [World.size_alloc] at this
    exact .inr (by omega)
  clear u3 CH
  go_wp2
  go_ret2
  exact ⟨rfl, U3.out⟩

set_option maxHeartbeats 1000000 in
set_option maxRecDepth 100000 in
theorem show_no (w : World) (b : Nat) (wa : Option Addr) (ws : List Win) (n wcap : Nat) (cx cy : Int) (hw : WinsAt w wa ws) (hn : ws.length = n) (hcap : n ≤ wcap) (hl : n ≤ 9223372036854775807) (hsz : ∀ o ∈ ws, o.text.size ≤ 9223372036854775807) (he : errV ws ≠ 0) :
    Calls Tryz.prog 46 #[.pointer (some ⟨b, 0, none⟩), .slice wa n wcap, .agg #[.int .i64 cx, .int .i64 cy]] w fun e w' => e = .returned (.tuple #[.string ByteArray.empty, .int .i64 (errV ws)]) ∧ Fr [] w w' := by
  have FA : Hid (Fr [] w (w.alloc (.cells #[.int .i64 cx, .int .i64 cy] 96))) := (Fr.refl _ _).alloc _
  have NX := hide (next_no (some ⟨b, 1, none⟩) wa ws n wcap _ (hw.fr FA.out (by simp)) hn hcap hl hsz he)
  have be : (errV ws == 0) = false := by simpa using he
  clear hw hsz he
  generalize errV ws = er at *
  go_enter Tryz.func46, Tryz.ntmps46
  go_wp2_with fail
  refine NX.out.mono ?_
  rintro e w1 ⟨rfl, f1⟩
  have F1 : Hid (Fr [] w w1) := FA.out.then f1
  clear f1 NX FA
  go_wp2
  go_ret2
  exact ⟨rfl, F1.out.alloc _⟩
set_option maxHeartbeats 1000000 in
theorem show_nil (w : World) (wa : Option Addr) (n wcap : Nat) (cx cy : Int) :
    Calls Tryz.prog 46 #[.pointer none, .slice wa n wcap, .agg #[.int .i64 cx, .int .i64 cy]] w fun e w' => e = .returned (.tuple #[.string ByteArray.empty, .int .i64 1]) ∧ Fr [] w w' := by
  go_enter Tryz.func46, Tryz.ntmps46
  go_wp2
  go_ret2
  exact ⟨rfl, (Fr.refl _ _).alloc _⟩

/-- a window of the view has been scrolled; the grid has not been painted -/
theorem PntRaw.scrolled {w w' : World} {b : Nat} {g : PGh} {m : Pt} {l : List (Int × Int)} {qs : List Pane} {v' : V} (h : PntRaw w b g m l) (f : Fr g.pv.ownBlock.toList w w') (hq : PanesIn 0 w' g.pv qs) (hv : view qs = v') (hok : v'.Ok) :
    PntRaw w' b { g with ps := qs } { m with v := v' } l := by
  have off : ∀ {x us ty}, Blk w x us ty → ty ≠ 140 → x ∉ g.pv.ownBlock.toList := by
    intro x us ty hx ht hm
    obtain ⟨vs, hv⟩ := own_pane h.pn (Option.mem_toList.1 hm)
    exact (hx.ne hv ht) rfl
  exact ⟨h.st.fr f (off h.st (by decide)), h.gr.fr f (off h.gr.hd (by decide)) (off h.gr.row (by decide)), hq, hv, hok⟩

set_option maxHeartbeats 2000000 in
set_option maxRecDepth 100000 in
theorem scroll_yes (w : World) (b : Nat) (g : PGh) (m : Pt) (h : PntAt w b g m) (key n : Int) (i : Nat) (hi : m.v.idx key = some i) (n1 : -500 ≤ n) (n2 : n ≤ 500) :
    Calls Tryz.prog 49 #[.pointer (some ⟨b, 0, none⟩), .int .i64 key, .int .i64 n] w fun e w' => e = .returned (.tuple #[.string (strOfNums (m.told { m with v := m.v.scroll i n })), .int .i64 0]) ∧ PUpd b g { m with v := m.v.scroll i n } w w' := by
  have HOK := hide (V.ok_scroll h.ok i (V.idx_lt hi) n)
  have H := hide h
  have HI := hide hi
  have SC := hide (screen_any w b g m _ h)
  have SZ := hide h.lt
  clear h hi
  go_enter Tryz.func49, Tryz.ntmps49
  go_wp2_with fail
  refine SC.out.mono ?_
  rintro e w1 ⟨rfl, f1⟩
  have F1 : Hid (Fr [] w (w1.alloc (.cells #[.pointer (some ⟨g.bg, 0, none⟩), .int .i64 m.cur.x, .int .i64 m.cur.y, .bool m.cur.shown] 128))) := f1.alloc _
  have p1 := H.out.fr0 F1.out
  have VS := hide (vscroll_yes b 1 g.pv g.ps key n i 0 _ (p1.st.cell 1) p1.pn p1.len (by rw [p1.vw]; exact HI.out) n1 n2)
  have W1 := hide f1.size
  have P1 := hide p1
  clear f1 p1 SC
  go_wp2_with fail
  refine VS.out.mono ?_
  rintro e w2 ⟨rfl, qs, hv, hq, f2, hlb, hlen⟩
  have P2 := hide (P1.out.scrolled (v' := m.v.scroll i n) f2 hq (by rw [hv, P1.out.vw]) HOK.out)
  have NB : w1.heap.size ∉ g.pv.ownBlock.toList := fun hm => by
    have := SZ.out w1.heap.size (by simp only [pfoot, List.mem_cons, List.mem_append]; exact .inr (.inr (.inr (.inl hm))))
    have := W1.out; omega
  have K2 := (Blk.new w1 [.pointer (some ⟨g.bg, 0, none⟩), .int .i64 m.cur.x, .int .i64 m.cur.y, .bool m.cur.shown] 128).fr f2 NB
  have a0 : w2.cell? ⟨w1.heap.size, 0, none⟩ = some (.pointer (some ⟨g.bg, 0, none⟩)) := K2.cell 0
  have a1 : w2.cell? ⟨w1.heap.size, 1, none⟩ = some (.int .i64 m.cur.x) := K2.cell 1
  have a2 : w2.cell? ⟨w1.heap.size, 2, none⟩ = some (.int .i64 m.cur.y) := K2.cell 2
  have a3 : w2.cell? ⟨w1.heap.size, 3, none⟩ = some (.bool m.cur.shown) := K2.cell 3
  have klt := K2.lt
  have F2 : Hid (Fr (pfoot b g) w w2) := (F1.out.of_nil).then (f2.mono (by intro i hi; simp only [pfoot, List.mem_cons, List.mem_append]; exact .inr (.inr (.inr (.inl hi)))))
  have LB := hide hlb
  have CH := hide (pchange_any _ b _ _ _ P2.out g.bg g.bc g.gcap g.sp _ P2.out.gr m.cur.x m.cur.y m.cur.shown)
  clear hv hq f2 hlb hlen K2 NB VS
  go_wp2_with fail
  refine CH.out.mono ?_
  rintro e w3 ⟨rfl, u3⟩
  have U3 : Hid (PUpd b g { m with v := m.v.scroll i n } w w3) := by
    refine PUpd.of (g1 := { g with ps := qs }) F2.out rfl rfl ?_ u3
    intro x hx
    simp only [LB.out] at hx
    exact .inl (by simp only [pfoot, List.mem_cons]; exact .inr (.inr (.inr hx)))
  clear u3 CH
  go_wp2
  go_ret2
  exact ⟨rfl, U3.out⟩
set_option maxHeartbeats 1000000 in
set_option maxRecDepth 100000 in
theorem scroll_none (w : World) (b : Nat) (g : PGh) (m : Pt) (h : PntAt w b g m) (key n : Int) (hi : m.v.idx key = none) :
    Calls Tryz.prog 49 #[.pointer (some ⟨b, 0, none⟩), .int .i64 key, .int .i64 n] w fun e w' => e = .returned (.tuple #[.string ByteArray.empty, .int .i64 4]) ∧ Fr [] w w' := by
  have H := hide h
  have SC := hide (screen_any w b g m _ h)
  have HI := hide hi
  clear h hi
  go_enter Tryz.func49, Tryz.ntmps49
  go_wp2_with fail
  refine SC.out.mono ?_
  rintro e w1 ⟨rfl, f1⟩
  have F1 : Hid (Fr [] w (w1.alloc (.cells #[.pointer (some ⟨g.bg, 0, none⟩), .int .i64 m.cur.x, .int .i64 m.cur.y, .bool m.cur.shown] 128))) := f1.alloc _
  have p1 := H.out.fr0 F1.out
  obtain ⟨av, cap, hv, hat⟩ := p1.pn.at'
  have VS := hide (vscroll_no b 1 av cap g.ps key n _ (by rw [← hv]; exact p1.st.cell 1) hat p1.len (by rw [p1.vw]; exact HI.out))
  clear f1 p1 SC hv hat
  go_wp2_with fail
  refine VS.out.mono ?_
  rintro e w2 ⟨rfl, wc⟩
  subst wc
  go_wp2
  go_ret2
  exact ⟨rfl, F1.out⟩
set_option maxHeartbeats 1000000 in
set_option maxRecDepth 100000 in
theorem scroll_far (w : World) (b : Nat) (g : PGh) (m : Pt) (h : PntAt w b g m) (key n : Int) (i : Nat) (hi : m.v.idx key = some i) (hf : n < -500 ∨ 500 < n) :
    Calls Tryz.prog 49 #[.pointer (some ⟨b, 0, none⟩), .int .i64 key, .int .i64 n] w fun e w' => e = .returned (.tuple #[.string ByteArray.empty, .int .i64 8]) ∧ Fr [] w w' := by
  have H := hide h
  have SC := hide (screen_any w b g m _ h)
  have HI := hide hi
  have HF := hide hf
  clear h hi hf
  go_enter Tryz.func49, Tryz.ntmps49
  go_wp2_with fail
  refine SC.out.mono ?_
  rintro e w1 ⟨rfl, f1⟩
  have F1 : Hid (Fr [] w (w1.alloc (.cells #[.pointer (some ⟨g.bg, 0, none⟩), .int .i64 m.cur.x, .int .i64 m.cur.y, .bool m.cur.shown] 128))) := f1.alloc _
  have p1 := H.out.fr0 F1.out
  obtain ⟨av, cap, hv, hat⟩ := p1.pn.at'
  have VS := hide (vscroll_far b 1 av cap g.ps key n i _ (by rw [← hv]; exact p1.st.cell 1) hat p1.len (by rw [p1.vw]; exact HI.out) HF.out)
  clear f1 p1 SC hv hat
  go_wp2_with fail
  refine VS.out.mono ?_
  rintro e w2 ⟨rfl, wc⟩
  subst wc
  go_wp2
  go_ret2
  exact ⟨rfl, F1.out⟩
theorem scroll_nil (w : World) (key n : Int) :
    Calls Tryz.prog 49 #[.pointer none, .int .i64 key, .int .i64 n] w fun e w' => e = .returned (.tuple #[.string ByteArray.empty, .int .i64 1]) ∧ w = w' := by
  go_enter Tryz.func49, Tryz.ntmps49
  go_wp2
  go_ret2
  exact ⟨rfl, rfl⟩

set_option maxHeartbeats 2000000 in
set_option maxRecDepth 100000 in
theorem predraw_any (w : World) (b : Nat) (g : PGh) (m : Pt) (h : PntAt w b g m) :
    Calls Tryz.prog 53 #[.pointer (some ⟨b, 0, none⟩)] w fun e w' => e = .returned (.tuple #[.string (strOfNums m.whole), .int .i64 0]) ∧ Fr [] w w' := by
  have SC := hide (screen_any w b g m _ h)
  have H := hide h
  have CB := hide m.cur_on
  clear h
  go_enter Tryz.func53, Tryz.ntmps53
  go_wp2_with fail
  refine SC.out.mono ?_
  rintro e w1 ⟨rfl, f1⟩
  have F1 : Hid (Fr [] w (w1.alloc (.cells #[.pointer (some ⟨g.bg, 0, none⟩), .int .i64 m.cur.x, .int .i64 m.cur.y, .bool m.cur.shown] 128))) := f1.alloc _
  have p1 := H.out.fr0 F1.out
  have WH := hide (bwhole_any _ m.W m.H g.bg g.bc g.gcap g.sp (m.v.grid m.W m.H) m.cur p1.gr (p1.ok.chars _ _) CB.out)
  clear f1 p1 SC
  go_wp2_with fail
  refine WH.out.mono ?_
  rintro e w2 ⟨rfl, f2⟩
  have F2 := hide (F1.out.then f2)
  clear f2 WH
  go_wp2
  go_ret2
  exact ⟨rfl, F2.out⟩
theorem predraw_nil (w : World) :
    Calls Tryz.prog 53 #[.pointer none] w fun e w' => e = .returned (.tuple #[.string ByteArray.empty, .int .i64 1]) ∧ w = w' := by
  go_enter Tryz.func53, Tryz.ntmps53
  go_wp2
  go_ret2
  exact ⟨rfl, rfl⟩

set_option maxHeartbeats 2000000 in
set_option maxRecDepth 100000 in
theorem presize_yes (w : World) (b : Nat) (g : PGh) (m : Pt) (h : PntAt w b g m) (a c : Int) (h1 : 1 ≤ a) (h2 : a ≤ 40) (h3 : 1 ≤ c) (h4 : c ≤ 20) :
    Calls Tryz.prog 51 #[.pointer (some ⟨b, 0, none⟩), .int .i64 a, .int .i64 c] w fun e w' => e = .returned (.tuple #[.string (strOfNums (Pt.whole { m with W := a, H := c })), .int .i64 0]) ∧ PUpd b g { m with W := a, H := c } w w' := by
  have H := hide h
  clear h
  go_enter Tryz.func51, Tryz.ntmps51
  go_wp2_with fail
  refine (new_yes _ _ _ h1 h2 h3 h4).mono ?_
  rintro e w1 ⟨bg, bc, cap, sp, rfl, hbg, hbc, f1, hg⟩
  have p1 := H.out.fr0 f1
  have s0 : w1.cell? ⟨b, 0, none⟩ = some (.pointer (some ⟨g.bg, 0, none⟩)) := p1.st.cell 0
  have z0 := p1.st.frozen 0
  have P2 : Hid (PntRaw (w1.setCell ⟨b, 0, none⟩ (.pointer (some ⟨bg, 0, none⟩))) b { g with bg := bg, bc := bc, gcap := cap, sp := sp } { m with W := a, H := c } (List.replicate (a * c).toNat (32, 7))) := by
    have f : Fr [b] w1 (w1.setCell ⟨b, 0, none⟩ (.pointer (some ⟨bg, 0, none⟩))) := (Fr.refl _ _).setCell (.inl (by simp)) _
    have ap := p1.pn.apart p1.st (by decide) (by decide)
    exact ⟨p1.st.set 0 _, hg.fr f (by simpa using hg.hd.ne p1.st (by decide)) (by simpa using hg.row.ne p1.st (by decide)), p1.pn.fr f ap.1 ap.2, p1.vw, p1.ok⟩
  have F2 : Hid (Fr [b] w (w1.setCell ⟨b, 0, none⟩ (.pointer (some ⟨bg, 0, none⟩)))) := (f1.of_nil).setCell (.inl (by simp)) _
  clear p1 f1 hg hbg hbc
  go_wp2_with fail
  refine (paint_any _ b _ _ _ P2.out).mono ?_
  rintro e w2 ⟨rfl, bg2, bc2, cap2, sp2, n1, n2, f2, p2⟩
  have U2 : PUpd b g { m with W := a, H := c } w w2 := by
    have sz := F2.out.size
    refine ⟨_, p2, (F2.out.then f2).mono (by intro i hi; simp at hi; subst hi; simp [pfoot]), ?_⟩
    intro x hx
    simp only [pfoot, List.mem_cons] at hx
    rcases hx with rfl | rfl | rfl | hx
    · exact .inl (by simp [pfoot])
    · exact .inr (by omega)
    · exact .inr (by omega)
    · exact .inl (by simp only [pfoot, List.mem_cons]; exact .inr (.inr (.inr hx)))
  have RD := hide (predraw_any _ b _ _ p2)
  have U2H := hide U2
  clear f2 p2 n1 n2 U2
  go_wp2_with fail
  refine RD.out.mono ?_
  rintro e w3 ⟨rfl, f3⟩
  have U3 : Hid (PUpd b g { m with W := a, H := c } w w3) := by
    obtain ⟨g', p', f', s'⟩ := U2H.out
    exact ⟨g', p'.fr0 f3, f'.then f3.of_nil, s'⟩
  clear f3 RD
  go_wp2
  go_ret2
  exact ⟨rfl, U3.out⟩
theorem presize_no (w : World) (pb : Addr) (a c : Int) (hz : sizeB a c = false) :
    Calls Tryz.prog 51 #[.pointer (some pb), .int .i64 a, .int .i64 c] w fun e w' => e = .returned (.tuple #[.string ByteArray.empty, .int .i64 2]) ∧ w = w' := by
  go_enter Tryz.func51, Tryz.ntmps51
  go_wp2_with (go_at_call 13; refine (new_no _ _ _ hz).mono ?_; rintro e w' ⟨rfl, rfl⟩)
  go_ret2
  exact ⟨rfl, rfl⟩
theorem presize_nil (w : World) (a c : Int) :
    Calls Tryz.prog 51 #[.pointer none, .int .i64 a, .int .i64 c] w fun e w' => e = .returned (.tuple #[.string ByteArray.empty, .int .i64 1]) ∧ w = w' := by
  go_enter Tryz.func51, Tryz.ntmps51
  go_wp2
  go_ret2
  exact ⟨rfl, rfl⟩

set_option maxHeartbeats 1000000 in
theorem prow_yes (w : World) (b : Nat) (g : PGh) (m : Pt) (h : PntAt w b g m) (y : Int) (hy : 0 ≤ y) (hy2 : y < m.H) :
    Calls Tryz.prog 54 #[.pointer (some ⟨b, 0, none⟩), .int .i64 y] w fun e w' => e = .returned (.tuple #[.string (strOfNums ((rowOf m.W y (m.v.grid m.W m.H)).map (·.1))), .string (strOfNums ((rowOf m.W y (m.v.grid m.W m.H)).map (·.2))), .int .i64 0]) ∧ Fr [] w w' := by
  have s0 : w.cell? ⟨b, 0, none⟩ = some (.pointer (some ⟨g.bg, 0, none⟩)) := h.st.cell 0
  have GR := hide (gridRow_yes y m.W m.H w g.bg g.bc g.gcap g.sp _ h.gr hy hy2)
  clear h
  go_enter Tryz.func54, Tryz.ntmps54
  go_wp2_with (go_at_call 41; refine GR.out.mono ?_; rintro e w1 ⟨rfl, f1⟩)
  go_ret3
  exact ⟨rfl, f1⟩
set_option maxHeartbeats 1000000 in
theorem prow_no (w : World) (b : Nat) (g : PGh) (m : Pt) (h : PntAt w b g m) (y : Int) (hy : y < 0 ∨ m.H ≤ y) :
    Calls Tryz.prog 54 #[.pointer (some ⟨b, 0, none⟩), .int .i64 y] w fun e w' => e = .returned (.tuple #[.string ByteArray.empty, .string ByteArray.empty, .int .i64 8]) ∧ w = w' := by
  have s0 : w.cell? ⟨b, 0, none⟩ = some (.pointer (some ⟨g.bg, 0, none⟩)) := h.st.cell 0
  have GR := hide (gridRow_no y m.W m.H w g.bg g.bc g.gcap g.sp _ h.gr hy)
  clear h hy
  go_enter Tryz.func54, Tryz.ntmps54
  go_wp2_with (go_at_call 41; refine GR.out.mono ?_; rintro e w1 ⟨rfl, rfl⟩)
  go_ret3
  exact ⟨rfl, rfl⟩
theorem prow_nil (w : World) (y : Int) :
    Calls Tryz.prog 54 #[.pointer none, .int .i64 y] w fun e w' => e = .returned (.tuple #[.string ByteArray.empty, .string ByteArray.empty, .int .i64 1]) ∧ w = w' := by
  go_enter Tryz.func54, Tryz.ntmps54
  go_wp2
  go_ret3
  exact ⟨rfl, rfl⟩

/-- a new painter of this size is handed back -/
def PntPost (w : World) (W H : Int) (e : Ending) (w' : World) : Prop :=
  ∃ b g, e = .returned (.tuple #[.pointer (some ⟨b, 0, none⟩), .int .i64 0]) ∧ (∀ x ∈ pfoot b g, w.heap.size ≤ x) ∧ Fr [] w w' ∧ PntAt w' b g ⟨W, H, [], 0, 0⟩
theorem grid_nil (W H : Int) : V.grid [] W H = List.replicate (W * H).toNat (32, 7) := by
  unfold V.grid V.gridTo
  apply List.ext_getElem
  · simp
  · intro i h1 h2; simp [V.cell, V.best]
set_option maxHeartbeats 1000000 in
set_option maxRecDepth 100000 in
theorem newPainter_yes (W H : Int) (w : World) (h1 : 1 ≤ W) (h2 : W ≤ 40) (h3 : 1 ≤ H) (h4 : H ≤ 20) :
    Calls Tryz.prog 25 #[.int .i64 W, .int .i64 H] w (PntPost w W H) := by
  go_enter Tryz.func25, Tryz.ntmps25
  go_wp2_with fail
  refine (new_yes _ _ _ h1 h2 h3 h4).mono ?_
  rintro e w1 ⟨bg, bc, cap, sp, rfl, hbg, hbc, f1, hg⟩
  have HG := hide hg
  have F1 := hide f1
  have NG : Hid (w.heap.size ≤ bg ∧ w.heap.size ≤ bc) := ⟨hbg, hbc⟩
  clear hg f1 hbg hbc
  go_wp2
  go_ret2
  refine ⟨w1.heap.size, ⟨bg, bc, cap, sp, .slice none 0 0, []⟩, rfl, ?_, F1.out.alloc _, Blk.new _ _ _, ?_, ⟨.inl ⟨rfl, rfl⟩, by simp⟩, rfl, V.ok_nil⟩
  · intro x hx
    simp only [pfoot, List.mem_cons, Value.ownBlock, Option.toList, List.map_nil, List.append_nil, List.not_mem_nil, or_false] at hx
    have := F1.out.size
    rcases hx with rfl | rfl | rfl
    · exact this
    · exact NG.out.1
    · exact NG.out.2
  · show Grid _ bg bc cap sp W H (V.grid [] W H)
    rw [grid_nil]
    exact HG.out.fr0 ((Fr.refl _ _).alloc _)
theorem newPainter_no (W H : Int) (w : World) (h : sizeB W H = false) :
    Calls Tryz.prog 25 #[.int .i64 W, .int .i64 H] w fun e w' => e = .returned (.tuple #[.pointer none, .int .i64 2]) ∧ w = w' := by
  go_enter Tryz.func25, Tryz.ntmps25
  go_wp2_with (go_at_call 13; refine (new_no _ _ _ h).mono ?_; rintro e w' ⟨rfl, rfl⟩)
  go_ret2
  exact ⟨rfl, rfl⟩
end Go.Proofs.YtjhccghhinlmdabGreatDoor
/- The document's painter (package repaintref): its lines, and what a window has in a place. -/
namespace Go.Proofs.YtjhccghhinlmdabGreatDoor
open Go.RowKit

set_option maxHeartbeats 2000000 in
set_option maxRecDepth 100000 in
theorem rlines_any (s : ByteArray) (n : Int) (w : World) (hs : s.size ≤ 400) :
    Calls Tryz.prog 67 #[.string s, .int .i64 n] w (CutPost w s n) := by
  obtain ⟨i0, hi, hz0, hz1, hz2⟩ := info_parts info_string
  go_enter Tryz.func67, Tryz.ntmps67
  go_wp2
  go_loopw [5, 6, 7] (fun u i j wr => ∃ k : Nat, j = .int .i64 k ∧ k ≤ s.size ∧ i = .int .i64 ((cutS s n k).1 : Nat) ∧ wr.ownsRow w.heap.size 9 1 u (cutS s n k).2.length ((cutS s n k).2.map Value.string) ∧ Fr [] w wr) (fun _ _ j _ => (3000 - intOf j).toNat)
  case atStart => exact ⟨0, rfl, by omega, rfl, World.ownsRow_nil _ _ _ _, Fr.refl _ _⟩
  case round =>
    obtain ⟨k, rfl, hk, rfl, hown, f⟩ := hrel
    have q1 := cutS_first s n k
    have q2 := cutS_length s n k
    have hsz := f.size
    by_cases hend : k < s.size
    · have E := hide (byteAt_eq s k hend)
      have hby := (s[k]).toNat_lt
      have S1 : Hid (cutS s n (k + 1) = if byteAt s k = 10 then (k + 1, (cutS s n k).2 ++ [s.extract (cutS s n k).1 k]) else if (k : Int) - (cutS s n k).1 = n then (k, (cutS s n k).2 ++ [s.extract (cutS s n k).1 k]) else cutS s n k) := rfl
      generalize cutS s n k = ck at *
      obtain ⟨a, l⟩ := ck
      simp only at q1 q2 hown
      have HO := hide hown
      clear hown
      by_cases h10 : (s[k].toNat : Int) = 10
      · have HN : Hid (cutS s n (k + 1) = (k + 1, l ++ [s.extract a k])) := by
          show _ = _; rw [S1.out, E.out, if_pos h10]
        clear S1
        go_wp2_with (at_builtin; refine wpList_append_lies _ rfl (.tmp 18) (.tmp 23) 122 rfl w.heap.size 9 i0 (.string ByteArray.empty) 1 16 Tryz.underlying122 hi hz0 hz1 hz2 rfl (by decide) u5 l.length (l.map Value.string) rfl (own_fr0 HO.out ((Fr.refl _ _).alloc _)) ⟨wr.heap.size, 0, none⟩ 1 1 [.string (s.extract a k)] rfl rfl (World.news_of_block (cs := #[.string (s.extract a k)]) (t := 9) (fr := (0, 0)) (by exact heap_alloc_new wr _)) (one_one _ rfl) (by omega) (by unfold maxLen; omega) (by omega) (by simp; omega) (wr.heap.size + 1) (by simp) ?_; intro g1 cap1 w1 hown1 hgrow hat hlt1; have F1 : Hid (Fr [] w w1) := own_more (Nat.le_refl _) f HO.out hgrow; have HO1 := hide hown1; clear hown1 hgrow hat)
        go_roundw
        case rel =>
          refine ⟨k + 1, by go_num, by omega, ?_, ?_, F1.out⟩
          · rw [HN.out]; go_num
          · rw [HN.out]; simpa using HO1.out
        case measure => simp [intOf]; omega
      · have b10 : ((s[k].toNat : Int) == 10) = false := by simpa using h10
        by_cases hw : (k : Int) - a = n
        · have HN : Hid (cutS s n (k + 1) = (k, l ++ [s.extract a k])) := by
            show _ = _; rw [S1.out, E.out, if_neg h10, if_pos hw]
          have bw : ((k : Int) - a == n) = true := by simpa using hw
          clear S1 h10 hw
          go_wp2_with (at_builtin; refine wpList_append_lies _ rfl (.tmp 32) (.tmp 37) 122 rfl w.heap.size 9 i0 (.string ByteArray.empty) 1 16 Tryz.underlying122 hi hz0 hz1 hz2 rfl (by decide) u5 l.length (l.map Value.string) rfl (own_fr0 HO.out ((Fr.refl _ _).alloc _)) ⟨wr.heap.size, 0, none⟩ 1 1 [.string (s.extract a k)] rfl rfl (World.news_of_block (cs := #[.string (s.extract a k)]) (t := 9) (fr := (0, 0)) (by exact heap_alloc_new wr _)) (one_one _ rfl) (by omega) (by unfold maxLen; omega) (by omega) (by simp; omega) (wr.heap.size + 1) (by simp) ?_; intro g1 cap1 w1 hown1 hgrow hat hlt1; have F1 : Hid (Fr [] w w1) := own_more (Nat.le_refl _) f HO.out hgrow; have HO1 := hide hown1; clear hown1 hgrow hat)
          go_roundw
          case rel =>
            refine ⟨k + 1, by go_num, by omega, ?_, ?_, F1.out⟩
            · rw [HN.out]
            · rw [HN.out]; simpa using HO1.out
          case measure => simp [intOf]; omega
        · have HN : Hid (cutS s n (k + 1) = (a, l)) := by
            show _ = _; rw [S1.out, E.out, if_neg h10, if_neg hw]
          have bw : ((k : Int) - a == n) = false := by simpa using hw
          clear S1 h10 hw
          go_wp2
          go_roundw
          case rel =>
            refine ⟨k + 1, by go_num, by omega, ?_, ?_, f⟩
            · rw [HN.out]
            · rw [HN.out]; exact HO.out
          case measure => simp [intOf]; omega
    · have hk' : k = s.size := by omega
      subst hk'
      have HN : Hid (cutF s n = (cutS s n s.size).2 ++ [s.extract (cutS s n s.size).1 s.size]) := rfl
      generalize cutS s n s.size = ck at *
      obtain ⟨a, l⟩ := ck
      simp only at q1 q2 hown
      have HO := hide hown
      clear hown hend
      go_wp2_with (at_builtin; refine wpList_append_lies _ rfl (.tmp 40) (.tmp 44) 122 rfl w.heap.size 9 i0 (.string ByteArray.empty) 1 16 Tryz.underlying122 hi hz0 hz1 hz2 rfl (by decide) u5 l.length (l.map Value.string) rfl (own_fr0 HO.out ((Fr.refl _ _).alloc _)) ⟨wr.heap.size, 0, none⟩ 1 1 [.string (s.extract a s.size)] rfl rfl (World.news_of_block (cs := #[.string (s.extract a s.size)]) (t := 9) (fr := (0, 0)) (by exact heap_alloc_new wr _)) (one_one _ rfl) (by omega) (by unfold maxLen; omega) (by omega) (by simp; omega) (wr.heap.size + 1) (by simp) ?_; intro g1 cap1 w1 hown1 hgrow hat hlt1; have F1 : Hid (Fr [] w w1) := own_more (Nat.le_refl _) f HO.out hgrow; have HO1 := hide hown1; clear hown1 hgrow hat)
      go_ret
      have hl : (cutF s n).length = l.length + 1 := by rw [HN.out]; simp
      obtain ⟨L1, L2⟩ := LinesAt.own (ls := cutF s n) (n := l.length + 1) (g := g1) (cap := cap1) (w := w1) (base := w.heap.size) hl.symm (by have := HO1.out; rw [HN.out]; simpa using this)
      exact ⟨g1, cap1, by rw [hl]; rfl, L2, L1, F1.out⟩

def Win.most (o : Win) : Int := if ((cutF o.text o.w).length : Int) - o.h < 0 then 0 else ((cutF o.text o.w).length : Int) - o.h
theorem Win.fits_most (o : Win) (n : Int) (h : 0 ≤ n) : o.fits n = if n < o.most then n else o.most := by
  unfold Win.fits Win.most
  (repeat' split) <;> omega
theorem Win.most_bd (o : Win) (ok : o.Ok) : 0 ≤ o.most ∧ o.most ≤ 401 := by
  have := (cutF_length o.text o.w).2
  have := ok.t
  have := ok.h1
  unfold Win.most
  split <;> omega

set_option maxHeartbeats 1000000 in
set_option maxRecDepth 100000 in
theorem greatest_any (o : Win) (w : World) (ok : o.Ok) :
    Calls Tryz.prog 73 #[.agg #[.int .i64 o.key, .int .i64 o.x, .int .i64 o.y, .int .i64 o.w, .int .i64 o.h, .int .i64 o.layer, .int .i64 o.style, .string o.text]] w fun e w' => e = .returned (.int .i64 o.most) ∧ Fr [] w w' := by
  have l1 := cutF_length o.text o.w
  have l2 := ok.t
  have l3 := ok.h1
  have l4 := ok.h2
  have LN := hide (fun w' => rlines_any o.text o.w w' l2)
  have HM : Hid (o.most = if ((cutF o.text o.w).length : Int) - o.h < 0 then 0 else ((cutF o.text o.w).length : Int) - o.h) := rfl
  clear ok
  go_enter Tryz.func73, Tryz.ntmps73
  go_wp2_with fail
  refine (LN.out _).mono ?_
  rintro e w1 ⟨g, cap, rfl, h1, h2, f1⟩
  have B := (Blk.new w o.vals 104).fr0 f1
  have c4 : w1.cell? ⟨w.heap.size, 4, none⟩ = some (.int .i64 o.h) := B.cell 4
  have F : Hid (Fr [] w w1) := ((Fr.refl _ _).alloc _).then f1
  clear B f1 h1 h2 LN
  generalize (cutF o.text o.w).length = L at *
  by_cases h : (L : Int) - o.h < 0
  · have E : Hid (o.most = 0) := by show _ = _; rw [HM.out, if_pos h]
    clear HM
    go_wp2
    go_ret
    exact ⟨ret_int E.out.symm, F.out⟩
  · have E : Hid (o.most = (L : Int) - o.h) := by show _ = _; rw [HM.out, if_neg h]
    clear HM
    go_wp2
    go_ret
    exact ⟨ret_int E.out.symm, F.out⟩

set_option maxHeartbeats 1000000 in
set_option maxRecDepth 100000 in
theorem rcell_any (o : Win) (off x y : Int) (w : World) (ok : o.Ok) (x1 : 0 ≤ x) (x2 : x ≤ 1000) (y1 : 0 ≤ y) (y2 : y ≤ 1000) (o1 : 0 ≤ off) (o2 : off ≤ 401) :
    Calls Tryz.prog 44 #[.agg #[.int .i64 o.key, .int .i64 o.x, .int .i64 o.y, .int .i64 o.w, .int .i64 o.h, .int .i64 o.layer, .int .i64 o.style, .string o.text], .int .i64 off, .int .i64 x, .int .i64 y] w fun e w' => e = .returned (.agg #[.int .u8 (charF (cutF o.text o.w) x (y + off)), .int .i64 o.style]) ∧ Fr [] w w' := by
  have l1 := cutF_length o.text o.w
  have l2 := ok.t
  have LN := hide (fun w' => rlines_any o.text o.w w' l2)
  have HC : Hid (charF (cutF o.text o.w) x (y + off) = if y + off < 0 ∨ ((cutF o.text o.w).length : Int) ≤ y + off ∨ x < 0 ∨ ((lineAt (cutF o.text o.w) (y + off)).size : Int) ≤ x then 32 else shownC (byteAt (lineAt (cutF o.text o.w) (y + off)) x.toNat)) := rfl
  clear ok
  go_enter Tryz.func44, Tryz.ntmps44
  go_wp2_with fail
  refine (LN.out _).mono ?_
  rintro e w1 ⟨g, cap, rfl, h1, h2, f1⟩
  have B := ((Blk.new w o.vals 104).alloc (.cells #[.int .u8 0, .int .i64 0] 84)).fr0 f1
  have B2 := (Blk.new (w.alloc (.cells o.vals.toArray 104)) [.int .u8 0, .int .i64 0] 84).fr0 f1
  rw [World.size_alloc] at B2
  have c6 : w1.cell? ⟨w.heap.size, 6, none⟩ = some (.int .i64 o.style) := B.cell 6
  have r0 : w1.cell? ⟨w.heap.size + 1, 0, none⟩ = some (.int .u8 0) := B2.cell 0
  have r1 : w1.cell? ⟨w.heap.size + 1, 1, none⟩ = some (.int .i64 0) := B2.cell 1
  have z0 := B2.frozen 0
  have z1 := B2.frozen 1
  have F : Hid (Fr [] w w1) := (((Fr.refl _ _).alloc _).alloc _).then f1
  have LA := hide h2
  have glt : g < w1.heap.size := h2.lt
  clear B B2 f1 h1 h2 LN
  have fin : ∀ c : Int, charF (cutF o.text o.w) x (y + off) = c → (Ending.returned (.agg #[.int .u8 c, .int .i64 o.style]) = .returned (.agg #[.int .u8 (charF (cutF o.text o.w) x (y + off)), .int .i64 o.style]) ∧ Fr [] w ((w1.setCell ⟨w.heap.size + 1, 0, none⟩ (.int .u8 c)).setCell ⟨w.heap.size + 1, 1, none⟩ (.int .i64 o.style))) := by
    intro c hc
    exact ⟨by rw [hc], (F.out.setCell (.inr (by simp)) _).setCell (.inr (by simp)) _⟩
  have FIN := hide fin
  clear fin
  by_cases hn : y + off < ((cutF o.text o.w).length : Int)
  · obtain ⟨k, hk⟩ := Int.eq_ofNat_of_zero_le (show 0 ≤ y + off by omega)
    have hkl : k < (cutF o.text o.w).length := by omega
    have cl : w1.cell? ⟨g, (y + off).toNat, none⟩ = some (.string (lineAt (cutF o.text o.w) (y + off))) := LA.out.cell (by
      simp [lineAt, List.getD_eq_getElem?_getD, show (y + off).toNat < (cutF o.text o.w).length by omega])
    generalize lineAt (cutF o.text o.w) (y + off) = ln at *
    by_cases hx : x < (ln.size : Int)
    · obtain ⟨j, rfl⟩ := Int.eq_ofNat_of_zero_le x1
      have hj : j < ln.size := by omega
      have E : charF (cutF o.text o.w) j (y + off) = shownC (ln[j].toNat : Int) := by
        rw [HC.out, if_neg (by omega)]; simp only [Int.toNat_natCast]; rw [byteAt_eq ln j hj]
      have hby := (ln[j]).toNat_lt
      by_cases h7 : (ln[j].toNat : Int) < 32
      · have E2 := hide (FIN.out 63 (by rw [E]; unfold shownC; rw [if_pos (.inl h7)]))
        clear E HC FIN LA hk
        go_wp2
        refine bodyPost_ret (v := .agg #[.int .u8 63, .int .i64 o.style]) (by simp [results, Tryz.results44, go_sem, r0, r1]) rfl ?_
        exact E2.out
      · by_cases h8 : 126 < (ln[j].toNat : Int)
        · have E2 := hide (FIN.out 63 (by rw [E]; unfold shownC; rw [if_pos (.inr h8)]))
          clear E HC FIN LA hk
          go_wp2
          refine bodyPost_ret (v := .agg #[.int .u8 63, .int .i64 o.style]) (by simp [results, Tryz.results44, go_sem, r0, r1]) rfl ?_
          exact E2.out
        · have E2 := hide (FIN.out (ln[j].toNat : Int) (by rw [E]; unfold shownC; rw [if_neg (by omega)]))
          clear E HC FIN LA hk
          go_wp2
          refine bodyPost_ret (v := .agg #[.int .u8 (ln[j].toNat : Int), .int .i64 o.style]) (by simp [results, Tryz.results44, go_sem, r0, r1]) rfl ?_
          exact E2.out
    · have E2 := hide (FIN.out 32 (by rw [HC.out, if_pos (by omega)]))
      clear HC FIN LA hk
      go_wp2
      refine bodyPost_ret (v := .agg #[.int .u8 32, .int .i64 o.style]) (by simp [results, Tryz.results44, go_sem, r0, r1]) rfl ?_
      exact E2.out
  · have E2 := hide (FIN.out 32 (by rw [HC.out, if_pos (by omega)]))
    clear HC FIN LA
    go_wp2
    refine bodyPost_ret (v := .agg #[.int .u8 32, .int .i64 o.style]) (by simp [results, Tryz.results44, go_sem, r0, r1]) rfl ?_
    exact E2.out
end Go.Proofs.YtjhccghhinlmdabGreatDoor
/- The document's painter: the number of the window that a cell is of. -/
namespace Go.Proofs.YtjhccghhinlmdabGreatDoor
open Go.RowKit

def bestI : Option Nat → Int
  | none => -1
  | some j => (j : Int)
def V.wins (v : V) : List Win := v.map (·.1)
theorem wins_at {v : V} {k : Nat} (h : k < v.length) : v.wins[k]? = some (v.at k).1 := by
  simp only [V.wins, List.getElem?_map, V.at_some h]; rfl

set_option maxHeartbeats 2000000 in
set_option maxRecDepth 100000 in
theorem rfront_any (b : Nat) (va : Option Addr) (cap : Nat) (v : V) (x y : Int) (w : World) (h2 : w.cell? ⟨b, 2, none⟩ = some (.slice va v.length cap)) (hw : WinsAt w va v.wins) (ok : v.Ok) (x1 : 0 ≤ x) (x2 : x ≤ 40) (y1 : 0 ≤ y) (y2 : y ≤ 20) :
    Calls Tryz.prog 43 #[.pointer (some ⟨b, 0, none⟩), .int .i64 x, .int .i64 y] w fun e w' => e = .returned (.int .i64 (bestI (v.best x y v.length))) ∧ Fr [] w w' := by
  have n12 := ok.n
  have H := hide hw
  have OK := hide ok
  clear hw ok
  go_enter Tryz.func43, Tryz.ntmps43
  go_wp2
  go_loopw [7, 8] (fun u i wr => ∃ k : Nat, i = .int .i64 k ∧ k ≤ v.length ∧ u = .int .i64 (bestI (v.best x y k)) ∧ Fr [] w wr) (fun _ i _ => (3000 - intOf i).toNat)
  case atStart => exact ⟨0, rfl, by omega, rfl, Fr.refl _ _⟩
  case round =>
    obtain ⟨k, rfl, hk, rfl, f⟩ := hrel
    have d2 : wr.cell? ⟨b, 2, none⟩ = some (.slice va v.length cap) := by
      rw [← h2]; exact World.cell?_of_block (w := w) (f.block b (World.block_lt_of_cell? w _ h2) (by simp))
    have bl : b < wr.heap.size := World.block_lt_of_cell? wr _ d2
    by_cases hend : k < v.length
    · have WA := H.out.fr f (by simp)
      obtain ⟨gb, off, rfl, C⟩ := WA k _ (wins_at hend)
      have gl : gb < wr.heap.size := World.block_lt_of_cell? wr _ C.c0
      obtain ⟨o1, o2, a1, a2, a3, a4, a5, a6, a7, a8, _, _, _, _, _⟩ := (OK.out.at hend).1
      have BS : Hid (v.best x y (k + 1) = match v.best x y k with
        | none => if (v.at k).1.has x y then some k else none
        | some j => if (v.at k).1.has x y && decide ((v.at j).1.layer ≤ (v.at k).1.layer) then some k else some j) := rfl
      have QC : Hid (∀ j, v.best x y k = some j → j < v.length ∧ wr.cell? ⟨gb, off + j * 8 + 5, none⟩ = some (.int .i64 (v.at j).1.layer)) := by
        intro j hj
        have hjl : j < v.length := by have := v.best_lt x y k j hj; omega
        obtain ⟨gb', off', he, C'⟩ := WA j _ (wins_at hjl)
        simp only [Option.some.injEq, Addr.mk.injEq, and_true] at he
        obtain ⟨rfl, rfl⟩ := he
        exact ⟨hjl, C'.c5⟩
      obtain ⟨c0, c1, c2, c3, c4, c5, c6, c7⟩ := C
      have b1 : (k : Int) < v.length := by omega
      have HH : Hid ((v.at k).1.has x y = (decide ((v.at k).1.x ≤ x) && decide (x < (v.at k).1.x + (v.at k).1.w) && decide ((v.at k).1.y ≤ y) && decide (y < (v.at k).1.y + (v.at k).1.h))) := rfl
      generalize (v.at k).1 = o at *
      clear WA o1 o2
      have no : Hid (o.has x y = false → v.best x y (k + 1) = v.best x y k) := by
        intro hf
        rw [BS.out]
        cases v.best x y k <;> simp [hf]
      by_cases p1 : o.x ≤ x
      · by_cases p2 : x < o.x + o.w
        · by_cases p3 : o.y ≤ y
          · by_cases p4 : y < o.y + o.h
            · have hh : o.has x y = true := by rw [HH.out]; simp [p1, p2, p3, p4]
              cases hb : v.best x y k with
              | none =>
                have E : Hid (v.best x y (k + 1) = some k) := by show _ = _; rw [BS.out, hb]; simp [hh]
                have e0 : bestI none = -1 := rfl
                rw [e0]
                clear BS QC HH hh hb no e0
                go_wp2
                go_quiet (fail)
                go_wp2
                go_roundw
                case rel => exact ⟨k + 1, by go_num, by omega, by rw [E.out]; rfl, (f.alloc _).drewN _⟩
                case measure => simp [intOf]; omega
              | some j =>
                obtain ⟨jl, cj⟩ := QC.out j hb
                have e0 : bestI (some j) = (j : Int) := rfl
                rw [e0]
                have bj : decide ((j : Int) < 0) = false := by simp
                have bj2 : (j : Int) < v.length := by omega
                by_cases hl : (v.at j).1.layer ≤ o.layer
                · have E : Hid (v.best x y (k + 1) = some k) := by show _ = _; rw [BS.out, hb]; simp [hh, hl]
                  have dl : decide (o.layer ≥ (v.at j).1.layer) = true := by simpa using hl
                  clear BS QC HH hh hb no e0
                  generalize (v.at j).1.layer = jly at *
                  go_wp2
                  go_quiet (fail)
                  go_wp2
                  go_roundw
                  case rel => exact ⟨k + 1, by go_num, by omega, by rw [E.out]; rfl, (f.alloc _).drewN _⟩
                  case measure => simp [intOf]; omega
                · have E : Hid (v.best x y (k + 1) = some j) := by show _ = _; rw [BS.out, hb]; simp [hl]
                  have dl : decide (o.layer ≥ (v.at j).1.layer) = false := by simpa using hl
                  clear BS QC HH hh hb no e0
                  generalize (v.at j).1.layer = jly at *
                  go_wp2
                  go_quiet (fail)
                  go_wp2
                  go_roundw
                  case rel => exact ⟨k + 1, by go_num, by omega, by rw [E.out]; rfl, (f.alloc _).drewN _⟩
                  case measure => simp [intOf]; omega
            · have E := hide (no.out (by rw [HH.out]; simp [p4]))
              clear BS QC HH no
              generalize hbk : v.best x y k = bk at *
              go_wp2
              go_quiet (fail)
              go_wp2
              go_roundw
              case rel => exact ⟨k + 1, by go_num, by omega, by rw [E.out], (f.alloc _).drewN _⟩
              case measure => simp [intOf]; omega
          · have E := hide (no.out (by rw [HH.out]; simp [p3]))
            clear BS QC HH no
            generalize hbk : v.best x y k = bk at *
            go_wp2
            go_quiet (fail)
            go_wp2
            go_roundw
            case rel => exact ⟨k + 1, by go_num, by omega, by rw [E.out], (f.alloc _).drewN _⟩
            case measure => simp [intOf]; omega
        · have E := hide (no.out (by rw [HH.out]; simp [p2]))
          clear BS QC HH no
          generalize hbk : v.best x y k = bk at *
          go_wp2
          go_quiet (fail)
          go_wp2
          go_roundw
          case rel => exact ⟨k + 1, by go_num, by omega, by rw [E.out], (f.alloc _).drewN _⟩
          case measure => simp [intOf]; omega
      · have E := hide (no.out (by rw [HH.out]; simp [p1]))
        clear BS QC HH no
        generalize hbk : v.best x y k = bk at *
        go_wp2
        go_quiet (fail)
        go_wp2
        go_roundw
        case rel => exact ⟨k + 1, by go_num, by omega, by rw [E.out], (f.alloc _).drewN _⟩
        case measure => simp [intOf]; omega
    · have hk' : k = v.length := by omega
      subst hk'
      go_wp2
      go_ret
      exact ⟨rfl, f⟩
end Go.Proofs.YtjhccghhinlmdabGreatDoor
/- The document's painter: how all cells are to be. -/
namespace Go.Proofs.YtjhccghhinlmdabGreatDoor
open Go.RowKit

def V.offs (v : V) : List Int := v.map (·.2)
/-- offsets lie one behind the other -/
def OffsAt (w : World) (oa : Option Addr) (l : List Int) : Prop := ∀ (i : Nat) n, l[i]? = some n → ∃ g, oa = some ⟨g, 0, none⟩ ∧ w.cell? ⟨g, i, none⟩ = some (.int .i64 n)
theorem OffsAt.fr0 {w w' : World} {oa : Option Addr} {l : List Int} (h : OffsAt w oa l) (f : Fr [] w w') : OffsAt w' oa l := by
  intro i n hn
  obtain ⟨g, rfl, hc⟩ := h i n hn
  refine ⟨g, rfl, ?_⟩
  rw [← hc]; exact World.cell?_of_block (w := w) (f.block g (World.block_lt_of_cell? w _ hc) (by simp))
theorem offs_at {v : V} {k : Nat} (h : k < v.length) : v.offs[k]? = some (v.at k).2 := by
  simp only [V.offs, List.getElem?_map, V.at_some h]; rfl
theorem Fr.cell' {w w' : World} (f : Fr [] w w') {p : Addr} {x : Value} (h : w.cell? p = some x) : w'.cell? p = some x := by
  rw [← h]; exact World.cell?_of_block (w := w) (f.block p.block (World.block_lt_of_cell? w _ h) (by simp))

/-- the painter's cells that Grid reads -/
structure DRead (w : World) (b : Nat) (W H : Int) (va oa : Option Addr) (cv co : Nat) (v : V) : Prop where
  c0 : w.cell? ⟨b, 0, none⟩ = some (.int .i64 W)
  c1 : w.cell? ⟨b, 1, none⟩ = some (.int .i64 H)
  c2 : w.cell? ⟨b, 2, none⟩ = some (.slice va v.length cv)
  c3 : w.cell? ⟨b, 3, none⟩ = some (.slice oa v.length co)
  ws : WinsAt w va v.wins
  os : OffsAt w oa v.offs
theorem DRead.fr0 {w w' : World} {b : Nat} {W H : Int} {va oa : Option Addr} {cv co : Nat} {v : V} (h : DRead w b W H va oa cv co v) (f : Fr [] w w') : DRead w' b W H va oa cv co v :=
  ⟨f.cell' h.c0, f.cell' h.c1, f.cell' h.c2, f.cell' h.c3, h.ws.fr f (by simp), h.os.fr0 f⟩

/-- a list of all cells is handed back -/
def DGridPost (w : World) (v : V) (W H : Int) (e : Ending) (w' : World) : Prop :=
  ∃ u, e = .returned u ∧ w'.ownsRow w.heap.size 84 2 u (W * H).toNat (flatR (v.grid W H)) ∧ Fr [] w w'

theorem has_iff' {o : Win} {x y : Int} : o.has x y = true ↔ o.x ≤ x ∧ x < o.x + o.w ∧ o.y ≤ y ∧ y < o.y + o.h := by
  simp [Win.has, and_assoc]
theorem charF_bd' (ls : List ByteArray) (x y : Int) : 32 ≤ charF ls x y ∧ charF ls x y ≤ 126 := by
  unfold charF shownC
  split
  · omega
  · split <;> omega
theorem flatR_snoc' (l : List (Int × Int)) (c : Int × Int) : flatR l ++ [.int .u8 c.1, .int .i64 c.2] = flatR (l ++ [c]) := by simp [flatR]

set_option maxHeartbeats 4000000 in
set_option maxRecDepth 100000 in
theorem rgrid_any (b : Nat) (W H : Int) (va oa : Option Addr) (cv co : Nat) (v : V) (w : World) (h : DRead w b W H va oa cv co v) (ok : v.Ok) (w1 : 1 ≤ W) (w2 : W ≤ 40) (h1 : 1 ≤ H) (h2 : H ≤ 20) :
    Calls Tryz.prog 27 #[.pointer (some ⟨b, 0, none⟩)] w (DGridPost w v W H) := by
  obtain ⟨i0, hi, hz0, hz1, hz2⟩ := info_parts info_rcell
  have HD := hide h
  have OK := hide ok
  have mb := mul_bd w1 w2 h1 h2
  clear h ok
  go_enter Tryz.func27, Tryz.ntmps27
  go_wp2
  go_loopw [3, 4] (fun u i wr => ∃ y : Int, i = .int .i64 y ∧ 0 ≤ y ∧ y ≤ H ∧ Fr [] w wr ∧ wr.ownsRow w.heap.size 84 2 u (y * W).toNat (flatR (v.gridTo W (y * W).toNat))) (fun _ i _ => (3000 - intOf i).toNat)
  case atStart => exact ⟨0, rfl, by omega, by omega, Fr.refl _ _, by rw [show ((0 : Int) * W).toNat = 0 by simp]; exact World.ownsRow_nil _ _ _ _⟩
  case round =>
    obtain ⟨y, rfl, y1, y2, f, hown⟩ := hrel
    have q1 := (HD.out.fr0 f).c1
    by_cases hend : y < H
    · have HO := hide hown
      clear hown
      go_wp2
      go_loopw [3, 5] (fun u i wq => ∃ x : Int, i = .int .i64 x ∧ 0 ≤ x ∧ x ≤ W ∧ Fr [] w wq ∧ wq.ownsRow w.heap.size 84 2 u (y * W + x).toNat (flatR (v.gridTo W (y * W + x).toNat))) (fun _ i _ => (3000 - intOf i).toNat)
      case atStart => exact ⟨0, rfl, by omega, by omega, f, by rw [Int.add_zero]; exact HO.out⟩
      case round =>
        obtain ⟨x, rfl, x1, x2, f2, hown2⟩ := hrel
        have D2 := HD.out.fr0 f2
        have r0 := D2.c0
        have idx := idx_bd (W := W) (H := H) (x := W - 1) (y := y) w2 h2 (by omega) (by omega) y1 hend
        by_cases hx : x < W
        · have idx2 := idx_bd (W := W) (H := H) (x := x) (y := y) w2 h2 x1 hx y1 hend
          have hkn : (y * W + x).toNat < (W * H).toNat := by omega
          have hk8 : (y * W + x).toNat ≤ 799 := by omega
          obtain ⟨e1, e2⟩ := at_div (W := W) (x := x) (y := y) x1 hx
          have ek : (((y * W + x).toNat : Nat) : Int) = y * W + x := by omega
          have GS : Hid (v.gridTo W (y * W + (x + 1)).toNat = v.gridTo W (y * W + x).toNat ++ [v.cell x y]) := by
            show _ = _
            rw [show (y * W + (x + 1)).toNat = (y * W + x).toNat + 1 by omega, V.gridTo_succ, ek, e1, e2]
          have KS : Hid ((y * W + (x + 1)).toNat = (y * W + x).toNat + 1) := by show _ = _; omega
          have HO2 := hide hown2
          have D2' := hide D2
          have hsz2 := f2.size
          have FRT : Hid (∀ w', Fr [] wr w' → Calls Tryz.prog 43 #[.pointer (some ⟨b, 0, none⟩), .int .i64 x, .int .i64 y] w' fun e w'' => e = .returned (.int .i64 (bestI (v.best x y v.length))) ∧ Fr [] w' w'') :=
            fun w' f' => rfront_any b va cv v x y w' (D2'.out.fr0 f').c2 (D2'.out.fr0 f').ws OK.out x1 (by omega) y1 (by omega)
          clear hown2 D2 e1 e2 ek idx idx2 hkn
          go_wp2_with fail
          refine (rblank_any _).mono ?_
          rintro e w' ⟨rfl, rfl⟩
          go_wp2_with fail
          refine (FRT.out _ (((Fr.refl _ _).alloc _).alloc _)).mono ?_
          rintro e w3 ⟨rfl, f3⟩
          have F3 : Hid (Fr [] wr w3) := (((Fr.refl _ _).alloc _).alloc _).then f3
          have B3 : Hid (Blk w3 (wr.heap.size + 1) [.int .u8 32, .int .i64 7] 84) := by
            have := (Blk.new (wr.alloc (.cells #[.int .u8 32, .int .i64 7] 84)) [.int .u8 32, .int .i64 7] 84).fr0 f3
            rw [World.size_alloc] at this
            exact this
          have D3 := hide (D2'.out.fr0 F3.out)
          clear f3 FRT r0 q1
          generalize hC : wr.heap.size + 1 = C at *
          have k0 : w3.cell? ⟨C, 0, none⟩ = some (.int .u8 32) := B3.out.cell 0
          have k1 : w3.cell? ⟨C, 1, none⟩ = some (.int .i64 7) := B3.out.cell 1
          have z0 := B3.out.frozen 0
          have z1 := B3.out.frozen 1
          have Cl := B3.out.lt
          have FB3 : Hid (Fr [] w w3) := f2.then F3.out
          have O3 := hide (own_fr0 HO2.out F3.out)
          cases hb : v.best x y v.length with
          | none =>
            have ec : v.cell x y = (32, 7) := by unfold V.cell; rw [hb]
            rw [ec] at GS
            have e0 : bestI none = -1 := rfl
            rw [e0]
            clear e0 hb ec
            go_wp2_with (at_builtin; refine wpList_append_lies _ rfl (.tmp 66) (.tmp 68) 56 rfl w.heap.size 84 i0 (.agg #[.int .u8 0, .int .i64 0]) 2 16 Tryz.underlying56 hi hz0 hz1 hz2 rfl (by decide) u3 (y * W + x).toNat (flatR (v.gridTo W (y * W + x).toNat)) rfl (own_fr0 O3.out ((Fr.refl _ _).alloc _)) ⟨w3.heap.size, 0, none⟩ 1 1 [.int .u8 32, .int .i64 7] rfl rfl (World.news_of_block (cs := #[.int .u8 32, .int .i64 7]) (t := 84) (fr := (0, 0)) (by exact heap_alloc_new w3 _)) (two_one _ _ rfl rfl) (by omega) (by unfold maxLen; omega) (by omega) (by simp; have := FB3.out.size; omega) (w3.heap.size + 1) (by simp) ?_; intro g1 cap1 w4 hown1 hgrow hat hlt1; have R1 : Hid (Fr [] w w4 ∧ w4.ownsRow w.heap.size 84 2 (.slice (some ⟨g1, 0, none⟩) ((y * W + x).toNat + 1) cap1) ((y * W + x).toNat + 1) (flatR (v.gridTo W (y * W + x).toNat ++ [(32, 7)]))) := ⟨Fr.grown (FB3.out.alloc _) hgrow (fun j hj => .inr (O3.out.lt j hj).1), (by rw [← flatR_snoc']; exact hown1)⟩; clear hown1 hgrow hat)
            go_roundw
            case rel =>
              refine ⟨x + 1, by go_num, by omega, by omega, R1.out.1, ?_⟩
              rw [GS.out, KS.out]; exact R1.out.2
            case measure => simp [intOf]; omega
          | some j =>
            have jl : j < v.length := v.best_lt x y _ j hb
            obtain ⟨p1, p2, p3, p4⟩ := has_iff'.1 (v.best_has x y _ j hb)
            have ec : v.cell x y = (charF (cutF (v.at j).1.text (v.at j).1.w) (x - (v.at j).1.x) (y - (v.at j).1.y + (v.at j).2), (v.at j).1.style) := by unfold V.cell; rw [hb]; rfl
            rw [ec] at GS
            have e0 : bestI (some j) = (j : Int) := rfl
            rw [e0]
            obtain ⟨gb, off, rfl, Cw⟩ := D3.out.ws j _ (wins_at jl)
            obtain ⟨og, rfl, co'⟩ := D3.out.os j _ (offs_at jl)
            have c2 := D3.out.c2
            have c3 := D3.out.c3
            obtain ⟨okw, of1, of2⟩ := OK.out.at jl
            obtain ⟨a0, a1, a2, a3, a4, a5, a6, a7⟩ := Cw
            have RC : Hid (∀ w', Fr [] w3 w' → Calls Tryz.prog 44 #[.agg #[.int .i64 (v.at j).1.key, .int .i64 (v.at j).1.x, .int .i64 (v.at j).1.y, .int .i64 (v.at j).1.w, .int .i64 (v.at j).1.h, .int .i64 (v.at j).1.layer, .int .i64 (v.at j).1.style, .string (v.at j).1.text], .int .i64 (v.at j).2, .int .i64 (x - (v.at j).1.x), .int .i64 (y - (v.at j).1.y)] w' fun e w'' => e = .returned (.agg #[.int .u8 (charF (cutF (v.at j).1.text (v.at j).1.w) (x - (v.at j).1.x) (y - (v.at j).1.y + (v.at j).2)), .int .i64 (v.at j).1.style]) ∧ Fr [] w' w'') :=
              fun w' _ => rcell_any (v.at j).1 (v.at j).2 (x - (v.at j).1.x) (y - (v.at j).1.y) w' okw (by omega) (by have := okw.x1; omega) (by omega) (by have := okw.y1; omega) of1 of2
            have xb1 := okw.x1
            have xb2 := okw.x2
            have yb1 := okw.y1
            have yb2 := okw.y2
            have cbd := charF_bd' (cutF (v.at j).1.text (v.at j).1.w) (x - (v.at j).1.x) (y - (v.at j).1.y + (v.at j).2)
            have hbl : b < wr.heap.size := World.block_lt_of_cell? wr _ D2'.out.c2
            have hgl : gb < wr.heap.size := by
              obtain ⟨gb', off', he, Cw'⟩ := D2'.out.ws j _ (wins_at jl)
              simp only [Option.some.injEq, Addr.mk.injEq, and_true] at he
              obtain ⟨rfl, rfl⟩ := he
              exact World.block_lt_of_cell? wr _ Cw'.c0
            have hol : og < wr.heap.size := by
              obtain ⟨og', he, Co'⟩ := D2'.out.os j _ (offs_at jl)
              simp only [Option.some.injEq, Addr.mk.injEq, and_true] at he
              subst he
              exact World.block_lt_of_cell? wr _ Co'
            have ne1 : b ≠ C := by omega
            have ne2 : C ≠ b := by omega
            have ne3 : gb ≠ C := by omega
            have ne4 : C ≠ gb := by omega
            have ne5 : og ≠ C := by omega
            have ne6 : C ≠ og := by omega
            have jb : (j : Int) < v.length := by omega
            have wx : IntKind.i64.wrap (x - (v.at j).1.x) = x - (v.at j).1.x := by rw [IntKind.wrap_i64]; omega
            have wy : IntKind.i64.wrap (y - (v.at j).1.y) = y - (v.at j).1.y := by rw [IntKind.wrap_i64]; omega
            have hCl : Hid (w.heap.size ≤ C) := by show _ ≤ _; omega
            have OC : Hid (∀ b ∈ [C], some b ≠ u3.ownBlock) := by
              intro bb hbb he
              simp at hbb; subst hbb
              have := (HO2.out.lt bb he.symm).2
              omega
            clear e0 hb ec p1 p2 p3 p4 okw hC D2'
            go_wp2
            go_region_held (fun w' => w'.cell? ⟨b, 2, none⟩ = some (.slice (some ⟨gb, off, none⟩) v.length cv) ∧ w'.cell? ⟨b, 3, none⟩ = some (.slice (some ⟨og, 0, none⟩) v.length co) ∧ w'.cell? ⟨gb, off + j * 8, none⟩ = some (.int .i64 (v.at j).1.key) ∧ w'.cell? ⟨gb, off + j * 8 + 1, none⟩ = some (.int .i64 (v.at j).1.x) ∧ w'.cell? ⟨gb, off + j * 8 + 2, none⟩ = some (.int .i64 (v.at j).1.y) ∧ w'.cell? ⟨gb, off + j * 8 + 3, none⟩ = some (.int .i64 (v.at j).1.w) ∧ w'.cell? ⟨gb, off + j * 8 + 4, none⟩ = some (.int .i64 (v.at j).1.h) ∧ w'.cell? ⟨gb, off + j * 8 + 5, none⟩ = some (.int .i64 (v.at j).1.layer) ∧ w'.cell? ⟨gb, off + j * 8 + 6, none⟩ = some (.int .i64 (v.at j).1.style) ∧ w'.cell? ⟨gb, off + j * 8 + 7, none⟩ = some (.string (v.at j).1.text) ∧ w'.cell? ⟨og, j, none⟩ = some (.int .i64 (v.at j).2)) (go_keep) ((go_at_call 44; refine (RC.out _ ?hf).mono ?_; (case hf => (repeat first | exact Fr.refl _ _ | apply Fr.drew | apply Fr.drewN)); rintro e w5 ⟨rfl, f5⟩; have F5 : Hid (Fr [] w3 w5) := (by refine Fr.then ?_ f5; repeat first | exact Fr.refl _ _ | apply Fr.drew | apply Fr.drewN); have s0 := F5.out.cell' c2; have s1 := F5.out.cell' c3; have s2 := F5.out.cell' a0; have s3 := F5.out.cell' a1; have s4 := F5.out.cell' a2; have s5 := F5.out.cell' a3; have s6 := F5.out.cell' a4; have s7 := F5.out.cell' a5; have s8 := F5.out.cell' a6; have s9 := F5.out.cell' a7; have s10 := F5.out.cell' co'; have B5 := B3.out.fr0 F5.out; have m0 : w5.cell? ⟨C, 0, none⟩ = some (.int .u8 32) := B5.cell 0; have m1 : w5.cell? ⟨C, 1, none⟩ = some (.int .i64 7) := B5.cell 1; have y0 := B5.frozen 0; have y1' := B5.frozen 1; have ml := B5.lt; clear f5 B5))
            all_goals
              have FC : Hid (Fr [] w ((w5.setCell ⟨C, 0, none⟩ (.int .u8 (charF (cutF (v.at j).1.text (v.at j).1.w) (x - (v.at j).1.x) (y - (v.at j).1.y + (v.at j).2)))).setCell ⟨C, 1, none⟩ (.int .i64 (v.at j).1.style))) := ((FB3.out.then F5.out).setCell (p := ⟨C, 0, none⟩) (.inr hCl.out) _).setCell (p := ⟨C, 1, none⟩) (.inr hCl.out) _
              have OW : Hid (((w5.setCell ⟨C, 0, none⟩ (.int .u8 (charF (cutF (v.at j).1.text (v.at j).1.w) (x - (v.at j).1.x) (y - (v.at j).1.y + (v.at j).2)))).setCell ⟨C, 1, none⟩ (.int .i64 (v.at j).1.style)).ownsRow w.heap.size 84 2 u3 (y * W + x).toNat (flatR (v.gridTo W (y * W + x).toNat))) := own_fr (S := [C]) (own_fr0 O3.out F5.out) (((Fr.refl _ _).setCell (p := ⟨C, 0, none⟩) (.inl (by simp)) _).setCell (p := ⟨C, 1, none⟩) (.inl (by simp)) _) OC.out
              have n0 : ((w5.setCell ⟨C, 0, none⟩ (.int .u8 (charF (cutF (v.at j).1.text (v.at j).1.w) (x - (v.at j).1.x) (y - (v.at j).1.y + (v.at j).2)))).setCell ⟨C, 1, none⟩ (.int .i64 (v.at j).1.style)).cell? ⟨C, 0, none⟩ = some (.int .u8 (charF (cutF (v.at j).1.text (v.at j).1.w) (x - (v.at j).1.x) (y - (v.at j).1.y + (v.at j).2))) := (((B3.out.fr0 F5.out).set 0 _).set 1 _).cell 0
              have n1 : ((w5.setCell ⟨C, 0, none⟩ (.int .u8 (charF (cutF (v.at j).1.text (v.at j).1.w) (x - (v.at j).1.x) (y - (v.at j).1.y + (v.at j).2)))).setCell ⟨C, 1, none⟩ (.int .i64 (v.at j).1.style)).cell? ⟨C, 1, none⟩ = some (.int .i64 (v.at j).1.style) := (((B3.out.fr0 F5.out).set 0 _).set 1 _).cell 1
              generalize (w5.setCell ⟨C, 0, none⟩ (.int .u8 (charF (cutF (v.at j).1.text (v.at j).1.w) (x - (v.at j).1.x) (y - (v.at j).1.y + (v.at j).2)))).setCell ⟨C, 1, none⟩ (.int .i64 (v.at j).1.style) = w6 at *
              generalize (charF (cutF (v.at j).1.text (v.at j).1.w) (x - (v.at j).1.x) (y - (v.at j).1.y + (v.at j).2)) = chx at *
              generalize (v.at j).1.style = stx at *
              go_wp2_with (at_builtin; refine wpList_append_lies _ rfl (.tmp 66) (.tmp 68) 56 rfl w.heap.size 84 i0 (.agg #[.int .u8 0, .int .i64 0]) 2 16 Tryz.underlying56 hi hz0 hz1 hz2 rfl (by decide) u3 (y * W + x).toNat (flatR (v.gridTo W (y * W + x).toNat)) rfl (own_fr0 OW.out ((Fr.refl _ _).alloc _)) ⟨w6.heap.size, 0, none⟩ 1 1 [.int .u8 chx, .int .i64 stx] rfl rfl (World.news_of_block (cs := #[.int .u8 chx, .int .i64 stx]) (t := 84) (fr := (0, 0)) (by exact heap_alloc_new w6 _)) (two_one _ _ rfl rfl) (by omega) (by unfold maxLen; omega) (by omega) (by simp; have := FC.out.size; omega) (w6.heap.size + 1) (by simp) ?_; intro g1 cap1 w7 hown1 hgrow hat hlt1; have R1 : Hid (Fr [] w w7 ∧ w7.ownsRow w.heap.size 84 2 (.slice (some ⟨g1, 0, none⟩) ((y * W + x).toNat + 1) cap1) ((y * W + x).toNat + 1) (flatR (v.gridTo W (y * W + x).toNat ++ [(chx, stx)]))) := ⟨Fr.grown (FC.out.alloc _) hgrow (fun j hj => .inr (OW.out.lt j hj).1), (by rw [← flatR_snoc']; exact hown1)⟩; clear hown1 hgrow hat)
              go_roundw
              case rel =>
                refine ⟨x + 1, by go_num, by omega, by omega, R1.out.1, ?_⟩
                rw [GS.out, KS.out]; exact R1.out.2
              case measure => simp [intOf]; omega
        · have hx' : x = W := by omega
          subst hx'
          have ey : y * x + x = (y + 1) * x := by rw [Int.add_mul]; omega
          rw [ey] at hown2
          have HO2 := hide hown2
          clear hown2 ey hx
          go_wp2
          go_roundw
          case rel => exact ⟨y + 1, by go_num, by omega, by omega, f2, HO2.out⟩
          case measure => simp [intOf]; omega
    · have hy : y = H := by omega
      subst hy
      rw [Int.mul_comm y W] at hown
      have HO := hide hown
      clear hown
      go_wp2
      go_ret
      exact ⟨_, rfl, HO.out, f⟩
end Go.Proofs.YtjhccghhinlmdabGreatDoor
/- Windows and offsets in slices of one's own. -/
namespace Go.Proofs.YtjhccghhinlmdabGreatDoor
open Go.RowKit

theorem info_win : (Tryz.prog.info? 104).map (fun i => (i.zero, i.size, i.bytes)) = some (some (.agg #[.int .i64 0, .int .i64 0, .int .i64 0, .int .i64 0, .int .i64 0, .int .i64 0, .int .i64 0, .string ⟨#[]⟩]), 8, 72) := by kernel_rfl
def flatW (ws : List Win) : List Value := ws.flatMap Win.vals
theorem flatW_length (ws : List Win) : (flatW ws).length = ws.length * 8 := by
  induction ws with
  | nil => rfl
  | cons p ps ih => simp only [flatW, List.flatMap_cons, List.length_append, List.length_cons, Win.vals, List.length_nil] at *; omega
theorem flatW_snoc (ws : List Win) (o : Win) : flatW ws ++ o.vals = flatW (ws ++ [o]) := by simp [flatW]
theorem flatW_at (ws : List Win) : ∀ (i : Nat) (o : Win), ws[i]? = some o → ∀ j, j < 8 → (flatW ws)[i * 8 + j]? = o.vals[j]? := by
  induction ws with
  | nil => intro i p h; simp at h
  | cons q ws ih =>
    intro i o h j hj
    have hq : q.vals.length = 8 := rfl
    cases i with
    | zero =>
      simp at h; subst h
      simp only [flatW, List.flatMap_cons, Nat.zero_mul, Nat.zero_add]
      rw [List.getElem?_append_left (by omega)]
    | succ i =>
      simp at h
      have := ih i o h j hj
      simp only [flatW, List.flatMap_cons] at *
      rw [List.getElem?_append_right (by omega), hq, show (i + 1) * 8 + j - 8 = i * 8 + j by omega]
      exact this
/-- windows in a slice of the call's own -/
theorem own_wins {w : World} {base g n cap : Nat} {ws : List Win} (hn : n = ws.length) (h : w.ownsRow base 104 8 (.slice (some ⟨g, 0, none⟩) n cap) n (flatW ws)) : WinsAt w (some ⟨g, 0, none⟩) ws ∧ n ≤ cap := by
  rcases h.2 with ⟨hv, _⟩ | ⟨g', cap', cur, hv, hb, hg, hc1, hc2, hc3, hc4⟩
  · simp at hv
  · simp only [Value.slice.injEq, Option.some.injEq, Addr.mk.injEq] at hv
    obtain ⟨⟨rfl, _⟩, _, rfl⟩ := hv
    refine ⟨?_, hc1⟩
    intro i o ho
    have hi : i < ws.length := (List.getElem?_eq_some_iff.1 ho).1
    have k : ∀ j, j < 8 → w.cell? ⟨g, 0 + i * 8 + j, none⟩ = o.vals[j]? := by
      intro j hj
      rw [cell_of_row w g _ cur 104 (0, 0) hg, Nat.zero_add]
      have e : (cur.toList.take (n * 8))[i * 8 + j]? = (flatW ws)[i * 8 + j]? := by rw [hc4]
      rw [List.getElem?_take_of_lt (by omega), flatW_at ws i o ho j hj] at e
      rw [← Array.getElem?_toList, e]
    exact ⟨g, 0, rfl, k 0 (by decide), k 1 (by decide), k 2 (by decide), k 3 (by decide), k 4 (by decide), k 5 (by decide), k 6 (by decide), k 7 (by decide)⟩
theorem eight_one (a0 a1 a2 a3 a4 a5 a6 : Int) (s : ByteArray) : ∀ u ∈ [Value.int .i64 a0, .int .i64 a1, .int .i64 a2, .int .i64 a3, .int .i64 a4, .int .i64 a5, .int .i64 a6, .string s], u.oneCell' = true := by
  intro u hu
  simp only [List.mem_cons, List.not_mem_nil, or_false] at hu
  rcases hu with rfl | rfl | rfl | rfl | rfl | rfl | rfl | rfl <;> rfl


theorem own_wins' {w : World} {base n : Nat} {u : Value} {ws : List Win} (hn : n = ws.length) (h : w.ownsRow base 104 8 u n (flatW ws)) : ∃ va cap, u = .slice va n cap ∧ WinsAt w va ws ∧ n ≤ cap := by
  rcases h.2 with ⟨rfl, h0⟩ | ⟨g, cap, cur, rfl, _⟩
  · subst h0
    have : ws = [] := List.eq_nil_of_length_eq_zero hn.symm
    subst this
    exact ⟨none, 0, rfl, fun i o ho => by simp at ho, Nat.le_refl _⟩
  · obtain ⟨h1, h2⟩ := own_wins hn h
    exact ⟨_, cap, rfl, h1, h2⟩
end Go.Proofs.YtjhccghhinlmdabGreatDoor
/- The document's painter: where it lies, and its small calls. -/
namespace Go.Proofs.YtjhccghhinlmdabGreatDoor
open Go.RowKit

/-- where the document's painter's lists lie -/
structure DGh where
  vv : Value
  ov : Value
def dfoot (b : Nat) (g : DGh) : List Nat := b :: (g.vv.ownBlock.toList ++ g.ov.ownBlock.toList)
/-- the document's painter lies at block b -/
structure DPAt (w : World) (b : Nat) (g : DGh) (m : Pt) : Prop where
  st : Blk w b [.int .i64 m.W, .int .i64 m.H, g.vv, g.ov, .int .i64 m.cx, .int .i64 m.cy] 101
  vw : w.ownsRow 0 104 8 g.vv m.v.length (flatW m.v.wins)
  of : w.ownsRow 0 3 1 g.ov m.v.length (m.v.offs.map (Value.int .i64))
  ok : m.v.Ok
  w1 : 1 ≤ m.W
  w2 : m.W ≤ 40
  h1 : 1 ≤ m.H
  h2 : m.H ≤ 20
theorem V.wins_length (v : V) : v.wins.length = v.length := by simp [V.wins]
theorem V.offs_length (v : V) : v.offs.length = v.length := by simp [V.offs]
theorem DPAt.fr {w w' : World} {S : List Nat} {b : Nat} {g : DGh} {m : Pt} (h : DPAt w b g m) (f : Fr S w w') (hs : ∀ x ∈ dfoot b g, x ∉ S) : DPAt w' b g m := by
  simp only [dfoot, List.mem_cons, List.mem_append, Option.mem_toList] at hs
  exact ⟨h.st.fr f (hs _ (.inl rfl)), own_fr h.vw f (fun x hx he => hs x (.inr (.inl he.symm)) hx), own_fr h.of f (fun x hx he => hs x (.inr (.inr he.symm)) hx), h.ok, h.w1, h.w2, h.h1, h.h2⟩
theorem DPAt.fr0 {w w' : World} {b : Nat} {g : DGh} {m : Pt} (h : DPAt w b g m) (f : Fr [] w w') : DPAt w' b g m := h.fr f (by simp)
theorem DPAt.lt {w : World} {b : Nat} {g : DGh} {m : Pt} (h : DPAt w b g m) : ∀ x ∈ dfoot b g, x < w.heap.size := by
  intro x hx
  simp only [dfoot, List.mem_cons, List.mem_append, Option.mem_toList] at hx
  rcases hx with rfl | hx | hx
  · exact h.st.lt
  · exact (h.vw.lt x hx).2
  · exact (h.of.lt x hx).2
/-- what a call leaves -/
def DUpd (b : Nat) (g : DGh) (m' : Pt) (w w' : World) : Prop := ∃ g', DPAt w' b g' m' ∧ Fr (dfoot b g) w w' ∧ ∀ x ∈ dfoot b g', x ∈ dfoot b g ∨ w.heap.size ≤ x

theorem own_offs {w : World} {base n : Nat} {u : Value} {l : List Int} (hn : n = l.length) (h : w.ownsRow base 3 1 u n (l.map (Value.int .i64))) : ∃ oa cap, u = .slice oa n cap ∧ OffsAt w oa l ∧ n ≤ cap := by
  rcases h.2 with ⟨rfl, h0⟩ | ⟨g, cap, cur, rfl, hb, hg, hc1, hc2, hc3, hc4⟩
  · subst h0
    have : l = [] := List.eq_nil_of_length_eq_zero hn.symm
    subst this
    exact ⟨none, 0, rfl, fun i o ho => by simp at ho, Nat.le_refl _⟩
  · refine ⟨_, cap, rfl, ?_, hc1⟩
    intro i x hx
    have hi : i < l.length := (List.getElem?_eq_some_iff.1 hx).1
    refine ⟨g, rfl, ?_⟩
    rw [cell_of_row w g _ cur 3 (0, 0) hg]
    have e : (cur.toList.take (n * 1))[i]? = (l.map (Value.int .i64))[i]? := by rw [hc4]
    rw [List.getElem?_take_of_lt (by omega), List.getElem?_map, hx] at e
    rw [← Array.getElem?_toList, e]; rfl
/-- what Grid reads of it -/
theorem DPAt.reads {w : World} {b : Nat} {g : DGh} {m : Pt} (h : DPAt w b g m) : ∃ va oa cv co, DRead w b m.W m.H va oa cv co m.v ∧ g.vv = .slice va m.v.length cv ∧ g.ov = .slice oa m.v.length co := by
  obtain ⟨va, cv, e1, hw, _⟩ := own_wins' (m.v.wins_length).symm h.vw
  obtain ⟨oa, co, e2, ho, _⟩ := own_offs (m.v.offs_length).symm h.of
  refine ⟨va, oa, cv, co, ⟨h.st.cell 0, h.st.cell 1, ?_, ?_, hw, ho⟩, e1, e2⟩
  · rw [← e1]; exact h.st.cell 2
  · rw [← e2]; exact h.st.cell 3
theorem cell_bd' (v : V) (hv : v.Ok) (x y : Int) : 0 ≤ (v.cell x y).2 ∧ (v.cell x y).2 ≤ 255 := by
  unfold V.cell
  cases h : v.best x y v.length with
  | none => simp
  | some j =>
    have ok := (hv.at (v.best_lt x y _ j h)).1
    have h1 := ok.s1
    have h2 := ok.s2
    simp only [Win.cell]
    omega

theorem dgrid_any (w : World) (b : Nat) (g : DGh) (m : Pt) (h : DPAt w b g m) :
    Calls Tryz.prog 27 #[.pointer (some ⟨b, 0, none⟩)] w (DGridPost w m.v m.W m.H) := by
  obtain ⟨va, oa, cv, co, r, _, _⟩ := h.reads
  exact rgrid_any b m.W m.H va oa cv co m.v w r h.ok h.w1 h.w2 h.h1 h.h2

set_option maxHeartbeats 1000000 in
set_option maxRecDepth 100000 in
theorem drow_yes (w : World) (b : Nat) (g : DGh) (m : Pt) (h : DPAt w b g m) (y : Int) (hy : 0 ≤ y) (hy2 : y < m.H) :
    Calls Tryz.prog 55 #[.pointer (some ⟨b, 0, none⟩), .int .i64 y] w fun e w' => e = .returned (.tuple #[.string (strOfNums ((rowOf m.W y (m.v.grid m.W m.H)).map (·.1))), .string (strOfNums ((rowOf m.W y (m.v.grid m.W m.H)).map (·.2))), .int .i64 0]) ∧ Fr [] w w' := by
  have GR := hide (dgrid_any w b g m h)
  have c1 : w.cell? ⟨b, 1, none⟩ = some (.int .i64 m.H) := h.st.cell 1
  have mb := mul_bd h.w1 h.w2 h.h1 h.h2
  have H := hide h
  have hlen : (m.v.grid m.W m.H).length = (m.W * m.H).toNat := m.v.grid_length m.W m.H
  clear h
  go_enter Tryz.func55, Tryz.ntmps55
  go_wp2_with fail
  refine GR.out.mono ?_
  rintro e w1 ⟨u, rfl, hu, f1⟩
  have c0 : w1.cell? ⟨b, 0, none⟩ = some (.int .i64 m.W) := (H.out.fr0 f1).st.cell 0
  rcases hu.2 with ⟨_, h00⟩ | ⟨gg, cap, cur, rfl, hb, hg, hc1, hc2, hc3, hc4⟩
  · omega
  have RR : Hid (RRow w1 gg cap (cur.toList.drop ((m.W * m.H).toNat * 2)) (m.v.grid m.W m.H)) := by
    refine ⟨?_, by rw [hlen]; exact hc1⟩
    rw [← hc4, List.take_append_drop]; exact hg
  have RA := hide (rrow_any m.W m.H y w1 gg cap _ _ RR.out H.out.w1 H.out.w2 H.out.h2 (by rw [hlen]; omega) hy hy2 (by
    intro c hc
    simp only [V.grid, V.gridTo, List.mem_map] at hc
    obtain ⟨i, _, rfl⟩ := hc
    exact cell_bd' m.v H.out.ok _ _))
  rw [hlen] at RA
  have F1 := hide f1
  clear hu hg hc1 hc2 hc3 hc4 hb f1 GR RR
  go_wp2_with fail
  refine RA.out.mono ?_
  rintro e w2 ⟨rfl, f2⟩
  have F2 := hide (F1.out.then f2)
  clear f2
  go_wp2
  go_ret3
  exact ⟨rfl, F2.out⟩
theorem drow_no (w : World) (b : Nat) (g : DGh) (m : Pt) (h : DPAt w b g m) (y : Int) (hy : y < 0 ∨ m.H ≤ y) :
    Calls Tryz.prog 55 #[.pointer (some ⟨b, 0, none⟩), .int .i64 y] w fun e w' => e = .returned (.tuple #[.string ByteArray.empty, .string ByteArray.empty, .int .i64 8]) ∧ w = w' := by
  have c1 : w.cell? ⟨b, 1, none⟩ = some (.int .i64 m.H) := h.st.cell 1
  clear h
  rcases hy with hy | hy
  · go_enter Tryz.func55, Tryz.ntmps55
    go_wp2
    go_ret3
    exact ⟨rfl, rfl⟩
  · by_cases hz : y < 0
    · go_enter Tryz.func55, Tryz.ntmps55
      go_wp2
      go_ret3
      exact ⟨rfl, rfl⟩
    · go_enter Tryz.func55, Tryz.ntmps55
      go_wp2
      go_ret3
      exact ⟨rfl, rfl⟩
theorem drow_nil (w : World) (y : Int) :
    Calls Tryz.prog 55 #[.pointer none, .int .i64 y] w fun e w' => e = .returned (.tuple #[.string ByteArray.empty, .string ByteArray.empty, .int .i64 1]) ∧ w = w' := by
  go_enter Tryz.func55, Tryz.ntmps55
  go_wp2
  go_ret3
  exact ⟨rfl, rfl⟩

set_option maxHeartbeats 1000000 in
theorem dturn_yes (w : World) (b : Nat) (g : DGh) (m : Pt) (h : DPAt w b g m) (a c : Int) (h1 : 1 ≤ a) (h2 : a ≤ 40) (h3 : 1 ≤ c) (h4 : c ≤ 20) :
    Calls Tryz.prog 52 #[.pointer (some ⟨b, 0, none⟩), .int .i64 a, .int .i64 c] w fun e w' => e = .returned (.int .i64 0) ∧ DUpd b g { m with W := a, H := c } w w' := by
  have c0 : w.cell? ⟨b, 0, none⟩ = some (.int .i64 m.W) := h.st.cell 0
  have c1 : w.cell? ⟨b, 1, none⟩ = some (.int .i64 m.H) := h.st.cell 1
  have z0 := h.st.frozen 0
  have z1 := h.st.frozen 1
  have U : Hid (DUpd b g { m with W := a, H := c } w ((w.setCell ⟨b, 0, none⟩ (.int .i64 a)).setCell ⟨b, 1, none⟩ (.int .i64 c))) := by
    have f : Fr [b] w ((w.setCell ⟨b, 0, none⟩ (.int .i64 a)).setCell ⟨b, 1, none⟩ (.int .i64 c)) := ((Fr.refl _ _).setCell (.inl (by simp)) _).setCell (.inl (by simp)) _
    refine ⟨g, ⟨(h.st.set 0 _).set 1 _, own_fr h.vw f ?_, own_fr h.of f ?_, h.ok, h1, h2, h3, h4⟩, f.mono (by intro i hi; simp at hi; subst hi; simp [dfoot]), fun x hx => .inl hx⟩
    · intro x hx; simp at hx; subst hx; exact own_ne h.vw h.st (by decide)
    · intro x hx; simp at hx; subst hx; exact own_ne h.of h.st (by decide)
  clear h
  go_enter Tryz.func52, Tryz.ntmps52
  go_wp2_with (go_at_call 14; refine (rsize_yes _ _ _ h1 h2 h3 h4).mono ?_; rintro e w' ⟨rfl, rfl⟩)
  go_ret
  exact ⟨rfl, U.out⟩
theorem dturn_no (w : World) (pb : Addr) (a c : Int) (hz : sizeB a c = false) :
    Calls Tryz.prog 52 #[.pointer (some pb), .int .i64 a, .int .i64 c] w fun e w' => e = .returned (.int .i64 2) ∧ w = w' := by
  go_enter Tryz.func52, Tryz.ntmps52
  go_wp2_with (go_at_call 14; refine (rsize_no _ _ _ hz).mono ?_; rintro e w' ⟨rfl, rfl⟩)
  go_ret
  exact ⟨rfl, rfl⟩
theorem dturn_nil (w : World) (a c : Int) :
    Calls Tryz.prog 52 #[.pointer none, .int .i64 a, .int .i64 c] w fun e w' => e = .returned (.int .i64 1) ∧ w = w' := by
  go_enter Tryz.func52, Tryz.ntmps52
  go_wp2
  go_ret
  exact ⟨rfl, rfl⟩

/-- a new one of this size -/
def DPost (w : World) (W H : Int) (e : Ending) (w' : World) : Prop :=
  ∃ b g, e = .returned (.tuple #[.pointer (some ⟨b, 0, none⟩), .int .i64 0]) ∧ (∀ x ∈ dfoot b g, w.heap.size ≤ x) ∧ Fr [] w w' ∧ DPAt w' b g ⟨W, H, [], 0, 0⟩
set_option maxHeartbeats 1000000 in
theorem newPaint_yes (W H : Int) (w : World) (h1 : 1 ≤ W) (h2 : W ≤ 40) (h3 : 1 ≤ H) (h4 : H ≤ 20) :
    Calls Tryz.prog 26 #[.int .i64 W, .int .i64 H] w (DPost w W H) := by
  go_enter Tryz.func26, Tryz.ntmps26
  go_wp2_with (go_at_call 14; refine (rsize_yes _ _ _ h1 h2 h3 h4).mono ?_; rintro e w' ⟨rfl, rfl⟩)
  go_ret2
  refine ⟨w.heap.size, ⟨.slice none 0 0, .slice none 0 0⟩, rfl, ?_, (Fr.refl _ _).alloc _, Blk.new _ _ _, World.ownsRow_nil _ _ _ _, World.ownsRow_nil _ _ _ _, V.ok_nil, h1, h2, h3, h4⟩
  intro x hx
  simp only [dfoot, List.mem_cons, Value.ownBlock, Option.toList, List.append_nil, List.not_mem_nil, or_false] at hx
  omega
theorem newPaint_no (W H : Int) (w : World) (h : sizeB W H = false) :
    Calls Tryz.prog 26 #[.int .i64 W, .int .i64 H] w fun e w' => e = .returned (.tuple #[.pointer none, .int .i64 2]) ∧ w = w' := by
  go_enter Tryz.func26, Tryz.ntmps26
  go_wp2_with (go_at_call 14; refine (rsize_no _ _ _ h).mono ?_; rintro e w' ⟨rfl, rfl⟩)
  go_ret2
  exact ⟨rfl, rfl⟩
end Go.Proofs.YtjhccghhinlmdabGreatDoor
/- The document's painter: a window is scrolled. -/
namespace Go.Proofs.YtjhccghhinlmdabGreatDoor
open Go.RowKit

def dleast (a b : Int) : Int := if a < b then a else b
set_option maxHeartbeats 400000 in
theorem dleast_any (a b : Int) (w : World) :
    Calls Tryz.prog 40 #[.int .i64 a, .int .i64 b] w fun e w' => e = .returned (.int .i64 (dleast a b)) ∧ w = w' := by
  by_cases h : a < b
  · have E : Hid (dleast a b = a) := if_pos h
    go_enter Tryz.func40, Tryz.ntmps40
    go_wp2
    go_ret
    exact ⟨ret_int E.out.symm, rfl⟩
  · have E : Hid (dleast a b = b) := if_neg h
    go_enter Tryz.func40, Tryz.ntmps40
    go_wp2
    go_ret
    exact ⟨ret_int E.out.symm, rfl⟩
theorem fits_least (o : Win) (ok : o.Ok) (n : Int) : o.fits n = dleast (if n < 0 then 0 else n) o.most := by
  have := o.most_bd ok
  unfold Win.fits dleast Win.most at *
  (repeat' split) <;> (repeat' split at this) <;> omega

theorem wins_drop {v : V} {k : Nat} (h : k < v.length) : v.drop k = ((v.at k).1, (v.at k).2) :: v.drop (k + 1) := by
  rw [List.drop_eq_getElem_cons h]
  congr 1
  have := V.at_some h
  rw [List.getElem?_eq_getElem h] at this
  simpa using this

set_option maxHeartbeats 2000000 in
set_option maxRecDepth 100000 in
theorem dscroll_none (w : World) (b : Nat) (g : DGh) (m : Pt) (h : DPAt w b g m) (key n : Int) (hi : m.v.idx key = none) :
    Calls Tryz.prog 50 #[.pointer (some ⟨b, 0, none⟩), .int .i64 key, .int .i64 n] w fun e w' => e = .returned (.int .i64 4) ∧ w = w' := by
  obtain ⟨va, oa, cv, co, r, _, _⟩ := h.reads
  have c2 := r.c2
  have n12 := h.ok.n
  have HR := hide r
  have HI := hide hi
  clear h hi r
  generalize m.v = v at *
  go_enter Tryz.func50, Tryz.ntmps50
  go_wp2
  go_loopw [7] (fun i wr => ∃ k : Nat, i = .int .i64 k ∧ k ≤ v.length ∧ w = wr ∧ V.idx (v.drop k) key = none) (fun i _ => (3000 - intOf i).toNat)
  case atStart => exact ⟨0, rfl, by omega, rfl, HI.out⟩
  case round =>
    obtain ⟨k, rfl, hk, rfl, he⟩ := hrel
    by_cases hend : k < v.length
    · obtain ⟨gb, off, rfl, C⟩ := HR.out.ws k _ (wins_at hend)
      have c0 := C.c0
      have b1 : (k : Int) < v.length := by omega
      rw [wins_drop hend, V.idx_cons] at he
      have hq : (v.at k).1.key ≠ key := by intro hq; rw [if_pos hq] at he; cases he
      rw [if_neg hq] at he
      have E := hide (show V.idx (v.drop (k + 1)) key = none by simpa using he)
      have bq : ((v.at k).1.key == key) = false := by simpa using hq
      clear he C HR hq
      go_wp2
      go_roundw
      case rel => exact ⟨k + 1, by go_num, by omega, by trivial, E.out⟩
      case measure => simp [intOf]; omega
    · go_wp2
      go_ret
      exact ⟨rfl, rfl⟩
set_option maxHeartbeats 2000000 in
set_option maxRecDepth 100000 in
theorem dscroll_far (w : World) (b : Nat) (g : DGh) (m : Pt) (h : DPAt w b g m) (key n : Int) (i : Nat) (hi : m.v.idx key = some i) (hf : n < -500 ∨ 500 < n) :
    Calls Tryz.prog 50 #[.pointer (some ⟨b, 0, none⟩), .int .i64 key, .int .i64 n] w fun e w' => e = .returned (.int .i64 8) ∧ w = w' := by
  obtain ⟨va, oa, cv, co, r, _, _⟩ := h.reads
  have c2 := r.c2
  have n12 := h.ok.n
  have HR := hide r
  have HI := hide hi
  clear h hi r
  generalize m.v = v at *
  go_enter Tryz.func50, Tryz.ntmps50
  go_wp2
  go_loopw [7] (fun i wr => ∃ k : Nat, i = .int .i64 k ∧ k ≤ v.length ∧ w = wr ∧ ∃ j, V.idx (v.drop k) key = some j) (fun i _ => (3000 - intOf i).toNat)
  case atStart => exact ⟨0, rfl, by omega, rfl, i, HI.out⟩
  case round =>
    obtain ⟨k, rfl, hk, rfl, j, he⟩ := hrel
    by_cases hend : k < v.length
    · obtain ⟨gb, off, rfl, C⟩ := HR.out.ws k _ (wins_at hend)
      have c0 := C.c0
      have b1 : (k : Int) < v.length := by omega
      rw [wins_drop hend, V.idx_cons] at he
      by_cases hq : (v.at k).1.key = key
      · have bq : ((v.at k).1.key == key) = true := by simpa using hq
        clear he C HR hq
        rcases hf with hf | hf
        · go_wp2
          go_ret
          exact ⟨rfl, rfl⟩
        · go_wp2
          go_ret
          exact ⟨rfl, rfl⟩
      · rw [if_neg hq] at he
        have E : Hid (∃ j, V.idx (v.drop (k + 1)) key = some j) := by
          obtain ⟨q, hq, _⟩ := Option.map_eq_some_iff.1 he
          exact ⟨q, hq⟩
        have bq : ((v.at k).1.key == key) = false := by simpa using hq
        clear he C HR hq
        go_wp2
        go_roundw
        case rel => exact ⟨k + 1, by go_num, by omega, by trivial, E.out⟩
        case measure => simp [intOf]; omega
    · rw [List.drop_eq_nil_of_le (by omega)] at he; cases he
theorem dscroll_nil (w : World) (key n : Int) :
    Calls Tryz.prog 50 #[.pointer none, .int .i64 key, .int .i64 n] w fun e w' => e = .returned (.int .i64 1) ∧ w = w' := by
  go_enter Tryz.func50, Tryz.ntmps50
  go_wp2
  go_ret
  exact ⟨rfl, rfl⟩

/-- one value of a slice of one's own is written -/
theorem own_set {w : World} {base : Nat} {e : TypeId} {g n cap : Nat} {xs : List Value} (h : w.ownsRow base e 1 (.slice (some ⟨g, 0, none⟩) n cap) n xs) (i : Nat) (v : Value) : (w.setCell ⟨g, i, none⟩ v).ownsRow base e 1 (.slice (some ⟨g, 0, none⟩) n cap) n (xs.set i v) := by
  rcases h.2 with ⟨hv, _⟩ | ⟨g', cap', cur, hv, hb, hg, hc1, hc2, hc3, hc4⟩
  · simp at hv
  · simp only [Value.slice.injEq, Option.some.injEq, Addr.mk.injEq] at hv
    obtain ⟨⟨rfl, _⟩, _, rfl⟩ := hv
    refine ⟨by rw [List.length_set]; exact h.1, .inr ⟨g, cap, cur.setIfInBounds i v, rfl, hb, heap_setCell_same w g i cur e v hg, hc1, hc2, by simpa using hc3, ?_⟩⟩
    rw [Array.toList_setIfInBounds, ← hc4]
    rw [List.take_set]
theorem V.put_wins (v : V) (i : Nat) (n : Int) (h : i < v.length) : (v.put i n).wins = v.wins ∧ (v.put i n).offs = v.offs.set i n ∧ (v.put i n).length = v.length := by
  refine ⟨?_, ?_, by simp [V.put]⟩
  · unfold V.put V.wins
    apply List.ext_getElem?
    intro j
    rw [List.getElem?_map, List.getElem?_map]
    by_cases e : j = i
    · subst e; rw [List.getElem?_set_self h, V.at_some h]; rfl
    · rw [List.getElem?_set_ne (fun q => e q.symm)]
  · unfold V.put V.offs; rw [List.map_set]
end Go.Proofs.YtjhccghhinlmdabGreatDoor
/- The document's painter: a window is scrolled, as far as its text goes. -/
namespace Go.Proofs.YtjhccghhinlmdabGreatDoor
open Go.RowKit

set_option maxHeartbeats 2000000 in
set_option maxRecDepth 100000 in
theorem dscroll_yes (w : World) (b : Nat) (g : DGh) (m : Pt) (h : DPAt w b g m) (key n : Int) (i : Nat) (hi : m.v.idx key = some i) (n1 : -500 ≤ n) (n2 : n ≤ 500) :
    Calls Tryz.prog 50 #[.pointer (some ⟨b, 0, none⟩), .int .i64 key, .int .i64 n] w fun e w' => e = .returned (.int .i64 0) ∧ DUpd b g { m with v := m.v.scroll i n } w w' := by
  obtain ⟨va, oa, cv, co, r, ev, eo⟩ := h.reads
  have c2 := r.c2
  have n12 := h.ok.n
  have il := V.idx_lt hi
  have HR := hide r
  have HI := hide hi
  have H := hide h
  clear h hi r
  go_enter Tryz.func50, Tryz.ntmps50
  go_wp2
  go_loopw [7] (fun u wr => ∃ k : Nat, u = .int .i64 k ∧ k ≤ m.v.length ∧ w = wr ∧ ∃ j, V.idx (m.v.drop k) key = some j ∧ i = k + j) (fun i _ => (3000 - intOf i).toNat)
  case atStart => exact ⟨0, rfl, by omega, rfl, i, HI.out, by omega⟩
  case round =>
    obtain ⟨k, rfl, hk, rfl, j, he, hj⟩ := hrel
    by_cases hend : k < m.v.length
    · obtain ⟨gb, off, rfl, C⟩ := HR.out.ws k _ (wins_at hend)
      obtain ⟨og, rfl, co'⟩ := HR.out.os k _ (offs_at hend)
      have c3 := HR.out.c3
      have b1 : (k : Int) < m.v.length := by omega
      rw [wins_drop hend, V.idx_cons] at he
      by_cases hq : (m.v.at k).1.key = key
      · rw [if_pos hq] at he
        have hj0 : j = 0 := by simpa using he.symm
        subst hj0
        simp only [Nat.add_zero] at hj
        subst hj
        obtain ⟨okw, of1, of2⟩ := H.out.ok.at hend
        obtain ⟨a0, a1, a2, a3, a4, a5, a6, a7⟩ := C
        have GT := hide (fun w' => greatest_any (m.v.at i).1 w' okw)
        have mbd := (m.v.at i).1.most_bd okw
        have FL := hide (fits_least (m.v.at i).1 okw ((m.v.at i).2 + n))
        have bq : ((m.v.at i).1.key == key) = true := by simpa using hq
        have bne : og ≠ b := by
          have hof := H.out.of
          rw [eo] at hof
          have := own_ne hof H.out.st (by decide)
          intro e; subst e; exact this rfl
        have SV : Hid (∀ w1, Fr [] w w1 → DUpd b g { m with v := m.v.scroll i n } w (w1.setCell ⟨og, i, none⟩ (.int .i64 ((m.v.at i).1.fits ((m.v.at i).2 + n))))) := by
          intro w1 f1
          have h1 := H.out.fr0 f1
          have f2 : Fr [og] w1 (w1.setCell ⟨og, i, none⟩ (.int .i64 ((m.v.at i).1.fits ((m.v.at i).2 + n)))) := (Fr.refl _ _).setCell (.inl (by simp)) _
          obtain ⟨e1, e2, e3⟩ := V.put_wins m.v i ((m.v.at i).1.fits ((m.v.at i).2 + n)) hend
          have hof := h1.of
          rw [eo] at hof
          refine ⟨g, ⟨h1.st.fr f2 (by simpa using fun e => bne e.symm), ?_, ?_, V.ok_scroll H.out.ok i hend n, h1.w1, h1.w2, h1.h1, h1.h2⟩, ?_, fun x hx => .inl hx⟩
          · show (w1.setCell _ _).ownsRow 0 _ 8 g.vv (m.v.put i _).length (flatW (m.v.put i _).wins)
            rw [e1, e3]
            refine own_fr h1.vw f2 ?_
            intro x hx he'
            simp at hx; subst hx
            obtain ⟨us, hu⟩ := own_blk' h1.vw he'.symm
            obtain ⟨us2, hu2⟩ := own_blk' hof (g := x) rfl
            exact (hu.ne hu2 (by decide)) rfl
          · show (w1.setCell _ _).ownsRow 0 _ 1 g.ov (m.v.put i _).length ((m.v.put i _).offs.map (Value.int .i64))
            rw [e2, e3, eo, List.map_set]
            exact own_set hof i _
          · refine (f1.of_nil).then (f2.mono ?_)
            intro x hx; simp at hx; subst hx
            simp [dfoot, eo, Value.ownBlock]
        have z := hide (show ∀ w1, Fr [] w w1 → w1.frozen? ⟨og, i, none⟩ = false from fun w1 f1 => by
          have hof := (H.out.fr0 f1).of
          rw [eo] at hof
          obtain ⟨us2, hu2⟩ := own_blk' hof (g := og) rfl
          exact hu2.frozen i)
        clear he hq HR HI okw
        go_wp2_with fail
        refine (GT.out _).mono ?_
        rintro e w1 ⟨rfl, f1⟩
        have d3 := f1.cell' c3
        have do' := f1.cell' co'
        have zz := z.out w1 f1
        have SV1 := hide (SV.out w1 f1)
        have zd : w1.drew.frozen? ⟨og, i, none⟩ = false := zz
        have bl : og < w1.heap.size := World.block_lt_of_cell? w1 _ do'
        have SVD := hide (SV.out w1.drew f1.drew)
        have ne1 : og ≠ b := bne
        have ne2 : b ≠ og := fun e => bne e.symm
        clear f1 SV z c2 c3 a0 a1 a2 a3 a4 a5 a6 a7
        generalize (m.v.at i).1.fits ((m.v.at i).2 + n) = fv at *
        generalize (m.v.at i).1.most = mo at *
        generalize (m.v.at i).2 = oi at *
        have wrp : IntKind.i64.wrap (oi + n) = oi + n := by rw [IntKind.wrap_i64]; omega
        by_cases hneg : oi + n < 0
        · rw [if_pos hneg] at FL
          have LS : Hid (∀ w', Calls Tryz.prog 40 #[.int .i64 0, .int .i64 mo] w' fun e w'' => e = .returned (.int .i64 fv) ∧ w' = w'') := by
            intro w'; have := dleast_any 0 mo w'; rw [← FL.out] at this; exact this
          go_wp2
          go_region_held (fun w' => w'.cell? ⟨b, 3, none⟩ = some (.slice (some ⟨og, 0, none⟩) m.v.length co)) (go_keep) ((go_at_call 40; refine (LS.out _).mono ?_; rintro e w' ⟨rfl, wc⟩; subst wc))
          all_goals go_wp2
          all_goals
            go_ret
            exact ⟨rfl, SVD.out⟩
        · rw [if_neg hneg] at FL
          have LS : Hid (∀ w', Calls Tryz.prog 40 #[.int .i64 (oi + n), .int .i64 mo] w' fun e w'' => e = .returned (.int .i64 fv) ∧ w' = w'') := by
            intro w'; have := dleast_any (oi + n) mo w'; rw [← FL.out] at this; exact this
          go_wp2
          go_region_held (fun w' => w'.cell? ⟨b, 3, none⟩ = some (.slice (some ⟨og, 0, none⟩) m.v.length co)) (go_keep) ((go_at_call 40; refine (LS.out _).mono ?_; rintro e w' ⟨rfl, wc⟩; subst wc))
          all_goals go_wp2
          all_goals
            go_ret
            exact ⟨rfl, SVD.out⟩
      · rw [if_neg hq] at he
        have E : Hid (∃ j, V.idx (m.v.drop (k + 1)) key = some j ∧ i = k + 1 + j) := by
          obtain ⟨q, hq, hq2⟩ := Option.map_eq_some_iff.1 he
          exact ⟨q, hq, by omega⟩
        have bq : ((m.v.at k).1.key == key) = false := by simpa using hq
        have c0 := C.c0
        clear he C HR hq
        go_wp2
        go_roundw
        case rel => exact ⟨k + 1, by go_num, by omega, by trivial, E.out⟩
        case measure => simp [intOf]; omega
    · rw [List.drop_eq_nil_of_le (by omega)] at he; cases he
end Go.Proofs.YtjhccghhinlmdabGreatDoor
/- The document's painter: why a window may not be where it is in the view. -/
namespace Go.Proofs.YtjhccghhinlmdabGreatDoor
open Go.RowKit

theorem any_take (ws : List Win) (k : Nat) (o q : Win) (h : ws[k]? = some q) : (ws.take (k + 1)).any (fun z => z.key == o.key) = ((ws.take k).any (fun z => z.key == o.key) || (q.key == o.key)) := by
  rw [List.take_add_one, h, List.any_append]
  simp
theorem any_more (ws : List Win) (k i : Nat) (o : Win) (hk : k ≤ i) (h : (ws.take k).any (fun z => z.key == o.key) = true) : (ws.take i).any (fun z => z.key == o.key) = true := by
  rw [List.any_eq_true] at h ⊢
  obtain ⟨z, hz, he⟩ := h
  refine ⟨z, ?_, he⟩
  rw [List.mem_iff_getElem?] at hz ⊢
  obtain ⟨j, hj⟩ := hz
  have hjk : j < k := by
    rcases Nat.lt_or_ge j k with e | e
    · exact e
    · rw [List.getElem?_eq_none (by simp; omega)] at hj; cases hj
  refine ⟨j, ?_⟩
  rw [List.getElem?_take_of_lt hjk] at hj
  rw [List.getElem?_take_of_lt (by omega)]; exact hj

set_option maxHeartbeats 4000000 in
set_option maxRecDepth 100000 in
theorem refused'_any (ws : List Win) (i : Nat) (o : Win) (av : Option Addr) (n cap : Nat) (w : World) (hw : WinsAt w av ws) (hn : ws.length = n) (hl : n ≤ 1000) (ho : ws[i]? = some o) (hsz : o.text.size ≤ 9223372036854775807) :
    Calls Tryz.prog 72 #[.slice av n cap, .int .i64 i] w fun e w' => e = .returned (.int .i64 (errAt ws i o)) ∧ Fr [] w w' := by
  subst hn
  have hil : i < ws.length := (List.getElem?_eq_some_iff.1 ho).1
  have HE : Hid (errAt ws i o = if o.key < 1 ∨ 999 < o.key ∨ (ws.take i).any (fun q => q.key == o.key) = true then 4
    else if o.x < -99 ∨ 99 < o.x ∨ o.y < -99 ∨ 99 < o.y ∨ o.w < 1 ∨ 99 < o.w ∨ o.h < 1 ∨ 99 < o.h then 5
    else if o.layer < -9 ∨ 9 < o.layer ∨ o.style < 0 ∨ 15 < o.style then 6
    else if 400 < o.text.size then 7
    else 0) := rfl
  obtain ⟨gb, off, rfl, C⟩ := hw i o ho
  obtain ⟨c0, c1, c2, c3, c4, c5, c6, c7⟩ := C
  have HW := hide hw
  have b1 : (i : Int) < ws.length := by omega
  have gl : gb < w.heap.size := World.block_lt_of_cell? w _ c0
  clear hw ho
  by_cases h1 : o.key < 1
  · have E : Hid (errAt ws i o = 4) := by show _ = _; rw [HE.out, if_pos (.inl h1)]
    go_enter Tryz.func72, Tryz.ntmps72
    go_wp2
    go_ret
    exact ⟨ret_int E.out.symm, (Fr.refl _ _).alloc _⟩
  by_cases h2 : 999 < o.key
  · have E : Hid (errAt ws i o = 4) := by show _ = _; rw [HE.out, if_pos (.inr (.inl h2))]
    go_enter Tryz.func72, Tryz.ntmps72
    go_wp2
    go_ret
    exact ⟨ret_int E.out.symm, (Fr.refl _ _).alloc _⟩
  go_enter Tryz.func72, Tryz.ntmps72
  go_wp2
  go_loopw [6] (fun u wr => ∃ k : Nat, u = .int .i64 k ∧ k ≤ i ∧ Fr [] w wr ∧ Blk wr w.heap.size o.vals 104 ∧ (ws.take k).any (fun z => z.key == o.key) = false) (fun u _ => (3000 - intOf u).toNat)
  case atStart => exact ⟨0, rfl, by omega, (Fr.refl _ _).alloc _, Blk.new w o.vals 104, by simp⟩
  case round =>
    obtain ⟨k, rfl, hk, f, B, hno⟩ := hrel
    by_cases hend : k < i
    · obtain ⟨q, hq⟩ : ∃ q, ws[k]? = some q := ⟨_, List.getElem?_eq_getElem (by omega)⟩
      obtain ⟨gb', off', he, C'⟩ := HW.out.fr f (by simp) k q hq
      simp only [Option.some.injEq, Addr.mk.injEq, and_true] at he
      obtain ⟨rfl, rfl⟩ := he
      have d0 := C'.c0
      have e0 : wr.cell? ⟨w.heap.size, 0, none⟩ = some (.int .i64 o.key) := B.cell 0
      have AT := hide (any_take ws k o q hq)
      have bk : (k : Int) < ws.length := by omega
      have bk2 : (k : Int) < i := by omega
      have HB := hide B
      rw [hno] at AT
      clear C' B hq
      by_cases hqk : q.key = o.key
      · have bq : (q.key == o.key) = true := by simpa using hqk
        have E : Hid (errAt ws i o = 4) := by
          show _ = _
          rw [HE.out, if_pos (.inr (.inr (any_more ws (k + 1) i o (by omega) (by rw [AT.out]; simp [bq]))))]
        clear hqk hno HE AT
        go_wp2
        go_quiet (fail)
        go_wp2
        go_ret
        exact ⟨ret_int E.out.symm, f.drewN _⟩
      · have bq : (q.key == o.key) = false := by simpa using hqk
        have E := hide (show (ws.take (k + 1)).any (fun z => z.key == o.key) = false by rw [AT.out, bq]; rfl)
        clear hqk hno HE AT
        go_wp2
        go_quiet (fail)
        go_wp2
        go_roundw
        case rel => exact ⟨k + 1, by go_num, by omega, f.drewN _, HB.out.drewN _, E.out⟩
        case measure => simp [intOf]; omega
    · have hk' : k = i := by omega
      subst hk'
      have E : Hid (errAt ws k o = if o.x < -99 ∨ 99 < o.x ∨ o.y < -99 ∨ 99 < o.y ∨ o.w < 1 ∨ 99 < o.w ∨ o.h < 1 ∨ 99 < o.h then 5
          else if o.layer < -9 ∨ 9 < o.layer ∨ o.style < 0 ∨ 15 < o.style then 6
          else if 400 < o.text.size then 7 else 0) := by
        show _ = _
        rw [HE.out, if_neg (by rw [hno]; simp; omega)]
      have e1 : wr.cell? ⟨w.heap.size, 1, none⟩ = some (.int .i64 o.x) := B.cell 1
      have e2 : wr.cell? ⟨w.heap.size, 2, none⟩ = some (.int .i64 o.y) := B.cell 2
      have e3 : wr.cell? ⟨w.heap.size, 3, none⟩ = some (.int .i64 o.w) := B.cell 3
      have e4 : wr.cell? ⟨w.heap.size, 4, none⟩ = some (.int .i64 o.h) := B.cell 4
      have e5 : wr.cell? ⟨w.heap.size, 5, none⟩ = some (.int .i64 o.layer) := B.cell 5
      have e6 : wr.cell? ⟨w.heap.size, 6, none⟩ = some (.int .i64 o.style) := B.cell 6
      have e7 : wr.cell? ⟨w.heap.size, 7, none⟩ = some (.string o.text) := B.cell 7
      clear B hno HE HW c0 c1 c2 c3 c4 c5 c6 c7
      by_cases p5 : o.x < -99 ∨ 99 < o.x ∨ o.y < -99 ∨ 99 < o.y
      · have E5 : Hid (errAt ws k o = 5) := by show _ = _; rw [E.out, if_pos (by omega)]
        rcases p5 with p | p | p | p
        all_goals
          go_wp2
          all_goals
            go_ret
            exact ⟨ret_int E5.out.symm, f⟩
      have q1 : -99 ≤ o.x := by omega
      have q2 : o.x ≤ 99 := by omega
      have q3 : -99 ≤ o.y := by omega
      have q4 : o.y ≤ 99 := by omega
      by_cases p6 : o.w < 1 ∨ 99 < o.w ∨ o.h < 1 ∨ 99 < o.h
      · have E5 : Hid (errAt ws k o = 5) := by show _ = _; rw [E.out, if_pos (by omega)]
        clear p5
        rcases p6 with p | p | p | p
        all_goals
          go_wp2
          all_goals
            go_ret
            exact ⟨ret_int E5.out.symm, f⟩
      have q5 : 1 ≤ o.w := by omega
      have q6 : o.w ≤ 99 := by omega
      have q7 : 1 ≤ o.h := by omega
      have q8 : o.h ≤ 99 := by omega
      by_cases p7 : o.layer < -9 ∨ 9 < o.layer ∨ o.style < 0 ∨ 15 < o.style
      · have E6 : Hid (errAt ws k o = 6) := by show _ = _; rw [E.out, if_neg (by omega), if_pos p7]
        clear p5 p6
        rcases p7 with p | p | p | p
        all_goals
          go_wp2
          all_goals
            go_ret
            exact ⟨ret_int E6.out.symm, f⟩
      have r1 : -9 ≤ o.layer := by omega
      have r2 : o.layer ≤ 9 := by omega
      have r3 : 0 ≤ o.style := by omega
      have r4 : o.style ≤ 15 := by omega
      by_cases p8 : 400 < o.text.size
      · have E7 : Hid (errAt ws k o = 7) := by show _ = _; rw [E.out, if_neg (by omega), if_neg p7, if_pos p8]
        clear p5 p6 p7
        go_wp2
        go_ret
        exact ⟨ret_int E7.out.symm, f⟩
      · have E0 : Hid (errAt ws k o = 0) := by show _ = _; rw [E.out, if_neg (by omega), if_neg p7, if_neg p8]
        clear p5 p6 p7
        go_wp2
        go_ret
        exact ⟨ret_int E0.out.symm, f⟩
end Go.Proofs.YtjhccghhinlmdabGreatDoor
