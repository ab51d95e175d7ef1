/- The program's painter: where it lies, what is to stand on its terminal, and what brings its grid up to the view. -/
import Derived.Test.YtjhccghhinlmdaaDoorPaintScroll
import Derived.Test.YtjhccghhinlmdaaDoorPaintChars
import Derived.Test.YtjhccghhinlmdaaDoorBrushWhole
namespace Go.Proofs.YtjhccghhinlmdaaDoor
open Go.RowKit

/-- a painter as plain data -/
structure Pt where
  W : Int
  H : Int
  v : V
  cx : Int
  cy : Int
/-- does the cursor's place lie on the screen? -/
def Pt.on (m : Pt) : Bool := decide (0 ≤ m.cx) && decide (m.cx < m.W) && decide (0 ≤ m.cy) && decide (m.cy < m.H)
/-- the cursor as it is to be seen -/
def Pt.cur (m : Pt) : Cur := ⟨if m.on then m.cx else 0, if m.on then m.cy else 0, m.on⟩
def Pt.grid (m : Pt) : List (Int × Int) := m.v.grid m.W m.H
theorem Pt.cur_on (m : Pt) : m.cur.shown = true → 0 ≤ m.cur.x ∧ m.cur.x < m.W ∧ 0 ≤ m.cur.y ∧ m.cur.y < m.H := by
  intro h
  have h : m.on = true := h
  simp only [Pt.cur, h, if_true]
  simp [Pt.on] at h
  omega
/-- the bytes that turn the terminal of one painter into that of another -/
def Pt.told (m m' : Pt) : List Int := change m'.W m'.H m.grid m'.grid m.cur m'.cur
def Pt.whole (m : Pt) : List Int := Proofs.YtjhccghhinlmdaaDoor.whole m.W m.H m.grid m.cur
/-- where its parts lie -/
structure PGh where
  bg : Nat
  bc : Nat
  gcap : Nat
  sp : List Value
  pv : Value
  ps : List Pane
def pfoot (b : Nat) (g : PGh) : List Nat := b :: g.bg :: g.bc :: (g.pv.ownBlock.toList ++ g.ps.map Pane.lb)
/-- a painter lies at block b; its grid's cells are l -/
structure PntRaw (w : World) (b : Nat) (g : PGh) (m : Pt) (l : List (Int × Int)) : Prop where
  st : Blk w b [.pointer (some ⟨g.bg, 0, none⟩), g.pv, .int .i64 m.cx, .int .i64 m.cy] 73
  gr : Grid w g.bg g.bc g.gcap g.sp m.W m.H l
  pn : PanesIn 0 w g.pv g.ps
  vw : view g.ps = m.v
  ok : m.v.Ok
/-- a painter lies at block b -/
def PntAt (w : World) (b : Nat) (g : PGh) (m : Pt) : Prop := PntRaw w b g m (m.v.grid m.W m.H)

theorem PntRaw.fr {w w' : World} {S : List Nat} {b : Nat} {g : PGh} {m : Pt} {l : List (Int × Int)} (h : PntRaw w b g m l) (f : Fr S w w') (hs : ∀ x ∈ pfoot b g, x ∉ S) : PntRaw w' b g m l := by
  simp only [pfoot, List.mem_cons, List.mem_append, Option.mem_toList, List.mem_map] at hs
  refine ⟨h.st.fr f (hs _ (.inl rfl)), h.gr.fr f (hs _ (.inr (.inl rfl))) (hs _ (.inr (.inr (.inl rfl)))), h.pn.fr f ?_ ?_, h.vw, h.ok⟩
  · exact fun x hx => hs x (.inr (.inr (.inr (.inl hx))))
  · exact fun p hp => hs _ (.inr (.inr (.inr (.inr ⟨p, hp, rfl⟩))))
theorem PntRaw.fr0 {w w' : World} {b : Nat} {g : PGh} {m : Pt} {l : List (Int × Int)} (h : PntRaw w b g m l) (f : Fr [] w w') : PntRaw w' b g m l := h.fr f (by simp)
theorem PntRaw.len {w : World} {b : Nat} {g : PGh} {m : Pt} {l : List (Int × Int)} (h : PntRaw w b g m l) : g.ps.length ≤ 12 := by
  have := h.ok.n; rw [← h.vw] at this; simpa [view] using this
theorem own_pane {w : World} {base : Nat} {v : Value} {ps : List Pane} (h : PanesIn base w v ps) {x : Nat} (hx : v.ownBlock = some x) : ∃ us, Blk w x us 94 := by
  rcases h.row with ⟨rfl, _⟩ | ⟨g, cap, sp, rfl, hb, _⟩
  · simp [Value.ownBlock] at hx
  · simp [Value.ownBlock] at hx; subst hx; exact ⟨_, hb⟩
/-- a painter's panes lie apart from a block of another type -/
theorem PanesIn.apart {w : World} {base : Nat} {v : Value} {ps : List Pane} (h : PanesIn base w v ps) {x : Nat} {us : List Value} {ty : TypeId} (hx : Blk w x us ty) (h1 : ty ≠ 94) (h2 : ty ≠ 9) : (∀ g, v.ownBlock = some g → g ∉ [x]) ∧ ∀ p ∈ ps, p.lb ∉ [x] := by
  constructor
  · intro g hg
    obtain ⟨vs, hv⟩ := own_pane h hg
    simpa using hv.ne hx (fun e => h1 e.symm)
  · intro p hp
    simpa using (h.ok p hp).1.ls.ne hx (fun e => h2 e.symm)
theorem PntRaw.lt {w : World} {b : Nat} {g : PGh} {m : Pt} {l : List (Int × Int)} (h : PntRaw w b g m l) : ∀ x ∈ pfoot b g, x < w.heap.size := by
  intro x hx
  simp only [pfoot, List.mem_cons, List.mem_append, Option.mem_toList, List.mem_map] at hx
  rcases hx with rfl | rfl | rfl | hx | ⟨p, hp, rfl⟩
  · exact h.st.lt
  · exact h.gr.hd.lt
  · exact h.gr.row.lt
  · obtain ⟨us, hu⟩ := own_pane h.pn hx; exact hu.lt
  · exact (h.pn.ok p hp).1.ls.lt

/-- what a call leaves: the painter is m' now, its parts old or new; no other block has turned -/
def PUpd (b : Nat) (g : PGh) (m' : Pt) (w w' : World) : Prop := ∃ g', PntAt w' b g' m' ∧ Fr (pfoot b g) w w' ∧ ∀ x ∈ pfoot b g', x ∈ pfoot b g ∨ w.heap.size ≤ x

theorem slice_own {sa : Option Addr} {n cap : Nat} {a : Addr} (ha : sa = some a) (h0 : a.spot = none) : (Value.slice sa n cap).ownBlock = some a.block := by
  subst ha; obtain ⟨b, o, s⟩ := a; simp only at h0; subst h0; rfl

/-- the painter has a new grid, which lies in new memory -/
def NewGrid (b : Nat) (g : PGh) (m : Pt) (w w' : World) : Prop :=
  ∃ bg bc cap sp, w.heap.size ≤ bg ∧ w.heap.size ≤ bc ∧ Fr [b] w w' ∧ PntAt w' b { g with bg := bg, bc := bc, gcap := cap, sp := sp } m
theorem NewGrid.foot {b : Nat} {g : PGh} {m : Pt} {w w' : World} (h : NewGrid b g m w w') : PUpd b g m w w' := by
  obtain ⟨bg, bc, cap, sp, h1, h2, f, p⟩ := h
  refine ⟨_, p, f.mono (by intro i hi; simp at hi; subst hi; simp [pfoot]), ?_⟩
  intro x hx
  simp only [pfoot, List.mem_cons] at hx
  rcases hx with rfl | rfl | rfl | hx
  · exact .inl (by simp [pfoot])
  · exact .inr h1
  · exact .inr h2
  · exact .inl (by simp only [pfoot, List.mem_cons]; exact .inr (.inr (.inr hx)))

set_option maxHeartbeats 2000000 in
set_option maxRecDepth 100000 in
theorem paint_any (w : World) (b : Nat) (g : PGh) (m : Pt) (l : List (Int × Int)) (h : PntRaw w b g m l) :
    Calls Tryd.prog 40 #[.pointer (some ⟨b, 0, none⟩)] w fun e w' => e = .returned (.tuple #[]) ∧ NewGrid b g m w w' := by
  have c0 : w.cell? ⟨b, 0, none⟩ = some (.pointer (some ⟨g.bg, 0, none⟩)) := h.st.cell 0
  have BL := hide (gblank_any m.W m.H w g.bg g.bc g.gcap g.sp l h.gr)
  have H := hide h
  clear h
  go_enter Tryd.func40, Tryd.ntmps40
  go_wp2_with fail
  refine BL.out.mono ?_
  rintro e w1 ⟨bg, bc, cap, sp, rfl, n1, n2, f1, hg⟩
  have p1 := H.out.fr0 f1
  have s0 : w1.cell? ⟨b, 0, none⟩ = some (.pointer (some ⟨g.bg, 0, none⟩)) := p1.st.cell 0
  have z0 := p1.st.frozen 0
  have lt1 := p1.st.lt
  have P2 : PntRaw (w1.setCell ⟨b, 0, none⟩ (.pointer (some ⟨bg, 0, none⟩))) b { g with bg := bg, bc := bc, gcap := cap, sp := sp } m (List.replicate (m.W * m.H).toNat (32, 7)) := by
    have f : Fr [b] w1 (w1.setCell ⟨b, 0, none⟩ (.pointer (some ⟨bg, 0, none⟩))) := (Fr.refl _ _).setCell (.inl (by simp)) _
    have ap := p1.pn.apart p1.st (by decide) (by decide)
    exact ⟨p1.st.set 0 _, hg.fr f (by simpa using hg.hd.ne p1.st (by decide)) (by simpa using hg.row.ne p1.st (by decide)), p1.pn.fr f ap.1 ap.2, p1.vw, p1.ok⟩
  have F2 : Hid (Fr [b] w (w1.setCell ⟨b, 0, none⟩ (.pointer (some ⟨bg, 0, none⟩)))) := (f1.of_nil).setCell (.inl (by simp)) _
  have NG : Hid (w.heap.size ≤ bg ∧ w.heap.size ≤ bc) := ⟨n1, n2⟩
  have PP : Hid (∀ w', Fr [] (w1.setCell ⟨b, 0, none⟩ (.pointer (some ⟨bg, 0, none⟩))) w' → Calls Tryd.prog 55 #[.pointer (some ⟨b, 1, none⟩), .pointer (some ⟨bg, 0, none⟩)] w' fun e w'' => e = .returned (.tuple #[]) ∧ w''.cell? ⟨b, 0, none⟩ = some (.pointer (some ⟨bg, 0, none⟩)) ∧ Fr [bc] w' w'' ∧ PntAt w'' b { g with bg := bg, bc := bc, gcap := cap, sp := sp } m) := by
    intro w' f'
    have h' := P2.fr0 f'
    obtain ⟨av, pcap, hv, hat⟩ := h'.pn.at'
    have nb : b ≠ bc := h'.st.ne h'.gr.row (by decide)
    have ap := h'.pn.apart h'.gr.row (by decide) (by decide)
    refine (vpaint_any b 1 av pcap g.ps m.W m.H bg bc cap sp w' (by rw [← hv]; exact h'.st.cell 1) hat h'.len h'.gr ⟨nb, ?_, ap.2⟩).mono ?_
    · intro x hx
      rcases h'.pn.row with ⟨hv0, hp0⟩ | ⟨q, cp, sp, hv0, hb, _⟩
      · rw [hv0] at hv; simp at hv; rw [hx] at hv; simp at hv
      · rw [hv0, hx] at hv; simp at hv
        have := ap.1 q (by rw [hv0]; rfl)
        rw [← hv.1]; exact this
    · rintro e w'' ⟨he, f2, g2⟩
      have ev : view g.ps = m.v := h'.vw
      rw [ev] at g2
      have st2 := h'.st.fr f2 (by simpa using nb)
      exact ⟨he, st2.cell 0, f2, st2, g2, h'.pn.fr f2 ap.1 ap.2, h'.vw, h'.ok⟩
  have k0 : (w1.setCell ⟨b, 0, none⟩ (.pointer (some ⟨bg, 0, none⟩))).cell? ⟨b, 0, none⟩ = some (.pointer (some ⟨bg, 0, none⟩)) := P2.st.cell 0
  have K0 := hide k0
  clear p1 f1 hg n1 n2 P2 BL k0
  go_wp2
  generalize w1.setCell ⟨b, 0, none⟩ (.pointer (some ⟨bg, 0, none⟩)) = wz at *
  have k0 := K0.out
  go_region_held (fun w' => w'.cell? ⟨b, 0, none⟩ = some (.pointer (some ⟨bg, 0, none⟩))) (go_keep) ((go_at_call 55; refine (PP.out _ ?hf).mono ?_; (case hf => (repeat first | exact Fr.refl _ _ | apply Fr.drew | apply Fr.drewN)); rintro e w2 ⟨rfl, k3, f2, h2⟩; have F3 : Hid (Fr [b] w w2) := (((F2.out).drew).trans f2 (fun i hi => .inl hi) (by intro i hi; simp at hi; subst hi; exact .inr NG.out.2)); have H2 := hide h2; clear f2 h2))
  all_goals
    go_wp2
    go_end0
    exact ⟨rfl, bg, bc, cap, sp, NG.out.1, NG.out.2, F3.out, H2.out⟩
end Go.Proofs.YtjhccghhinlmdaaDoor
