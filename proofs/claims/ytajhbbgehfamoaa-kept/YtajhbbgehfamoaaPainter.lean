/- The program's painter: where it lies, and what brings its grid up to the view. -/
import Derived.Test.YtajhbbgehfamoaaPaintScroll
import Derived.Test.YtajhbbgehfamoaaCellsRow
namespace Go.Proofs.Ytajhbbgehfamoaa
open Go.RowKit

/-- a painter as plain data -/
structure Pt where
  W : Int
  H : Int
  v : V
  cx : Int
  cy : Int
/-- where its parts lie -/
structure PGh where
  bg : Nat
  bc : Nat
  gcap : Nat
  sp : List Value
  pv : Value
  ps : List Pane
def pfoot (b : Nat) (g : PGh) : List Nat := b :: g.bg :: g.bc :: (g.pv.ownBlock.toList ++ g.ps.map Pane.lb)
/-- a painter lies at block b; its grid's cells are l -/
structure PntRaw (w : World) (b : Nat) (g : PGh) (m : Pt) (l : List (Int × Int)) : Prop where
  st : Blk w b [.pointer (some ⟨g.bg, 0, none⟩), g.pv, .int .i64 m.cx, .int .i64 m.cy] 80
  gr : Grid w g.bg g.bc g.gcap g.sp m.W m.H l
  pn : PanesIn 0 w g.pv g.ps
  vw : view g.ps = m.v
  ok : m.v.Ok
/-- a painter lies at block b -/
def PntAt (w : World) (b : Nat) (g : PGh) (m : Pt) : Prop := PntRaw w b g m (m.v.grid m.W m.H)

theorem PntRaw.fr {w w' : World} {S : List Nat} {b : Nat} {g : PGh} {m : Pt} {l : List (Int × Int)} (h : PntRaw w b g m l) (f : Fr S w w') (hs : ∀ x ∈ pfoot b g, x ∉ S) : PntRaw w' b g m l := by
  simp only [pfoot, List.mem_cons, List.mem_append, Option.mem_toList, List.mem_map] at hs
  refine ⟨h.st.fr f (hs _ (.inl rfl)), h.gr.fr f (hs _ (.inr (.inl rfl))) (hs _ (.inr (.inr (.inl rfl)))), h.pn.fr f ?_ ?_, h.vw, h.ok⟩
  · exact fun x hx => hs x (.inr (.inr (.inr (.inl hx))))
  · exact fun p hp => hs _ (.inr (.inr (.inr (.inr ⟨p, hp, rfl⟩))))
theorem PntRaw.fr0 {w w' : World} {b : Nat} {g : PGh} {m : Pt} {l : List (Int × Int)} (h : PntRaw w b g m l) (f : Fr [] w w') : PntRaw w' b g m l := h.fr f (by simp)
theorem PntRaw.len {w : World} {b : Nat} {g : PGh} {m : Pt} {l : List (Int × Int)} (h : PntRaw w b g m l) : g.ps.length ≤ 12 := by
  have := h.ok.n; rw [← h.vw] at this; simpa [view] using this
theorem own_pane {w : World} {base : Nat} {v : Value} {ps : List Pane} (h : PanesIn base w v ps) {x : Nat} (hx : v.ownBlock = some x) : ∃ us, Blk w x us 99 := by
  rcases h.row with ⟨rfl, _⟩ | ⟨g, cap, sp, rfl, hb, _⟩
  · simp [Value.ownBlock] at hx
  · simp [Value.ownBlock] at hx; subst hx; exact ⟨_, hb⟩
/-- a painter's panes lie apart from a block of another type -/
theorem PanesIn.apart {w : World} {base : Nat} {v : Value} {ps : List Pane} (h : PanesIn base w v ps) {x : Nat} {us : List Value} {ty : TypeId} (hx : Blk w x us ty) (h1 : ty ≠ 99) (h2 : ty ≠ 9) : (∀ g, v.ownBlock = some g → g ∉ [x]) ∧ ∀ p ∈ ps, p.lb ∉ [x] := by
  constructor
  · intro g hg
    obtain ⟨vs, hv⟩ := own_pane h hg
    simpa using hv.ne hx (fun e => h1 e.symm)
  · intro p hp
    simpa using (h.ok p hp).1.ls.ne hx (fun e => h2 e.symm)
theorem PntRaw.lt {w : World} {b : Nat} {g : PGh} {m : Pt} {l : List (Int × Int)} (h : PntRaw w b g m l) : ∀ x ∈ pfoot b g, x < w.heap.size := by
  intro x hx
  simp only [pfoot, List.mem_cons, List.mem_append, Option.mem_toList, List.mem_map] at hx
  rcases hx with rfl | rfl | rfl | hx | ⟨p, hp, rfl⟩
  · exact h.st.lt
  · exact h.gr.hd.lt
  · exact h.gr.row.lt
  · obtain ⟨us, hu⟩ := own_pane h.pn hx; exact hu.lt
  · exact (h.pn.ok p hp).1.ls.lt

/-- what a call leaves: the painter is m' now, its parts old or new; no other block has turned -/
def PUpd (b : Nat) (g : PGh) (m' : Pt) (w w' : World) : Prop := ∃ g', PntAt w' b g' m' ∧ Fr (pfoot b g) w w' ∧ ∀ x ∈ pfoot b g', x ∈ pfoot b g ∨ w.heap.size ≤ x

theorem slice_own {sa : Option Addr} {n cap : Nat} {a : Addr} (ha : sa = some a) (h0 : a.spot = none) : (Value.slice sa n cap).ownBlock = some a.block := by
  subst ha; obtain ⟨b, o, s⟩ := a; simp only at h0; subst h0; rfl

set_option maxHeartbeats 2000000 in
set_option maxRecDepth 100000 in
theorem paint_any (w : World) (b : Nat) (g : PGh) (m : Pt) (l : List (Int × Int)) (h : PntRaw w b g m l) :
    Calls Try.prog 37 #[.pointer (some ⟨b, 0, none⟩)] w fun e w' => e = .returned (.tuple #[]) ∧ Fr [g.bc] w w' ∧ PntAt w' b g m := by
  obtain ⟨av, cap, hv, hat⟩ := h.pn.at'
  have w1 := h.gr.w1
  have w2 := h.gr.w2
  have h1 := h.gr.h1
  have h2 := h.gr.h2
  obtain ⟨mb1, mb2⟩ := mul_bd w1 w2 h1 h2
  have c0 : w.cell? ⟨b, 0, none⟩ = some (.pointer (some ⟨g.bg, 0, none⟩)) := h.st.cell 0
  have d0 : w.cell? ⟨g.bg, 0, none⟩ = some (.int .i64 m.W) := h.gr.hd.cell 0
  have d1 : w.cell? ⟨g.bg, 1, none⟩ = some (.int .i64 m.H) := h.gr.hd.cell 1
  have wrp : IntKind.i64.wrap (m.W * m.H) = m.W * m.H := by rw [IntKind.wrap_i64]; omega
  have ll := h.gr.lenBd
  have hlen := h.gr.len
  have nb : b ≠ g.bc := h.st.ne h.gr.row (by decide)
  have ap := h.pn.apart h.gr.row (by decide) (by decide)
  have ng : g.bg ≠ g.bc := h.gr.hd.ne h.gr.row (by decide)
  have CL : Hid (∀ w', Fr [] w w' → Calls Try.prog 52 #[.pointer (some ⟨g.bg, 0, none⟩), .int .i64 0, .int .i64 (m.W * m.H)] w' fun e w'' => e = .returned (.tuple #[]) ∧ Fr [g.bc] w' w'' ∧ w''.cell? ⟨b, 0, none⟩ = some (.pointer (some ⟨g.bg, 0, none⟩)) ∧ w''.cell? ⟨g.bg, 0, none⟩ = some (.int .i64 m.W) ∧ w''.cell? ⟨g.bg, 1, none⟩ = some (.int .i64 m.H) ∧ PntRaw w'' b g m (List.replicate (m.W * m.H).toNat (32, 7))) := by
    intro w' f'
    have h' := h.fr0 f'
    refine (clear_any 0 (m.W * m.H) m.W m.H w' g.bg g.bc g.gcap g.sp l h'.gr (by omega) (by omega) (by omega)).mono ?_
    rintro e w'' ⟨he, f2, g2⟩
    have e2 : clr l 0 (m.W * m.H) = List.replicate (m.W * m.H).toNat (32, 7) := by
      apply List.ext_getElem
      · rw [clr_length]; simp; omega
      · intro i i1 i2
        rw [clr_length] at i1
        simp [clr]; omega
    rw [e2] at g2
    have st2 := h'.st.fr f2 (by simpa using nb)
    exact ⟨he, f2, st2.cell 0, g2.hd.cell 0, g2.hd.cell 1, st2, g2, h'.pn.fr f2 ap.1 ap.2, h'.vw, h'.ok⟩
  have PP : Hid (∀ w', PntRaw w' b g m (List.replicate (m.W * m.H).toNat (32, 7)) → Calls Try.prog 53 #[.pointer (some ⟨b, 1, none⟩), .pointer (some ⟨g.bg, 0, none⟩)] w' fun e w'' => e = .returned (.tuple #[]) ∧ Fr [g.bc] w' w'' ∧ w''.cell? ⟨b, 0, none⟩ = some (.pointer (some ⟨g.bg, 0, none⟩)) ∧ PntAt w'' b g m) := by
    intro w' h'
    obtain ⟨av, cap, hv, hat⟩ := h'.pn.at'
    have nb : b ≠ g.bc := h'.st.ne h'.gr.row (by decide)
    have ap := h'.pn.apart h'.gr.row (by decide) (by decide)
    refine (vpaint_any b 1 av cap g.ps m.W m.H g.bg g.bc g.gcap g.sp w' (by rw [← hv]; exact h'.st.cell 1) hat h'.len h'.gr ⟨nb, ?_, ap.2⟩).mono ?_
    · intro x hx
      rcases h'.pn.row with ⟨hv0, hp0⟩ | ⟨q, cp, sp, hv0, hb, _⟩
      · rw [hv0] at hv; simp at hv; rw [hx] at hv; simp at hv
      · rw [hv0, hx] at hv; simp at hv
        have := ap.1 q (by rw [hv0]; rfl)
        rw [← hv.1]; exact this
    · rintro e w'' ⟨he, f2, g2⟩
      rw [h'.vw] at g2
      have st2 := h'.st.fr f2 (by simpa using nb)
      exact ⟨he, f2, st2.cell 0, st2, g2, h'.pn.fr f2 ap.1 ap.2, h'.vw, h'.ok⟩
  clear h hv hat ap hlen ll nb ng
  go_enter Try.func37, Try.ntmps37
  go_wp2
  go_region_held (fun w' => w'.cell? ⟨b, 0, none⟩ = some (.pointer (some ⟨g.bg, 0, none⟩)) ∧ w'.cell? ⟨g.bg, 0, none⟩ = some (.int .i64 m.W) ∧ w'.cell? ⟨g.bg, 1, none⟩ = some (.int .i64 m.H)) (go_keep) ((go_at_call 52; refine (CL.out _ ?hf).mono ?_; (case hf => (repeat first | exact Fr.refl _ _ | apply Fr.drew | apply Fr.drewN)); rintro e w1 ⟨rfl, f1, k0, k1, k2, h1⟩; have F1 : Hid (Fr [g.bc] w w1) := (((Fr.refl _ _).drew).then f1); have H1 := hide h1; clear f1 h1))
  all_goals
    go_wp2
    go_region_held (fun w' => w'.cell? ⟨b, 0, none⟩ = some (.pointer (some ⟨g.bg, 0, none⟩))) (go_keep) ((go_at_call 53; refine (PP.out _ ?hf).mono ?_; (case hf => exact H1.out.fr0 (by repeat first | exact Fr.refl _ _ | apply Fr.drew | apply Fr.drewN)); rintro e w2 ⟨rfl, f2, k3, h2⟩; have F2 : Hid (Fr [g.bc] w w2) := ((F1.out.drew).then f2); have H2 := hide h2; clear f2 h2))
    all_goals
      go_wp2
      go_end0
      exact ⟨rfl, F2.out, H2.out⟩
end Go.Proofs.Ytajhbbgehfamoaa
