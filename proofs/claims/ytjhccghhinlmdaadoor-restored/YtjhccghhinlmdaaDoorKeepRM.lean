/- A painter and a terminal of a statement, as they are behind each step of hers: they lie in memory of the call's own, apart from her variables. -/
import Derived.Test.YtjhccghhinlmdaaDoorKeepAlike
namespace Go.Proofs.YtjhccghhinlmdaaDoor
open Go.RowKit

def pTy : List TypeId := [73, 102, 104, 94, 9]
def tTy : List TypeId := [87, 102, 104, 5]
theorem PntRaw.typed {w : World} {b : Nat} {g : PGh} {m : Pt} {l : List (Int × Int)} (h : PntRaw w b g m l) : ∀ x ∈ pfoot b g, ∃ us ty, Blk w x us ty ∧ ty ∈ pTy := by
  intro x hx
  simp only [pfoot, List.mem_cons, List.mem_append, Option.mem_toList, List.mem_map] at hx
  rcases hx with rfl | rfl | rfl | hx | ⟨p, hp, rfl⟩
  · exact ⟨_, _, h.st, by simp [pTy]⟩
  · exact ⟨_, _, h.gr.hd, by simp [pTy]⟩
  · exact ⟨_, _, h.gr.row, by simp [pTy]⟩
  · obtain ⟨us, hu⟩ := own_pane h.pn hx; exact ⟨_, _, hu, by simp [pTy]⟩
  · obtain ⟨vs, hv, _⟩ := (h.pn.ok p hp).1.ls; exact ⟨vs, _, hv, by simp [pTy]⟩
theorem own_u8 {w : World} {base : Nat} {e : TypeId} {size : Nat} {v : Value} {n : Nat} {xs : List Value} (h : w.ownsRow base e size v n xs) {g : Nat} (hv : v.ownBlock = some g) : ∃ us, Blk w g us e := by
  rcases h.2 with ⟨rfl, _⟩ | ⟨g', cap, cur, rfl, _, hg, _⟩
  · simp [Value.ownBlock] at hv
  · simp [Value.ownBlock] at hv
    subst hv
    exact ⟨cur.toList, by unfold Blk; rw [hg]⟩
theorem TermAt.typed {w : World} {bt : Nat} {g : Gh} {t : T} (h : TermAt w bt g t) : ∀ x ∈ foot bt g, ∃ us ty, Blk w x us ty ∧ ty ∈ tTy := by
  intro x hx
  simp only [foot, List.mem_cons, Option.mem_toList] at hx
  rcases hx with rfl | rfl | rfl | hx
  · exact ⟨_, _, h.st, by simp [tTy]⟩
  · exact ⟨_, _, h.gr.hd, by simp [tTy]⟩
  · exact ⟨_, _, h.gr.row, by simp [tTy]⟩
  · obtain ⟨us, hu⟩ := own_u8 h.pr hx; exact ⟨_, _, hu, by simp [tTy]⟩
theorem blk_ty {w : World} {c : Nat} {us vs : List Value} {ty tz : TypeId} (h : Blk w c us ty) (k : Blk w c vs tz) : ty = tz := by
  unfold Blk at h k; rw [h] at k; simp at k; exact k.2
theorem RoomAt.off {w : World} {b : Nat} {g : PGh} {m : Pt} {bt : Nat} {gt : Gh} {t : T} (h : RoomAt w b g m bt gt t) {c : Nat} {us : List Value} {ty : TypeId} (hb : Blk w c us ty) (h1 : ty ∉ pTy) (h2 : ty ∉ tTy) : c ∉ pfoot b g ++ foot bt gt := by
  intro hx
  rcases List.mem_append.1 hx with hx | hx
  · obtain ⟨vs, tz, k, hz⟩ := PntRaw.typed h.p c hx; exact h1 (blk_ty hb k ▸ hz)
  · obtain ⟨vs, tz, k, hz⟩ := h.t.typed c hx; exact h2 (blk_ty hb k ▸ hz)

/-- both, as they lie in a call that began in w0 -/
structure RM (w0 w : World) (b : Nat) (g : PGh) (m : Pt) (bt : Nat) (gt : Gh) (t : T) : Prop where
  r : RoomAt w b g m bt gt t
  f : Fr [] w0 w
  ge : ∀ x ∈ pfoot b g ++ foot bt gt, w0.heap.size ≤ x
theorem RM.fr0 {w0 w w' : World} {b : Nat} {g : PGh} {m : Pt} {bt : Nat} {gt : Gh} {t : T} (h : RM w0 w b g m bt gt t) (f : Fr [] w w') : RM w0 w' b g m bt gt t := ⟨h.r.fr0 f, h.f.then f, h.ge⟩
theorem RM.upd {w0 w w' : World} {b : Nat} {g : PGh} {m m' : Pt} {bt : Nat} {gt : Gh} {t t' : T} (h : RM w0 w b g m bt gt t) (u : RoomUpd b g bt gt m' t' w w') :
    ∃ g' gt', RM w0 w' b g' m' bt gt' t' ∧ ∀ c us ty, Blk w c us ty → ty ∉ pTy → ty ∉ tTy → Blk w' c us ty := by
  obtain ⟨g', gt', r, f, s⟩ := u
  refine ⟨g', gt', ⟨r, h.f.trans f (by simp) (fun i hi => .inr (h.ge i hi)), fun x hx => ?_⟩, fun c us ty hb h1 h2 => hb.fr f (h.r.off hb h1 h2)⟩
  rcases s x hx with h1 | h1
  · exact h.ge x h1
  · exact Nat.le_trans h.f.size h1
/-- a new room -/
theorem RoomPost.rm {w0 w w' : World} {W H : Int} {b : Nat} {g : PGh} {bt : Nat} {gt : Gh} (f0 : Fr [] w0 w) (n1 : ∀ x ∈ pfoot b g, w.heap.size ≤ x) (n2 : ∀ x ∈ foot bt gt, w.heap.size ≤ x) (n3 : ∀ x ∈ pfoot b g, x ∉ foot bt gt) (f1 : Fr [] w w') (p : PntAt w' b g ⟨W, H, [], 0, 0⟩) (t : TermAt w' bt gt (T.new W H)) : RM w0 w' b g ⟨W, H, [], 0, 0⟩ bt gt (T.new W H) :=
  ⟨⟨p, t, n3⟩, f0.then f1, fun x hx => by
    have := f0.size
    rcases List.mem_append.1 hx with hx | hx
    · have := n1 x hx; omega
    · have := n2 x hx; omega⟩
end Go.Proofs.YtjhccghhinlmdaaDoor
