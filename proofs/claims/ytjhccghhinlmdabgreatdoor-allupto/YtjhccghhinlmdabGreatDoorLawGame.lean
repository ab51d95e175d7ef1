/- What a script has made: a list of places, at each nothing or two terminals. -/
import Derived.Test.YtjhccghhinlmdabGreatDoorLawWhole
namespace Go.Proofs.YtjhccghhinlmdabGreatDoor
open Go.RowKit

def pickF (c n : Int) : Int := (if c < 0 then -(c + 1) else c) % n
theorem pickF_bd (c n : Int) (h : 1 ≤ n) : 0 ≤ pickF c n ∧ pickF c n < n := by
  unfold pickF
  exact ⟨Int.emod_nonneg _ (by omega), Int.emod_lt_of_pos _ (by omega)⟩
set_option maxHeartbeats 400000 in
theorem lawPick_any (c n : Int) (w : World) (h : 1 ≤ n) (h2 : n ≤ 9223372036854775807) (c1 : -9223372036854775808 ≤ c) (c2 : c ≤ 9223372036854775807) :
    Calls Tryz.prog 9 #[.int .i64 c, .int .i64 n] w fun e w' => e = .returned (.int .i64 (pickF c n)) ∧ w = w' := by
  by_cases hc : c < 0
  · have E : Hid (pickF c n = -(c + 1).tmod n) := by
      show pickF c n = _
      unfold pickF; rw [if_pos hc, ← Int.neg_tmod, Int.tmod_eq_emod_of_nonneg (by omega)]
    have b := pickF_bd c n h
    have hn : (n == 0) = false := by rw [beq_eq_false_iff_ne]; omega
    go_enter Tryz.func9, Tryz.ntmps9
    go_wp2
    go_ret
    exact ⟨ret_int E.out.symm, rfl⟩
  · have E : Hid (pickF c n = c % n) := by
      show pickF c n = _
      unfold pickF; rw [if_neg hc]
    have b := pickF_bd c n h
    have hn : (n == 0) = false := by rw [beq_eq_false_iff_ne]; omega
    go_enter Tryz.func9, Tryz.ntmps9
    go_wp2
    go_ret
    exact ⟨ret_int E.out.symm, rfl⟩

/-- what a slice owns is a block of its type -/
theorem own_blk {w : World} {base : Nat} {e : TypeId} {size : Nat} {v : Value} {n : Nat} {xs : List Value} (h : w.ownsRow base e size v n xs) {g : Nat} (hv : v.ownBlock = some g) : ∃ us, Blk w g us e := by
  rcases h.2 with ⟨rfl, _⟩ | ⟨g', cap, cur, rfl, _, hg, _⟩
  · simp [Value.ownBlock] at hv
  · simp [Value.ownBlock] at hv
    subst hv
    exact ⟨cur.toList, by unfold Blk; rw [hg]⟩
def footTy : List TypeId := [54, 115, 117, 5, 59, 84]
theorem PairAt.typed {w : World} {p : Pr} (h : PairAt w p) : ∀ x ∈ p.foot, ∃ us ty, Blk w x us ty ∧ ty ∈ footTy := by
  intro x hx
  simp only [Pr.foot, foot, rfoot, List.mem_append, List.mem_cons, List.not_mem_nil, or_false, Option.mem_toList] at hx
  rcases hx with (rfl | rfl | rfl | hx) | rfl | rfl
  · exact ⟨_, _, h.t.st, by simp [footTy]⟩
  · exact ⟨_, _, h.t.gr.hd, by simp [footTy]⟩
  · exact ⟨_, _, h.t.gr.row, by simp [footTy]⟩
  · obtain ⟨us, hu⟩ := own_blk h.t.pr hx
    exact ⟨us, _, hu, by simp [footTy]⟩
  · exact ⟨_, _, h.d.st, by simp [footTy]⟩
  · exact ⟨_, _, h.d.row.row, by simp [footTy]⟩
theorem OAt.off {w : World} {c : Nat} {vs : List Value} {ty : TypeId} (hb : Blk w c vs ty) (ht : ty ∉ footTy) : ∀ {o : Option Pr}, OAt w o → c ∉ ofoot o
  | none, _ => by simp [ofoot]
  | some p, h => fun hx => by
    obtain ⟨us, tz, hu, hz⟩ := PairAt.typed h c hx
    have e : ty = tz := by
      unfold Blk at hb hu; rw [hb] at hu; simp at hu; exact hu.2
    exact ht (e ▸ hz)

def flatB (ps : List (Option Pr)) : List Value := ps.flatMap fun o => [vx o, vt o]
theorem flatB_length (ps : List (Option Pr)) : (flatB ps).length = ps.length * 2 := by
  induction ps with
  | nil => rfl
  | cons o ps ih => simp only [flatB, List.flatMap_cons, List.length_append, List.length_cons, List.length_nil] at *; omega
theorem flatB_snoc (ps : List (Option Pr)) (o : Option Pr) : flatB ps ++ [vx o, vt o] = flatB (ps ++ [o]) := by simp [flatB]
theorem flatB_at (ps : List (Option Pr)) : ∀ (k : Nat) (o : Option Pr), ps[k]? = some o → (flatB ps)[k * 2]? = some (vx o) ∧ (flatB ps)[k * 2 + 1]? = some (vt o) := by
  induction ps with
  | nil => intro k o h; simp at h
  | cons q ps ih =>
    intro k o h
    cases k with
    | zero => simp at h; subst h; simp [flatB]
    | succ k =>
      simp at h
      have := ih k o h
      have e : (k + 1) * 2 = k * 2 + 2 := by omega
      have e1 : (k + 1) * 2 + 1 = k * 2 + 1 + 2 := by omega
      rw [e1, e]
      simp only [flatB, List.flatMap_cons] at *
      simpa using this
theorem flatB_set (ps : List (Option Pr)) : ∀ (k : Nat) (o o' : Option Pr), ps[k]? = some o → vx o' = vx o → vt o' = vt o → flatB (ps.set k o') = flatB ps := by
  induction ps with
  | nil => intro k o o' h; simp at h
  | cons q ps ih =>
    intro k o o' h e1 e2
    cases k with
    | zero => simp at h; subst h; simp [flatB, e1, e2]
    | succ k =>
      simp at h
      have := ih k o o' h e1 e2
      simp only [flatB, List.set_cons_succ, List.flatMap_cons] at *
      rw [this]

/-- all that a script has made of terminals lies here: the list at block bG; each begun sequence has at most n bytes -/
structure GameAt (base : Nat) (w : World) (bG : Nat) (v : Value) (ps : List (Option Pr)) (n : Nat) : Prop where
  st : Blk w bG [v, .slice none 0 0] 29
  row : w.ownsRow base 43 2 v ps.length (flatB ps)
  at' : ∀ (k : Nat) o, ps[k]? = some o → OAt w o
  ap : ∀ (i j : Nat) a b, ps[i]? = some a → ps[j]? = some b → i ≠ j → ∀ x ∈ ofoot a, x ∉ ofoot b
  ge : ∀ (k : Nat) o, ps[k]? = some o → ∀ x ∈ ofoot o, base ≤ x
  bg : base ≤ bG
  be : ∀ (k : Nat) o, ps[k]? = some o → beg o ≤ n

/-- nothing of it has turned -/
theorem GameAt.fr0 {base : Nat} {w w' : World} {bG : Nat} {v : Value} {ps : List (Option Pr)} {n : Nat} (h : GameAt base w bG v ps n) (f : Fr [] w w') : GameAt base w' bG v ps n :=
  ⟨h.st.fr0 f, own_fr0 h.row f, fun k o e => (h.at' k o e).fr f (by simp), h.ap, h.ge, h.bg, h.be⟩
theorem GameAt.mono {base : Nat} {w : World} {bG : Nat} {v : Value} {ps : List (Option Pr)} {n m : Nat} (h : GameAt base w bG v ps n) (hm : n ≤ m) : GameAt base w bG v ps m :=
  ⟨h.st, h.row, h.at', h.ap, h.ge, h.bg, fun k o e => Nat.le_trans (h.be k o e) hm⟩

/-- what a step leaves: all of it still lies there, and only its own blocks have turned -/
def GUpd (base bG : Nat) (m n : Nat) (w w' : World) : Prop := ∃ v ps S, GameAt base w' bG v ps n ∧ ps.length ≤ m ∧ Fr S w w' ∧ ∀ x ∈ S, base ≤ x
theorem GUpd.ahead {base bG m n : Nat} {w w1 w2 : World} (f : Fr [] w w1) (u : GUpd base bG m n w1 w2) : GUpd base bG m n w w2 := by
  obtain ⟨v, ps, S, g, l, f2, s⟩ := u
  exact ⟨v, ps, S, g, l, f.of_nil.then f2, s⟩
theorem GUpd.same {base bG n m : Nat} {w w' : World} {v : Value} {ps : List (Option Pr)} (h : GameAt base w bG v ps n) (hm : ps.length ≤ m) (f : Fr [] w w') : GUpd base bG m n w w' :=
  ⟨v, ps, [], h.fr0 f, hm, f, by simp⟩
/-- one place has turned -/
theorem GUpd.at {base bG n m q : Nat} {w w' : World} {v : Value} {ps : List (Option Pr)} {k : Nat} {o : Option Pr} (h : GameAt base w bG v ps n) (hm : ps.length ≤ m) (hk : ps[k]? = some o) (hB : base ≤ w.heap.size) (u : OUpd o q w w') : GUpd base bG m (n + q) w w' := by
  obtain ⟨o', e1, e2, a, f, s, hb⟩ := u
  have hst : bG ∉ ofoot o := OAt.off h.st (by decide) (h.at' k o hk)
  have hlt : k < ps.length := (List.getElem?_eq_some_iff.1 hk).1
  have get : ∀ (i : Nat) x, (ps.set k o')[i]? = some x → (i = k ∧ x = o') ∨ (i ≠ k ∧ ps[i]? = some x) := by
    intro i x hx
    by_cases e : i = k
    · subst e; rw [List.getElem?_set_self hlt] at hx; simp at hx; exact .inl ⟨rfl, hx.symm⟩
    · rw [List.getElem?_set_ne (fun q => e q.symm)] at hx; exact .inr ⟨e, hx⟩
  refine ⟨v, ps.set k o', ofoot o, ⟨h.st.fr f hst, ?_, ?_, ?_, ?_, h.bg, ?_⟩, by simpa using hm, f, h.ge k o hk⟩
  · rw [flatB_set ps k o o' hk e1 e2, List.length_set]
    refine own_fr h.row f (fun b hb he => ?_)
    obtain ⟨us, hu⟩ := own_blk h.row he.symm
    exact OAt.off hu (by decide) (h.at' k o hk) hb
  · intro i x hx
    rcases get i x hx with ⟨rfl, rfl⟩ | ⟨hne, hx⟩
    · exact a
    · exact (h.at' i x hx).fr f (h.ap i k x o hx hk hne)
  · intro i j x y hx hy hij z hz hz2
    have lt : ∀ {i x}, ps[i]? = some x → ∀ z ∈ ofoot x, z < w.heap.size := fun e => (h.at' _ _ e).lt
    rcases get i x hx with ⟨rfl, rfl⟩ | ⟨hne, _⟩
    · rcases get j y hy with ⟨rfl, rfl⟩ | ⟨hne2, hy⟩
      · exact hij rfl
      · rcases s z hz with hh | hh
        · exact h.ap i j o y hk hy hij z hh hz2
        · have := lt hy z hz2; omega
    · rename_i hxx
      rcases get j y hy with ⟨rfl, rfl⟩ | ⟨hne2, hy⟩
      · rcases s z hz2 with hh | hh
        · exact h.ap i j x o hxx hk hij z hz hh
        · have := lt hxx z hz; omega
      · exact h.ap i j x y hxx hy hij z hz hz2
  · intro i x hx z hz
    rcases get i x hx with ⟨rfl, rfl⟩ | ⟨hne, hx⟩
    · rcases s z hz with hh | hh
      · exact h.ge i o hk z hh
      · omega
    · exact h.ge i x hx z hz
  · intro i x hx
    rcases get i x hx with ⟨rfl, rfl⟩ | ⟨hne, hx⟩
    · have := h.be i o hk; omega
    · have := h.be i x hx; omega
end Go.Proofs.YtjhccghhinlmdabGreatDoor
