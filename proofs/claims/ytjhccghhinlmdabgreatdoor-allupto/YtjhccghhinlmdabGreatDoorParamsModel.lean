/- The parameters of a sequence as plain data. -/
import Derived.Test.YtjhccghhinlmdabGreatDoorBase
namespace Go.Proofs.YtjhccghhinlmdabGreatDoor

/-- the numbers that these bytes say, behind those that have been read; none: they are not in order -/
def rn : List Int → List Int → Int → Int → Option (List Int)
  | [], acc, n, _ => some (acc ++ [n])
  | c :: r, acc, n, d =>
    if c = 59 then rn r (acc ++ [n]) 0 0
    else if 48 ≤ c ∧ c ≤ 57 ∧ d < 3 then rn r acc (n * 10 + (c - 48)) (d + 1)
    else none
def numbers (xs : List Int) : Option (List Int) := rn xs [] 0 0

/-- a number of so many digits -/
def Dig (n d : Int) : Prop := 0 ≤ n ∧ ((d = 0 ∧ n = 0) ∨ (d = 1 ∧ n ≤ 9) ∨ (d = 2 ∧ n ≤ 99) ∨ (d = 3 ∧ n ≤ 999))
theorem Dig.bd {n d : Int} (h : Dig n d) : 0 ≤ n ∧ n ≤ 999 ∧ 0 ≤ d ∧ d ≤ 3 := by unfold Dig at h; omega
theorem Dig.step {n d c : Int} (h : Dig n d) (h1 : 48 ≤ c) (h2 : c ≤ 57) (h3 : d < 3) : Dig (n * 10 + (c - 48)) (d + 1) := by unfold Dig at *; omega

theorem rn_bd : ∀ (xs acc : List Int) (n d : Int) (l : List Int), Dig n d → (∀ a ∈ acc, 0 ≤ a ∧ a ≤ 999) → rn xs acc n d = some l → (∀ a ∈ l, 0 ≤ a ∧ a ≤ 999) ∧ 1 ≤ l.length ∧ l.length ≤ acc.length + xs.length + 1 := by
  intro xs
  induction xs with
  | nil =>
    intro acc n d l hd ha h
    simp only [rn, Option.some.injEq] at h
    subst h
    have := hd.bd
    refine ⟨fun a hm => ?_, by simp, by simp⟩
    rcases List.mem_append.1 hm with hm | hm
    · exact ha a hm
    · simp at hm; subst hm; omega
  | cons c r ih =>
    intro acc n d l hd ha h
    simp only [rn] at h
    have hb := hd.bd
    split at h
    · obtain ⟨h1, h2, h3⟩ := ih (acc ++ [n]) 0 0 l (by unfold Dig; omega) (fun a hm => by
        rcases List.mem_append.1 hm with hm | hm
        · exact ha a hm
        · simp at hm; subst hm; omega) h
      refine ⟨h1, h2, ?_⟩
      simp at h3 ⊢; omega
    · split at h
      · rename_i h5
        obtain ⟨h1, h2, h3⟩ := ih acc _ _ l (hd.step h5.1 h5.2.1 h5.2.2) ha h
        refine ⟨h1, h2, ?_⟩
        simp at h3 ⊢; omega
      · cases h

/-- what is read of a sequence's bytes: whether a question mark stands ahead, and the numbers -/
def readP (xs : List Int) : Option (Bool × List Int) :=
  if 12 < xs.length then none
  else if xs.head? = some 63 then (numbers xs.tail).map fun l => (true, l)
  else (numbers xs).map fun l => (false, l)

theorem numbers_bd {xs l : List Int} (h : numbers xs = some l) : (∀ a ∈ l, 0 ≤ a ∧ a ≤ 999) ∧ 1 ≤ l.length ∧ l.length ≤ xs.length + 1 := by
  have := rn_bd xs [] 0 0 l (by unfold Dig; omega) (by simp) h
  simpa using this
end Go.Proofs.YtjhccghhinlmdabGreatDoor
