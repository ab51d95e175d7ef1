/- The parameters asked: Number, Has. -/
import Derived.Test.YtjhccghhinlmdabGreatDoorParams
namespace Go.Proofs.YtjhccghhinlmdabGreatDoor
open Go.RowKit

/-- these numbers lie at the head of block gn -/
def Nums (w : World) (gn : Nat) (l : List Int) : Prop := ∀ i, i < l.length → w.cell? ⟨gn, i, none⟩ = some (.int .i64 (l.getD i 0))
theorem Nums.of {w : World} {base gn cap : Nat} {l : List Int} (h : w.ownsRow base 3 1 (.slice (some ⟨gn, 0, none⟩) l.length cap) l.length (l.map (Value.int .i64))) : Nums w gn l := by
  intro i hi
  have := h.cells (g := gn) rfl i (.int .i64 (l.getD i 0)) (by simp [List.getD_eq_getElem?_getD, hi])
  have hadd : (⟨gn, 0, none⟩ : Addr).add i = ⟨gn, i, none⟩ := by unfold Addr.add; split <;> simp_all
  rwa [hadd] at this
theorem Nums.fr {w w' : World} {gn : Nat} {l : List Int} (h : Nums w gn l) (f : Fr [] w w') : Nums w' gn l := fun i hi => by
  have hc := h i hi
  rw [← hc]
  exact World.cell?_of_block (w := w) (f.block gn (World.block_lt_of_cell? w _ hc) (by simp))

set_option maxHeartbeats 400000 in
theorem number_any (w : World) (q : Bool) (gn cap : Nat) (l : List Int) (i : Int) (hn : Nums w gn l) (_hl : l.length ≤ 100) (h0 : 0 ≤ i) (h1 : i ≤ 100) :
    Calls Tryz.prog 98 #[.agg #[.bool q, .slice (some ⟨gn, 0, none⟩) l.length cap], .int .i64 i] w fun e w' => e = .returned (.int .i64 (l.getD i.toNat 0)) ∧ Fr [] w w' := by
  by_cases h : i < l.length
  · have hc := hn i.toNat (by omega)
    have hlt : gn < w.heap.size := World.block_lt_of_cell? w _ hc
    generalize l.getD i.toNat 0 = n at *
    clear hn
    go_enter Tryz.func98, Tryz.ntmps98
    go_wp2
    go_ret
    exact ⟨rfl, (Fr.refl _ _).alloc _⟩
  · have E := hide (show l.getD i.toNat 0 = 0 by simp [List.getD_eq_getElem?_getD]; rw [List.getElem?_eq_none (by omega)]; rfl)
    generalize l.getD i.toNat 0 = n at *
    clear hn
    go_enter Tryz.func98, Tryz.ntmps98
    go_wp2
    go_ret
    exact ⟨ret_int E.out.symm, (Fr.refl _ _).alloc _⟩

set_option maxHeartbeats 1000000 in
theorem has_any (w : World) (q : Bool) (gn cap : Nat) (l : List Int) (n : Int) (hn : Nums w gn l) (hl : l.length ≤ 100) :
    Calls Tryz.prog 111 #[.agg #[.bool q, .slice (some ⟨gn, 0, none⟩) l.length cap], .int .i64 n] w fun e w' => e = .returned (.bool (l.contains n)) ∧ Fr [] w w' := by
  have HN := hide hn
  clear hn
  generalize hr : l.contains n = r
  have HR := hide hr
  clear hr
  go_enter Tryz.func111, Tryz.ntmps111
  go_wp2
  go_loopw [10] (fun i wr => ∃ k : Nat, i = .int .i64 k ∧ k ≤ l.length ∧ Hid (n ∉ l.take k) ∧ Fr [] w wr) (fun i _ => (3000 - intOf i).toNat)
  case atStart => exact ⟨0, rfl, by omega, by simp [Hid], (Fr.refl _ _).alloc _⟩
  case round =>
    obtain ⟨k, rfl, hk, HT, f⟩ := hrel
    by_cases hend : k < l.length
    · have hc := (HN.out.fr f) k hend
      have hlt : gn < wr.heap.size := World.block_lt_of_cell? wr _ hc
      have HE := hide (take_snoc l k 0 hend)
      have HM := hide (show l.getD k 0 ∈ l by rw [List.getD_eq_getElem?_getD, List.getElem?_eq_getElem hend]; simp)
      generalize l.getD k 0 = m at *
      by_cases he : m = n
      · subst he
        have E := hide (show r = true by rw [← HR.out]; simpa using HM.out)
        go_wp2
        go_ret
        exact ⟨ret_bool E.out.symm, f⟩
      · have hb : (m == n) = false := by simpa using he
        have HE2 := hide he
        clear he
        go_wp2
        go_roundw
        case rel =>
          refine ⟨k + 1, by go_num, by omega, ?_, f⟩
          show n ∉ l.take (k + 1)
          rw [HE.out]
          have h1 := HT.out
          have h2 := HE2.out
          simp only [List.mem_append, List.mem_singleton, not_or]
          exact ⟨h1, fun e => h2 e.symm⟩
        case measure => simp [intOf]; omega
    · have E := hide (show r = false by
        have h1 := HT.out
        rw [List.take_of_length_le (by omega)] at h1
        rw [← HR.out]; simpa using h1)
      go_wp2
      go_ret
      exact ⟨ret_bool E.out.symm, f⟩
end Go.Proofs.YtjhccghhinlmdabGreatDoor
