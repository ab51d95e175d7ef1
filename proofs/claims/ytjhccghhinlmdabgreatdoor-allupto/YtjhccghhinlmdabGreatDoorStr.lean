/- Rows of bytes and strings: plain facts. -/
import Derived.Test.YtjhccghhinlmdabGreatDoorTermFeed
import Derived.Deep.OwnRows
namespace Go.Proofs.YtjhccghhinlmdabGreatDoor
open Go.RowKit

theorem made_eq (z : Value) (n : Nat) : madeCells #[z] n = (List.replicate n z).toArray := by
  apply Array.ext
  · simp [size_madeCells]
  · intro i h1 h2
    simp [madeCells, Nat.mod_one]

/-- so many of a row's cells have been written -/
def fill (L : List Int) (k : Nat) : List Value := (L.take k).map (Value.int .u8) ++ List.replicate (L.length - k) (.int .u8 0)
theorem fill_zero (L : List Int) : fill L 0 = List.replicate L.length (.int .u8 0) := by simp [fill]
theorem fill_all (L : List Int) : fill L L.length = L.map (Value.int .u8) := by simp [fill]
theorem fill_step (L : List Int) (k : Nat) (h : k < L.length) : (fill L k).set k (.int .u8 (L.getD k 0)) = fill L (k + 1) := by
  have e : ((L.take k).map (Value.int .u8)).length = k := by simp; omega
  unfold fill
  rw [List.set_append_right _ _ (by omega), e, Nat.sub_self, take_snoc L k 0 h]
  obtain ⟨m, hm⟩ : ∃ m, L.length - k = m + 1 := ⟨L.length - k - 1, by omega⟩
  rw [hm, List.replicate_succ, List.set_cons_zero, show L.length - (k + 1) = m by omega]
  simp
theorem fill_at (L : List Int) (k : Nat) (h : k < L.length) : ∃ v, (fill L k)[k]? = some v := by
  have : k < (fill L k).length := by simp [fill]; omega
  exact ⟨_, List.getElem?_eq_getElem this⟩

/-- a row that is whole, as a string -/
theorem blk_string {w : World} {g : Nat} {L : List Int} {cap : Nat} (h : Blk w g (L.map (Value.int .u8)) 5) :
    (convert 52 9 (.slice (some ⟨g, 0, none⟩) L.length cap)).run Tryz.prog w = .ok (.string (strOfNums L)) w := by
  refine run_convert_bytes_arg w 52 5 Tryz.underlying52 Tryz.underlying5 g 0 L.length cap L rfl ?_ 9 Tryz.underlying9
  intro i hi
  rw [h.cell]
  simp [List.getD_eq_getElem?_getD, hi]

theorem str_ext {a b : ByteArray} (h : a.data.toList = b.data.toList) : a = b := by
  cases a; cases b; simp at h; rw [h]
theorem nums_str (L : List Int) (h : ∀ c ∈ L, 0 ≤ c ∧ c ≤ 255) : nums (strOfNums L) = L := by
  unfold nums
  rw [strOfNums_data, List.map_map]
  conv => rhs; rw [← List.map_id L]
  apply List.map_congr_left
  intro c hc
  have := h c hc
  simp only [Function.comp, id]
  have h2 : c.toNat < 256 := by omega
  simp [UInt8.toNat_ofNat', Nat.mod_eq_of_lt h2]
  omega
theorem str_nums (s : ByteArray) : strOfNums (nums s) = s := by
  apply str_ext
  rw [strOfNums_data]
  unfold nums
  rw [List.map_map]
  conv => rhs; rw [← List.map_id s.data.toList]
  apply List.map_congr_left
  intro c _
  simp
theorem nums_append (a b : ByteArray) : nums (a ++ b) = nums a ++ nums b := by
  have e : (a ++ b).data = a.data ++ b.data := ByteArray.data_append
  simp only [nums, e, Array.toList_append, List.map_append]
theorem nums_extract (s : ByteArray) (i j : Nat) : nums (s.extract i j) = ((nums s).drop i).take (j - i) := by
  simp only [nums]
  rw [ByteArray.data_extract, Array.toList_extract, List.extract_eq_take_drop, List.map_take, List.map_drop]
theorem nums_inj {a b : ByteArray} (h : nums a = nums b) : a = b := by rw [← str_nums a, ← str_nums b, h]
end Go.Proofs.YtjhccghhinlmdabGreatDoor
