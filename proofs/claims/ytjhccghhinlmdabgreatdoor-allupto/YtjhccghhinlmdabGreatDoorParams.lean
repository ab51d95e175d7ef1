/- The calls of package params. -/
import Derived.Test.YtjhccghhinlmdabGreatDoorParamsModel
import Derived.Test.YtjhccghhinlmdabGreatDoorCellsRow
namespace Go.Proofs.YtjhccghhinlmdabGreatDoor
open Go.RowKit

theorem info_int : (Tryz.prog.info? 3).map (fun i => (i.zero, i.size, i.bytes)) = some (some (.int .i64 0), 1, 8) := by kernel_rfl

/-- these bytes lie behind a slice's address -/
def Bytes (w : World) (ao : Option Addr) (xs : List Int) : Prop :=
  (ao = none ∧ xs = []) ∨ ∃ b o, ao = some ⟨b, o, none⟩ ∧ ∀ i, i < xs.length → w.cell? ⟨b, o + i, none⟩ = some (.int .u8 (xs.getD i 0))
theorem Bytes.fr {w w' : World} {ao : Option Addr} {xs : List Int} (h : Bytes w ao xs) (f : Fr [] w w') : Bytes w' ao xs := by
  rcases h with h | ⟨b, o, h, k⟩
  · exact .inl h
  · refine .inr ⟨b, o, h, fun i hi => ?_⟩
    have hc := k i hi
    rw [← hc]
    exact World.cell?_of_block (w := w) (f.block b (World.block_lt_of_cell? w _ hc) (by simp))

def NumPost (w : World) (xs : List Int) (e : Ending) (w' : World) : Prop :=
  Fr [] w w' ∧ match numbers xs with
    | none => e = .returned (.tuple #[.slice none 0 0, .bool false])
    | some l => ∃ gn cap, e = .returned (.tuple #[.slice (some ⟨gn, 0, none⟩) l.length cap, .bool true]) ∧ w.heap.size ≤ gn ∧ w'.ownsRow w.heap.size 3 1 (.slice (some ⟨gn, 0, none⟩) l.length cap) l.length (l.map (Value.int .i64))

theorem NumPost.none {w w' : World} {xs : List Int} (f : Fr [] w w') (h : numbers xs = Option.none) : NumPost w xs (.returned (.tuple #[.slice Option.none 0 0, .bool false])) w' := by
  refine ⟨f, ?_⟩; rw [h]
theorem NumPost.some {w w' : World} {xs l : List Int} {gn cap : Nat} (f : Fr [] w w') (h : numbers xs = Option.some l) (hb : w.heap.size ≤ gn) (ho : w'.ownsRow w.heap.size 3 1 (.slice (Option.some ⟨gn, 0, Option.none⟩) l.length cap) l.length (l.map (Value.int .i64))) :
    NumPost w xs (.returned (.tuple #[.slice (Option.some ⟨gn, 0, Option.none⟩) l.length cap, .bool true])) w' := by
  refine ⟨f, ?_⟩; rw [h]; exact ⟨gn, cap, rfl, hb, ho⟩

theorem drop_cons {α : Type} (l : List α) (k : Nat) (d : α) (h : k < l.length) : l.drop k = l.getD k d :: l.drop (k + 1) := by
  rw [List.drop_eq_getElem_cons h, List.getD_eq_getElem?_getD, List.getElem?_eq_getElem h]; rfl

set_option maxHeartbeats 2000000 in
set_option maxRecDepth 100000 in
theorem readNumbers_any (w : World) (ao : Option Addr) (cap : Nat) (xs : List Int) (hb : Bytes w ao xs) (hx : xs.length ≤ 100) (hr : ∀ x ∈ xs, 0 ≤ x ∧ x ≤ 255) :
    Calls Tryz.prog 110 #[.slice ao xs.length cap] w (NumPost w xs) := by
  obtain ⟨i0, hi, hz0, hz1, hz2⟩ := info_parts info_int
  have HB := hide hb
  clear hb
  go_enter Tryz.func110, Tryz.ntmps110
  go_wp2
  go_loopw [4, 5, 6, 11] (fun v vn vd i wr => ∃ (k : Nat) (acc : List Int) (n d : Int), i = .int .i64 k ∧ vn = .int .i64 n ∧ vd = .int .i64 d ∧ k ≤ xs.length ∧ Dig n d ∧ acc.length ≤ k ∧ Hid (rn (xs.drop k) acc n d = numbers xs) ∧ Fr [] w wr ∧ wr.ownsRow w.heap.size 3 1 v acc.length (acc.map (Value.int .i64))) (fun _ _ _ i _ => (3000 - intOf i).toNat)
  case atStart => exact ⟨0, [], 0, 0, rfl, rfl, rfl, by omega, by unfold Dig; omega, by simp, rfl, Fr.refl _ _, World.ownsRow_nil _ _ _ _⟩
  case round =>
    obtain ⟨k, acc, n, d, rfl, rfl, rfl, hk, hd, hacc, HR, f, hown⟩ := hrel
    have hbd := hd.bd
    have hsz := f.size
    by_cases hend : k < xs.length
    · rcases HB.out.fr f with ⟨_, h0⟩ | ⟨b, o, rfl, hc⟩
      · subst h0; simp at hend
      · have hck := hc k hend
        have hrk := hr (xs.getD k 0) (by rw [List.getD_eq_getElem?_getD, List.getElem?_eq_getElem hend]; simp)
        have hdr := drop_cons xs k 0 hend
        generalize hcc : xs.getD k 0 = c at *
        have HDR := hide hdr
        have HO := hide hown
        clear hc hdr hown hcc
        by_cases h59 : c = 59
        · subst h59
          have hlt : b < wr.heap.size := World.block_lt_of_cell? wr _ hck
          go_wp2_with (first | (at_builtin; refine wpList_append_lies _ rfl (.tmp 18) (.tmp 20) 99 rfl w.heap.size 3 i0 (.int .i64 0) 1 8 Tryz.underlying99 hi hz0 hz1 hz2 rfl (by decide) u4 acc.length (acc.map (Value.int .i64)) rfl (own_fr0 HO.out (by repeat first | exact Fr.refl _ _ | apply Fr.drew | apply Fr.alloc)) ⟨wr.heap.size, 0, none⟩ 1 1 [.int .i64 n] rfl rfl (World.news_of_block (cs := #[.int .i64 n]) (t := 3) (fr := (0, 0)) (by exact heap_alloc_new wr _)) (one_one _ rfl) (by omega) (by unfold maxLen; omega) (by omega) (by simp; omega) (wr.heap.size + 1) (by simp) ?_; intro g1 cap1 w1 hown1 hgrow hat hlt1; have R : Hid (Fr [] w w1 ∧ w1.ownsRow w.heap.size 3 1 (.slice (some ⟨g1, 0, none⟩) (acc.length + 1) cap1) (acc.length + 1) (acc.map (Value.int .i64) ++ [.int .i64 n])) := ⟨Fr.grown (f.alloc _) hgrow (fun j hj => .inr (HO.out.lt j hj).1), hown1⟩; clear hown1 hgrow hat))
          go_roundw
          case rel =>
            refine ⟨k + 1, acc ++ [n], 0, 0, by go_num, rfl, rfl, by omega, by unfold Dig; omega, by simp; omega, ?_, R.out.1, ?_⟩
            · have := HR.out
              rw [HDR.out] at this
              simp only [rn, if_pos] at this
              exact this
            · have := R.out.2
              simpa using this
          case measure => simp [intOf]; omega
        · have b59 : (c == 59) = false := by simpa using h59
          by_cases hdg : 48 ≤ c ∧ c ≤ 57 ∧ d < 3
          · have HN : Hid (rn (xs.drop (k + 1)) acc (n * 10 + (c - 48)) (d + 1) = numbers xs) := by
              have := HR.out
              rw [HDR.out] at this
              simp only [rn, if_neg h59, if_pos hdg] at this
              exact this
            obtain ⟨g1, g2, g3⟩ := hdg
            have HS := hide (hd.step g1 g2 g3)
            clear h59 HR HDR hd
            go_wp2
            go_roundw
            case rel =>
              refine ⟨k + 1, acc, n * 10 + (c - 48), d + 1, by go_num, by go_num, by go_num, by omega, HS.out, by omega, HN.out, f, HO.out⟩
            case measure => simp [intOf]; omega
          · have HN : Hid (numbers xs = none) := by
              have := HR.out
              rw [HDR.out] at this
              simp only [rn, if_neg h59, if_neg hdg] at this
              exact this.symm
            have h3 : c < 48 ∨ (48 ≤ c ∧ 57 < c) ∨ (48 ≤ c ∧ c ≤ 57 ∧ 3 ≤ d) := by omega
            clear h59 HR HDR hd hdg
            rcases h3 with h3 | ⟨h3, h4⟩ | ⟨h3, h4, h5⟩
            all_goals
              go_wp2
              go_ret2
              exact NumPost.none f HN.out
    · have hx0 : xs.drop k = [] := List.drop_eq_nil_of_le (by omega)
      have HN : Hid (numbers xs = some (acc ++ [n])) := by
        have := HR.out
        rw [hx0] at this
        simp only [rn] at this
        exact this.symm
      have HO := hide hown
      clear hx0 HR hown hd
      go_wp2_with (first | (at_builtin; refine wpList_append_lies _ rfl (.tmp 42) (.tmp 44) 99 rfl w.heap.size 3 i0 (.int .i64 0) 1 8 Tryz.underlying99 hi hz0 hz1 hz2 rfl (by decide) u4 acc.length (acc.map (Value.int .i64)) rfl (own_fr0 HO.out (by repeat first | exact Fr.refl _ _ | apply Fr.drew | apply Fr.alloc)) ⟨wr.heap.size, 0, none⟩ 1 1 [.int .i64 n] rfl rfl (World.news_of_block (cs := #[.int .i64 n]) (t := 3) (fr := (0, 0)) (by exact heap_alloc_new wr _)) (one_one _ rfl) (by omega) (by unfold maxLen; omega) (by omega) (by simp; omega) (wr.heap.size + 1) (by simp) ?_; intro g1 cap1 w1 hown1 hgrow hat hlt1; have R : Hid (Fr [] w w1 ∧ w1.ownsRow w.heap.size 3 1 (.slice (some ⟨g1, 0, none⟩) (acc.length + 1) cap1) (acc.length + 1) (acc.map (Value.int .i64) ++ [.int .i64 n])) := ⟨Fr.grown (f.alloc _) hgrow (fun j hj => .inr (HO.out.lt j hj).1), hown1⟩; clear hown1 hgrow hat))
      go_ret2
      have e1 : (acc ++ [n]).length = acc.length + 1 := by simp
      have := NumPost.some (cap := cap1) R.out.1 HN.out (R.out.2.lt g1 rfl).1 (by rw [e1, List.map_append]; exact R.out.2)
      rw [e1] at this
      exact this

theorem own_base {w : World} {base base' : Nat} {e : TypeId} {size : Nat} {v : Value} {n : Nat} {xs : List Value} (h : w.ownsRow base e size v n xs) (hb : base' ≤ base) : w.ownsRow base' e size v n xs := by
  refine ⟨h.1, ?_⟩
  rcases h.2 with h | ⟨g, cap, cur, h1, h2, h3⟩
  · exact .inl h
  · exact .inr ⟨g, cap, cur, h1, by omega, h3⟩

def ReadPost (w : World) (xs : List Int) (e : Ending) (w' : World) : Prop :=
  Fr [] w w' ∧ match readP xs with
    | none => e = .returned (.tuple #[.agg #[.bool false, .slice none 0 0], .bool false])
    | some (q, l) => ∃ gn cap, e = .returned (.tuple #[.agg #[.bool q, .slice (some ⟨gn, 0, none⟩) l.length cap], .bool true]) ∧ w'.ownsRow w.heap.size 3 1 (.slice (some ⟨gn, 0, none⟩) l.length cap) l.length (l.map (Value.int .i64))

theorem ReadPost.none {w w' : World} {xs : List Int} (f : Fr [] w w') (h : readP xs = Option.none) : ReadPost w xs (.returned (.tuple #[.agg #[.bool false, .slice Option.none 0 0], .bool false])) w' := by
  refine ⟨f, ?_⟩; rw [h]
theorem ReadPost.some {w w' : World} {xs l : List Int} {q : Bool} {gn cap : Nat} (f : Fr [] w w') (h : readP xs = Option.some (q, l)) (ho : w'.ownsRow w.heap.size 3 1 (.slice (Option.some ⟨gn, 0, Option.none⟩) l.length cap) l.length (l.map (Value.int .i64))) :
    ReadPost w xs (.returned (.tuple #[.agg #[.bool q, .slice (Option.some ⟨gn, 0, Option.none⟩) l.length cap], .bool true])) w' := by
  refine ⟨f, ?_⟩; rw [h]; exact ⟨gn, cap, rfl, ho⟩

/-- what has been read of the rest, for the whole -/
theorem read_of (xs : List Int) (h : xs.length ≤ 12) (q : Bool) (ys : List Int) (hq : (q = true ∧ xs.head? = some 63 ∧ ys = xs.tail) ∨ (q = false ∧ xs.head? ≠ some 63 ∧ ys = xs)) : readP xs = (numbers ys).map fun l => (q, l) := by
  unfold readP
  rw [if_neg (by omega)]
  rcases hq with ⟨rfl, h1, rfl⟩ | ⟨rfl, h1, rfl⟩
  · rw [if_pos h1]
  · rw [if_neg h1]

set_option maxHeartbeats 2000000 in
set_option maxRecDepth 100000 in
theorem read_any (w : World) (ao : Option Addr) (cap : Nat) (xs : List Int) (hb : Bytes w ao xs) (hx : xs.length ≤ 100) (hcap : xs.length ≤ cap) (_hcap2 : cap ≤ 9223372036854775807) (hr : ∀ x ∈ xs, 0 ≤ x ∧ x ≤ 255) :
    Calls Tryz.prog 96 #[.slice ao xs.length cap] w (ReadPost w xs) := by
  by_cases h12 : 12 < xs.length
  · have E := hide (show readP xs = none by unfold readP; rw [if_pos h12])
    clear hb hr
    go_enter Tryz.func96, Tryz.ntmps96
    go_wp2
    exact bodyPost_ret (v := .tuple #[.agg #[.bool false, .slice none 0 0], .bool false]) (by simp [results, Tryz.results96, go_sem]) rfl (ReadPost.none ((Fr.refl _ _).alloc _) E.out)
  · by_cases hq : xs.head? = some 63
    · obtain ⟨ys, rfl⟩ : ∃ ys, xs = 63 :: ys := by cases xs with
        | nil => simp at hq
        | cons a r => simp at hq; subst hq; exact ⟨r, rfl⟩
      have E := hide (read_of (63 :: ys) (by omega) true ys (.inl ⟨rfl, hq, rfl⟩))
      rcases hb with ⟨_, h0⟩ | ⟨b, o, rfl, hc⟩
      · cases h0
      have hlt : b < w.heap.size := World.block_lt_of_cell? w _ (hc 0 (by simp))
      have hc0 : w.cell? ⟨b, o, none⟩ = some (.int .u8 63) := hc 0 (by simp)
      have HB : Hid (Bytes w (some ⟨b, o + 1, none⟩) ys) := .inr ⟨b, o + 1, rfl, fun i hi => by
        have := hc (i + 1) (by simp; omega)
        rw [show o + (i + 1) = o + 1 + i by omega] at this
        simpa using this⟩
      have HR : Hid (∀ x ∈ ys, 0 ≤ x ∧ x ≤ 255) := fun x hm => hr x (by simp [hm])
      simp only [List.length_cons] at h12 hx hcap ⊢
      clear hc hr hq
      go_enter Tryz.func96, Tryz.ntmps96
      go_wp2_with fail
      · have : ys = [] := List.eq_nil_of_length_eq_zero (by omega)
        refine (readNumbers_any _ _ _ ys (.inr ⟨b, o, rfl, by simp [this]⟩) (by omega) HR.out).mono ?_
        clear this
        rintro e w1 ⟨f1, h1⟩
        have bx := (Blk.new w [.bool false, .slice none 0 0] 148).fr0 f1
        have k0 : w1.cell? ⟨w.heap.size, 0, none⟩ = some (.bool false) := bx.cell 0
        have k1 : w1.cell? ⟨w.heap.size, 1, none⟩ = some (.slice none 0 0) := bx.cell 1
        have m0 := bx.frozen 0
        have m1 := bx.frozen 1
        have F1 : Hid (Fr [] w w1) := ((Fr.refl [] w).alloc _).then f1
        have BX := hide bx
        have E1 := E.out
        cases hn : numbers ys with
        | none =>
          rw [hn] at h1 E1
          have E2 := hide E1
          subst h1
          clear f1 hn E1 bx
          go_wp2
          have fz : Fr [] w _ := ((F1.out.setCell (p := ⟨w.heap.size, 0, none⟩) (.inr (Nat.le_refl _)) (.bool false)).setCell (p := ⟨w.heap.size, 1, none⟩) (.inr (Nat.le_refl _)) (.slice none 0 0))
          have b2 := (BX.out.set 0 (.bool false)).set 1 (.slice none 0 0)
          have z0 := b2.cell 0
          have z1 := b2.cell 1
          simp at z0 z1
          exact bodyPost_ret (v := .tuple #[.agg #[.bool false, .slice none 0 0], .bool false]) (by simp [results, Tryz.results96, go_sem, z0, z1]) rfl (ReadPost.none fz E2.out)
        | some l =>
          rw [hn] at h1 E1
          obtain ⟨gn, capn, he, hgn, hown⟩ := h1
          have E2 := hide E1
          have HO : Hid (w1.ownsRow w.heap.size 3 1 (.slice (some ⟨gn, 0, none⟩) l.length capn) l.length (l.map (Value.int .i64))) := own_base hown (by simp)
          subst he
          clear f1 hn E1 bx hown
          go_wp2
          have fz : Fr [] w _ := ((F1.out.setCell (p := ⟨w.heap.size, 0, none⟩) (.inr (Nat.le_refl _)) (.bool true)).setCell (p := ⟨w.heap.size, 1, none⟩) (.inr (Nat.le_refl _)) (.slice (some ⟨gn, 0, none⟩) l.length capn))
          have b2 := (BX.out.set 0 (.bool true)).set 1 (.slice (some ⟨gn, 0, none⟩) l.length capn)
          have z0 := b2.cell 0
          have z1 := b2.cell 1
          simp at z0 z1
          have ne : some w.heap.size ≠ (Value.slice (some ⟨gn, 0, none⟩) l.length capn).ownBlock := own_ne HO.out BX.out (by decide)
          have ho2 := own_fr (S := [w.heap.size]) HO.out (((Fr.refl [w.heap.size] w1).setCell (p := ⟨w.heap.size, 0, none⟩) (by simp) (.bool true)).setCell (p := ⟨w.heap.size, 1, none⟩) (by simp) (.slice (some ⟨gn, 0, none⟩) l.length capn)) (by intro b hb; simp at hb; subst hb; exact ne)
          exact bodyPost_ret (v := .tuple #[.agg #[.bool true, .slice (some ⟨gn, 0, none⟩) l.length capn], .bool true]) (by simp [results, Tryz.results96, go_sem, z0, z1]) rfl (ReadPost.some fz E2.out ho2)
      · refine (readNumbers_any _ _ _ ys (HB.out.fr ((Fr.refl _ _).alloc _)) (by omega) HR.out).mono ?_
        rintro e w1 ⟨f1, h1⟩
        have bx := (Blk.new w [.bool false, .slice none 0 0] 148).fr0 f1
        have k0 : w1.cell? ⟨w.heap.size, 0, none⟩ = some (.bool false) := bx.cell 0
        have k1 : w1.cell? ⟨w.heap.size, 1, none⟩ = some (.slice none 0 0) := bx.cell 1
        have m0 := bx.frozen 0
        have m1 := bx.frozen 1
        have F1 : Hid (Fr [] w w1) := ((Fr.refl [] w).alloc _).then f1
        have BX := hide bx
        have E1 := E.out
        cases hn : numbers ys with
        | none =>
          rw [hn] at h1 E1
          have E2 := hide E1
          subst h1
          clear f1 hn E1 bx
          go_wp2
          have fz : Fr [] w _ := ((F1.out.setCell (p := ⟨w.heap.size, 0, none⟩) (.inr (Nat.le_refl _)) (.bool false)).setCell (p := ⟨w.heap.size, 1, none⟩) (.inr (Nat.le_refl _)) (.slice none 0 0))
          have b2 := (BX.out.set 0 (.bool false)).set 1 (.slice none 0 0)
          have z0 := b2.cell 0
          have z1 := b2.cell 1
          simp at z0 z1
          exact bodyPost_ret (v := .tuple #[.agg #[.bool false, .slice none 0 0], .bool false]) (by simp [results, Tryz.results96, go_sem, z0, z1]) rfl (ReadPost.none fz E2.out)
        | some l =>
          rw [hn] at h1 E1
          obtain ⟨gn, capn, he, hgn, hown⟩ := h1
          have E2 := hide E1
          have HO : Hid (w1.ownsRow w.heap.size 3 1 (.slice (some ⟨gn, 0, none⟩) l.length capn) l.length (l.map (Value.int .i64))) := own_base hown (by simp)
          subst he
          clear f1 hn E1 bx hown
          go_wp2
          have fz : Fr [] w _ := ((F1.out.setCell (p := ⟨w.heap.size, 0, none⟩) (.inr (Nat.le_refl _)) (.bool true)).setCell (p := ⟨w.heap.size, 1, none⟩) (.inr (Nat.le_refl _)) (.slice (some ⟨gn, 0, none⟩) l.length capn))
          have b2 := (BX.out.set 0 (.bool true)).set 1 (.slice (some ⟨gn, 0, none⟩) l.length capn)
          have z0 := b2.cell 0
          have z1 := b2.cell 1
          simp at z0 z1
          have ne : some w.heap.size ≠ (Value.slice (some ⟨gn, 0, none⟩) l.length capn).ownBlock := own_ne HO.out BX.out (by decide)
          have ho2 := own_fr (S := [w.heap.size]) HO.out (((Fr.refl [w.heap.size] w1).setCell (p := ⟨w.heap.size, 0, none⟩) (by simp) (.bool true)).setCell (p := ⟨w.heap.size, 1, none⟩) (by simp) (.slice (some ⟨gn, 0, none⟩) l.length capn)) (by intro b hb; simp at hb; subst hb; exact ne)
          exact bodyPost_ret (v := .tuple #[.agg #[.bool true, .slice (some ⟨gn, 0, none⟩) l.length capn], .bool true]) (by simp [results, Tryz.results96, go_sem, z0, z1]) rfl (ReadPost.some fz E2.out ho2)
    · have E := hide (read_of xs (by omega) false xs (.inr ⟨rfl, hq, rfl⟩))
      have HB := hide hb
      have HR := hide hr
      cases xs with
      | nil =>
        clear hb hr hq
        go_enter Tryz.func96, Tryz.ntmps96
        go_wp2_with fail
        refine (readNumbers_any _ _ _ [] (HB.out.fr ((Fr.refl _ _).alloc _)) (by omega) HR.out).mono ?_
        rintro e w1 ⟨f1, h1⟩
        have bx := (Blk.new w [.bool false, .slice none 0 0] 148).fr0 f1
        have k0 : w1.cell? ⟨w.heap.size, 0, none⟩ = some (.bool false) := bx.cell 0
        have k1 : w1.cell? ⟨w.heap.size, 1, none⟩ = some (.slice none 0 0) := bx.cell 1
        have m0 := bx.frozen 0
        have m1 := bx.frozen 1
        have F1 : Hid (Fr [] w w1) := ((Fr.refl [] w).alloc _).then f1
        have BX := hide bx
        have E1 := E.out
        cases hn : numbers [] with
        | none =>
          rw [hn] at h1 E1
          have E2 := hide E1
          subst h1
          clear f1 hn E1 bx
          go_wp2
          have fz : Fr [] w _ := ((F1.out.setCell (p := ⟨w.heap.size, 0, none⟩) (.inr (Nat.le_refl _)) (.bool false)).setCell (p := ⟨w.heap.size, 1, none⟩) (.inr (Nat.le_refl _)) (.slice none 0 0))
          have b2 := (BX.out.set 0 (.bool false)).set 1 (.slice none 0 0)
          have z0 := b2.cell 0
          have z1 := b2.cell 1
          simp at z0 z1
          exact bodyPost_ret (v := .tuple #[.agg #[.bool false, .slice none 0 0], .bool false]) (by simp [results, Tryz.results96, go_sem, z0, z1]) rfl (ReadPost.none fz E2.out)
        | some l =>
          rw [hn] at h1 E1
          obtain ⟨gn, capn, he, hgn, hown⟩ := h1
          have E2 := hide E1
          have HO : Hid (w1.ownsRow w.heap.size 3 1 (.slice (some ⟨gn, 0, none⟩) l.length capn) l.length (l.map (Value.int .i64))) := own_base hown (by simp)
          subst he
          clear f1 hn E1 bx hown
          go_wp2
          have fz : Fr [] w _ := ((F1.out.setCell (p := ⟨w.heap.size, 0, none⟩) (.inr (Nat.le_refl _)) (.bool false)).setCell (p := ⟨w.heap.size, 1, none⟩) (.inr (Nat.le_refl _)) (.slice (some ⟨gn, 0, none⟩) l.length capn))
          have b2 := (BX.out.set 0 (.bool false)).set 1 (.slice (some ⟨gn, 0, none⟩) l.length capn)
          have z0 := b2.cell 0
          have z1 := b2.cell 1
          simp at z0 z1
          have ne : some w.heap.size ≠ (Value.slice (some ⟨gn, 0, none⟩) l.length capn).ownBlock := own_ne HO.out BX.out (by decide)
          have ho2 := own_fr (S := [w.heap.size]) HO.out (((Fr.refl [w.heap.size] w1).setCell (p := ⟨w.heap.size, 0, none⟩) (by simp) (.bool false)).setCell (p := ⟨w.heap.size, 1, none⟩) (by simp) (.slice (some ⟨gn, 0, none⟩) l.length capn)) (by intro b hb; simp at hb; subst hb; exact ne)
          exact bodyPost_ret (v := .tuple #[.agg #[.bool false, .slice (some ⟨gn, 0, none⟩) l.length capn], .bool true]) (by simp [results, Tryz.results96, go_sem, z0, z1]) rfl (ReadPost.some fz E2.out ho2)
      | cons a r =>
        have ha : (a == 63) = false := by simpa using hq
        rcases hb with ⟨_, h0⟩ | ⟨b, o, rfl, hc⟩
        · cases h0
        have hlt : b < w.heap.size := World.block_lt_of_cell? w _ (hc 0 (by simp))
        have hc0 : w.cell? ⟨b, o, none⟩ = some (.int .u8 a) := hc 0 (by simp)
        have L : Hid ((a :: r).length = r.length + 1) := rfl
        simp only [List.length_cons] at h12 hx hcap ⊢
        clear hc hr hq
        go_enter Tryz.func96, Tryz.ntmps96
        go_wp2_with fail
        refine (readNumbers_any _ _ _ (a :: r) (HB.out.fr ((Fr.refl _ _).alloc _)) (by simp; omega) HR.out).mono ?_
        rintro e w1 ⟨f1, h1⟩
        have bx := (Blk.new w [.bool false, .slice none 0 0] 148).fr0 f1
        have k0 : w1.cell? ⟨w.heap.size, 0, none⟩ = some (.bool false) := bx.cell 0
        have k1 : w1.cell? ⟨w.heap.size, 1, none⟩ = some (.slice none 0 0) := bx.cell 1
        have m0 := bx.frozen 0
        have m1 := bx.frozen 1
        have F1 : Hid (Fr [] w w1) := ((Fr.refl [] w).alloc _).then f1
        have BX := hide bx
        have E1 := E.out
        cases hn : numbers (a :: r) with
        | none =>
          rw [hn] at h1 E1
          have E2 := hide E1
          subst h1
          clear f1 hn E1 bx
          go_wp2
          have fz : Fr [] w _ := ((F1.out.setCell (p := ⟨w.heap.size, 0, none⟩) (.inr (Nat.le_refl _)) (.bool false)).setCell (p := ⟨w.heap.size, 1, none⟩) (.inr (Nat.le_refl _)) (.slice none 0 0))
          have b2 := (BX.out.set 0 (.bool false)).set 1 (.slice none 0 0)
          have z0 := b2.cell 0
          have z1 := b2.cell 1
          simp at z0 z1
          exact bodyPost_ret (v := .tuple #[.agg #[.bool false, .slice none 0 0], .bool false]) (by simp [results, Tryz.results96, go_sem, z0, z1]) rfl (ReadPost.none fz E2.out)
        | some l =>
          rw [hn] at h1 E1
          obtain ⟨gn, capn, he, hgn, hown⟩ := h1
          have E2 := hide E1
          have HO : Hid (w1.ownsRow w.heap.size 3 1 (.slice (some ⟨gn, 0, none⟩) l.length capn) l.length (l.map (Value.int .i64))) := own_base hown (by simp)
          subst he
          clear f1 hn E1 bx hown
          go_wp2
          have fz : Fr [] w _ := ((F1.out.setCell (p := ⟨w.heap.size, 0, none⟩) (.inr (Nat.le_refl _)) (.bool false)).setCell (p := ⟨w.heap.size, 1, none⟩) (.inr (Nat.le_refl _)) (.slice (some ⟨gn, 0, none⟩) l.length capn))
          have b2 := (BX.out.set 0 (.bool false)).set 1 (.slice (some ⟨gn, 0, none⟩) l.length capn)
          have z0 := b2.cell 0
          have z1 := b2.cell 1
          simp at z0 z1
          have ne : some w.heap.size ≠ (Value.slice (some ⟨gn, 0, none⟩) l.length capn).ownBlock := own_ne HO.out BX.out (by decide)
          have ho2 := own_fr (S := [w.heap.size]) HO.out (((Fr.refl [w.heap.size] w1).setCell (p := ⟨w.heap.size, 0, none⟩) (by simp) (.bool false)).setCell (p := ⟨w.heap.size, 1, none⟩) (by simp) (.slice (some ⟨gn, 0, none⟩) l.length capn)) (by intro b hb; simp at hb; subst hb; exact ne)
          exact bodyPost_ret (v := .tuple #[.agg #[.bool false, .slice (some ⟨gn, 0, none⟩) l.length capn], .bool true]) (by simp [results, Tryz.results96, go_sem, z0, z1]) rfl (ReadPost.some fz E2.out ho2)
end Go.Proofs.YtjhccghhinlmdabGreatDoor
