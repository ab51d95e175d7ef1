/- The brush walked: the cursor is set; one screen is turned into another, and a whole one is painted. -/
import Derived.Test.YtjhccghhinlmdaaDoorBrushPaint
namespace Go.Proofs.YtjhccghhinlmdaaDoor
open Go.RowKit

/-- a cursor, as it is handed over -/
def Cur.val (c : Cur) : Value := .agg #[.int .i64 c.x, .int .i64 c.y, .bool c.shown]
theorem nums_show : nums ⟨#[27, 91, 63, 50, 53, 104]⟩ = showL := by decide
theorem nums_hide : nums ⟨#[27, 91, 63, 50, 53, 108]⟩ = hideL := by decide

set_option maxHeartbeats 2000000 in
set_option maxRecDepth 100000 in
theorem bcursor_any (cx cy dx dy : Int) (cs ds : Bool) (w : World) (base bb : Nat) (b : B) (h : BrAt w base bb b) (hl : b.bytes.length ≤ 98000) (hd : ds = true → 0 ≤ dx ∧ dx < 99 ∧ 0 ≤ dy ∧ dy < 99) :
    Calls Tryd.prog 63 #[.pointer (some ⟨bb, 0, none⟩), .agg #[.int .i64 cx, .int .i64 cy, .bool cs], .agg #[.int .i64 dx, .int .i64 dy, .bool ds]] w
      fun e w' => e = .returned (.tuple #[]) ∧ Keeps base w w' ∧ ∃ b', BrAt w' base bb b' ∧ b'.bytes = b.cursor ⟨cx, cy, cs⟩ ⟨dx, dy, ds⟩ := by
  have hge := h.ge
  have lt := h.lt
  have f1 : Fr [] w (w.alloc (.cells #[.int .i64 cx, .int .i64 cy, .bool cs] 53)) := (Fr.refl _ _).alloc _
  have f2 := f1.alloc (.cells #[.int .i64 dx, .int .i64 dy, .bool ds] 53)
  have F2 := hide f2
  have k1 : Blk ((w.alloc (.cells #[.int .i64 cx, .int .i64 cy, .bool cs] 53)).alloc (.cells #[.int .i64 dx, .int .i64 dy, .bool ds] 53)) w.heap.size [.int .i64 cx, .int .i64 cy, .bool cs] 53 := (Blk.new w _ _).alloc _
  have k2 : Blk ((w.alloc (.cells #[.int .i64 cx, .int .i64 cy, .bool cs] 53)).alloc (.cells #[.int .i64 dx, .int .i64 dy, .bool ds] 53)) (w.heap.size + 1) [.int .i64 dx, .int .i64 dy, .bool ds] 53 := by
    have := Blk.new (w.alloc (.cells #[.int .i64 cx, .int .i64 cy, .bool cs] 53)) [.int .i64 dx, .int .i64 dy, .bool ds] 53
    simpa using this
  have K1 := hide k1
  have K2 := hide k2
  have H2 := hide (h.fr0 f2)
  have KP := hide (f2.keeps (base := base) (by omega))
  clear f1 f2 k1 k2 h
  have ML := hide (B.moveTo_len b dx dy)
  cases ds
  · clear hd
    cases cs
    · have E : Hid (b.cursor ⟨cx, cy, false⟩ ⟨dx, dy, false⟩ = b.bytes) := by show _ = _; simp [B.cursor]
      go_enter Tryd.func63, Tryd.ntmps63
      go_wp2
      go_end0
      exact ⟨rfl, KP.out, b, H2.out, E.out.symm⟩
    · have E : Hid (b.cursor ⟨cx, cy, true⟩ ⟨dx, dy, false⟩ = b.bytes ++ hideL) := by show _ = _; simp [B.cursor]
      have AD := hide (badd_any ⟨#[27, 91, 63, 50, 53, 108]⟩ _ base bb b H2.out (by omega) (by decide))
      rw [nums_hide] at AD
      go_enter Tryd.func63, Tryd.ntmps63
      go_wp2_with fail
      refine AD.out.mono ?_
      rintro e w3 ⟨rfl, l3, b3⟩
      have L3 := hide (KP.out.trans l3)
      have B3 := hide b3
      clear l3 b3
      go_wp2
      go_end0
      exact ⟨rfl, L3.out, _, B3.out, E.out.symm⟩
  · obtain ⟨d1, d2, d3, d4⟩ := hd rfl
    have MV := hide (bmove_any dx dy _ base bb b H2.out (by omega) d1 d2 d3 d4)
    cases cs
    · have E : Hid (b.cursor ⟨cx, cy, false⟩ ⟨dx, dy, true⟩ = (b.moveTo dx dy).bytes ++ showL) := by show _ = _; simp [B.cursor]
      have NS := hide nums_show
      go_enter Tryd.func63, Tryd.ntmps63
      go_wp2_with fail
      refine MV.out.mono ?_
      rintro e w3 ⟨rfl, l3, b3⟩
      have j1 := l3.blk _ _ _ K1.out (by decide) (by decide)
      have j2 := l3.blk _ _ _ K2.out (by decide) (by decide)
      have c12 : w3.cell? ⟨w.heap.size, 2, none⟩ = some (.bool false) := j1.cell 2
      have c22 : w3.cell? ⟨w.heap.size + 1, 2, none⟩ = some (.bool true) := j2.cell 2
      have lt3 := j2.lt
      have J1 := hide j1
      have J2 := hide j2
      have AD := hide (badd_any ⟨#[27, 91, 63, 50, 53, 104]⟩ _ base bb _ b3 (by have := ML.out; omega) (by decide))
      rw [NS.out] at AD
      have L3 := hide (KP.out.trans l3)
      clear l3 b3 j1 j2
      go_wp2_with fail
      refine AD.out.mono ?_
      rintro e w4 ⟨rfl, l4, b4⟩
      have j1 := l4.blk _ _ _ J1.out (by decide) (by decide)
      have c14 : w4.cell? ⟨w.heap.size, 2, none⟩ = some (.bool false) := j1.cell 2
      have L4 := hide (L3.out.trans l4)
      have B4 := hide b4
      clear l4 b4 j1
      go_wp2
      go_end0
      exact ⟨rfl, L4.out, _, B4.out, E.out.symm⟩
    · have E : Hid (b.cursor ⟨cx, cy, true⟩ ⟨dx, dy, true⟩ = (b.moveTo dx dy).bytes) := by show _ = _; simp [B.cursor]
      go_enter Tryd.func63, Tryd.ntmps63
      go_wp2_with fail
      refine MV.out.mono ?_
      rintro e w3 ⟨rfl, l3, b3⟩
      have j1 := l3.blk _ _ _ K1.out (by decide) (by decide)
      have j2 := l3.blk _ _ _ K2.out (by decide) (by decide)
      have c12 : w3.cell? ⟨w.heap.size, 2, none⟩ = some (.bool true) := j1.cell 2
      have c22 : w3.cell? ⟨w.heap.size + 1, 2, none⟩ = some (.bool true) := j2.cell 2
      have lt3 := j2.lt
      have L3 := hide (KP.out.trans l3)
      have B3 := hide b3
      clear l3 b3 j1 j2
      go_wp2
      go_end0
      exact ⟨rfl, L3.out, _, B3.out, E.out.symm⟩

theorem Fr.thenBelow {B : Nat} {a b c : World} (f : Fr [] a b) (h : Below B b c) (hB : a.heap.size ≤ B) : Fr [] a c :=
  ⟨h.os.trans f.os, h.tape.trans f.tape, h.output.trans f.output, Nat.le_trans f.size h.size, fun k hk hn => (h.block k (by omega)).trans (f.block k hk hn)⟩
/-- a slice of the call's own, as a string, whatever its length -/
theorem own_str {w : World} {base : Nat} {e : TypeId} {v : Value} {k : Nat} {xs : List Int} {src dst : TypeId} (h : w.ownsRow base e 1 v k (xs.map (Value.int .u8))) (hs : Tryd.prog.underlying src = some (.slice e)) (he : Tryd.prog.underlying e = some (.int .u8)) (hd : Tryd.prog.underlying dst = some .string) :
    ∃ sa sc, v = .slice sa k sc ∧ ∀ w', Fr [] w w' → (convert src dst (.slice sa k sc)).run Tryd.prog w' = .ok (.string (strOfNums xs)) w' := by
  rcases Nat.eq_zero_or_pos k with h0 | h0
  · subst h0
    have hx : xs = [] := by have := h.1; simp at this; exact this
    subst hx
    rcases h.2 with ⟨rfl, _⟩ | ⟨g, cap, cur, rfl, _⟩
    · refine ⟨none, 0, rfl, fun w' _ => ?_⟩
      rw [run_convert_bytes_nil w' src e hs he 0 0 dst hd]; rfl
    · exact ⟨_, _, rfl, fun w' _ => run_convert_bytes_arg w' src e hs he g 0 0 cap [] rfl (fun i hi => by omega) dst hd⟩
  · obtain ⟨g, cap, rfl, hc⟩ := own_string h h0 hs he hd
    exact ⟨_, _, rfl, hc⟩
theorem cur_ne {c d : Cur} (h : c ≠ d) : (c.x == d.x) = false ∨ ((c.x == d.x) = true ∧ (c.y == d.y) = false) ∨ ((c.x == d.x) = true ∧ (c.y == d.y) = true ∧ (c.shown == d.shown) = false) := by
  by_cases h1 : c.x = d.x
  · by_cases h2 : c.y = d.y
    · refine .inr (.inr ⟨by simpa using h1, by simpa using h2, ?_⟩)
      simp; intro h3; exact h (by cases c; cases d; simp_all)
    · exact .inr (.inl ⟨by simpa using h1, by simpa using h2⟩)
  · exact .inl (by simpa using h1)
theorem cursor_bytes_len (b : B) (c d : Cur) (h : b.bytes.length ≤ 13000) : (b.cursor c d).length ≤ 14000 := by have := b.cursor_len c d; omega

set_option maxHeartbeats 4000000 in
set_option maxRecDepth 100000 in
theorem bchange_any (w : World) (W H : Int) (fg fc fcap : Nat) (fsp : List Value) (f : List (Int × Int)) (gg gc gcap : Nat) (gsp : List Value) (g : List (Int × Int)) (c d : Cur)
    (GF : Grid w fg fc fcap fsp W H f) (GG : Grid w gg gc gcap gsp W H g) (hc : Chars g) (hd : d.shown = true → 0 ≤ d.x ∧ d.x < W ∧ 0 ≤ d.y ∧ d.y < H) :
    Calls Tryd.prog 51 #[.agg #[.pointer (some ⟨fg, 0, none⟩), .int .i64 c.x, .int .i64 c.y, .bool c.shown], .agg #[.pointer (some ⟨gg, 0, none⟩), .int .i64 d.x, .int .i64 d.y, .bool d.shown]] w
      fun e w' => e = .returned (.string (strOfNums (change W H f g c d))) ∧ Fr [] w w' := by
  have b1 := GF.hd.lt
  have b2 := GF.row.lt
  have b3 := GG.hd.lt
  have b4 := GG.row.lt
  have hw := GF.w2
  have hh := GF.h2
  have mb := hide (mul_bd GF.w1 GF.w2 GF.h1 GF.h2)
  have PL : Hid ((B.paint W H f g).bytes.length ≤ 13000) := by
    show _ ≤ _
    have h1 := B.paint_len W H f g
    have h2 := others_le f g (W * H).toNat
    have := mb.out
    omega
  have f3 := hide ((((Fr.refl [] w).alloc (.cells #[.pointer (some ⟨fg, 0, none⟩), .int .i64 c.x, .int .i64 c.y, .bool c.shown] 76)).alloc (.cells #[.pointer (some ⟨gg, 0, none⟩), .int .i64 d.x, .int .i64 d.y, .bool d.shown] 76)).alloc (.cells #[.slice none 0 0, .int .i64 (-1), .int .i64 (-1), .int .u8 7] 115))
  have k1 := hide (((Blk.new w [.pointer (some ⟨fg, 0, none⟩), .int .i64 c.x, .int .i64 c.y, .bool c.shown] 76).alloc (.cells #[.pointer (some ⟨gg, 0, none⟩), .int .i64 d.x, .int .i64 d.y, .bool d.shown] 76)).alloc (.cells #[.slice none 0 0, .int .i64 (-1), .int .i64 (-1), .int .u8 7] 115))
  have k2 : Hid (Blk (((w.alloc (.cells #[.pointer (some ⟨fg, 0, none⟩), .int .i64 c.x, .int .i64 c.y, .bool c.shown] 76)).alloc (.cells #[.pointer (some ⟨gg, 0, none⟩), .int .i64 d.x, .int .i64 d.y, .bool d.shown] 76)).alloc (.cells #[.slice none 0 0, .int .i64 (-1), .int .i64 (-1), .int .u8 7] 115)) (w.heap.size + 1) [.pointer (some ⟨gg, 0, none⟩), .int .i64 d.x, .int .i64 d.y, .bool d.shown] 76) := by
    have := (Blk.new (w.alloc (.cells #[.pointer (some ⟨fg, 0, none⟩), .int .i64 c.x, .int .i64 c.y, .bool c.shown] 76)) [.pointer (some ⟨gg, 0, none⟩), .int .i64 d.x, .int .i64 d.y, .bool d.shown] 76).alloc (.cells #[.slice none 0 0, .int .i64 (-1), .int .i64 (-1), .int .u8 7] 115)
    exact hide (by simpa using this)
  have B0 : Hid (BrAt (((w.alloc (.cells #[.pointer (some ⟨fg, 0, none⟩), .int .i64 c.x, .int .i64 c.y, .bool c.shown] 76)).alloc (.cells #[.pointer (some ⟨gg, 0, none⟩), .int .i64 d.x, .int .i64 d.y, .bool d.shown] 76)).alloc (.cells #[.slice none 0 0, .int .i64 (-1), .int .i64 (-1), .int .u8 7] 115)) (w.heap.size + 2) (w.heap.size + 2) B.first) := by
    refine ⟨⟨.slice none 0 0, ?_, World.ownsRow_nil _ _ _ _⟩, Nat.le_refl _⟩
    show Blk _ _ [.slice none 0 0, .int .i64 (-1), .int .i64 (-1), .int .u8 7] 115
    have := Blk.new ((w.alloc (.cells #[.pointer (some ⟨fg, 0, none⟩), .int .i64 c.x, .int .i64 c.y, .bool c.shown] 76)).alloc (.cells #[.pointer (some ⟨gg, 0, none⟩), .int .i64 d.x, .int .i64 d.y, .bool d.shown] 76)) [.slice none 0 0, .int .i64 (-1), .int .i64 (-1), .int .u8 7] 115
    simpa using this
  have PA := hide (bpaint_any _ (w.heap.size + 2) (w.heap.size + 2) W H fg fc fcap fsp f gg gc gcap gsp g B0.out (GF.fr0 f3.out) (GG.fr0 f3.out) (by omega) (by omega) (by omega) (by omega) hc)
  have CH : Hid (change W H f g c d = if (B.paint W H f g).bytes = [] ∧ c = d then [] else (B.paint W H f g).cursor c d) := rfl
  have CE : Hid (∀ h : c ≠ d, _) := fun h => cur_ne h
  clear GF GG hc B0
  generalize B.paint W H f g = b at *
  generalize change W H f g c d = out at *
  obtain ⟨cx, cy, cs⟩ := c
  obtain ⟨dx, dy, ds⟩ := d
  have CU := hide (fun w' base bb (h : BrAt w' base bb b) => bcursor_any cx cy dx dy cs ds w' base bb b h (by have := PL.out; omega) (by intro h; have := hd h; simp only [] at this; omega))
  clear hd
  simp only [] at *
  go_enter Tryd.func51, Tryd.ntmps51
  go_wp2_with fail
  refine PA.out.mono ?_
  rintro e w4 ⟨rfl, l4, b4'⟩
  have j1 := l4.blk _ _ _ k1.out (by decide) (by decide)
  have j2 := l4.blk _ _ _ k2.out (by decide) (by decide)
  have a1 : w4.cell? ⟨w.heap.size, 1, none⟩ = some (.int .i64 cx) := j1.cell 1
  have a2 : w4.cell? ⟨w.heap.size, 2, none⟩ = some (.int .i64 cy) := j1.cell 2
  have a3 : w4.cell? ⟨w.heap.size, 3, none⟩ = some (.bool cs) := j1.cell 3
  have e1 : w4.cell? ⟨w.heap.size + 1, 1, none⟩ = some (.int .i64 dx) := j2.cell 1
  have e2 : w4.cell? ⟨w.heap.size + 1, 2, none⟩ = some (.int .i64 dy) := j2.cell 2
  have e3 : w4.cell? ⟨w.heap.size + 1, 3, none⟩ = some (.bool ds) := j2.cell 3
  obtain ⟨v, hb, ho⟩ := b4'.row
  obtain ⟨sa, sc, rfl, kc⟩ := own_str (src := 66) (dst := 9) ho Tryd.underlying66 Tryd.underlying5 Tryd.underlying9
  have v0 : w4.cell? ⟨w.heap.size + 2, 0, none⟩ = some (.slice sa b.bytes.length sc) := hb.cell 0
  have lt4 := hb.lt
  have B4 := hide b4'
  have F4 := hide (f3.out.thenBelow l4.below (by omega))
  have kc4 := kc w4 (Fr.refl _ _)
  have pl := PL.out
  clear j1 j2 hb ho b4' l4 kc PA k1 k2 f3
  by_cases hz : b.bytes.length = 0
  · have hb0 : b.bytes = [] := List.eq_nil_of_length_eq_zero hz
    rw [hz] at v0 kc4
    by_cases hcd : (⟨cx, cy, cs⟩ : Cur) = ⟨dx, dy, ds⟩
    · have OUT : Hid (out = b.bytes) := by show _ = _; rw [CH.out, if_pos ⟨hb0, hcd⟩, hb0]
      injection hcd with h1 h2 h3
      subst h1 h2 h3
      clear hb0 CH CE CU
      go_wp2
      go_ret
      exact ⟨ret_str (by rw [OUT.out]), F4.out⟩
    · have OUT : Hid (out = b.cursor ⟨cx, cy, cs⟩ ⟨dx, dy, ds⟩) := by show _ = _; rw [CH.out, if_neg (fun h => hcd h.2)]
      have hne := CE.out hcd
      clear hb0 CH CE hcd
      have CUW := hide (CU.out w4 _ _ B4.out)
      clear CU
      rcases hne with q1 | ⟨q1, q2⟩ | ⟨q1, q2, q3⟩
      all_goals
        go_wp2_with fail
        refine CUW.out.mono ?_
        rintro e w5 ⟨rfl, l5, b5, hb5, hby⟩
        obtain ⟨v5, hb6, ho5⟩ := hb5.row
        obtain ⟨sa5, sc5, rfl, kc5⟩ := own_str (src := 66) (dst := 9) ho5 Tryd.underlying66 Tryd.underlying5 Tryd.underlying9
        have v50 : w5.cell? ⟨w.heap.size + 2, 0, none⟩ = some (.slice sa5 b5.bytes.length sc5) := hb6.cell 0
        have lt5 := hb6.lt
        have kc6 := kc5 w5 (Fr.refl _ _)
        have F5 := hide (F4.out.thenBelow l5.below (by omega))
        have HBY := hide hby
        clear hb6 ho5 kc5 hb5 l5 hby CUW
        go_wp2
        go_ret
        exact ⟨ret_str (by rw [OUT.out, HBY.out]), F5.out⟩
  · have OUT : Hid (out = b.cursor ⟨cx, cy, cs⟩ ⟨dx, dy, ds⟩) := by show _ = _; rw [CH.out, if_neg (fun h => hz (by rw [h.1]; rfl))]
    have hpos : 0 < b.bytes.length := by omega
    have CUW := hide (CU.out w4 _ _ B4.out)
    clear CH CE CU hz
    go_wp2_with fail
    refine CUW.out.mono ?_
    rintro e w5 ⟨rfl, l5, b5, hb5, hby⟩
    obtain ⟨v5, hb6, ho5⟩ := hb5.row
    obtain ⟨sa5, sc5, rfl, kc5⟩ := own_str (src := 66) (dst := 9) ho5 Tryd.underlying66 Tryd.underlying5 Tryd.underlying9
    have v50 : w5.cell? ⟨w.heap.size + 2, 0, none⟩ = some (.slice sa5 b5.bytes.length sc5) := hb6.cell 0
    have lt5 := hb6.lt
    have kc6 := kc5 w5 (Fr.refl _ _)
    have F5 := hide (F4.out.thenBelow l5.below (by omega))
    have HBY := hide hby
    clear hb6 ho5 kc5 hb5 l5 hby CUW
    go_wp2
    go_ret
    exact ⟨ret_str (by rw [OUT.out, HBY.out]), F5.out⟩
end Go.Proofs.YtjhccghhinlmdaaDoor
