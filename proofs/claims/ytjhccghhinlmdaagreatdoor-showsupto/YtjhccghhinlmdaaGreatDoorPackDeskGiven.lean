import Derived.Test.YtjhccghhinlmdaaGreatDoorPackDocCell
import Derived.Test.YtjhccghhinlmdaaGreatDoorRefAsk
import Derived.Test.YtjhccghhinlmdaaGreatDoorPackPaintView
import Derived.Test.YtjhccghhinlmdaaGreatDoorCellsRow
import Derived.Test.YtjhccghhinlmdaaGreatDoorRefMove
/- The document's painter: the number of the window that a cell is of. -/
namespace Go.Proofs.YtjhccghhinlmdaaGreatDoor
open Go.RowKit

def bestI : Option Nat → Int
  | none => -1
  | some j => (j : Int)
def V.wins (v : V) : List Win := v.map (·.1)
theorem wins_at {v : V} {k : Nat} (h : k < v.length) : v.wins[k]? = some (v.at k).1 := by
  simp only [V.wins, List.getElem?_map, V.at_some h]; rfl

set_option maxHeartbeats 2000000 in
set_option maxRecDepth 100000 in
theorem rfront_any (b : Nat) (va : Option Addr) (cap : Nat) (v : V) (x y : Int) (w : World) (h2 : w.cell? ⟨b, 2, none⟩ = some (.slice va v.length cap)) (hw : WinsAt w va v.wins) (ok : v.Ok) (x1 : 0 ≤ x) (x2 : x ≤ 40) (y1 : 0 ≤ y) (y2 : y ≤ 20) :
    Calls Tryz.prog 46 #[.pointer (some ⟨b, 0, none⟩), .int .i64 x, .int .i64 y] w fun e w' => e = .returned (.int .i64 (bestI (v.best x y v.length))) ∧ Fr [] w w' := by
  have n12 := ok.n
  have H := hide hw
  have OK := hide ok
  clear hw ok
  go_enter Tryz.func46, Tryz.ntmps46
  go_wp2
  go_loopw [7, 8] (fun u i wr => ∃ k : Nat, i = .int .i64 k ∧ k ≤ v.length ∧ u = .int .i64 (bestI (v.best x y k)) ∧ Fr [] w wr) (fun _ i _ => (3000 - intOf i).toNat)
  case atStart => exact ⟨0, rfl, by omega, rfl, Fr.refl _ _⟩
  case round =>
    obtain ⟨k, rfl, hk, rfl, f⟩ := hrel
    have d2 : wr.cell? ⟨b, 2, none⟩ = some (.slice va v.length cap) := by
      rw [← h2]; exact World.cell?_of_block (w := w) (f.block b (World.block_lt_of_cell? w _ h2) (by simp))
    have bl : b < wr.heap.size := World.block_lt_of_cell? wr _ d2
    by_cases hend : k < v.length
    · have WA := H.out.fr f (by simp)
      obtain ⟨gb, off, rfl, C⟩ := WA k _ (wins_at hend)
      have gl : gb < wr.heap.size := World.block_lt_of_cell? wr _ C.c0
      obtain ⟨o1, o2, a1, a2, a3, a4, a5, a6, a7, a8, _, _, _, _, _⟩ := (OK.out.at hend).1
      have BS : Hid (v.best x y (k + 1) = match v.best x y k with
        | none => if (v.at k).1.has x y then some k else none
        | some j => if (v.at k).1.has x y && decide ((v.at j).1.layer ≤ (v.at k).1.layer) then some k else some j) := rfl
      have QC : Hid (∀ j, v.best x y k = some j → j < v.length ∧ wr.cell? ⟨gb, off + j * 8 + 5, none⟩ = some (.int .i64 (v.at j).1.layer)) := by
        intro j hj
        have hjl : j < v.length := by have := v.best_lt x y k j hj; omega
        obtain ⟨gb', off', he, C'⟩ := WA j _ (wins_at hjl)
        simp only [Option.some.injEq, Addr.mk.injEq, and_true] at he
        obtain ⟨rfl, rfl⟩ := he
        exact ⟨hjl, C'.c5⟩
      obtain ⟨c0, c1, c2, c3, c4, c5, c6, c7⟩ := C
      have b1 : (k : Int) < v.length := by omega
      have HH : Hid ((v.at k).1.has x y = (decide ((v.at k).1.x ≤ x) && decide (x < (v.at k).1.x + (v.at k).1.w) && decide ((v.at k).1.y ≤ y) && decide (y < (v.at k).1.y + (v.at k).1.h))) := rfl
      generalize (v.at k).1 = o at *
      clear WA o1 o2
      have no : Hid (o.has x y = false → v.best x y (k + 1) = v.best x y k) := by
        intro hf
        rw [BS.out]
        cases v.best x y k <;> simp [hf]
      by_cases p1 : o.x ≤ x
      · by_cases p2 : x < o.x + o.w
        · by_cases p3 : o.y ≤ y
          · by_cases p4 : y < o.y + o.h
            · have hh : o.has x y = true := by rw [HH.out]; simp [p1, p2, p3, p4]
              cases hb : v.best x y k with
              | none =>
                have E : Hid (v.best x y (k + 1) = some k) := by show _ = _; rw [BS.out, hb]; simp [hh]
                have e0 : bestI none = -1 := rfl
                rw [e0]
                clear BS QC HH hh hb no e0
                go_wp2
                go_quiet (fail)
                go_wp2
                go_roundw
                case rel => exact ⟨k + 1, by go_num, by omega, by rw [E.out]; rfl, (f.alloc _).drewN _⟩
                case measure => simp [intOf]; omega
              | some j =>
                obtain ⟨jl, cj⟩ := QC.out j hb
                have e0 : bestI (some j) = (j : Int) := rfl
                rw [e0]
                have bj : decide ((j : Int) < 0) = false := by simp
                have bj2 : (j : Int) < v.length := by omega
                by_cases hl : (v.at j).1.layer ≤ o.layer
                · have E : Hid (v.best x y (k + 1) = some k) := by show _ = _; rw [BS.out, hb]; simp [hh, hl]
                  have dl : decide (o.layer ≥ (v.at j).1.layer) = true := by simpa using hl
                  clear BS QC HH hh hb no e0
                  generalize (v.at j).1.layer = jly at *
                  go_wp2
                  go_quiet (fail)
                  go_wp2
                  go_roundw
                  case rel => exact ⟨k + 1, by go_num, by omega, by rw [E.out]; rfl, (f.alloc _).drewN _⟩
                  case measure => simp [intOf]; omega
                · have E : Hid (v.best x y (k + 1) = some j) := by show _ = _; rw [BS.out, hb]; simp [hl]
                  have dl : decide (o.layer ≥ (v.at j).1.layer) = false := by simpa using hl
                  clear BS QC HH hh hb no e0
                  generalize (v.at j).1.layer = jly at *
                  go_wp2
                  go_quiet (fail)
                  go_wp2
                  go_roundw
                  case rel => exact ⟨k + 1, by go_num, by omega, by rw [E.out]; rfl, (f.alloc _).drewN _⟩
                  case measure => simp [intOf]; omega
            · have E := hide (no.out (by rw [HH.out]; simp [p4]))
              clear BS QC HH no
              generalize hbk : v.best x y k = bk at *
              go_wp2
              go_quiet (fail)
              go_wp2
              go_roundw
              case rel => exact ⟨k + 1, by go_num, by omega, by rw [E.out], (f.alloc _).drewN _⟩
              case measure => simp [intOf]; omega
          · have E := hide (no.out (by rw [HH.out]; simp [p3]))
            clear BS QC HH no
            generalize hbk : v.best x y k = bk at *
            go_wp2
            go_quiet (fail)
            go_wp2
            go_roundw
            case rel => exact ⟨k + 1, by go_num, by omega, by rw [E.out], (f.alloc _).drewN _⟩
            case measure => simp [intOf]; omega
        · have E := hide (no.out (by rw [HH.out]; simp [p2]))
          clear BS QC HH no
          generalize hbk : v.best x y k = bk at *
          go_wp2
          go_quiet (fail)
          go_wp2
          go_roundw
          case rel => exact ⟨k + 1, by go_num, by omega, by rw [E.out], (f.alloc _).drewN _⟩
          case measure => simp [intOf]; omega
      · have E := hide (no.out (by rw [HH.out]; simp [p1]))
        clear BS QC HH no
        generalize hbk : v.best x y k = bk at *
        go_wp2
        go_quiet (fail)
        go_wp2
        go_roundw
        case rel => exact ⟨k + 1, by go_num, by omega, by rw [E.out], (f.alloc _).drewN _⟩
        case measure => simp [intOf]; omega
    · have hk' : k = v.length := by omega
      subst hk'
      go_wp2
      go_ret
      exact ⟨rfl, f⟩
end Go.Proofs.YtjhccghhinlmdaaGreatDoor
/- The document's painter: how all cells are to be. -/
namespace Go.Proofs.YtjhccghhinlmdaaGreatDoor
open Go.RowKit

def V.offs (v : V) : List Int := v.map (·.2)
/-- offsets lie one behind the other -/
def OffsAt (w : World) (oa : Option Addr) (l : List Int) : Prop := ∀ (i : Nat) n, l[i]? = some n → ∃ g, oa = some ⟨g, 0, none⟩ ∧ w.cell? ⟨g, i, none⟩ = some (.int .i64 n)
theorem OffsAt.fr0 {w w' : World} {oa : Option Addr} {l : List Int} (h : OffsAt w oa l) (f : Fr [] w w') : OffsAt w' oa l := by
  intro i n hn
  obtain ⟨g, rfl, hc⟩ := h i n hn
  refine ⟨g, rfl, ?_⟩
  rw [← hc]; exact World.cell?_of_block (w := w) (f.block g (World.block_lt_of_cell? w _ hc) (by simp))
theorem offs_at {v : V} {k : Nat} (h : k < v.length) : v.offs[k]? = some (v.at k).2 := by
  simp only [V.offs, List.getElem?_map, V.at_some h]; rfl
theorem Fr.cell' {w w' : World} (f : Fr [] w w') {p : Addr} {x : Value} (h : w.cell? p = some x) : w'.cell? p = some x := by
  rw [← h]; exact World.cell?_of_block (w := w) (f.block p.block (World.block_lt_of_cell? w _ h) (by simp))

/-- the painter's cells that Grid reads -/
structure DRead (w : World) (b : Nat) (W H : Int) (va oa : Option Addr) (cv co : Nat) (v : V) : Prop where
  c0 : w.cell? ⟨b, 0, none⟩ = some (.int .i64 W)
  c1 : w.cell? ⟨b, 1, none⟩ = some (.int .i64 H)
  c2 : w.cell? ⟨b, 2, none⟩ = some (.slice va v.length cv)
  c3 : w.cell? ⟨b, 3, none⟩ = some (.slice oa v.length co)
  ws : WinsAt w va v.wins
  os : OffsAt w oa v.offs
theorem DRead.fr0 {w w' : World} {b : Nat} {W H : Int} {va oa : Option Addr} {cv co : Nat} {v : V} (h : DRead w b W H va oa cv co v) (f : Fr [] w w') : DRead w' b W H va oa cv co v :=
  ⟨f.cell' h.c0, f.cell' h.c1, f.cell' h.c2, f.cell' h.c3, h.ws.fr f (by simp), h.os.fr0 f⟩

/-- a list of all cells is handed back -/
def DGridPost (w : World) (v : V) (W H : Int) (e : Ending) (w' : World) : Prop :=
  ∃ u, e = .returned u ∧ w'.ownsRow w.heap.size 84 2 u (W * H).toNat (flatR (v.grid W H)) ∧ Fr [] w w'

theorem has_iff' {o : Win} {x y : Int} : o.has x y = true ↔ o.x ≤ x ∧ x < o.x + o.w ∧ o.y ≤ y ∧ y < o.y + o.h := by
  simp [Win.has, and_assoc]
theorem charF_bd' (ls : List ByteArray) (x y : Int) : 32 ≤ charF ls x y ∧ charF ls x y ≤ 126 := by
  unfold charF shownC
  split
  · omega
  · split <;> omega
theorem flatR_snoc' (l : List (Int × Int)) (c : Int × Int) : flatR l ++ [.int .u8 c.1, .int .i64 c.2] = flatR (l ++ [c]) := by simp [flatR]

set_option maxHeartbeats 4000000 in
set_option maxRecDepth 100000 in
theorem rgrid_any (b : Nat) (W H : Int) (va oa : Option Addr) (cv co : Nat) (v : V) (w : World) (h : DRead w b W H va oa cv co v) (ok : v.Ok) (w1 : 1 ≤ W) (w2 : W ≤ 40) (h1 : 1 ≤ H) (h2 : H ≤ 20) :
    Calls Tryz.prog 30 #[.pointer (some ⟨b, 0, none⟩)] w (DGridPost w v W H) := by
  obtain ⟨i0, hi, hz0, hz1, hz2⟩ := info_parts info_rcell
  have HD := hide h
  have OK := hide ok
  have mb := mul_bd w1 w2 h1 h2
  clear h ok
  go_enter Tryz.func30, Tryz.ntmps30
  go_wp2
  go_loopw [3, 4] (fun u i wr => ∃ y : Int, i = .int .i64 y ∧ 0 ≤ y ∧ y ≤ H ∧ Fr [] w wr ∧ wr.ownsRow w.heap.size 84 2 u (y * W).toNat (flatR (v.gridTo W (y * W).toNat))) (fun _ i _ => (3000 - intOf i).toNat)
  case atStart => exact ⟨0, rfl, by omega, by omega, Fr.refl _ _, by rw [show ((0 : Int) * W).toNat = 0 by simp]; exact World.ownsRow_nil _ _ _ _⟩
  case round =>
    obtain ⟨y, rfl, y1, y2, f, hown⟩ := hrel
    have q1 := (HD.out.fr0 f).c1
    by_cases hend : y < H
    · have HO := hide hown
      clear hown
      go_wp2
      go_loopw [3, 5] (fun u i wq => ∃ x : Int, i = .int .i64 x ∧ 0 ≤ x ∧ x ≤ W ∧ Fr [] w wq ∧ wq.ownsRow w.heap.size 84 2 u (y * W + x).toNat (flatR (v.gridTo W (y * W + x).toNat))) (fun _ i _ => (3000 - intOf i).toNat)
      case atStart => exact ⟨0, rfl, by omega, by omega, f, by rw [Int.add_zero]; exact HO.out⟩
      case round =>
        obtain ⟨x, rfl, x1, x2, f2, hown2⟩ := hrel
        have D2 := HD.out.fr0 f2
        have r0 := D2.c0
        have idx := idx_bd (W := W) (H := H) (x := W - 1) (y := y) w2 h2 (by omega) (by omega) y1 hend
        by_cases hx : x < W
        · have idx2 := idx_bd (W := W) (H := H) (x := x) (y := y) w2 h2 x1 hx y1 hend
          have hkn : (y * W + x).toNat < (W * H).toNat := by omega
          have hk8 : (y * W + x).toNat ≤ 799 := by omega
          obtain ⟨e1, e2⟩ := at_div (W := W) (x := x) (y := y) x1 hx
          have ek : (((y * W + x).toNat : Nat) : Int) = y * W + x := by omega
          have GS : Hid (v.gridTo W (y * W + (x + 1)).toNat = v.gridTo W (y * W + x).toNat ++ [v.cell x y]) := by
            show _ = _
            rw [show (y * W + (x + 1)).toNat = (y * W + x).toNat + 1 by omega, V.gridTo_succ, ek, e1, e2]
          have KS : Hid ((y * W + (x + 1)).toNat = (y * W + x).toNat + 1) := by show _ = _; omega
          have HO2 := hide hown2
          have D2' := hide D2
          have hsz2 := f2.size
          have FRT : Hid (∀ w', Fr [] wr w' → Calls Tryz.prog 46 #[.pointer (some ⟨b, 0, none⟩), .int .i64 x, .int .i64 y] w' fun e w'' => e = .returned (.int .i64 (bestI (v.best x y v.length))) ∧ Fr [] w' w'') :=
            fun w' f' => rfront_any b va cv v x y w' (D2'.out.fr0 f').c2 (D2'.out.fr0 f').ws OK.out x1 (by omega) y1 (by omega)
          clear hown2 D2 e1 e2 ek idx idx2 hkn
          go_wp2_with fail
          refine (rblank_any _).mono ?_
          rintro e w' ⟨rfl, rfl⟩
          go_wp2_with fail
          refine (FRT.out _ (((Fr.refl _ _).alloc _).alloc _)).mono ?_
          rintro e w3 ⟨rfl, f3⟩
          have F3 : Hid (Fr [] wr w3) := (((Fr.refl _ _).alloc _).alloc _).then f3
          have B3 : Hid (Blk w3 (wr.heap.size + 1) [.int .u8 32, .int .i64 7] 84) := by
            have := (Blk.new (wr.alloc (.cells #[.int .u8 32, .int .i64 7] 84)) [.int .u8 32, .int .i64 7] 84).fr0 f3
            rw [World.size_alloc] at this
            exact this
          have D3 := hide (D2'.out.fr0 F3.out)
          clear f3 FRT r0 q1
          generalize hC : wr.heap.size + 1 = C at *
          have k0 : w3.cell? ⟨C, 0, none⟩ = some (.int .u8 32) := B3.out.cell 0
          have k1 : w3.cell? ⟨C, 1, none⟩ = some (.int .i64 7) := B3.out.cell 1
          have z0 := B3.out.frozen 0
          have z1 := B3.out.frozen 1
          have Cl := B3.out.lt
          have FB3 : Hid (Fr [] w w3) := f2.then F3.out
          have O3 := hide (own_fr0 HO2.out F3.out)
          cases hb : v.best x y v.length with
          | none =>
            have ec : v.cell x y = (32, 7) := by unfold V.cell; rw [hb]
            rw [ec] at GS
            have e0 : bestI none = -1 := rfl
            rw [e0]
            clear e0 hb ec
            go_wp2_with (at_builtin; refine wpList_append_lies _ rfl (.tmp 66) (.tmp 68) 56 rfl w.heap.size 84 i0 (.agg #[.int .u8 0, .int .i64 0]) 2 16 Tryz.underlying56 hi hz0 hz1 hz2 rfl (by decide) u3 (y * W + x).toNat (flatR (v.gridTo W (y * W + x).toNat)) rfl (own_fr0 O3.out ((Fr.refl _ _).alloc _)) ⟨w3.heap.size, 0, none⟩ 1 1 [.int .u8 32, .int .i64 7] rfl rfl (World.news_of_block (cs := #[.int .u8 32, .int .i64 7]) (t := 84) (fr := (0, 0)) (by exact heap_alloc_new w3 _)) (two_one _ _ rfl rfl) (by omega) (by unfold maxLen; omega) (by omega) (by simp; have := FB3.out.size; omega) (w3.heap.size + 1) (by simp) ?_; intro g1 cap1 w4 hown1 hgrow hat hlt1; have R1 : Hid (Fr [] w w4 ∧ w4.ownsRow w.heap.size 84 2 (.slice (some ⟨g1, 0, none⟩) ((y * W + x).toNat + 1) cap1) ((y * W + x).toNat + 1) (flatR (v.gridTo W (y * W + x).toNat ++ [(32, 7)]))) := ⟨Fr.grown (FB3.out.alloc _) hgrow (fun j hj => .inr (O3.out.lt j hj).1), (by rw [← flatR_snoc']; exact hown1)⟩; clear hown1 hgrow hat)
            go_roundw
            case rel =>
              refine ⟨x + 1, by go_num, by omega, by omega, R1.out.1, ?_⟩
              rw [GS.out, KS.out]; exact R1.out.2
            case measure => simp [intOf]; omega
          | some j =>
            have jl : j < v.length := v.best_lt x y _ j hb
            obtain ⟨p1, p2, p3, p4⟩ := has_iff'.1 (v.best_has x y _ j hb)
            have ec : v.cell x y = (charF (cutF (v.at j).1.text (v.at j).1.w) (x - (v.at j).1.x) (y - (v.at j).1.y + (v.at j).2), (v.at j).1.style) := by unfold V.cell; rw [hb]; rfl
            rw [ec] at GS
            have e0 : bestI (some j) = (j : Int) := rfl
            rw [e0]
            obtain ⟨gb, off, rfl, Cw⟩ := D3.out.ws j _ (wins_at jl)
            obtain ⟨og, rfl, co'⟩ := D3.out.os j _ (offs_at jl)
            have c2 := D3.out.c2
            have c3 := D3.out.c3
            obtain ⟨okw, of1, of2⟩ := OK.out.at jl
            obtain ⟨a0, a1, a2, a3, a4, a5, a6, a7⟩ := Cw
            have RC : Hid (∀ w', Fr [] w3 w' → Calls Tryz.prog 47 #[.agg #[.int .i64 (v.at j).1.key, .int .i64 (v.at j).1.x, .int .i64 (v.at j).1.y, .int .i64 (v.at j).1.w, .int .i64 (v.at j).1.h, .int .i64 (v.at j).1.layer, .int .i64 (v.at j).1.style, .string (v.at j).1.text], .int .i64 (v.at j).2, .int .i64 (x - (v.at j).1.x), .int .i64 (y - (v.at j).1.y)] w' fun e w'' => e = .returned (.agg #[.int .u8 (charF (cutF (v.at j).1.text (v.at j).1.w) (x - (v.at j).1.x) (y - (v.at j).1.y + (v.at j).2)), .int .i64 (v.at j).1.style]) ∧ Fr [] w' w'') :=
              fun w' _ => rcell_any (v.at j).1 (v.at j).2 (x - (v.at j).1.x) (y - (v.at j).1.y) w' okw (by omega) (by have := okw.x1; omega) (by omega) (by have := okw.y1; omega) of1 of2
            have xb1 := okw.x1
            have xb2 := okw.x2
            have yb1 := okw.y1
            have yb2 := okw.y2
            have cbd := charF_bd' (cutF (v.at j).1.text (v.at j).1.w) (x - (v.at j).1.x) (y - (v.at j).1.y + (v.at j).2)
            have hbl : b < wr.heap.size := World.block_lt_of_cell? wr _ D2'.out.c2
            have hgl : gb < wr.heap.size := by
              obtain ⟨gb', off', he, Cw'⟩ := D2'.out.ws j _ (wins_at jl)
              simp only [Option.some.injEq, Addr.mk.injEq, and_true] at he
              obtain ⟨rfl, rfl⟩ := he
              exact World.block_lt_of_cell? wr _ Cw'.c0
            have hol : og < wr.heap.size := by
              obtain ⟨og', he, Co'⟩ := D2'.out.os j _ (offs_at jl)
              simp only [Option.some.injEq, Addr.mk.injEq, and_true] at he
              subst he
              exact World.block_lt_of_cell? wr _ Co'
            have ne1 : b ≠ C := by omega
            have ne2 : C ≠ b := by omega
            have ne3 : gb ≠ C := by omega
            have ne4 : C ≠ gb := by omega
            have ne5 : og ≠ C := by omega
            have ne6 : C ≠ og := by omega
            have jb : (j : Int) < v.length := by omega
            have wx : IntKind.i64.wrap (x - (v.at j).1.x) = x - (v.at j).1.x := by rw [IntKind.wrap_i64]; omega
            have wy : IntKind.i64.wrap (y - (v.at j).1.y) = y - (v.at j).1.y := by rw [IntKind.wrap_i64]; omega
            have hCl : Hid (w.heap.size ≤ C) := by show _ ≤ _; omega
            have OC : Hid (∀ b ∈ [C], some b ≠ u3.ownBlock) := by
              intro bb hbb he
              simp at hbb; subst hbb
              have := (HO2.out.lt bb he.symm).2
              omega
            clear e0 hb ec p1 p2 p3 p4 okw hC D2'
            go_wp2
            go_region_held (fun w' => w'.cell? ⟨b, 2, none⟩ = some (.slice (some ⟨gb, off, none⟩) v.length cv) ∧ w'.cell? ⟨b, 3, none⟩ = some (.slice (some ⟨og, 0, none⟩) v.length co) ∧ w'.cell? ⟨gb, off + j * 8, none⟩ = some (.int .i64 (v.at j).1.key) ∧ w'.cell? ⟨gb, off + j * 8 + 1, none⟩ = some (.int .i64 (v.at j).1.x) ∧ w'.cell? ⟨gb, off + j * 8 + 2, none⟩ = some (.int .i64 (v.at j).1.y) ∧ w'.cell? ⟨gb, off + j * 8 + 3, none⟩ = some (.int .i64 (v.at j).1.w) ∧ w'.cell? ⟨gb, off + j * 8 + 4, none⟩ = some (.int .i64 (v.at j).1.h) ∧ w'.cell? ⟨gb, off + j * 8 + 5, none⟩ = some (.int .i64 (v.at j).1.layer) ∧ w'.cell? ⟨gb, off + j * 8 + 6, none⟩ = some (.int .i64 (v.at j).1.style) ∧ w'.cell? ⟨gb, off + j * 8 + 7, none⟩ = some (.string (v.at j).1.text) ∧ w'.cell? ⟨og, j, none⟩ = some (.int .i64 (v.at j).2)) (go_keep) ((go_at_call 47; refine (RC.out _ ?hf).mono ?_; (case hf => (repeat first | exact Fr.refl _ _ | apply Fr.drew | apply Fr.drewN)); rintro e w5 ⟨rfl, f5⟩; have F5 : Hid (Fr [] w3 w5) := (by refine Fr.then ?_ f5; repeat first | exact Fr.refl _ _ | apply Fr.drew | apply Fr.drewN); have s0 := F5.out.cell' c2; have s1 := F5.out.cell' c3; have s2 := F5.out.cell' a0; have s3 := F5.out.cell' a1; have s4 := F5.out.cell' a2; have s5 := F5.out.cell' a3; have s6 := F5.out.cell' a4; have s7 := F5.out.cell' a5; have s8 := F5.out.cell' a6; have s9 := F5.out.cell' a7; have s10 := F5.out.cell' co'; have B5 := B3.out.fr0 F5.out; have m0 : w5.cell? ⟨C, 0, none⟩ = some (.int .u8 32) := B5.cell 0; have m1 : w5.cell? ⟨C, 1, none⟩ = some (.int .i64 7) := B5.cell 1; have y0 := B5.frozen 0; have y1' := B5.frozen 1; have ml := B5.lt; clear f5 B5))
            all_goals
              have FC : Hid (Fr [] w ((w5.setCell ⟨C, 0, none⟩ (.int .u8 (charF (cutF (v.at j).1.text (v.at j).1.w) (x - (v.at j).1.x) (y - (v.at j).1.y + (v.at j).2)))).setCell ⟨C, 1, none⟩ (.int .i64 (v.at j).1.style))) := ((FB3.out.then F5.out).setCell (p := ⟨C, 0, none⟩) (.inr hCl.out) _).setCell (p := ⟨C, 1, none⟩) (.inr hCl.out) _
              have OW : Hid (((w5.setCell ⟨C, 0, none⟩ (.int .u8 (charF (cutF (v.at j).1.text (v.at j).1.w) (x - (v.at j).1.x) (y - (v.at j).1.y + (v.at j).2)))).setCell ⟨C, 1, none⟩ (.int .i64 (v.at j).1.style)).ownsRow w.heap.size 84 2 u3 (y * W + x).toNat (flatR (v.gridTo W (y * W + x).toNat))) := own_fr (S := [C]) (own_fr0 O3.out F5.out) (((Fr.refl _ _).setCell (p := ⟨C, 0, none⟩) (.inl (by simp)) _).setCell (p := ⟨C, 1, none⟩) (.inl (by simp)) _) OC.out
              have n0 : ((w5.setCell ⟨C, 0, none⟩ (.int .u8 (charF (cutF (v.at j).1.text (v.at j).1.w) (x - (v.at j).1.x) (y - (v.at j).1.y + (v.at j).2)))).setCell ⟨C, 1, none⟩ (.int .i64 (v.at j).1.style)).cell? ⟨C, 0, none⟩ = some (.int .u8 (charF (cutF (v.at j).1.text (v.at j).1.w) (x - (v.at j).1.x) (y - (v.at j).1.y + (v.at j).2))) := (((B3.out.fr0 F5.out).set 0 _).set 1 _).cell 0
              have n1 : ((w5.setCell ⟨C, 0, none⟩ (.int .u8 (charF (cutF (v.at j).1.text (v.at j).1.w) (x - (v.at j).1.x) (y - (v.at j).1.y + (v.at j).2)))).setCell ⟨C, 1, none⟩ (.int .i64 (v.at j).1.style)).cell? ⟨C, 1, none⟩ = some (.int .i64 (v.at j).1.style) := (((B3.out.fr0 F5.out).set 0 _).set 1 _).cell 1
              generalize (w5.setCell ⟨C, 0, none⟩ (.int .u8 (charF (cutF (v.at j).1.text (v.at j).1.w) (x - (v.at j).1.x) (y - (v.at j).1.y + (v.at j).2)))).setCell ⟨C, 1, none⟩ (.int .i64 (v.at j).1.style) = w6 at *
              generalize (charF (cutF (v.at j).1.text (v.at j).1.w) (x - (v.at j).1.x) (y - (v.at j).1.y + (v.at j).2)) = chx at *
              generalize (v.at j).1.style = stx at *
              go_wp2_with (at_builtin; refine wpList_append_lies _ rfl (.tmp 66) (.tmp 68) 56 rfl w.heap.size 84 i0 (.agg #[.int .u8 0, .int .i64 0]) 2 16 Tryz.underlying56 hi hz0 hz1 hz2 rfl (by decide) u3 (y * W + x).toNat (flatR (v.gridTo W (y * W + x).toNat)) rfl (own_fr0 OW.out ((Fr.refl _ _).alloc _)) ⟨w6.heap.size, 0, none⟩ 1 1 [.int .u8 chx, .int .i64 stx] rfl rfl (World.news_of_block (cs := #[.int .u8 chx, .int .i64 stx]) (t := 84) (fr := (0, 0)) (by exact heap_alloc_new w6 _)) (two_one _ _ rfl rfl) (by omega) (by unfold maxLen; omega) (by omega) (by simp; have := FC.out.size; omega) (w6.heap.size + 1) (by simp) ?_; intro g1 cap1 w7 hown1 hgrow hat hlt1; have R1 : Hid (Fr [] w w7 ∧ w7.ownsRow w.heap.size 84 2 (.slice (some ⟨g1, 0, none⟩) ((y * W + x).toNat + 1) cap1) ((y * W + x).toNat + 1) (flatR (v.gridTo W (y * W + x).toNat ++ [(chx, stx)]))) := ⟨Fr.grown (FC.out.alloc _) hgrow (fun j hj => .inr (OW.out.lt j hj).1), (by rw [← flatR_snoc']; exact hown1)⟩; clear hown1 hgrow hat)
              go_roundw
              case rel =>
                refine ⟨x + 1, by go_num, by omega, by omega, R1.out.1, ?_⟩
                rw [GS.out, KS.out]; exact R1.out.2
              case measure => simp [intOf]; omega
        · have hx' : x = W := by omega
          subst hx'
          have ey : y * x + x = (y + 1) * x := by rw [Int.add_mul]; omega
          rw [ey] at hown2
          have HO2 := hide hown2
          clear hown2 ey hx
          go_wp2
          go_roundw
          case rel => exact ⟨y + 1, by go_num, by omega, by omega, f2, HO2.out⟩
          case measure => simp [intOf]; omega
    · have hy : y = H := by omega
      subst hy
      rw [Int.mul_comm y W] at hown
      have HO := hide hown
      clear hown
      go_wp2
      go_ret
      exact ⟨_, rfl, HO.out, f⟩
end Go.Proofs.YtjhccghhinlmdaaGreatDoor
/- Windows and offsets in slices of one's own. -/
namespace Go.Proofs.YtjhccghhinlmdaaGreatDoor
open Go.RowKit

theorem info_win : (Tryz.prog.info? 104).map (fun i => (i.zero, i.size, i.bytes)) = some (some (.agg #[.int .i64 0, .int .i64 0, .int .i64 0, .int .i64 0, .int .i64 0, .int .i64 0, .int .i64 0, .string ⟨#[]⟩]), 8, 72) := by kernel_rfl
def flatW (ws : List Win) : List Value := ws.flatMap Win.vals
theorem flatW_length (ws : List Win) : (flatW ws).length = ws.length * 8 := by
  induction ws with
  | nil => rfl
  | cons p ps ih => simp only [flatW, List.flatMap_cons, List.length_append, List.length_cons, Win.vals, List.length_nil] at *; omega
theorem flatW_snoc (ws : List Win) (o : Win) : flatW ws ++ o.vals = flatW (ws ++ [o]) := by simp [flatW]
theorem flatW_at (ws : List Win) : ∀ (i : Nat) (o : Win), ws[i]? = some o → ∀ j, j < 8 → (flatW ws)[i * 8 + j]? = o.vals[j]? := by
  induction ws with
  | nil => intro i p h; simp at h
  | cons q ws ih =>
    intro i o h j hj
    have hq : q.vals.length = 8 := rfl
    cases i with
    | zero =>
      simp at h; subst h
      simp only [flatW, List.flatMap_cons, Nat.zero_mul, Nat.zero_add]
      rw [List.getElem?_append_left (by omega)]
    | succ i =>
      simp at h
      have := ih i o h j hj
      simp only [flatW, List.flatMap_cons] at *
      rw [List.getElem?_append_right (by omega), hq, show (i + 1) * 8 + j - 8 = i * 8 + j by omega]
      exact this
/-- windows in a slice of the call's own -/
theorem own_wins {w : World} {base g n cap : Nat} {ws : List Win} (hn : n = ws.length) (h : w.ownsRow base 104 8 (.slice (some ⟨g, 0, none⟩) n cap) n (flatW ws)) : WinsAt w (some ⟨g, 0, none⟩) ws ∧ n ≤ cap := by
  rcases h.2 with ⟨hv, _⟩ | ⟨g', cap', cur, hv, hb, hg, hc1, hc2, hc3, hc4⟩
  · simp at hv
  · simp only [Value.slice.injEq, Option.some.injEq, Addr.mk.injEq] at hv
    obtain ⟨⟨rfl, _⟩, _, rfl⟩ := hv
    refine ⟨?_, hc1⟩
    intro i o ho
    have hi : i < ws.length := (List.getElem?_eq_some_iff.1 ho).1
    have k : ∀ j, j < 8 → w.cell? ⟨g, 0 + i * 8 + j, none⟩ = o.vals[j]? := by
      intro j hj
      rw [cell_of_row w g _ cur 104 (0, 0) hg, Nat.zero_add]
      have e : (cur.toList.take (n * 8))[i * 8 + j]? = (flatW ws)[i * 8 + j]? := by rw [hc4]
      rw [List.getElem?_take_of_lt (by omega), flatW_at ws i o ho j hj] at e
      rw [← Array.getElem?_toList, e]
    exact ⟨g, 0, rfl, k 0 (by decide), k 1 (by decide), k 2 (by decide), k 3 (by decide), k 4 (by decide), k 5 (by decide), k 6 (by decide), k 7 (by decide)⟩
theorem eight_one (a0 a1 a2 a3 a4 a5 a6 : Int) (s : ByteArray) : ∀ u ∈ [Value.int .i64 a0, .int .i64 a1, .int .i64 a2, .int .i64 a3, .int .i64 a4, .int .i64 a5, .int .i64 a6, .string s], u.oneCell' = true := by
  intro u hu
  simp only [List.mem_cons, List.not_mem_nil, or_false] at hu
  rcases hu with rfl | rfl | rfl | rfl | rfl | rfl | rfl | rfl <;> rfl


theorem own_wins' {w : World} {base n : Nat} {u : Value} {ws : List Win} (hn : n = ws.length) (h : w.ownsRow base 104 8 u n (flatW ws)) : ∃ va cap, u = .slice va n cap ∧ WinsAt w va ws ∧ n ≤ cap := by
  rcases h.2 with ⟨rfl, h0⟩ | ⟨g, cap, cur, rfl, _⟩
  · subst h0
    have : ws = [] := List.eq_nil_of_length_eq_zero hn.symm
    subst this
    exact ⟨none, 0, rfl, fun i o ho => by simp at ho, Nat.le_refl _⟩
  · obtain ⟨h1, h2⟩ := own_wins hn h
    exact ⟨_, cap, rfl, h1, h2⟩
end Go.Proofs.YtjhccghhinlmdaaGreatDoor
/- The document's painter: where it lies, and its small calls. -/
namespace Go.Proofs.YtjhccghhinlmdaaGreatDoor
open Go.RowKit

/-- where the document's painter's lists lie -/
structure DGh where
  vv : Value
  ov : Value
def dfoot (b : Nat) (g : DGh) : List Nat := b :: (g.vv.ownBlock.toList ++ g.ov.ownBlock.toList)
/-- the document's painter lies at block b -/
structure DPAt (w : World) (b : Nat) (g : DGh) (m : Pt) : Prop where
  st : Blk w b [.int .i64 m.W, .int .i64 m.H, g.vv, g.ov, .int .i64 m.cx, .int .i64 m.cy] 101
  vw : w.ownsRow 0 104 8 g.vv m.v.length (flatW m.v.wins)
  of : w.ownsRow 0 3 1 g.ov m.v.length (m.v.offs.map (Value.int .i64))
  ok : m.v.Ok
  w1 : 1 ≤ m.W
  w2 : m.W ≤ 40
  h1 : 1 ≤ m.H
  h2 : m.H ≤ 20
theorem V.wins_length (v : V) : v.wins.length = v.length := by simp [V.wins]
theorem V.offs_length (v : V) : v.offs.length = v.length := by simp [V.offs]
theorem DPAt.fr {w w' : World} {S : List Nat} {b : Nat} {g : DGh} {m : Pt} (h : DPAt w b g m) (f : Fr S w w') (hs : ∀ x ∈ dfoot b g, x ∉ S) : DPAt w' b g m := by
  simp only [dfoot, List.mem_cons, List.mem_append, Option.mem_toList] at hs
  exact ⟨h.st.fr f (hs _ (.inl rfl)), own_fr h.vw f (fun x hx he => hs x (.inr (.inl he.symm)) hx), own_fr h.of f (fun x hx he => hs x (.inr (.inr he.symm)) hx), h.ok, h.w1, h.w2, h.h1, h.h2⟩
theorem DPAt.fr0 {w w' : World} {b : Nat} {g : DGh} {m : Pt} (h : DPAt w b g m) (f : Fr [] w w') : DPAt w' b g m := h.fr f (by simp)
theorem DPAt.lt {w : World} {b : Nat} {g : DGh} {m : Pt} (h : DPAt w b g m) : ∀ x ∈ dfoot b g, x < w.heap.size := by
  intro x hx
  simp only [dfoot, List.mem_cons, List.mem_append, Option.mem_toList] at hx
  rcases hx with rfl | hx | hx
  · exact h.st.lt
  · exact (h.vw.lt x hx).2
  · exact (h.of.lt x hx).2
/-- what a call leaves -/
def DUpd (b : Nat) (g : DGh) (m' : Pt) (w w' : World) : Prop := ∃ g', DPAt w' b g' m' ∧ Fr (dfoot b g) w w' ∧ ∀ x ∈ dfoot b g', x ∈ dfoot b g ∨ w.heap.size ≤ x

theorem own_offs {w : World} {base n : Nat} {u : Value} {l : List Int} (hn : n = l.length) (h : w.ownsRow base 3 1 u n (l.map (Value.int .i64))) : ∃ oa cap, u = .slice oa n cap ∧ OffsAt w oa l ∧ n ≤ cap := by
  rcases h.2 with ⟨rfl, h0⟩ | ⟨g, cap, cur, rfl, hb, hg, hc1, hc2, hc3, hc4⟩
  · subst h0
    have : l = [] := List.eq_nil_of_length_eq_zero hn.symm
    subst this
    exact ⟨none, 0, rfl, fun i o ho => by simp at ho, Nat.le_refl _⟩
  · refine ⟨_, cap, rfl, ?_, hc1⟩
    intro i x hx
    have hi : i < l.length := (List.getElem?_eq_some_iff.1 hx).1
    refine ⟨g, rfl, ?_⟩
    rw [cell_of_row w g _ cur 3 (0, 0) hg]
    have e : (cur.toList.take (n * 1))[i]? = (l.map (Value.int .i64))[i]? := by rw [hc4]
    rw [List.getElem?_take_of_lt (by omega), List.getElem?_map, hx] at e
    rw [← Array.getElem?_toList, e]; rfl
/-- what Grid reads of it -/
theorem DPAt.reads {w : World} {b : Nat} {g : DGh} {m : Pt} (h : DPAt w b g m) : ∃ va oa cv co, DRead w b m.W m.H va oa cv co m.v ∧ g.vv = .slice va m.v.length cv ∧ g.ov = .slice oa m.v.length co := by
  obtain ⟨va, cv, e1, hw, _⟩ := own_wins' (m.v.wins_length).symm h.vw
  obtain ⟨oa, co, e2, ho, _⟩ := own_offs (m.v.offs_length).symm h.of
  refine ⟨va, oa, cv, co, ⟨h.st.cell 0, h.st.cell 1, ?_, ?_, hw, ho⟩, e1, e2⟩
  · rw [← e1]; exact h.st.cell 2
  · rw [← e2]; exact h.st.cell 3
theorem cell_bd' (v : V) (hv : v.Ok) (x y : Int) : 0 ≤ (v.cell x y).2 ∧ (v.cell x y).2 ≤ 255 := by
  unfold V.cell
  cases h : v.best x y v.length with
  | none => simp
  | some j =>
    have ok := (hv.at (v.best_lt x y _ j h)).1
    have h1 := ok.s1
    have h2 := ok.s2
    simp only [Win.cell]
    omega

theorem dgrid_any (w : World) (b : Nat) (g : DGh) (m : Pt) (h : DPAt w b g m) :
    Calls Tryz.prog 30 #[.pointer (some ⟨b, 0, none⟩)] w (DGridPost w m.v m.W m.H) := by
  obtain ⟨va, oa, cv, co, r, _, _⟩ := h.reads
  exact rgrid_any b m.W m.H va oa cv co m.v w r h.ok h.w1 h.w2 h.h1 h.h2

set_option maxHeartbeats 1000000 in
set_option maxRecDepth 100000 in
theorem drow_yes (w : World) (b : Nat) (g : DGh) (m : Pt) (h : DPAt w b g m) (y : Int) (hy : 0 ≤ y) (hy2 : y < m.H) :
    Calls Tryz.prog 58 #[.pointer (some ⟨b, 0, none⟩), .int .i64 y] w fun e w' => e = .returned (.tuple #[.string (strOfNums ((rowOf m.W y (m.v.grid m.W m.H)).map (·.1))), .string (strOfNums ((rowOf m.W y (m.v.grid m.W m.H)).map (·.2))), .int .i64 0]) ∧ Fr [] w w' := by
  have GR := hide (dgrid_any w b g m h)
  have c1 : w.cell? ⟨b, 1, none⟩ = some (.int .i64 m.H) := h.st.cell 1
  have mb := mul_bd h.w1 h.w2 h.h1 h.h2
  have H := hide h
  have hlen : (m.v.grid m.W m.H).length = (m.W * m.H).toNat := m.v.grid_length m.W m.H
  clear h
  go_enter Tryz.func58, Tryz.ntmps58
  go_wp2_with fail
  refine GR.out.mono ?_
  rintro e w1 ⟨u, rfl, hu, f1⟩
  have c0 : w1.cell? ⟨b, 0, none⟩ = some (.int .i64 m.W) := (H.out.fr0 f1).st.cell 0
  rcases hu.2 with ⟨_, h00⟩ | ⟨gg, cap, cur, rfl, hb, hg, hc1, hc2, hc3, hc4⟩
  · omega
  have RR : Hid (RRow w1 gg cap (cur.toList.drop ((m.W * m.H).toNat * 2)) (m.v.grid m.W m.H)) := by
    refine ⟨?_, by rw [hlen]; exact hc1⟩
    rw [← hc4, List.take_append_drop]; exact hg
  have RA := hide (rrow_any m.W m.H y w1 gg cap _ _ RR.out H.out.w1 H.out.w2 H.out.h2 (by rw [hlen]; omega) hy hy2 (by
    intro c hc
    simp only [V.grid, V.gridTo, List.mem_map] at hc
    obtain ⟨i, _, rfl⟩ := hc
    exact cell_bd' m.v H.out.ok _ _))
  rw [hlen] at RA
  have F1 := hide f1
  clear hu hg hc1 hc2 hc3 hc4 hb f1 GR RR
  go_wp2_with fail
  refine RA.out.mono ?_
  rintro e w2 ⟨rfl, f2⟩
  have F2 := hide (F1.out.then f2)
  clear f2
  go_wp2
  go_ret3
  exact ⟨rfl, F2.out⟩
theorem drow_no (w : World) (b : Nat) (g : DGh) (m : Pt) (h : DPAt w b g m) (y : Int) (hy : y < 0 ∨ m.H ≤ y) :
    Calls Tryz.prog 58 #[.pointer (some ⟨b, 0, none⟩), .int .i64 y] w fun e w' => e = .returned (.tuple #[.string ByteArray.empty, .string ByteArray.empty, .int .i64 8]) ∧ w = w' := by
  have c1 : w.cell? ⟨b, 1, none⟩ = some (.int .i64 m.H) := h.st.cell 1
  clear h
  rcases hy with hy | hy
  · go_enter Tryz.func58, Tryz.ntmps58
    go_wp2
    go_ret3
    exact ⟨rfl, rfl⟩
  · by_cases hz : y < 0
    · go_enter Tryz.func58, Tryz.ntmps58
      go_wp2
      go_ret3
      exact ⟨rfl, rfl⟩
    · go_enter Tryz.func58, Tryz.ntmps58
      go_wp2
      go_ret3
      exact ⟨rfl, rfl⟩
theorem drow_nil (w : World) (y : Int) :
    Calls Tryz.prog 58 #[.pointer none, .int .i64 y] w fun e w' => e = .returned (.tuple #[.string ByteArray.empty, .string ByteArray.empty, .int .i64 1]) ∧ w = w' := by
  go_enter Tryz.func58, Tryz.ntmps58
  go_wp2
  go_ret3
  exact ⟨rfl, rfl⟩

set_option maxHeartbeats 1000000 in
theorem dturn_yes (w : World) (b : Nat) (g : DGh) (m : Pt) (h : DPAt w b g m) (a c : Int) (h1 : 1 ≤ a) (h2 : a ≤ 40) (h3 : 1 ≤ c) (h4 : c ≤ 20) :
    Calls Tryz.prog 55 #[.pointer (some ⟨b, 0, none⟩), .int .i64 a, .int .i64 c] w fun e w' => e = .returned (.int .i64 0) ∧ DUpd b g { m with W := a, H := c } w w' := by
  have c0 : w.cell? ⟨b, 0, none⟩ = some (.int .i64 m.W) := h.st.cell 0
  have c1 : w.cell? ⟨b, 1, none⟩ = some (.int .i64 m.H) := h.st.cell 1
  have z0 := h.st.frozen 0
  have z1 := h.st.frozen 1
  have U : Hid (DUpd b g { m with W := a, H := c } w ((w.setCell ⟨b, 0, none⟩ (.int .i64 a)).setCell ⟨b, 1, none⟩ (.int .i64 c))) := by
    have f : Fr [b] w ((w.setCell ⟨b, 0, none⟩ (.int .i64 a)).setCell ⟨b, 1, none⟩ (.int .i64 c)) := ((Fr.refl _ _).setCell (.inl (by simp)) _).setCell (.inl (by simp)) _
    refine ⟨g, ⟨(h.st.set 0 _).set 1 _, own_fr h.vw f ?_, own_fr h.of f ?_, h.ok, h1, h2, h3, h4⟩, f.mono (by intro i hi; simp at hi; subst hi; simp [dfoot]), fun x hx => .inl hx⟩
    · intro x hx; simp at hx; subst hx; exact own_ne h.vw h.st (by decide)
    · intro x hx; simp at hx; subst hx; exact own_ne h.of h.st (by decide)
  clear h
  go_enter Tryz.func55, Tryz.ntmps55
  go_wp2_with (go_at_call 17; refine (rsize_yes _ _ _ h1 h2 h3 h4).mono ?_; rintro e w' ⟨rfl, rfl⟩)
  go_ret
  exact ⟨rfl, U.out⟩
theorem dturn_no (w : World) (pb : Addr) (a c : Int) (hz : sizeB a c = false) :
    Calls Tryz.prog 55 #[.pointer (some pb), .int .i64 a, .int .i64 c] w fun e w' => e = .returned (.int .i64 2) ∧ w = w' := by
  go_enter Tryz.func55, Tryz.ntmps55
  go_wp2_with (go_at_call 17; refine (rsize_no _ _ _ hz).mono ?_; rintro e w' ⟨rfl, rfl⟩)
  go_ret
  exact ⟨rfl, rfl⟩
theorem dturn_nil (w : World) (a c : Int) :
    Calls Tryz.prog 55 #[.pointer none, .int .i64 a, .int .i64 c] w fun e w' => e = .returned (.int .i64 1) ∧ w = w' := by
  go_enter Tryz.func55, Tryz.ntmps55
  go_wp2
  go_ret
  exact ⟨rfl, rfl⟩

/-- a new one of this size -/
def DPost (w : World) (W H : Int) (e : Ending) (w' : World) : Prop :=
  ∃ b g, e = .returned (.tuple #[.pointer (some ⟨b, 0, none⟩), .int .i64 0]) ∧ (∀ x ∈ dfoot b g, w.heap.size ≤ x) ∧ Fr [] w w' ∧ DPAt w' b g ⟨W, H, [], 0, 0⟩
set_option maxHeartbeats 1000000 in
theorem newPaint_yes (W H : Int) (w : World) (h1 : 1 ≤ W) (h2 : W ≤ 40) (h3 : 1 ≤ H) (h4 : H ≤ 20) :
    Calls Tryz.prog 29 #[.int .i64 W, .int .i64 H] w (DPost w W H) := by
  go_enter Tryz.func29, Tryz.ntmps29
  go_wp2_with (go_at_call 17; refine (rsize_yes _ _ _ h1 h2 h3 h4).mono ?_; rintro e w' ⟨rfl, rfl⟩)
  go_ret2
  refine ⟨w.heap.size, ⟨.slice none 0 0, .slice none 0 0⟩, rfl, ?_, (Fr.refl _ _).alloc _, Blk.new _ _ _, World.ownsRow_nil _ _ _ _, World.ownsRow_nil _ _ _ _, V.ok_nil, h1, h2, h3, h4⟩
  intro x hx
  simp only [dfoot, List.mem_cons, Value.ownBlock, Option.toList, List.append_nil, List.not_mem_nil, or_false] at hx
  omega
theorem newPaint_no (W H : Int) (w : World) (h : sizeB W H = false) :
    Calls Tryz.prog 29 #[.int .i64 W, .int .i64 H] w fun e w' => e = .returned (.tuple #[.pointer none, .int .i64 2]) ∧ w = w' := by
  go_enter Tryz.func29, Tryz.ntmps29
  go_wp2_with (go_at_call 17; refine (rsize_no _ _ _ h).mono ?_; rintro e w' ⟨rfl, rfl⟩)
  go_ret2
  exact ⟨rfl, rfl⟩
end Go.Proofs.YtjhccghhinlmdaaGreatDoor
/- The document's painter: a window is scrolled. -/
namespace Go.Proofs.YtjhccghhinlmdaaGreatDoor
open Go.RowKit

def dleast (a b : Int) : Int := if a < b then a else b
set_option maxHeartbeats 400000 in
theorem dleast_any (a b : Int) (w : World) :
    Calls Tryz.prog 43 #[.int .i64 a, .int .i64 b] w fun e w' => e = .returned (.int .i64 (dleast a b)) ∧ w = w' := by
  by_cases h : a < b
  · have E : Hid (dleast a b = a) := if_pos h
    go_enter Tryz.func43, Tryz.ntmps43
    go_wp2
    go_ret
    exact ⟨ret_int E.out.symm, rfl⟩
  · have E : Hid (dleast a b = b) := if_neg h
    go_enter Tryz.func43, Tryz.ntmps43
    go_wp2
    go_ret
    exact ⟨ret_int E.out.symm, rfl⟩
theorem fits_least (o : Win) (ok : o.Ok) (n : Int) : o.fits n = dleast (if n < 0 then 0 else n) o.most := by
  have := o.most_bd ok
  unfold Win.fits dleast Win.most at *
  (repeat' split) <;> (repeat' split at this) <;> omega

theorem wins_drop {v : V} {k : Nat} (h : k < v.length) : v.drop k = ((v.at k).1, (v.at k).2) :: v.drop (k + 1) := by
  rw [List.drop_eq_getElem_cons h]
  congr 1
  have := V.at_some h
  rw [List.getElem?_eq_getElem h] at this
  simpa using this

set_option maxHeartbeats 2000000 in
set_option maxRecDepth 100000 in
theorem dscroll_none (w : World) (b : Nat) (g : DGh) (m : Pt) (h : DPAt w b g m) (key n : Int) (hi : m.v.idx key = none) :
    Calls Tryz.prog 53 #[.pointer (some ⟨b, 0, none⟩), .int .i64 key, .int .i64 n] w fun e w' => e = .returned (.int .i64 4) ∧ w = w' := by
  obtain ⟨va, oa, cv, co, r, _, _⟩ := h.reads
  have c2 := r.c2
  have n12 := h.ok.n
  have HR := hide r
  have HI := hide hi
  clear h hi r
  generalize m.v = v at *
  go_enter Tryz.func53, Tryz.ntmps53
  go_wp2
  go_loopw [7] (fun i wr => ∃ k : Nat, i = .int .i64 k ∧ k ≤ v.length ∧ w = wr ∧ V.idx (v.drop k) key = none) (fun i _ => (3000 - intOf i).toNat)
  case atStart => exact ⟨0, rfl, by omega, rfl, HI.out⟩
  case round =>
    obtain ⟨k, rfl, hk, rfl, he⟩ := hrel
    by_cases hend : k < v.length
    · obtain ⟨gb, off, rfl, C⟩ := HR.out.ws k _ (wins_at hend)
      have c0 := C.c0
      have b1 : (k : Int) < v.length := by omega
      rw [wins_drop hend, V.idx_cons] at he
      have hq : (v.at k).1.key ≠ key := by intro hq; rw [if_pos hq] at he; cases he
      rw [if_neg hq] at he
      have E := hide (show V.idx (v.drop (k + 1)) key = none by simpa using he)
      have bq : ((v.at k).1.key == key) = false := by simpa using hq
      clear he C HR hq
      go_wp2
      go_roundw
      case rel => exact ⟨k + 1, by go_num, by omega, by trivial, E.out⟩
      case measure => simp [intOf]; omega
    · go_wp2
      go_ret
      exact ⟨rfl, rfl⟩
set_option maxHeartbeats 2000000 in
set_option maxRecDepth 100000 in
theorem dscroll_far (w : World) (b : Nat) (g : DGh) (m : Pt) (h : DPAt w b g m) (key n : Int) (i : Nat) (hi : m.v.idx key = some i) (hf : n < -500 ∨ 500 < n) :
    Calls Tryz.prog 53 #[.pointer (some ⟨b, 0, none⟩), .int .i64 key, .int .i64 n] w fun e w' => e = .returned (.int .i64 8) ∧ w = w' := by
  obtain ⟨va, oa, cv, co, r, _, _⟩ := h.reads
  have c2 := r.c2
  have n12 := h.ok.n
  have HR := hide r
  have HI := hide hi
  clear h hi r
  generalize m.v = v at *
  go_enter Tryz.func53, Tryz.ntmps53
  go_wp2
  go_loopw [7] (fun i wr => ∃ k : Nat, i = .int .i64 k ∧ k ≤ v.length ∧ w = wr ∧ ∃ j, V.idx (v.drop k) key = some j) (fun i _ => (3000 - intOf i).toNat)
  case atStart => exact ⟨0, rfl, by omega, rfl, i, HI.out⟩
  case round =>
    obtain ⟨k, rfl, hk, rfl, j, he⟩ := hrel
    by_cases hend : k < v.length
    · obtain ⟨gb, off, rfl, C⟩ := HR.out.ws k _ (wins_at hend)
      have c0 := C.c0
      have b1 : (k : Int) < v.length := by omega
      rw [wins_drop hend, V.idx_cons] at he
      by_cases hq : (v.at k).1.key = key
      · have bq : ((v.at k).1.key == key) = true := by simpa using hq
        clear he C HR hq
        rcases hf with hf | hf
        · go_wp2
          go_ret
          exact ⟨rfl, rfl⟩
        · go_wp2
          go_ret
          exact ⟨rfl, rfl⟩
      · rw [if_neg hq] at he
        have E : Hid (∃ j, V.idx (v.drop (k + 1)) key = some j) := by
          obtain ⟨q, hq, _⟩ := Option.map_eq_some_iff.1 he
          exact ⟨q, hq⟩
        have bq : ((v.at k).1.key == key) = false := by simpa using hq
        clear he C HR hq
        go_wp2
        go_roundw
        case rel => exact ⟨k + 1, by go_num, by omega, by trivial, E.out⟩
        case measure => simp [intOf]; omega
    · rw [List.drop_eq_nil_of_le (by omega)] at he; cases he
theorem dscroll_nil (w : World) (key n : Int) :
    Calls Tryz.prog 53 #[.pointer none, .int .i64 key, .int .i64 n] w fun e w' => e = .returned (.int .i64 1) ∧ w = w' := by
  go_enter Tryz.func53, Tryz.ntmps53
  go_wp2
  go_ret
  exact ⟨rfl, rfl⟩

/-- one value of a slice of one's own is written -/
theorem own_set {w : World} {base : Nat} {e : TypeId} {g n cap : Nat} {xs : List Value} (h : w.ownsRow base e 1 (.slice (some ⟨g, 0, none⟩) n cap) n xs) (i : Nat) (v : Value) : (w.setCell ⟨g, i, none⟩ v).ownsRow base e 1 (.slice (some ⟨g, 0, none⟩) n cap) n (xs.set i v) := by
  rcases h.2 with ⟨hv, _⟩ | ⟨g', cap', cur, hv, hb, hg, hc1, hc2, hc3, hc4⟩
  · simp at hv
  · simp only [Value.slice.injEq, Option.some.injEq, Addr.mk.injEq] at hv
    obtain ⟨⟨rfl, _⟩, _, rfl⟩ := hv
    refine ⟨by rw [List.length_set]; exact h.1, .inr ⟨g, cap, cur.setIfInBounds i v, rfl, hb, heap_setCell_same w g i cur e v hg, hc1, hc2, by simpa using hc3, ?_⟩⟩
    rw [Array.toList_setIfInBounds, ← hc4]
    rw [List.take_set]
theorem V.put_wins (v : V) (i : Nat) (n : Int) (h : i < v.length) : (v.put i n).wins = v.wins ∧ (v.put i n).offs = v.offs.set i n ∧ (v.put i n).length = v.length := by
  refine ⟨?_, ?_, by simp [V.put]⟩
  · unfold V.put V.wins
    apply List.ext_getElem?
    intro j
    rw [List.getElem?_map, List.getElem?_map]
    by_cases e : j = i
    · subst e; rw [List.getElem?_set_self h, V.at_some h]; rfl
    · rw [List.getElem?_set_ne (fun q => e q.symm)]
  · unfold V.put V.offs; rw [List.map_set]
end Go.Proofs.YtjhccghhinlmdaaGreatDoor
/- The document's painter: a window is scrolled, as far as its text goes. -/
namespace Go.Proofs.YtjhccghhinlmdaaGreatDoor
open Go.RowKit

set_option maxHeartbeats 2000000 in
set_option maxRecDepth 100000 in
theorem dscroll_yes (w : World) (b : Nat) (g : DGh) (m : Pt) (h : DPAt w b g m) (key n : Int) (i : Nat) (hi : m.v.idx key = some i) (n1 : -500 ≤ n) (n2 : n ≤ 500) :
    Calls Tryz.prog 53 #[.pointer (some ⟨b, 0, none⟩), .int .i64 key, .int .i64 n] w fun e w' => e = .returned (.int .i64 0) ∧ DUpd b g { m with v := m.v.scroll i n } w w' := by
  obtain ⟨va, oa, cv, co, r, ev, eo⟩ := h.reads
  have c2 := r.c2
  have n12 := h.ok.n
  have il := V.idx_lt hi
  have HR := hide r
  have HI := hide hi
  have H := hide h
  clear h hi r
  go_enter Tryz.func53, Tryz.ntmps53
  go_wp2
  go_loopw [7] (fun u wr => ∃ k : Nat, u = .int .i64 k ∧ k ≤ m.v.length ∧ w = wr ∧ ∃ j, V.idx (m.v.drop k) key = some j ∧ i = k + j) (fun i _ => (3000 - intOf i).toNat)
  case atStart => exact ⟨0, rfl, by omega, rfl, i, HI.out, by omega⟩
  case round =>
    obtain ⟨k, rfl, hk, rfl, j, he, hj⟩ := hrel
    by_cases hend : k < m.v.length
    · obtain ⟨gb, off, rfl, C⟩ := HR.out.ws k _ (wins_at hend)
      obtain ⟨og, rfl, co'⟩ := HR.out.os k _ (offs_at hend)
      have c3 := HR.out.c3
      have b1 : (k : Int) < m.v.length := by omega
      rw [wins_drop hend, V.idx_cons] at he
      by_cases hq : (m.v.at k).1.key = key
      · rw [if_pos hq] at he
        have hj0 : j = 0 := by simpa using he.symm
        subst hj0
        simp only [Nat.add_zero] at hj
        subst hj
        obtain ⟨okw, of1, of2⟩ := H.out.ok.at hend
        obtain ⟨a0, a1, a2, a3, a4, a5, a6, a7⟩ := C
        have GT := hide (fun w' => greatest_any (m.v.at i).1 w' okw)
        have mbd := (m.v.at i).1.most_bd okw
        have FL := hide (fits_least (m.v.at i).1 okw ((m.v.at i).2 + n))
        have bq : ((m.v.at i).1.key == key) = true := by simpa using hq
        have bne : og ≠ b := by
          have hof := H.out.of
          rw [eo] at hof
          have := own_ne hof H.out.st (by decide)
          intro e; subst e; exact this rfl
        have SV : Hid (∀ w1, Fr [] w w1 → DUpd b g { m with v := m.v.scroll i n } w (w1.setCell ⟨og, i, none⟩ (.int .i64 ((m.v.at i).1.fits ((m.v.at i).2 + n))))) := by
          intro w1 f1
          have h1 := H.out.fr0 f1
          have f2 : Fr [og] w1 (w1.setCell ⟨og, i, none⟩ (.int .i64 ((m.v.at i).1.fits ((m.v.at i).2 + n)))) := (Fr.refl _ _).setCell (.inl (by simp)) _
          obtain ⟨e1, e2, e3⟩ := V.put_wins m.v i ((m.v.at i).1.fits ((m.v.at i).2 + n)) hend
          have hof := h1.of
          rw [eo] at hof
          refine ⟨g, ⟨h1.st.fr f2 (by simpa using fun e => bne e.symm), ?_, ?_, V.ok_scroll H.out.ok i hend n, h1.w1, h1.w2, h1.h1, h1.h2⟩, ?_, fun x hx => .inl hx⟩
          · show (w1.setCell _ _).ownsRow 0 _ 8 g.vv (m.v.put i _).length (flatW (m.v.put i _).wins)
            rw [e1, e3]
            refine own_fr h1.vw f2 ?_
            intro x hx he'
            simp at hx; subst hx
            obtain ⟨us, hu⟩ := own_blk' h1.vw he'.symm
            obtain ⟨us2, hu2⟩ := own_blk' hof (g := x) rfl
            exact (hu.ne hu2 (by decide)) rfl
          · show (w1.setCell _ _).ownsRow 0 _ 1 g.ov (m.v.put i _).length ((m.v.put i _).offs.map (Value.int .i64))
            rw [e2, e3, eo, List.map_set]
            exact own_set hof i _
          · refine (f1.of_nil).then (f2.mono ?_)
            intro x hx; simp at hx; subst hx
            simp [dfoot, eo, Value.ownBlock]
        have z := hide (show ∀ w1, Fr [] w w1 → w1.frozen? ⟨og, i, none⟩ = false from fun w1 f1 => by
          have hof := (H.out.fr0 f1).of
          rw [eo] at hof
          obtain ⟨us2, hu2⟩ := own_blk' hof (g := og) rfl
          exact hu2.frozen i)
        clear he hq HR HI okw
        go_wp2_with fail
        refine (GT.out _).mono ?_
        rintro e w1 ⟨rfl, f1⟩
        have d3 := f1.cell' c3
        have do' := f1.cell' co'
        have zz := z.out w1 f1
        have SV1 := hide (SV.out w1 f1)
        have zd : w1.drew.frozen? ⟨og, i, none⟩ = false := zz
        have bl : og < w1.heap.size := World.block_lt_of_cell? w1 _ do'
        have SVD := hide (SV.out w1.drew f1.drew)
        have ne1 : og ≠ b := bne
        have ne2 : b ≠ og := fun e => bne e.symm
        clear f1 SV z c2 c3 a0 a1 a2 a3 a4 a5 a6 a7
        generalize (m.v.at i).1.fits ((m.v.at i).2 + n) = fv at *
        generalize (m.v.at i).1.most = mo at *
        generalize (m.v.at i).2 = oi at *
        have wrp : IntKind.i64.wrap (oi + n) = oi + n := by rw [IntKind.wrap_i64]; omega
        by_cases hneg : oi + n < 0
        · rw [if_pos hneg] at FL
          have LS : Hid (∀ w', Calls Tryz.prog 43 #[.int .i64 0, .int .i64 mo] w' fun e w'' => e = .returned (.int .i64 fv) ∧ w' = w'') := by
            intro w'; have := dleast_any 0 mo w'; rw [← FL.out] at this; exact this
          go_wp2
          go_region_held (fun w' => w'.cell? ⟨b, 3, none⟩ = some (.slice (some ⟨og, 0, none⟩) m.v.length co)) (go_keep) ((go_at_call 43; refine (LS.out _).mono ?_; rintro e w' ⟨rfl, wc⟩; subst wc))
          all_goals go_wp2
          all_goals
            go_ret
            exact ⟨rfl, SVD.out⟩
        · rw [if_neg hneg] at FL
          have LS : Hid (∀ w', Calls Tryz.prog 43 #[.int .i64 (oi + n), .int .i64 mo] w' fun e w'' => e = .returned (.int .i64 fv) ∧ w' = w'') := by
            intro w'; have := dleast_any (oi + n) mo w'; rw [← FL.out] at this; exact this
          go_wp2
          go_region_held (fun w' => w'.cell? ⟨b, 3, none⟩ = some (.slice (some ⟨og, 0, none⟩) m.v.length co)) (go_keep) ((go_at_call 43; refine (LS.out _).mono ?_; rintro e w' ⟨rfl, wc⟩; subst wc))
          all_goals go_wp2
          all_goals
            go_ret
            exact ⟨rfl, SVD.out⟩
      · rw [if_neg hq] at he
        have E : Hid (∃ j, V.idx (m.v.drop (k + 1)) key = some j ∧ i = k + 1 + j) := by
          obtain ⟨q, hq, hq2⟩ := Option.map_eq_some_iff.1 he
          exact ⟨q, hq, by omega⟩
        have bq : ((m.v.at k).1.key == key) = false := by simpa using hq
        have c0 := C.c0
        clear he C HR hq
        go_wp2
        go_roundw
        case rel => exact ⟨k + 1, by go_num, by omega, by trivial, E.out⟩
        case measure => simp [intOf]; omega
    · rw [List.drop_eq_nil_of_le (by omega)] at he; cases he
end Go.Proofs.YtjhccghhinlmdaaGreatDoor
/- The document's painter: why a window may not be where it is in the view. -/
namespace Go.Proofs.YtjhccghhinlmdaaGreatDoor
open Go.RowKit

theorem any_take (ws : List Win) (k : Nat) (o q : Win) (h : ws[k]? = some q) : (ws.take (k + 1)).any (fun z => z.key == o.key) = ((ws.take k).any (fun z => z.key == o.key) || (q.key == o.key)) := by
  rw [List.take_add_one, h, List.any_append]
  simp
theorem any_more (ws : List Win) (k i : Nat) (o : Win) (hk : k ≤ i) (h : (ws.take k).any (fun z => z.key == o.key) = true) : (ws.take i).any (fun z => z.key == o.key) = true := by
  rw [List.any_eq_true] at h ⊢
  obtain ⟨z, hz, he⟩ := h
  refine ⟨z, ?_, he⟩
  rw [List.mem_iff_getElem?] at hz ⊢
  obtain ⟨j, hj⟩ := hz
  have hjk : j < k := by
    rcases Nat.lt_or_ge j k with e | e
    · exact e
    · rw [List.getElem?_eq_none (by simp; omega)] at hj; cases hj
  refine ⟨j, ?_⟩
  rw [List.getElem?_take_of_lt hjk] at hj
  rw [List.getElem?_take_of_lt (by omega)]; exact hj

set_option maxHeartbeats 4000000 in
set_option maxRecDepth 100000 in
theorem refused'_any (ws : List Win) (i : Nat) (o : Win) (av : Option Addr) (n cap : Nat) (w : World) (hw : WinsAt w av ws) (hn : ws.length = n) (hl : n ≤ 1000) (ho : ws[i]? = some o) (hsz : o.text.size ≤ 9223372036854775807) :
    Calls Tryz.prog 75 #[.slice av n cap, .int .i64 i] w fun e w' => e = .returned (.int .i64 (errAt ws i o)) ∧ Fr [] w w' := by
  subst hn
  have hil : i < ws.length := (List.getElem?_eq_some_iff.1 ho).1
  have HE : Hid (errAt ws i o = if o.key < 1 ∨ 999 < o.key ∨ (ws.take i).any (fun q => q.key == o.key) = true then 4
    else if o.x < -99 ∨ 99 < o.x ∨ o.y < -99 ∨ 99 < o.y ∨ o.w < 1 ∨ 99 < o.w ∨ o.h < 1 ∨ 99 < o.h then 5
    else if o.layer < -9 ∨ 9 < o.layer ∨ o.style < 0 ∨ 15 < o.style then 6
    else if 400 < o.text.size then 7
    else 0) := rfl
  obtain ⟨gb, off, rfl, C⟩ := hw i o ho
  obtain ⟨c0, c1, c2, c3, c4, c5, c6, c7⟩ := C
  have HW := hide hw
  have b1 : (i : Int) < ws.length := by omega
  have gl : gb < w.heap.size := World.block_lt_of_cell? w _ c0
  clear hw ho
  by_cases h1 : o.key < 1
  · have E : Hid (errAt ws i o = 4) := by show _ = _; rw [HE.out, if_pos (.inl h1)]
    go_enter Tryz.func75, Tryz.ntmps75
    go_wp2
    go_ret
    exact ⟨ret_int E.out.symm, (Fr.refl _ _).alloc _⟩
  by_cases h2 : 999 < o.key
  · have E : Hid (errAt ws i o = 4) := by show _ = _; rw [HE.out, if_pos (.inr (.inl h2))]
    go_enter Tryz.func75, Tryz.ntmps75
    go_wp2
    go_ret
    exact ⟨ret_int E.out.symm, (Fr.refl _ _).alloc _⟩
  go_enter Tryz.func75, Tryz.ntmps75
  go_wp2
  go_loopw [6] (fun u wr => ∃ k : Nat, u = .int .i64 k ∧ k ≤ i ∧ Fr [] w wr ∧ Blk wr w.heap.size o.vals 104 ∧ (ws.take k).any (fun z => z.key == o.key) = false) (fun u _ => (3000 - intOf u).toNat)
  case atStart => exact ⟨0, rfl, by omega, (Fr.refl _ _).alloc _, Blk.new w o.vals 104, by simp⟩
  case round =>
    obtain ⟨k, rfl, hk, f, B, hno⟩ := hrel
    by_cases hend : k < i
    · obtain ⟨q, hq⟩ : ∃ q, ws[k]? = some q := ⟨_, List.getElem?_eq_getElem (by omega)⟩
      obtain ⟨gb', off', he, C'⟩ := HW.out.fr f (by simp) k q hq
      simp only [Option.some.injEq, Addr.mk.injEq, and_true] at he
      obtain ⟨rfl, rfl⟩ := he
      have d0 := C'.c0
      have e0 : wr.cell? ⟨w.heap.size, 0, none⟩ = some (.int .i64 o.key) := B.cell 0
      have AT := hide (any_take ws k o q hq)
      have bk : (k : Int) < ws.length := by omega
      have bk2 : (k : Int) < i := by omega
      have HB := hide B
      rw [hno] at AT
      clear C' B hq
      by_cases hqk : q.key = o.key
      · have bq : (q.key == o.key) = true := by simpa using hqk
        have E : Hid (errAt ws i o = 4) := by
          show _ = _
          rw [HE.out, if_pos (.inr (.inr (any_more ws (k + 1) i o (by omega) (by rw [AT.out]; simp [bq]))))]
        clear hqk hno HE AT
        go_wp2
        go_quiet (fail)
        go_wp2
        go_ret
        exact ⟨ret_int E.out.symm, f.drewN _⟩
      · have bq : (q.key == o.key) = false := by simpa using hqk
        have E := hide (show (ws.take (k + 1)).any (fun z => z.key == o.key) = false by rw [AT.out, bq]; rfl)
        clear hqk hno HE AT
        go_wp2
        go_quiet (fail)
        go_wp2
        go_roundw
        case rel => exact ⟨k + 1, by go_num, by omega, f.drewN _, HB.out.drewN _, E.out⟩
        case measure => simp [intOf]; omega
    · have hk' : k = i := by omega
      subst hk'
      have E : Hid (errAt ws k o = if o.x < -99 ∨ 99 < o.x ∨ o.y < -99 ∨ 99 < o.y ∨ o.w < 1 ∨ 99 < o.w ∨ o.h < 1 ∨ 99 < o.h then 5
          else if o.layer < -9 ∨ 9 < o.layer ∨ o.style < 0 ∨ 15 < o.style then 6
          else if 400 < o.text.size then 7 else 0) := by
        show _ = _
        rw [HE.out, if_neg (by rw [hno]; simp; omega)]
      have e1 : wr.cell? ⟨w.heap.size, 1, none⟩ = some (.int .i64 o.x) := B.cell 1
      have e2 : wr.cell? ⟨w.heap.size, 2, none⟩ = some (.int .i64 o.y) := B.cell 2
      have e3 : wr.cell? ⟨w.heap.size, 3, none⟩ = some (.int .i64 o.w) := B.cell 3
      have e4 : wr.cell? ⟨w.heap.size, 4, none⟩ = some (.int .i64 o.h) := B.cell 4
      have e5 : wr.cell? ⟨w.heap.size, 5, none⟩ = some (.int .i64 o.layer) := B.cell 5
      have e6 : wr.cell? ⟨w.heap.size, 6, none⟩ = some (.int .i64 o.style) := B.cell 6
      have e7 : wr.cell? ⟨w.heap.size, 7, none⟩ = some (.string o.text) := B.cell 7
      clear B hno HE HW c0 c1 c2 c3 c4 c5 c6 c7
      by_cases p5 : o.x < -99 ∨ 99 < o.x ∨ o.y < -99 ∨ 99 < o.y
      · have E5 : Hid (errAt ws k o = 5) := by show _ = _; rw [E.out, if_pos (by omega)]
        rcases p5 with p | p | p | p
        all_goals
          go_wp2
          all_goals
            go_ret
            exact ⟨ret_int E5.out.symm, f⟩
      have q1 : -99 ≤ o.x := by omega
      have q2 : o.x ≤ 99 := by omega
      have q3 : -99 ≤ o.y := by omega
      have q4 : o.y ≤ 99 := by omega
      by_cases p6 : o.w < 1 ∨ 99 < o.w ∨ o.h < 1 ∨ 99 < o.h
      · have E5 : Hid (errAt ws k o = 5) := by show _ = _; rw [E.out, if_pos (by omega)]
        clear p5
        rcases p6 with p | p | p | p
        all_goals
          go_wp2
          all_goals
            go_ret
            exact ⟨ret_int E5.out.symm, f⟩
      have q5 : 1 ≤ o.w := by omega
      have q6 : o.w ≤ 99 := by omega
      have q7 : 1 ≤ o.h := by omega
      have q8 : o.h ≤ 99 := by omega
      by_cases p7 : o.layer < -9 ∨ 9 < o.layer ∨ o.style < 0 ∨ 15 < o.style
      · have E6 : Hid (errAt ws k o = 6) := by show _ = _; rw [E.out, if_neg (by omega), if_pos p7]
        clear p5 p6
        rcases p7 with p | p | p | p
        all_goals
          go_wp2
          all_goals
            go_ret
            exact ⟨ret_int E6.out.symm, f⟩
      have r1 : -9 ≤ o.layer := by omega
      have r2 : o.layer ≤ 9 := by omega
      have r3 : 0 ≤ o.style := by omega
      have r4 : o.style ≤ 15 := by omega
      by_cases p8 : 400 < o.text.size
      · have E7 : Hid (errAt ws k o = 7) := by show _ = _; rw [E.out, if_neg (by omega), if_neg p7, if_pos p8]
        clear p5 p6 p7
        go_wp2
        go_ret
        exact ⟨ret_int E7.out.symm, f⟩
      · have E0 : Hid (errAt ws k o = 0) := by show _ = _; rw [E.out, if_neg (by omega), if_neg p7, if_neg p8]
        clear p5 p6 p7
        go_wp2
        go_ret
        exact ⟨ret_int E0.out.symm, f⟩
end Go.Proofs.YtjhccghhinlmdaaGreatDoor
/- The document's painter: a view is shown. -/
namespace Go.Proofs.YtjhccghhinlmdaaGreatDoor
open Go.RowKit

theorem info_int' : (Tryz.prog.info? 3).map (fun i => (i.zero, i.size, i.bytes)) = some (some (.int .i64 0), 1, 8) := by kernel_rfl

set_option maxHeartbeats 400000 in
theorem dshow_nil (w : World) (wa : Option Addr) (n wcap : Nat) (cx cy : Int) :
    Calls Tryz.prog 50 #[.pointer none, .slice wa n wcap, .agg #[.int .i64 cx, .int .i64 cy]] w fun e w' => e = .returned (.int .i64 1) ∧ Fr [] w w' := by
  go_enter Tryz.func50, Tryz.ntmps50
  go_wp2
  go_ret
  exact ⟨rfl, (Fr.refl _ _).alloc _⟩
set_option maxHeartbeats 400000 in
theorem dshow_many (w : World) (pb : Addr) (wa : Option Addr) (n wcap : Nat) (cx cy : Int) (h : 12 < n) (hl : n ≤ 9223372036854775807) :
    Calls Tryz.prog 50 #[.pointer (some pb), .slice wa n wcap, .agg #[.int .i64 cx, .int .i64 cy]] w fun e w' => e = .returned (.int .i64 3) ∧ Fr [] w w' := by
  go_enter Tryz.func50, Tryz.ntmps50
  go_wp2
  go_ret
  exact ⟨rfl, (Fr.refl _ _).alloc _⟩

/-- the offset that a view without two windows of a key has, asked from the back -/
theorem offOf_last (v : V) (hv : v.Ok) (key n : Int) (h1 : ∀ j, j < v.length → (v.at j).1.key = key → n = (v.at j).2) (h2 : (∀ j, j < v.length → (v.at j).1.key ≠ key) → n = 0) : v.offOf key = n := by
  by_cases h : ∃ j, j < v.length ∧ (v.at j).1.key = key
  · obtain ⟨j, hj, hjk⟩ := h
    rw [h1 j hj hjk]
    have gen : ∀ (u : V) (j : Nat), j < u.length → (u.at j).1.key = key → (∀ i, i < j → (u.at i).1.key ≠ key) → u.offOf key = (u.at j).2 := by
      intro u
      induction u with
      | nil => intro j hj; simp at hj
      | cons p u ih =>
        intro j hj hjk hlt
        obtain ⟨o, m⟩ := p
        cases j with
        | zero =>
          have : o.key = key := hjk
          show (if o.key = key then m else V.offOf u key) = m
          rw [if_pos this]
        | succ j =>
          have h0 : o.key ≠ key := hlt 0 (by omega)
          show (if o.key = key then m else V.offOf u key) = _
          rw [if_neg h0]
          exact ih j (by simpa using hj) hjk (fun i hi => hlt (i + 1) (by omega))
    refine gen v j hj hjk ?_
    intro i hi hik
    exact hv.keys i j _ _ (V.at_some (by omega)) (V.at_some hj) hi (by rw [hik, hjk])
  · rw [h2 (fun j hj hk => h ⟨j, hj, hk⟩)]
    have gen : ∀ u : V, (∀ j, j < u.length → (u.at j).1.key ≠ key) → u.offOf key = 0 := by
      intro u
      induction u with
      | nil => intro _; rfl
      | cons p u ih =>
        intro hu
        obtain ⟨o, m⟩ := p
        show (if o.key = key then m else V.offOf u key) = 0
        have h0 : o.key ≠ key := hu 0 (by simp)
        rw [if_neg h0]
        exact ih (fun j hj => hu (j + 1) (by simpa using hj))
    exact gen v (fun j hj hk => h ⟨j, hj, hk⟩)
end Go.Proofs.YtjhccghhinlmdaaGreatDoor
/- The document's painter: a view is shown, window by window. -/
namespace Go.Proofs.YtjhccghhinlmdaaGreatDoor
open Go.RowKit

/-- so many windows have been taken over -/
structure Taken (base : Nat) (w : World) (u1 u2 : Value) (k : Nat) (ws : List Win) (os : List Int) : Prop where
  vw : w.ownsRow base 104 8 u1 k (flatW ws)
  of : w.ownsRow base 3 1 u2 k (os.map (Value.int .i64))
theorem Taken.fr0 {base : Nat} {w w' : World} {u1 u2 : Value} {k : Nat} {ws : List Win} {os : List Int} (h : Taken base w u1 u2 k ws os) (f : Fr [] w w') : Taken base w' u1 u2 k ws os := ⟨own_fr0 h.vw f, own_fr0 h.of f⟩
theorem own_two {w w' : World} {base n m : Nat} {s1 s2 : Nat} {e1 e2 : TypeId} {u v : Value} {xs ys : List Value} (h : w.ownsRow base e1 s1 u n xs) (k : w.ownsRow base e2 s2 v m ys) (he : e1 ≠ e2) (hg : w.grownBy w' u.ownBlock) : w'.ownsRow base e2 s2 v m ys := by
  refine own_grown k hg ?_
  intro b hb hv
  obtain ⟨us, hu⟩ := own_blk' h hb
  obtain ⟨vs, hvs⟩ := own_blk' k hv
  exact (hu.ne hvs he) rfl

theorem next_offs (v : V) (ws : List Win) : (v.next ws).wins = ws ∧ (v.next ws).offs = ws.map fun o => o.fits (v.offOf o.key) := by
  constructor
  · simp [V.next, V.wins, Function.comp_def]
  · simp [V.next, V.offs, Function.comp_def]

set_option maxHeartbeats 4000000 in
set_option maxRecDepth 100000 in
theorem dshow_loop (w : World) (b : Nat) (g : DGh) (m : Pt) (h : DPAt w b g m) (wa : Option Addr) (ws : List Win) (n wcap : Nat) (cx cy : Int) (hw : WinsAt w wa ws) (hn : ws.length = n) (h12 : n ≤ 12) (hsz : ∀ o ∈ ws, o.text.size ≤ 9223372036854775807) :
    Calls Tryz.prog 50 #[.pointer (some ⟨b, 0, none⟩), .slice wa n wcap, .agg #[.int .i64 cx, .int .i64 cy]] w fun e w' => e = .returned (.int .i64 (errV ws)) ∧ ((errV ws ≠ 0 ∧ Fr [] w w') ∨ (errV ws = 0 ∧ DUpd b g { m with v := m.v.next ws, cx := cx, cy := cy } w w')) := by
  subst hn
  obtain ⟨va, oa, cv, co, r, ev, eo⟩ := h.reads
  have n12 := h.ok.n
  have HR := hide r
  have H := hide h
  have HW := hide hw
  have HS := hide hsz
  have EE : Hid (errV ws = errFrom ws 0 ws) := by show _ = _; unfold errV; rw [if_neg (by omega)]
  obtain ⟨i0, hi, hz0, hz1, hz2⟩ := info_parts info_win
  obtain ⟨j0, ji, jz0, jz1, jz2⟩ := info_parts info_int'
  clear h r hw hsz
  go_enter Tryz.func50, Tryz.ntmps50
  go_wp2
  go_loopw [7, 8, 9] (fun u1 u2 i wr => ∃ k : Nat, i = .int .i64 k ∧ k ≤ ws.length ∧ Fr [] w wr ∧ Blk wr w.heap.size [.int .i64 cx, .int .i64 cy] 96 ∧ Taken w.heap.size wr u1 u2 k (ws.take k) ((m.v.next ws).offs.take k) ∧ errV ws = errFrom ws k (ws.drop k)) (fun _ _ i _ => (3000 - intOf i).toNat)
  case atStart => exact ⟨0, rfl, by omega, (Fr.refl _ _).alloc _, Blk.new _ _ _, ⟨World.ownsRow_nil _ _ _ _, World.ownsRow_nil _ _ _ _⟩, EE.out⟩
  case round =>
    obtain ⟨k, rfl, hk, f, B, T, he⟩ := hrel
    by_cases hend : k < ws.length
    · obtain ⟨o, ho⟩ : ∃ o, ws[k]? = some o := ⟨_, List.getElem?_eq_getElem hend⟩
      have RF := hide (refused'_any ws k o wa _ wcap wr (HW.out.fr f (by simp)) rfl (by omega) ho (HS.out o (List.mem_of_getElem? ho)))
      have ST := hide (errFrom_step ws k o ho)
      rw [← he] at ST
      have HB := hide B
      have HT := hide T
      have HO := hide ho
      have b1 : (k : Int) < ws.length := by omega
      clear B T he ho
      by_cases hz : errAt ws k o = 0
      · rw [hz] at RF
        rw [if_pos hz] at ST
        have ok := (errAt_ok hz).1
        clear hz
        go_wp2_with fail
        refine RF.out.mono ?_
        rintro e w1 ⟨rfl, f1⟩
        have F1 := hide (f.then f1)
        have B1 := hide (HB.out.fr0 f1)
        have T1 := hide (HT.out.fr0 f1)
        have R1 := hide (HR.out.fr0 F1.out)
        have W1 := hide (HW.out.fr F1.out (by simp))
        clear f1 RF HB HT f
        go_wp2
        go_loopw [11, 12] (fun u i wq => ∃ (q : Nat) (nn : Int), i = .int .i64 q ∧ q ≤ m.v.length ∧ u = .int .i64 nn ∧ (0 ≤ nn ∧ nn ≤ 401) ∧ Fr [] w1 wq ∧ (∀ j, j < q → (m.v.at j).1.key = o.key → nn = (m.v.at j).2) ∧ ((∀ j, j < q → (m.v.at j).1.key ≠ o.key) → nn = 0)) (fun _ i _ => (3000 - intOf i).toNat)
        case atStart => exact ⟨0, 0, rfl, by omega, rfl, by omega, Fr.refl _ _, by simp, fun _ => rfl⟩
        case round =>
          obtain ⟨q, nn, rfl, hq, rfl, ⟨nn1, nn2⟩, f2, hA, hZ⟩ := hrel
          have R2 := R1.out.fr0 f2
          have c2 := R2.c2
          have c3 := R2.c3
          obtain ⟨wb, woff, rfl, CW⟩ := (W1.out.fr f2 (by simp)) k o HO.out
          have w0 := CW.c0
          by_cases hqe : q < m.v.length
          · obtain ⟨gb, off, rfl, C⟩ := R2.ws q _ (wins_at hqe)
            obtain ⟨og, rfl, oc⟩ := R2.os q _ (offs_at hqe)
            have c0 := C.c0
            have bq : (q : Int) < m.v.length := by omega
            have obd := (H.out.ok.at hqe).2
            have HA := hide hA
            have HZ := hide hZ
            clear hA hZ R2 C CW
            by_cases hkey : (m.v.at q).1.key = o.key
            · have bk : ((m.v.at q).1.key == o.key) = true := by simpa using hkey
              have NA : Hid (∀ j, j < q + 1 → (m.v.at j).1.key = o.key → (m.v.at q).2 = (m.v.at j).2) := by
                intro j hj hjk
                rcases Nat.lt_or_ge j q with e | e
                · exact absurd (hjk.trans hkey.symm) (H.out.ok.keys j q _ _ (V.at_some (by omega)) (V.at_some hqe) e)
                · have : j = q := by omega
                  subst this; rfl
              have NZ : Hid ((∀ j, j < q + 1 → (m.v.at j).1.key ≠ o.key) → (m.v.at q).2 = 0) := fun hh => absurd hkey (hh q (by omega))
              clear hkey
              go_wp2
              go_quiet (fail)
              go_wp2
              go_roundw
              case rel => exact ⟨q + 1, _, by go_num, by omega, rfl, obd, f2.drewN _, NA.out, NZ.out⟩
              case measure => simp [intOf]; omega
            · have bk : ((m.v.at q).1.key == o.key) = false := by simpa using hkey
              have NA : Hid (∀ j, j < q + 1 → (m.v.at j).1.key = o.key → nn = (m.v.at j).2) := by
                intro j hj hjk
                rcases Nat.lt_or_ge j q with e | e
                · exact HA.out j e hjk
                · have : j = q := by omega
                  subst this; exact absurd hjk hkey
              have NZ : Hid ((∀ j, j < q + 1 → (m.v.at j).1.key ≠ o.key) → nn = 0) := fun hh => HZ.out (fun j hj => hh j (by omega))
              clear hkey
              go_wp2
              go_quiet (fail)
              go_wp2
              go_roundw
              case rel => exact ⟨q + 1, nn, by go_num, by omega, rfl, ⟨nn1, nn2⟩, f2.drewN _, NA.out, NZ.out⟩
              case measure => simp [intOf]; omega
          · have hq' : q = m.v.length := by omega
            subst hq'
            have NO := hide (offOf_last m.v H.out.ok o.key nn hA hZ)
            obtain ⟨w0', w1', w2', w3', w4', w5', w6', w7'⟩ := CW
            have F2 := hide (F1.out.then f2)
            have B2 := hide (B1.out.fr0 f2)
            have T2 := hide (T1.out.fr0 f2)
            have W2 := hide (W1.out.fr f2 (by simp))
            clear hA hZ R2 f2 B1 T1 F1
            go_wp2_with fail
            refine (greatest_any o _ ok).mono ?_
            rintro e w3 ⟨rfl, f3⟩
            have F3 := hide (F2.out.then f3)
            have B3 := hide (B2.out.fr0 f3)
            have T3 := hide (T2.out.fr0 f3)
            obtain ⟨wb', woff', he', CW3⟩ := (W2.out.fr f3 (by simp)) k o HO.out
            simp only [Option.some.injEq, Addr.mk.injEq, and_true] at he'
            obtain ⟨rfl, rfl⟩ := he'
            obtain ⟨x0, x1, x2, x3, x4, x5, x6, x7⟩ := CW3
            have FV : Hid (dleast nn o.most = o.fits (m.v.offOf o.key)) := by
              show _ = _; rw [NO.out, fits_least o ok nn, if_neg (by omega)]
            have fbd := o.fits_bd ok (m.v.offOf o.key)
            have LS := hide (fun w' => dleast_any nn o.most w')
            rw [FV.out] at LS
            have TW : Hid (flatW (ws.take k) ++ o.vals = flatW (ws.take (k + 1))) := by
              show _ = _
              rw [flatW_snoc, List.take_add_one, HO.out]; rfl
            have TO : Hid (((m.v.next ws).offs.take k).map (Value.int .i64) ++ [.int .i64 (o.fits (m.v.offOf o.key))] = ((m.v.next ws).offs.take (k + 1)).map (Value.int .i64)) := by
              show _ = _
              rw [(next_offs m.v ws).2, List.take_add_one, List.getElem?_map, HO.out]; simp
            have hs3 := F3.out.size
            generalize o.fits (m.v.offOf o.key) = fv at *
            clear f3 B2 T2 w0' w1' w2' w3' w4' w5' w6' w7' W2 FV NO c2 c3 w0 nn1 nn2
            go_wp2_with fail
            refine (LS.out _).mono ?_
            rintro e w' ⟨rfl, wc⟩
            subst wc
            go_wp2_with (first | (at_builtin; refine wpList_append_lies _ rfl (.tmp 69) (.tmp 74) 30 rfl w.heap.size 104 i0 (.agg #[.int .i64 0, .int .i64 0, .int .i64 0, .int .i64 0, .int .i64 0, .int .i64 0, .int .i64 0, .string ⟨#[]⟩]) 8 72 Tryz.underlying30 hi hz0 hz1 hz2 rfl (by decide) u7 k (flatW (ws.take k)) rfl (own_fr0 T3.out.vw ((Fr.refl _ _).alloc _)) ⟨w3.heap.size, 0, none⟩ 1 1 [.int .i64 o.key, .int .i64 o.x, .int .i64 o.y, .int .i64 o.w, .int .i64 o.h, .int .i64 o.layer, .int .i64 o.style, .string o.text] rfl rfl (World.news_of_block (cs := #[.int .i64 o.key, .int .i64 o.x, .int .i64 o.y, .int .i64 o.w, .int .i64 o.h, .int .i64 o.layer, .int .i64 o.style, .string o.text]) (t := 104) (fr := (0, 0)) (by exact heap_alloc_new w3 _)) (eight_one _ _ _ _ _ _ _ _) (by omega) (by unfold maxLen; omega) (by omega) (by simp; omega) (w3.heap.size + 1) (by simp) ?_; intro g1 cap1 w4 hown1 hgrow hat hlt1; have F4 : Hid (Fr [] w w4) := (Fr.grown (F3.out.alloc _) hgrow (fun j hj => .inr (T3.out.vw.lt j hj).1)); have B4 : Hid (Blk w4 w.heap.size [.int .i64 cx, .int .i64 cy] 96) := ((B3.out.alloc _).grown hgrow (own_ne T3.out.vw B3.out (by decide))); have O4 : Hid (w4.ownsRow w.heap.size 3 1 u8 k (((m.v.next ws).offs.take k).map (Value.int .i64))) := (own_two (own_fr0 T3.out.vw ((Fr.refl _ _).alloc _)) (own_fr0 T3.out.of ((Fr.refl _ _).alloc _)) (by decide) hgrow); have V4 : Hid (w4.ownsRow w.heap.size 104 8 (.slice (some ⟨g1, 0, none⟩) (k + 1) cap1) (k + 1) (flatW (ws.take (k + 1)))) := (by rw [← TW.out]; exact hown1); have hs4 := F4.out.size; clear hown1 hgrow hat) | (at_builtin; refine wpList_append_lies _ rfl (.tmp 76) (.tmp 78) 99 rfl w.heap.size 3 j0 (.int .i64 0) 1 8 Tryz.underlying99 ji jz0 jz1 jz2 rfl (by decide) u8 k (((m.v.next ws).offs.take k).map (Value.int .i64)) rfl (own_fr0 O4.out ((Fr.refl _ _).alloc _)) ⟨w4.heap.size, 0, none⟩ 1 1 [.int .i64 fv] rfl rfl (World.news_of_block (cs := #[.int .i64 fv]) (t := 3) (fr := (0, 0)) (by exact heap_alloc_new w4 _)) (one_one _ rfl) (by omega) (by unfold maxLen; omega) (by omega) (by simp; omega) (w4.heap.size + 1) (by simp) ?_; intro g2 cap2 w5 hown2 hgrow2 hat2 hlt2; have F5 : Hid (Fr [] w w5) := (Fr.grown (F4.out.alloc _) hgrow2 (fun j hj => .inr (O4.out.lt j hj).1)); have B5 : Hid (Blk w5 w.heap.size [.int .i64 cx, .int .i64 cy] 96) := ((B4.out.alloc _).grown hgrow2 (own_ne O4.out B4.out (by decide))); have V5 : Hid (w5.ownsRow w.heap.size 104 8 (.slice (some ⟨g1, 0, none⟩) (k + 1) cap1) (k + 1) (flatW (ws.take (k + 1)))) := (own_two (own_fr0 O4.out ((Fr.refl _ _).alloc _)) (own_fr0 V4.out ((Fr.refl _ _).alloc _)) (by decide) hgrow2); have O5 : Hid (w5.ownsRow w.heap.size 3 1 (.slice (some ⟨g2, 0, none⟩) (k + 1) cap2) (k + 1) (((m.v.next ws).offs.take (k + 1)).map (Value.int .i64))) := (by rw [← TO.out]; exact hown2); clear hown2 hgrow2 hat2))
            go_roundw
            case rel => exact ⟨k + 1, by go_num, by omega, F5.out, B5.out, ⟨V5.out, O5.out⟩, ST.out⟩
            case measure => simp [intOf]; omega
      · rw [if_neg hz] at ST
        have bz : (errAt ws k o == 0) = false := by simpa using hz
        generalize errAt ws k o = er at *
        go_wp2_with fail
        refine RF.out.mono ?_
        rintro e w1 ⟨rfl, f1⟩
        go_wp2
        go_ret
        exact ⟨ret_int ST.out.symm, .inl ⟨by rw [ST.out]; exact hz, f.then f1⟩⟩
    · have hk' : k = ws.length := by omega
      subst hk'
      have E0 : errV ws = 0 := by rw [he, List.drop_eq_nil_of_le (Nat.le_refl _)]; rfl
      have OL : (m.v.next ws).offs.length = ws.length := by rw [(next_offs m.v ws).2]; simp
      obtain ⟨T1, T2⟩ := T
      rw [List.take_of_length_le (Nat.le_refl _)] at T1
      rw [List.take_of_length_le (by omega)] at T2
      have h1 := H.out.fr0 f
      have DU : Hid (DUpd b g { m with v := m.v.next ws, cx := cx, cy := cy } w ((((wr.setCell ⟨b, 2, none⟩ u7).setCell ⟨b, 3, none⟩ u8).setCell ⟨b, 4, none⟩ (.int .i64 cx)).setCell ⟨b, 5, none⟩ (.int .i64 cy))) := by
        have f2 : Fr [b] wr ((((wr.setCell ⟨b, 2, none⟩ u7).setCell ⟨b, 3, none⟩ u8).setCell ⟨b, 4, none⟩ (.int .i64 cx)).setCell ⟨b, 5, none⟩ (.int .i64 cy)) := ((((Fr.refl _ _).setCell (.inl (by simp)) _).setCell (.inl (by simp)) _).setCell (.inl (by simp)) _).setCell (.inl (by simp)) _
        have e1 : (m.v.next ws).length = ws.length := by simp [V.next]
        refine ⟨⟨u7, u8⟩, ⟨(((h1.st.set 2 u7).set 3 u8).set 4 _).set 5 _, ?_, ?_, V.ok_next m.v E0, h1.w1, h1.w2, h1.h1, h1.h2⟩, (f.of_nil).then (f2.mono (by intro i hi; simp at hi; subst hi; simp [dfoot])), ?_⟩
        · have := own_fr (S := [b]) T1 f2 (by intro x hx; simp at hx; subst hx; exact own_ne T1 h1.st (by decide))
          show World.ownsRow _ 0 _ 8 u7 (m.v.next ws).length (flatW (m.v.next ws).wins)
          rw [(next_offs m.v ws).1, e1]
          exact own_base this (Nat.zero_le _)
        · have := own_fr (S := [b]) T2 f2 (by intro x hx; simp at hx; subst hx; exact own_ne T2 h1.st (by decide))
          show World.ownsRow _ 0 _ 1 u8 (m.v.next ws).length ((m.v.next ws).offs.map (Value.int .i64))
          rw [e1]
          exact own_base this (Nat.zero_le _)
        · intro x hx
          simp only [dfoot, List.mem_cons, List.mem_append, Option.mem_toList] at hx
          rcases hx with rfl | hx | hx
          · exact .inl (by simp [dfoot])
          · exact .inr (T1.lt x hx).1
          · exact .inr (T2.lt x hx).1
      obtain ⟨s1, s2, s3, hu7⟩ : ∃ a b c, u7 = .slice a b c := by
        rcases T1.2 with ⟨hh, _⟩ | ⟨_, _, _, hh, _⟩ <;> exact ⟨_, _, _, hh⟩
      obtain ⟨t1, t2, t3, hu8⟩ : ∃ a b c, u8 = .slice a b c := by
        rcases T2.2 with ⟨hh, _⟩ | ⟨_, _, _, hh, _⟩ <;> exact ⟨_, _, _, hh⟩
      have q2 : wr.cell? ⟨b, 2, none⟩ = some g.vv := h1.st.cell 2
      have q3 : wr.cell? ⟨b, 3, none⟩ = some g.ov := h1.st.cell 3
      have q4 : wr.cell? ⟨b, 4, none⟩ = some (.int .i64 m.cx) := h1.st.cell 4
      have q5 : wr.cell? ⟨b, 5, none⟩ = some (.int .i64 m.cy) := h1.st.cell 5
      have z2 := h1.st.frozen 2
      have z3 := h1.st.frozen 3
      have z4 := h1.st.frozen 4
      have z5 := h1.st.frozen 5
      have p0 : wr.cell? ⟨w.heap.size, 0, none⟩ = some (.int .i64 cx) := B.cell 0
      have p1 : wr.cell? ⟨w.heap.size, 1, none⟩ = some (.int .i64 cy) := B.cell 1
      have bne : b ≠ w.heap.size := by have := H.out.st.lt; omega
      have bne2 : w.heap.size ≠ b := fun e => bne e.symm
      rw [hu7, hu8] at DU
      subst hu7
      subst hu8
      have HE0 := hide E0
      clear T1 T2 h1 B he E0 OL
      go_wp2
      go_ret
      exact ⟨ret_int HE0.out.symm, .inr ⟨HE0.out, DU.out⟩⟩
end Go.Proofs.YtjhccghhinlmdaaGreatDoor
/- The document's painter: where the cursor is to be, and whether it is shown. -/
namespace Go.Proofs.YtjhccghhinlmdaaGreatDoor
open Go.RowKit


set_option maxHeartbeats 1000000 in
set_option maxRecDepth 100000 in
theorem place_any (w : World) (b : Nat) (g : DGh) (m : Pt) (h : DPAt w b g m) :
    Calls Tryz.prog 31 #[.pointer (some ⟨b, 0, none⟩)] w fun e w' => e = .returned (.agg #[.int .i64 (if m.on then m.cx else 0), .int .i64 (if m.on then m.cy else 0), .bool m.on]) ∧ Fr [] w w' := by
  have c0 : w.cell? ⟨b, 0, none⟩ = some (.int .i64 m.W) := h.st.cell 0
  have c1 : w.cell? ⟨b, 1, none⟩ = some (.int .i64 m.H) := h.st.cell 1
  have c4 : w.cell? ⟨b, 4, none⟩ = some (.int .i64 m.cx) := h.st.cell 4
  have c5 : w.cell? ⟨b, 5, none⟩ = some (.int .i64 m.cy) := h.st.cell 5
  have bl := h.st.lt
  have ON : Hid (m.on = (decide (0 ≤ m.cx) && decide (m.cx < m.W) && decide (0 ≤ m.cy) && decide (m.cy < m.H))) := rfl
  clear h
  by_cases p1 : m.cx < 0
  · have E : m.on = false := by rw [ON.out]; simp; omega
    rw [E]
    go_enter Tryz.func31, Tryz.ntmps31
    go_wp2
    go_quiet (fail)
    go_wp2
    refine bodyPost_ret (v := .agg #[.int .i64 0, .int .i64 0, .bool false]) (by simp [results, Tryz.results31, go_sem]) rfl ?_
    exact ⟨rfl, ((((((Fr.refl _ _).alloc _).alloc _).drewN _).setCell (.inr (by simp)) _).setCell (.inr (by simp)) _).setCell (.inr (by simp)) _⟩
  have d1 : decide (m.cx < 0) = false := by simpa using p1
  by_cases p2 : m.W ≤ m.cx
  · have E : m.on = false := by rw [ON.out]; simp; omega
    rw [E]
    go_enter Tryz.func31, Tryz.ntmps31
    go_wp2
    go_quiet (fail)
    go_wp2
    refine bodyPost_ret (v := .agg #[.int .i64 0, .int .i64 0, .bool false]) (by simp [results, Tryz.results31, go_sem]) rfl ?_
    exact ⟨rfl, ((((((Fr.refl _ _).alloc _).alloc _).drewN _).setCell (.inr (by simp)) _).setCell (.inr (by simp)) _).setCell (.inr (by simp)) _⟩
  have d2 : decide (m.cx ≥ m.W) = false := by simpa using p2
  by_cases p3 : m.cy < 0
  · have E : m.on = false := by rw [ON.out]; simp; omega
    rw [E]
    go_enter Tryz.func31, Tryz.ntmps31
    go_wp2
    go_quiet (fail)
    go_wp2
    refine bodyPost_ret (v := .agg #[.int .i64 0, .int .i64 0, .bool false]) (by simp [results, Tryz.results31, go_sem]) rfl ?_
    exact ⟨rfl, ((((((Fr.refl _ _).alloc _).alloc _).drewN _).setCell (.inr (by simp)) _).setCell (.inr (by simp)) _).setCell (.inr (by simp)) _⟩
  have d3 : decide (m.cy < 0) = false := by simpa using p3
  by_cases p4 : m.H ≤ m.cy
  · have E : m.on = false := by rw [ON.out]; simp; omega
    rw [E]
    go_enter Tryz.func31, Tryz.ntmps31
    go_wp2
    go_quiet (fail)
    go_wp2
    refine bodyPost_ret (v := .agg #[.int .i64 0, .int .i64 0, .bool false]) (by simp [results, Tryz.results31, go_sem]) rfl ?_
    exact ⟨rfl, ((((((Fr.refl _ _).alloc _).alloc _).drewN _).setCell (.inr (by simp)) _).setCell (.inr (by simp)) _).setCell (.inr (by simp)) _⟩
  have d4 : decide (m.cy ≥ m.H) = false := by simpa using p4
  have E : m.on = true := by rw [ON.out]; simp; omega
  rw [E]
  go_enter Tryz.func31, Tryz.ntmps31
  go_wp2
  go_quiet (fail)
  go_wp2
  refine bodyPost_ret (v := .agg #[.int .i64 m.cx, .int .i64 m.cy, .bool true]) (by simp [results, Tryz.results31, go_sem]) rfl ?_
  exact ⟨rfl, ((((((Fr.refl _ _).alloc _).alloc _).drewN _).setCell (.inr (by simp)) _).setCell (.inr (by simp)) _).setCell (.inr (by simp)) _⟩
end Go.Proofs.YtjhccghhinlmdaaGreatDoor
/- The desk's lists: the windows in a list with spare room. -/
namespace Go.Proofs.YtjhccghhinlmdaaGreatDoor
open Go.RowKit

/-- what stands in the spare room -/
def markW : Win := ⟨77, 1, 1, 2, 2, 9, 9, ⟨#[109, 97, 114, 107]⟩⟩

set_option maxHeartbeats 400000 in
theorem mark_any (w : World) :
    Calls Tryz.prog 71 #[] w fun e w' => e = .returned (.agg #[.int .i64 77, .int .i64 1, .int .i64 1, .int .i64 2, .int .i64 2, .int .i64 9, .int .i64 9, .string ⟨#[109, 97, 114, 107]⟩]) ∧ w' = w.alloc (.cells #[.int .i64 77, .int .i64 1, .int .i64 1, .int .i64 2, .int .i64 2, .int .i64 9, .int .i64 9, .string ⟨#[109, 97, 114, 107]⟩] 104) := by
  go_enter Tryz.func71, Tryz.ntmps71
  go_wp2
  exact bodyPost_ret (v := .agg #[.int .i64 77, .int .i64 1, .int .i64 1, .int .i64 2, .int .i64 2, .int .i64 9, .int .i64 9, .string ⟨#[109, 97, 114, 107]⟩]) (by simp [results, Tryz.results71, go_sem]) rfl ⟨rfl, rfl⟩

/-- the windows, and two marks behind them -/
def GivenPost (w : World) (ws : List Win) (e : Ending) (w' : World) : Prop :=
  ∃ g cap, e = .returned (.slice (some ⟨g, 0, none⟩) (ws.length + 2) cap) ∧ w'.ownsRow w.heap.size 104 8 (.slice (some ⟨g, 0, none⟩) (ws.length + 2) cap) (ws.length + 2) (flatW (ws ++ [markW, markW])) ∧ Fr [] w w'

set_option maxHeartbeats 2000000 in
set_option maxRecDepth 100000 in
theorem given_any (wa : Option Addr) (ws : List Win) (n wcap : Nat) (w : World) (hw : WinsAt w wa ws) (hn : ws.length = n) (hl : n ≤ 1048576) :
    Calls Tryz.prog 48 #[.slice wa n wcap] w (GivenPost w ws) := by
  subst hn
  have HW := hide hw
  obtain ⟨i0, hi, hz0, hz1, hz2⟩ := info_parts info_win
  clear hw
  go_enter Tryz.func48, Tryz.ntmps48
  go_wp2
  go_loopw [3, 4] (fun u i wr => ∃ k : Nat, i = .int .i64 k ∧ k ≤ ws.length ∧ Fr [] w wr ∧ wr.ownsRow w.heap.size 104 8 u k (flatW (ws.take k))) (fun _ i _ => (3000000 - intOf i).toNat)
  case atStart => exact ⟨0, rfl, by omega, Fr.refl _ _, World.ownsRow_nil _ _ _ _⟩
  case round =>
    obtain ⟨k, rfl, hk, f, hown⟩ := hrel
    have hsz := f.size
    by_cases hend : k < ws.length
    · obtain ⟨q, hq⟩ : ∃ q, ws[k]? = some q := ⟨_, List.getElem?_eq_getElem hend⟩
      obtain ⟨vb, voff, rfl, C⟩ := HW.out.fr f (by simp) k q hq
      obtain ⟨d0, d1, d2, d3, d4, d5, d6, d7⟩ := C
      have b1 : (k : Int) < ws.length := by omega
      have HO := hide hown
      have ST : Hid (flatW (ws.take k) ++ q.vals = flatW (ws.take (k + 1))) := by
        show _ = _
        rw [flatW_snoc, List.take_add_one, hq]; rfl
      clear hown hq
      go_wp2_with (at_builtin; refine wpList_append_lies _ rfl (.tmp 12) (.tmp 17) 30 rfl w.heap.size 104 i0 (.agg #[.int .i64 0, .int .i64 0, .int .i64 0, .int .i64 0, .int .i64 0, .int .i64 0, .int .i64 0, .string ⟨#[]⟩]) 8 72 Tryz.underlying30 hi hz0 hz1 hz2 rfl (by decide) u3 k (flatW (ws.take k)) rfl (own_fr0 HO.out ((Fr.refl _ _).alloc _)) ⟨wr.heap.size, 0, none⟩ 1 1 [.int .i64 q.key, .int .i64 q.x, .int .i64 q.y, .int .i64 q.w, .int .i64 q.h, .int .i64 q.layer, .int .i64 q.style, .string q.text] rfl rfl (World.news_of_block (cs := #[.int .i64 q.key, .int .i64 q.x, .int .i64 q.y, .int .i64 q.w, .int .i64 q.h, .int .i64 q.layer, .int .i64 q.style, .string q.text]) (t := 104) (fr := (0, 0)) (new_blk _ _ _ (by simp))) (eight_one _ _ _ _ _ _ _ _) (by omega) (by unfold maxLen; omega) (by omega) (by simp; omega) (wr.heap.size + 1) (by simp) ?_; intro g1 cap1 w4 hown1 hgrow hat hlt1; have F4 : Hid (Fr [] w w4) := (Fr.grown (f.alloc _) hgrow (fun j hj => .inr (HO.out.lt j hj).1)); have HO1 : Hid (w4.ownsRow w.heap.size 104 8 (.slice (some ⟨g1, 0, none⟩) (k + 1) cap1) (k + 1) (flatW (ws.take (k + 1)))) := (by rw [← ST.out]; exact hown1); clear hown1 hgrow hat)
      go_roundw
      case rel => exact ⟨k + 1, by go_num, by omega, F4.out, HO1.out⟩
      case measure => simp [intOf]; omega
    · have hk' : k = ws.length := by omega
      subst hk'
      rw [List.take_of_length_le (Nat.le_refl _)] at hown
      have HO := hide hown
      have S1 : Hid (flatW ws ++ markW.vals = flatW (ws ++ [markW])) := flatW_snoc ws markW
      have S2 : Hid (flatW (ws ++ [markW]) ++ markW.vals = flatW (ws ++ [markW, markW])) := by show _ = _; rw [flatW_snoc]; simp
      clear hown
      go_wp2_with (first | (go_at_call 71; refine (mark_any _).mono ?_; rintro e w' ⟨rfl, rfl⟩) | (at_builtin; refine wpList_append_lies _ rfl (.tmp 20) (.tmp 22) 30 rfl w.heap.size 104 i0 (.agg #[.int .i64 0, .int .i64 0, .int .i64 0, .int .i64 0, .int .i64 0, .int .i64 0, .int .i64 0, .string ⟨#[]⟩]) 8 72 Tryz.underlying30 hi hz0 hz1 hz2 rfl (by decide) u3 ws.length (flatW ws) rfl (own_fr0 HO.out ((((Fr.refl _ _).alloc _).alloc _).alloc _)) ⟨wr.heap.size + 2, 0, none⟩ 1 1 [.int .i64 77, .int .i64 1, .int .i64 1, .int .i64 2, .int .i64 2, .int .i64 9, .int .i64 9, .string ⟨#[109, 97, 114, 107]⟩] rfl rfl (World.news_of_block (cs := #[.int .i64 77, .int .i64 1, .int .i64 1, .int .i64 2, .int .i64 2, .int .i64 9, .int .i64 9, .string ⟨#[109, 97, 114, 107]⟩]) (t := 104) (fr := (0, 0)) (new_blk _ _ _ (by simp))) (eight_one _ _ _ _ _ _ _ _) (by omega) (by unfold maxLen; omega) (by omega) (by simp; omega) (wr.heap.size + 2 + 1) (by simp) ?_; intro g1 cap1 w4 hown1 hgrow hat hlt1; have F4 : Hid (Fr [] w w4) := (Fr.grown (((f.alloc _).alloc _).alloc _) hgrow (fun j hj => .inr (HO.out.lt j hj).1)); have HO1 : Hid (w4.ownsRow w.heap.size 104 8 (.slice (some ⟨g1, 0, none⟩) (ws.length + 1) cap1) (ws.length + 1) (flatW (ws ++ [markW]))) := (by rw [← S1.out]; exact hown1); have hs4 := F4.out.size; have BM : Blk w4 (wr.heap.size + 1) markW.vals 104 := (by have q := ((Blk.new (wr.alloc (.cells #[.int .i64 77, .int .i64 1, .int .i64 1, .int .i64 2, .int .i64 2, .int .i64 9, .int .i64 9, .string ⟨#[109, 97, 114, 107]⟩] 104)) markW.vals 104).alloc (.cells #[.int .i64 77, .int .i64 1, .int .i64 1, .int .i64 2, .int .i64 2, .int .i64 9, .int .i64 9, .string ⟨#[109, 97, 114, 107]⟩] 104)); rw [World.size_alloc] at q; refine q.grown hgrow ?_; intro hx; have := (HO.out.lt _ hx.symm).2; omega); have m0 : w4.cell? ⟨wr.heap.size + 1, 0, none⟩ = some (.int .i64 77) := BM.cell 0; have m1 : w4.cell? ⟨wr.heap.size + 1, 1, none⟩ = some (.int .i64 1) := BM.cell 1; have m2 : w4.cell? ⟨wr.heap.size + 1, 2, none⟩ = some (.int .i64 1) := BM.cell 2; have m3 : w4.cell? ⟨wr.heap.size + 1, 3, none⟩ = some (.int .i64 2) := BM.cell 3; have m4 : w4.cell? ⟨wr.heap.size + 1, 4, none⟩ = some (.int .i64 2) := BM.cell 4; have m5 : w4.cell? ⟨wr.heap.size + 1, 5, none⟩ = some (.int .i64 9) := BM.cell 5; have m6 : w4.cell? ⟨wr.heap.size + 1, 6, none⟩ = some (.int .i64 9) := BM.cell 6; have m7 : w4.cell? ⟨wr.heap.size + 1, 7, none⟩ = some (.string ⟨#[109, 97, 114, 107]⟩) := BM.cell 7; clear hown1 hgrow hat BM) | (at_builtin; refine wpList_append_lies _ rfl (.tmp 24) (.tmp 26) 30 rfl w.heap.size 104 i0 (.agg #[.int .i64 0, .int .i64 0, .int .i64 0, .int .i64 0, .int .i64 0, .int .i64 0, .int .i64 0, .string ⟨#[]⟩]) 8 72 Tryz.underlying30 hi hz0 hz1 hz2 rfl (by decide) (.slice (some ⟨g1, 0, none⟩) (ws.length + 1) cap1) (ws.length + 1) (flatW (ws ++ [markW])) rfl (own_fr0 HO1.out ((Fr.refl _ _).alloc _)) ⟨w4.heap.size, 0, none⟩ 1 1 [.int .i64 77, .int .i64 1, .int .i64 1, .int .i64 2, .int .i64 2, .int .i64 9, .int .i64 9, .string ⟨#[109, 97, 114, 107]⟩] rfl rfl (World.news_of_block (cs := #[.int .i64 77, .int .i64 1, .int .i64 1, .int .i64 2, .int .i64 2, .int .i64 9, .int .i64 9, .string ⟨#[109, 97, 114, 107]⟩]) (t := 104) (fr := (0, 0)) (new_blk _ _ _ (by simp))) (eight_one _ _ _ _ _ _ _ _) (by omega) (by unfold maxLen; omega) (by omega) (by simp; omega) (w4.heap.size + 1) (by simp) ?_; intro g2 cap2 w5 hown2 hgrow2 hat2 hlt2; have F5 : Hid (Fr [] w w5) := (Fr.grown (F4.out.alloc _) hgrow2 (fun j hj => .inr (HO1.out.lt j hj).1)); have HO2 : Hid (w5.ownsRow w.heap.size 104 8 (.slice (some ⟨g2, 0, none⟩) (ws.length + 2) cap2) (ws.length + 2) (flatW (ws ++ [markW, markW]))) := (by rw [← S2.out]; exact hown2); clear hown2 hgrow2 hat2))
      go_ret
      exact ⟨g2, cap2, rfl, HO2.out, F5.out⟩
end Go.Proofs.YtjhccghhinlmdaaGreatDoor
