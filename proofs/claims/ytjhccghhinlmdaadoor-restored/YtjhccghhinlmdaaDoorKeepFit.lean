/- A window with numbers that may be. -/
import Derived.Test.YtjhccghhinlmdaaDoorKeepPaint
namespace Go.Proofs.YtjhccghhinlmdaaDoor
open Go.RowKit

/-- of a text's bytes: the first k without ends of lines -/
def fitK (L : List Int) (k : Nat) : List Int := L.mapIdx fun i c => if i < k ∧ c = 10 then 11 else c
theorem fitK_zero (L : List Int) : fitK L 0 = L := by
  apply List.ext_getElem (by simp [fitK])
  intro i h1 h2; simp [fitK]
theorem fitK_length (L : List Int) (k : Nat) : (fitK L k).length = L.length := by simp [fitK]
theorem fitK_get (L : List Int) (k i : Nat) (h : i < L.length) : (fitK L k)[i]? = some (if i < k ∧ L.getD i 0 = 10 then 11 else L.getD i 0) := by
  simp [fitK, List.getD_eq_getElem?_getD, h]
theorem fitK_put (L : List Int) (k : Nat) (h : k < L.length) (hc : L.getD k 0 = 10) : (fitK L k).set k 11 = fitK L (k + 1) := by
  apply List.ext_getElem?
  intro i
  by_cases hi : i < L.length
  · rw [fitK_get L (k + 1) i hi]
    by_cases e : i = k
    · subst e; rw [List.getElem?_set_self (by rw [fitK_length]; exact h), if_pos ⟨by omega, hc⟩]
    · rw [List.getElem?_set_ne (fun q => e q.symm), fitK_get L k i hi]
      have : (i < k) ↔ (i < k + 1) := by omega
      simp only [this]
  · rw [List.getElem?_eq_none (by rw [List.length_set, fitK_length]; omega), List.getElem?_eq_none (by rw [fitK_length]; omega)]
theorem fitK_skip (L : List Int) (k : Nat) (hc : L.getD k 0 ≠ 10) : fitK L k = fitK L (k + 1) := by
  apply List.ext_getElem?
  intro i
  by_cases hi : i < L.length
  · rw [fitK_get L (k + 1) i hi, fitK_get L k i hi]
    by_cases e : i = k
    · subst e; rw [if_neg (fun q => hc q.2), if_neg (fun q => hc q.2)]
    · have : (i < k) ↔ (i < k + 1) := by omega
      simp only [this]
  · rw [List.getElem?_eq_none (by rw [fitK_length]; omega), List.getElem?_eq_none (by rw [fitK_length]; omega)]
theorem fitK_take (L : List Int) (k i : Nat) (hi : i < k) (h : i < L.length) : (fitK L k)[i]? = some (((fitK L k).take k).getD i 0) := by
  have e : ((fitK L k).take k).getD i 0 = (fitK L k)[i]?.getD 0 := by
    refine (List.getD_eq_getElem?_getD).trans ?_
    rw [List.getElem?_take_of_lt hi]
  rw [e, fitK_get L k i h]; rfl
/-- a text without ends of lines, of at most 300 bytes -/
def fitT (s : ByteArray) : ByteArray := strOfNums ((fitK (nums s) (min s.size 300)).take (min s.size 300))
/-- the window with numbers that may be -/
def fitW (o : Win) (k : Int) : Win := ⟨k, -20 + pickI o.x 71, -20 + pickI o.y 51, 1 + pickI o.w 60, 1 + pickI o.h 40, -9 + pickI o.layer 19, 0 + pickI o.style 16, fitT o.text⟩
theorem fitT_size (s : ByteArray) : (fitT s).size = min s.size 300 := by
  unfold fitT; rw [strOfNums_size, List.length_take, fitK_length, nums_length]; omega
theorem fitW_ok (o : Win) (k : Int) (k1 : 1 ≤ k) (k2 : k ≤ 999) : (fitW o k).Ok := by
  have a := pickI_bd o.x 71 (by decide)
  have b := pickI_bd o.y 51 (by decide)
  have c := pickI_bd o.w 60 (by decide)
  have d := pickI_bd o.h 40 (by decide)
  have e := pickI_bd o.layer 19 (by decide)
  have f := pickI_bd o.style 16 (by decide)
  have t : (fitW o k).text.size = min o.text.size 300 := fitT_size _
  constructor <;> simp only [fitW] at * <;> omega
theorem nums_bd (s : ByteArray) : ∀ c ∈ nums s, 0 ≤ c ∧ c ≤ 255 := by
  intro c hc
  obtain ⟨b, _, rfl⟩ := List.mem_map.1 hc
  have := b.toNat_lt
  omega
theorem fitT_plain (s : ByteArray) (k : Nat) (h : k < (fitT s).size) : byteAt (fitT s) k ≠ 10 := by
  have hsz := fitT_size s
  have hl := nums_length s
  have hb : ∀ c ∈ (fitK (nums s) (min s.size 300)).take (min s.size 300), 0 ≤ c ∧ c ≤ 255 := by
    intro c hc
    obtain ⟨i, hi⟩ := List.getElem?_of_mem (List.mem_of_mem_take hc)
    have hlt : i < (nums s).length := by
      have := (List.getElem?_eq_some_iff.1 hi).1; rw [fitK_length] at this; exact this
    rw [fitK_get _ _ i hlt] at hi
    have := nums_bd s ((nums s).getD i 0) (by rw [List.getD_eq_getElem?_getD, List.getElem?_eq_getElem hlt]; exact List.getElem_mem hlt)
    simp only [Option.some.injEq] at hi
    subst hi
    split <;> omega
  unfold byteAt fitT
  rw [nums_str _ hb, List.getD_eq_getElem?_getD, List.getElem?_take_of_lt (by omega), fitK_get _ _ k (by omega)]
  simp only [Option.getD_some]
  split
  · decide
  · rename_i hn; exact fun e => hn ⟨by omega, e⟩

/-- a block whose place behind its last cell is marked -/
def BlkM (w : World) (b : Nat) (vs : List Value) (ty : TypeId) : Prop := w.heap[b]? = some (.cells vs.toArray ty (vs.length, vs.length + 1))
theorem BlkM.cell {w : World} {b : Nat} {vs : List Value} {ty : TypeId} (h : BlkM w b vs ty) (o : Nat) : w.cell? ⟨b, o, none⟩ = vs[o]? := by
  unfold BlkM at h; simp [World.cell?, h]
theorem BlkM.frozen {w : World} {b : Nat} {vs : List Value} {ty : TypeId} (h : BlkM w b vs ty) (o : Nat) (ho : o < vs.length) : w.frozen? ⟨b, o, none⟩ = false := by
  unfold BlkM at h; simp [World.frozen?, h]; omega
theorem BlkM.set {w : World} {b : Nat} {vs : List Value} {ty : TypeId} (h : BlkM w b vs ty) (o : Nat) (v : Value) : BlkM (w.setCell ⟨b, o, none⟩ v) b (vs.set o v) ty := by
  unfold BlkM at h ⊢
  simp [World.setCell, Array.getElem?_modify, h]
theorem BlkM.lt {w : World} {b : Nat} {vs : List Value} {ty : TypeId} (h : BlkM w b vs ty) : b < w.heap.size := (Array.getElem?_eq_some_iff.1 h).1

theorem conv_bytes (w : World) (s : ByteArray) : ∃ cap w', (convert 9 66 (.string s)).run Tryd.prog w = .ok (.slice (some ⟨w.heap.size, 0, none⟩) s.size cap) w' ∧ s.size ≤ cap ∧ Fr [] w w' ∧ ∃ sp, BlkM w' w.heap.size ((nums s).map (Value.int .u8) ++ sp) 5 := by
  refine ⟨_, _, run_bytes_of_string w 9 66 5 s Tryd.underlying9 Tryd.underlying66 Tryd.underlying5, grownCap_ge _ _ _ _, (Fr.refl _ _).drew.alloc _, List.replicate (grownCap w s.size 0 5 - s.size) (Value.int .u8 0), ?_⟩
  have e : bytesRow s (grownCap w s.size 0 5) = ((nums s).map (Value.int .u8) ++ List.replicate (grownCap w s.size 0 5 - s.size) (Value.int .u8 0)).toArray := by
    apply Array.ext'
    simp [bytesRow, nums, Function.comp_def]
  unfold BlkM
  rw [e]
  have := heap_alloc_new w.drew (.cells ((nums s).map (Value.int .u8) ++ List.replicate (grownCap w s.size 0 5 - s.size) (Value.int .u8 0)).toArray 5 (((nums s).map (Value.int .u8) ++ List.replicate (grownCap w s.size 0 5 - s.size) (Value.int .u8 0)).toArray.size, ((nums s).map (Value.int .u8) ++ List.replicate (grownCap w s.size 0 5 - s.size) (Value.int .u8 0)).toArray.size + 1))
  simpa using this

/-- the blocks of fit, with k bytes looked at -/
structure FitAt (w : World) (hs : Nat) (o : Win) (sp : List Value) (k : Nat) : Prop where
  b : Blk w hs o.vals 23
  r : Blk w (hs + 1) [.int .i64 0, .int .i64 0, .int .i64 0, .int .i64 0, .int .i64 0, .int .i64 0, .int .i64 0, .string ⟨#[]⟩] 23
  t : BlkM w (hs + 2) ((fitK (nums o.text) k).map (Value.int .u8) ++ sp) 5
theorem FitAt.put {w : World} {hs : Nat} {o : Win} {sp : List Value} {k : Nat} (h : FitAt w hs o sp k) (hk : k < (nums o.text).length) (hc : (nums o.text).getD k 0 = 10) : FitAt (w.setCell ⟨hs + 2, k, none⟩ (.int .u8 11)) hs o sp (k + 1) := by
  refine ⟨h.b.setOther (by simp) _, h.r.setOther (by simp) _, ?_⟩
  have := h.t.set k (.int .u8 11)
  rw [List.set_append_left _ _ (by rw [List.length_map, fitK_length]; exact hk), ← List.map_set, fitK_put _ k hk hc] at this
  exact this
theorem FitAt.skip {w : World} {hs : Nat} {o : Win} {sp : List Value} {k : Nat} (h : FitAt w hs o sp k) (hc : (nums o.text).getD k 0 ≠ 10) : FitAt w hs o sp (k + 1) := by
  refine ⟨h.b, h.r, ?_⟩
  rw [← fitK_skip _ k hc]; exact h.t

set_option maxHeartbeats 4000000 in
set_option maxRecDepth 100000 in
theorem fit_any (o : Win) (key : Int) (w : World) (ht : o.text.size ≤ 140737488355328) (x1 : -9223372036854775808 ≤ o.x) (x2 : o.x ≤ 9223372036854775807) (y1 : -9223372036854775808 ≤ o.y) (y2 : o.y ≤ 9223372036854775807) (w1 : -9223372036854775808 ≤ o.w) (w2 : o.w ≤ 9223372036854775807) (h1 : -9223372036854775808 ≤ o.h) (h2 : o.h ≤ 9223372036854775807) (l1 : -9223372036854775808 ≤ o.layer) (l2 : o.layer ≤ 9223372036854775807) (s1 : -9223372036854775808 ≤ o.style) (s2 : o.style ≤ 9223372036854775807) :
    Calls Tryd.prog 10 #[.agg #[.int .i64 o.key, .int .i64 o.x, .int .i64 o.y, .int .i64 o.w, .int .i64 o.h, .int .i64 o.layer, .int .i64 o.style, .string o.text], .int .i64 key] w
      fun e w' => e = .returned (.agg #[.int .i64 (fitW o key).key, .int .i64 (fitW o key).x, .int .i64 (fitW o key).y, .int .i64 (fitW o key).w, .int .i64 (fitW o key).h, .int .i64 (fitW o key).layer, .int .i64 (fitW o key).style, .string (fitW o key).text]) ∧ Fr [] w w' := by
  obtain ⟨cap, W3, cv, hcap, f3, sp, b3⟩ := conv_bytes ((w.alloc (.cells #[.int .i64 o.key, .int .i64 o.x, .int .i64 o.y, .int .i64 o.w, .int .i64 o.h, .int .i64 o.layer, .int .i64 o.style, .string o.text] 23)).alloc (.cells #[.int .i64 0, .int .i64 0, .int .i64 0, .int .i64 0, .int .i64 0, .int .i64 0, .int .i64 0, .string ⟨#[]⟩] 23)) o.text
  simp only [World.size_alloc] at cv b3
  have F3 : Hid (Fr [] w W3) := (((Fr.refl _ _).alloc _).alloc _).then f3
  have FA : Hid (FitAt W3 w.heap.size o sp 0) := by
    refine ⟨((Blk.new w o.vals 23).alloc _).fr0 f3, ?_, ?_⟩
    · have := (Blk.new (w.alloc (.cells #[.int .i64 o.key, .int .i64 o.x, .int .i64 o.y, .int .i64 o.w, .int .i64 o.h, .int .i64 o.layer, .int .i64 o.style, .string o.text] 23)) [.int .i64 0, .int .i64 0, .int .i64 0, .int .i64 0, .int .i64 0, .int .i64 0, .int .i64 0, .string ⟨#[]⟩] 23).fr0 f3
      rw [World.size_alloc] at this
      exact this
    · rw [fitK_zero]; exact b3
  have BX := hide (fun w' => bring_any o.x (-20) 50 71 w' (by decide) (by decide) (by decide) (by decide) x1 x2)
  have BY := hide (fun w' => bring_any o.y (-20) 30 51 w' (by decide) (by decide) (by decide) (by decide) y1 y2)
  have BW := hide (fun w' => bring_any o.w 1 60 60 w' (by decide) (by decide) (by decide) (by decide) w1 w2)
  have BH := hide (fun w' => bring_any o.h 1 40 40 w' (by decide) (by decide) (by decide) (by decide) h1 h2)
  have BL := hide (fun w' => bring_any o.layer (-9) 9 19 w' (by decide) (by decide) (by decide) (by decide) l1 l2)
  have BS := hide (fun w' => bring_any o.style 0 15 16 w' (by decide) (by decide) (by decide) (by decide) s1 s2)
  clear f3 b3
  have hcl : (o.text.size : Int) ≤ cap := by omega
  by_cases hlen : 300 < o.text.size
  · have hl3 : (300 : Int) ≤ cap := by omega
    go_enter Tryd.func10, Tryd.ntmps10
    go_wp2
    go_loopw [6] (fun i wr => ∃ k : Nat, i = .int .i64 k ∧ k ≤ 300 ∧ Fr [] w wr ∧ FitAt wr w.heap.size o sp k) (fun i _ => (3000 - intOf i).toNat)
    case atStart => exact ⟨0, rfl, by omega, F3.out, FA.out⟩
    case round =>
      obtain ⟨k, rfl, hk, f, A⟩ := hrel
      have nl := nums_length o.text
      by_cases hend : k < 300
      · have hkk : k < (nums o.text).length := by omega
        have g := nums_get o.text k (by omega)
        have gb := nums_bd o.text ((nums o.text).getD k 0) (by rw [List.getD_eq_getElem?_getD, List.getElem?_eq_getElem hkk]; exact List.getElem_mem hkk)
        have ck : wr.cell? ⟨w.heap.size + 2, k, none⟩ = some (.int .u8 ((nums o.text).getD k 0)) := by
          rw [A.t.cell, List.getElem?_append_left (by rw [List.length_map, fitK_length]; exact hkk), List.getElem?_map, fitK_get _ k k hkk, if_neg (by omega)]; rfl
        have fk := A.t.frozen k (by rw [List.length_append, List.length_map, fitK_length]; omega)
        have HA := hide A
        have b1 : (k : Int) < 300 := by omega
        by_cases hc : (nums o.text).getD k 0 = 10
        · have S := hide (HA.out.put hkk hc)
          have hs := f.size
          rw [hc] at ck
          clear A g gb hc hkk nl
          go_wp2
          go_roundw
          case rel => exact ⟨k + 1, by go_num, by omega, f.setCell (.inr (by simp; omega)) _, S.out⟩
          case measure => simp [intOf]; omega
        · have S := hide (HA.out.skip hc)
          have bc : ((nums o.text).getD k 0 == 10) = false := by simpa using hc
          generalize (nums o.text).getD k 0 = cc at *
          clear A hc hkk nl g
          go_wp2
          go_roundw
          case rel => exact ⟨k + 1, by go_num, by omega, f, S.out⟩
          case measure => simp [intOf]; omega
      · have hk' : k = 300 := by omega
        subst hk'
        have kc : (convert 66 9 (.slice (some ⟨w.heap.size + 2, 0, none⟩) 300 cap)).run Tryd.prog wr = .ok (.string (fitT o.text)) wr := by
          have he : fitT o.text = strOfNums ((fitK (nums o.text) 300).take 300) := by unfold fitT; rw [show min o.text.size 300 = 300 by omega]
          rw [he]
          refine run_convert_bytes_arg wr 66 5 Tryd.underlying66 Tryd.underlying5 (w.heap.size + 2) 0 300 cap _ (by rw [List.length_take, fitK_length]; omega) ?_ 9 Tryd.underlying9
          intro i hi
          rw [A.t.cell, Nat.zero_add, List.getElem?_append_left (by rw [List.length_map, fitK_length]; omega), List.getElem?_map, fitK_take _ _ i hi (by omega)]
          rfl
        have c0 : wr.cell? ⟨w.heap.size, 0, none⟩ = some (.int .i64 o.key) := A.b.cell 0
        have r0 : wr.cell? ⟨w.heap.size + 1, 0, none⟩ = some (.int .i64 0) := A.r.cell 0
        have y0 := A.b.frozen 0
        have z0 := A.r.frozen 0
        have c1 : wr.cell? ⟨w.heap.size, 1, none⟩ = some (.int .i64 o.x) := A.b.cell 1
        have r1 : wr.cell? ⟨w.heap.size + 1, 1, none⟩ = some (.int .i64 0) := A.r.cell 1
        have y1 := A.b.frozen 1
        have z1 := A.r.frozen 1
        have c2 : wr.cell? ⟨w.heap.size, 2, none⟩ = some (.int .i64 o.y) := A.b.cell 2
        have r2 : wr.cell? ⟨w.heap.size + 1, 2, none⟩ = some (.int .i64 0) := A.r.cell 2
        have y2 := A.b.frozen 2
        have z2 := A.r.frozen 2
        have c3 : wr.cell? ⟨w.heap.size, 3, none⟩ = some (.int .i64 o.w) := A.b.cell 3
        have r3 : wr.cell? ⟨w.heap.size + 1, 3, none⟩ = some (.int .i64 0) := A.r.cell 3
        have y3 := A.b.frozen 3
        have z3 := A.r.frozen 3
        have c4 : wr.cell? ⟨w.heap.size, 4, none⟩ = some (.int .i64 o.h) := A.b.cell 4
        have r4 : wr.cell? ⟨w.heap.size + 1, 4, none⟩ = some (.int .i64 0) := A.r.cell 4
        have y4 := A.b.frozen 4
        have z4 := A.r.frozen 4
        have c5 : wr.cell? ⟨w.heap.size, 5, none⟩ = some (.int .i64 o.layer) := A.b.cell 5
        have r5 : wr.cell? ⟨w.heap.size + 1, 5, none⟩ = some (.int .i64 0) := A.r.cell 5
        have y5 := A.b.frozen 5
        have z5 := A.r.frozen 5
        have c6 : wr.cell? ⟨w.heap.size, 6, none⟩ = some (.int .i64 o.style) := A.b.cell 6
        have r6 : wr.cell? ⟨w.heap.size + 1, 6, none⟩ = some (.int .i64 0) := A.r.cell 6
        have y6 := A.b.frozen 6
        have z6 := A.r.frozen 6
        have c7 : wr.cell? ⟨w.heap.size, 7, none⟩ = some (.string o.text) := A.b.cell 7
        have r7 : wr.cell? ⟨w.heap.size + 1, 7, none⟩ = some (.string ⟨#[]⟩) := A.r.cell 7
        have y7 := A.b.frozen 7
        have z7 := A.r.frozen 7
        have E : Hid (fitW o key = ⟨key, -20 + pickI o.x 71, -20 + pickI o.y 51, 1 + pickI o.w 60, 1 + pickI o.h 40, -9 + pickI o.layer 19, 0 + pickI o.style 16, fitT o.text⟩) := rfl
        have blt := A.t.lt
        clear A nl
        have px := pickI_bd o.x 71 (by decide)
        have py := pickI_bd o.y 51 (by decide)
        have pw := pickI_bd o.w 60 (by decide)
        have ph := pickI_bd o.h 40 (by decide)
        have pl := pickI_bd o.layer 19 (by decide)
        have ps := pickI_bd o.style 16 (by decide)
        go_wp2_with fail
        refine (BX.out _).mono ?_
        rintro e w' ⟨rfl, wc⟩
        subst wc
        go_wp2_with fail
        refine (BY.out _).mono ?_
        rintro e w' ⟨rfl, wc⟩
        subst wc
        go_wp2_with fail
        refine (BW.out _).mono ?_
        rintro e w' ⟨rfl, wc⟩
        subst wc
        go_wp2_with fail
        refine (BH.out _).mono ?_
        rintro e w' ⟨rfl, wc⟩
        subst wc
        go_wp2_with fail
        refine (BL.out _).mono ?_
        rintro e w' ⟨rfl, wc⟩
        subst wc
        go_wp2_with fail
        refine (BS.out _).mono ?_
        rintro e w' ⟨rfl, wc⟩
        subst wc
        go_wp2
        rw [E.out]
        refine bodyPost_ret (v := .agg #[.int .i64 key, .int .i64 (-20 + pickI o.x 71), .int .i64 (-20 + pickI o.y 51), .int .i64 (1 + pickI o.w 60), .int .i64 (1 + pickI o.h 40), .int .i64 (-9 + pickI o.layer 19), .int .i64 (0 + pickI o.style 16), .string (fitT o.text)]) (by simp [results, Tryd.results10, go_sem, r0, r1, r2, r3, r4, r5, r6, r7]) rfl ?_
        exact ⟨rfl, ((((((((((((((((f).setCell (.inr (by simp)) _).setCell (.inr (by simp)) _).setCell (.inr (by simp)) _).setCell (.inr (by simp)) _).setCell (.inr (by simp)) _).setCell (.inr (by simp)) _).setCell (.inr (by simp)) _).setCell (.inr (by simp)) _).setCell (.inr (by simp)) _).setCell (.inr (by simp)) _).setCell (.inr (by simp)) _).setCell (.inr (by simp)) _).setCell (.inr (by simp)) _).setCell (.inr (by simp)) _).setCell (.inr (by simp)) _).setCell (.inr (by simp)) _⟩
  · go_enter Tryd.func10, Tryd.ntmps10
    go_wp2
    go_loopw [6] (fun i wr => ∃ k : Nat, i = .int .i64 k ∧ k ≤ o.text.size ∧ Fr [] w wr ∧ FitAt wr w.heap.size o sp k) (fun i _ => (3000 - intOf i).toNat)
    case atStart => exact ⟨0, rfl, by omega, F3.out, FA.out⟩
    case round =>
      obtain ⟨k, rfl, hk, f, A⟩ := hrel
      have nl := nums_length o.text
      by_cases hend : k < o.text.size
      · have hkk : k < (nums o.text).length := by omega
        have g := nums_get o.text k (by omega)
        have gb := nums_bd o.text ((nums o.text).getD k 0) (by rw [List.getD_eq_getElem?_getD, List.getElem?_eq_getElem hkk]; exact List.getElem_mem hkk)
        have ck : wr.cell? ⟨w.heap.size + 2, k, none⟩ = some (.int .u8 ((nums o.text).getD k 0)) := by
          rw [A.t.cell, List.getElem?_append_left (by rw [List.length_map, fitK_length]; exact hkk), List.getElem?_map, fitK_get _ k k hkk, if_neg (by omega)]; rfl
        have fk := A.t.frozen k (by rw [List.length_append, List.length_map, fitK_length]; omega)
        have HA := hide A
        have b1 : (k : Int) < o.text.size := by omega
        by_cases hc : (nums o.text).getD k 0 = 10
        · have S := hide (HA.out.put hkk hc)
          have hs := f.size
          rw [hc] at ck
          clear A g gb hc hkk nl
          go_wp2
          go_roundw
          case rel => exact ⟨k + 1, by go_num, by omega, f.setCell (.inr (by simp; omega)) _, S.out⟩
          case measure => simp [intOf]; omega
        · have S := hide (HA.out.skip hc)
          have bc : ((nums o.text).getD k 0 == 10) = false := by simpa using hc
          generalize (nums o.text).getD k 0 = cc at *
          clear A hc hkk nl g
          go_wp2
          go_roundw
          case rel => exact ⟨k + 1, by go_num, by omega, f, S.out⟩
          case measure => simp [intOf]; omega
      · have hk' : k = o.text.size := by omega
        subst hk'
        have kc : (convert 66 9 (.slice (some ⟨w.heap.size + 2, 0, none⟩) o.text.size cap)).run Tryd.prog wr = .ok (.string (fitT o.text)) wr := by
          have he : fitT o.text = strOfNums ((fitK (nums o.text) o.text.size).take o.text.size) := by unfold fitT; rw [show min o.text.size 300 = o.text.size by omega]
          rw [he]
          refine run_convert_bytes_arg wr 66 5 Tryd.underlying66 Tryd.underlying5 (w.heap.size + 2) 0 o.text.size cap _ (by rw [List.length_take, fitK_length]; omega) ?_ 9 Tryd.underlying9
          intro i hi
          rw [A.t.cell, Nat.zero_add, List.getElem?_append_left (by rw [List.length_map, fitK_length]; omega), List.getElem?_map, fitK_take _ _ i hi (by omega)]
          rfl
        have c0 : wr.cell? ⟨w.heap.size, 0, none⟩ = some (.int .i64 o.key) := A.b.cell 0
        have r0 : wr.cell? ⟨w.heap.size + 1, 0, none⟩ = some (.int .i64 0) := A.r.cell 0
        have y0 := A.b.frozen 0
        have z0 := A.r.frozen 0
        have c1 : wr.cell? ⟨w.heap.size, 1, none⟩ = some (.int .i64 o.x) := A.b.cell 1
        have r1 : wr.cell? ⟨w.heap.size + 1, 1, none⟩ = some (.int .i64 0) := A.r.cell 1
        have y1 := A.b.frozen 1
        have z1 := A.r.frozen 1
        have c2 : wr.cell? ⟨w.heap.size, 2, none⟩ = some (.int .i64 o.y) := A.b.cell 2
        have r2 : wr.cell? ⟨w.heap.size + 1, 2, none⟩ = some (.int .i64 0) := A.r.cell 2
        have y2 := A.b.frozen 2
        have z2 := A.r.frozen 2
        have c3 : wr.cell? ⟨w.heap.size, 3, none⟩ = some (.int .i64 o.w) := A.b.cell 3
        have r3 : wr.cell? ⟨w.heap.size + 1, 3, none⟩ = some (.int .i64 0) := A.r.cell 3
        have y3 := A.b.frozen 3
        have z3 := A.r.frozen 3
        have c4 : wr.cell? ⟨w.heap.size, 4, none⟩ = some (.int .i64 o.h) := A.b.cell 4
        have r4 : wr.cell? ⟨w.heap.size + 1, 4, none⟩ = some (.int .i64 0) := A.r.cell 4
        have y4 := A.b.frozen 4
        have z4 := A.r.frozen 4
        have c5 : wr.cell? ⟨w.heap.size, 5, none⟩ = some (.int .i64 o.layer) := A.b.cell 5
        have r5 : wr.cell? ⟨w.heap.size + 1, 5, none⟩ = some (.int .i64 0) := A.r.cell 5
        have y5 := A.b.frozen 5
        have z5 := A.r.frozen 5
        have c6 : wr.cell? ⟨w.heap.size, 6, none⟩ = some (.int .i64 o.style) := A.b.cell 6
        have r6 : wr.cell? ⟨w.heap.size + 1, 6, none⟩ = some (.int .i64 0) := A.r.cell 6
        have y6 := A.b.frozen 6
        have z6 := A.r.frozen 6
        have c7 : wr.cell? ⟨w.heap.size, 7, none⟩ = some (.string o.text) := A.b.cell 7
        have r7 : wr.cell? ⟨w.heap.size + 1, 7, none⟩ = some (.string ⟨#[]⟩) := A.r.cell 7
        have y7 := A.b.frozen 7
        have z7 := A.r.frozen 7
        have E : Hid (fitW o key = ⟨key, -20 + pickI o.x 71, -20 + pickI o.y 51, 1 + pickI o.w 60, 1 + pickI o.h 40, -9 + pickI o.layer 19, 0 + pickI o.style 16, fitT o.text⟩) := rfl
        have blt := A.t.lt
        clear A nl
        have px := pickI_bd o.x 71 (by decide)
        have py := pickI_bd o.y 51 (by decide)
        have pw := pickI_bd o.w 60 (by decide)
        have ph := pickI_bd o.h 40 (by decide)
        have pl := pickI_bd o.layer 19 (by decide)
        have ps := pickI_bd o.style 16 (by decide)
        go_wp2_with fail
        refine (BX.out _).mono ?_
        rintro e w' ⟨rfl, wc⟩
        subst wc
        go_wp2_with fail
        refine (BY.out _).mono ?_
        rintro e w' ⟨rfl, wc⟩
        subst wc
        go_wp2_with fail
        refine (BW.out _).mono ?_
        rintro e w' ⟨rfl, wc⟩
        subst wc
        go_wp2_with fail
        refine (BH.out _).mono ?_
        rintro e w' ⟨rfl, wc⟩
        subst wc
        go_wp2_with fail
        refine (BL.out _).mono ?_
        rintro e w' ⟨rfl, wc⟩
        subst wc
        go_wp2_with fail
        refine (BS.out _).mono ?_
        rintro e w' ⟨rfl, wc⟩
        subst wc
        go_wp2
        rw [E.out]
        refine bodyPost_ret (v := .agg #[.int .i64 key, .int .i64 (-20 + pickI o.x 71), .int .i64 (-20 + pickI o.y 51), .int .i64 (1 + pickI o.w 60), .int .i64 (1 + pickI o.h 40), .int .i64 (-9 + pickI o.layer 19), .int .i64 (0 + pickI o.style 16), .string (fitT o.text)]) (by simp [results, Tryd.results10, go_sem, r0, r1, r2, r3, r4, r5, r6, r7]) rfl ?_
        exact ⟨rfl, ((((((((((((((((f).setCell (.inr (by simp)) _).setCell (.inr (by simp)) _).setCell (.inr (by simp)) _).setCell (.inr (by simp)) _).setCell (.inr (by simp)) _).setCell (.inr (by simp)) _).setCell (.inr (by simp)) _).setCell (.inr (by simp)) _).setCell (.inr (by simp)) _).setCell (.inr (by simp)) _).setCell (.inr (by simp)) _).setCell (.inr (by simp)) _).setCell (.inr (by simp)) _).setCell (.inr (by simp)) _).setCell (.inr (by simp)) _).setCell (.inr (by simp)) _⟩
end Go.Proofs.YtjhccghhinlmdaaDoor
