/- A step of a script on any desk, where 15 is held. -/
import Derived.Test.YtjhccghhinlmdabGreatDoorPackLaidLaw
import Derived.Test.YtjhccghhinlmdabGreatDoorLawDoes15
namespace Go.Proofs.YtjhccghhinlmdabGreatDoor
open Go.RowKit

theorem step15_nil (k n a c : Int) (s : ByteArray) (av : Option Addr) (ws : List Win) (lv cv : Nat) (w : World) (base bd : Nat) (z : Bool) (h : Blk w bd [.pointer none, .pointer none, .pointer none, .bool z] 76) (hk : 7 ≤ k ∧ k ≤ 13) (ow : OpWins w base av ws lv) (hB : base ≤ w.heap.size) :
    Calls Tryz.prog 12 #[.pointer (some ⟨bd, 0, none⟩), .agg #[.int .i64 k, .int .i64 n, .int .i64 a, .int .i64 c, .string s, .slice av lv cv], .int .i64 15] w fun e w' => e = .returned (.bool true) ∧ Fr [] w w' := by
  have hk' : k = 7 ∨ k = 8 ∨ k = 9 ∨ k = 10 ∨ k = 11 ∨ k = 12 ∨ k = 13 := by omega
  rcases hk' with rfl | rfl | rfl | rfl | rfl | rfl | rfl
  · exact does15_nil 7 n a c s av lv cv w bd z 1 h rfl (fun w1 f => callnil_7 n a c s av lv cv w1 bd z (h.fr0 f) ws (ow.at'.fr f (by simp)) ow.n ow.l (fun hz x hx => by have := ow.lo hz x hx; have := f.size; omega))
  · exact does15_nil 8 n a c s av lv cv w bd z 1 h rfl (fun w1 f => callnil_8 n a c s av lv cv w1 bd z (h.fr0 f))
  · exact does15_nil 9 n a c s av lv cv w bd z 1 h rfl (fun w1 f => callnil_9 n a c s av lv cv w1 bd z (h.fr0 f))
  · exact does15_nil 10 n a c s av lv cv w bd z 1 h rfl (fun w1 f => callnil_10 n a c s av lv cv w1 bd z (h.fr0 f))
  · exact does15_nil 11 n a c s av lv cv w bd z 1 h rfl (fun w1 f => callnil_11 n a c s av lv cv w1 bd z (h.fr0 f))
  · exact noise_nil 15 n a c s av lv cv w bd z h
  · exact does15_nil 13 n a c s av lv cv w bd z 0 h rfl (fun w1 f => callnil_13 n a c s av lv cv w1 bd z (h.fr0 f))

theorem step15_any (q : Ds) (k n a c : Int) (s : ByteArray) (av : Option Addr) (ws : List Win) (lv cv : Nat) (w : World) (base : Nat) (h : q.At w) (hk : 7 ≤ k ∧ k ≤ 13) (ow : OpWins w base av ws lv) (hb : ∀ y ∈ q.foot, base ≤ y) (hB : base ≤ w.heap.size) (hs : q.beg + s.size ≤ 1152921504606846976) :
    Calls Tryz.prog 12 #[.pointer (some ⟨q.bd, 0, none⟩), .agg #[.int .i64 k, .int .i64 n, .int .i64 a, .int .i64 c, .string s, .slice av lv cv], .int .i64 15] w fun e w' => e = .returned (.bool true) ∧ DsUpd q (s.size + 20000) w w' := by
  obtain ⟨bd, o, z⟩ := q
  cases o with
  | none => exact (step15_nil k n a c s av ws lv cv w base bd z h hk ow hB).mono fun e w' ⟨he, f⟩ => ⟨he, DsUpd.same h f⟩
  | some p =>
    obtain ⟨d, m, r⟩ := p
    obtain ⟨hd, h, hi⟩ := h
    have hb' : ∀ y ∈ d.foot, base ≤ y := fun y hy => hb y (by simp [Ds.foot, hy])
    have o : r.Ok := h.t.ok
    have vok : m.v.Ok := h.x.ok
    have hs : r.begun.size + s.size ≤ 1152921504606846976 := hs
    have fin : ∀ {m' : Pt} {r' : R} {bs : List Int} {er : Int} {z' : Bool} {e : Ending} {w' : World}, StepOk k m m' r' bs er z' → r'.begun = r.begun → DoesPost d m' (r'.feed bs) z' bd w e w' → e = .returned (.bool true) ∧ DsUpd ⟨bd, some (d, m, r), z⟩ (s.size + 20000) w w' := by
      intro m' r' bs er z' e w' ok hr ⟨he, gx, gp, gt, t, hd'⟩
      refine ⟨he, DsUpd.of t hd' ok.inv ?_⟩
      have h1 := R.feed_size bs r'
      have h2 := ok.len
      rw [hr] at h1
      omega
    have hk' : k = 7 ∨ k = 8 ∨ k = 9 ∨ k = 10 ∨ k = 11 ∨ k = 12 ∨ k = 13 := by omega
    rcases hk' with rfl | rfl | rfl | rfl | rfl | rfl | rfl
    · by_cases he : errV ws = 0
      · have ok : StepOk 7 m { m with v := m.v.next ws, cx := a, cy := c } r (m.told { m with v := m.v.next ws, cx := a, cy := c }) 0 z := StepOk.told 7 hi o _ rfl rfl (V.ok_next m.v he) (.inl rfl)
        exact (does15_part 7 n a c s av lv cv w bd d m _ r r z _ h hd rfl (.inl rfl) rfl rfl ok (fun w1 f => call_show_yes n a c s av ws lv cv w1 base bd d m r z (h.fr0 f) (hd.fr0 f) (ow.at'.fr f (by simp)) ow.n ow.l ow.sz ow.lo hb' (Nat.le_trans hB f.size) he) (by omega)).mono fun e w' p => fin ok rfl p
      · have ok : StepOk 7 m m r [] (errV ws) z := StepOk.quiet 7 _ hi (fun h0 => absurd h0 he)
        exact (does15_no 7 n a c s av lv cv w bd d m m r r z (errV ws) h hd rfl (by simpa using he) ok (fun w1 f => call_show_no n a c s av ws lv cv w1 base bd d m r z (h.fr0 f) (hd.fr0 f) (ow.at'.fr f (by simp)) ow.n ow.l ow.sz ow.lo hb' (Nat.le_trans hB f.size) he) (by omega)).mono fun e w' p => fin ok rfl p
    · cases hx : m.v.idx a with
      | none =>
        have ok : StepOk 8 m m r [] 4 z := StepOk.quiet 8 _ hi (fun h0 => absurd h0 (by decide))
        exact (does15_no 8 n a c s av lv cv w bd d m m r r z 4 h hd rfl rfl ok (fun w1 f => call_scroll_none n a c s av lv cv w1 bd d m r z (h.fr0 f) (hd.fr0 f) hx) (by omega)).mono fun e w' p => fin ok rfl p
      | some i =>
        by_cases hf : c < -500 ∨ 500 < c
        · have ok : StepOk 8 m m r [] 8 z := StepOk.quiet 8 _ hi (fun h0 => absurd h0 (by decide))
          exact (does15_no 8 n a c s av lv cv w bd d m m r r z 8 h hd rfl rfl ok (fun w1 f => call_scroll_far n a c s av lv cv w1 bd d m r z (h.fr0 f) (hd.fr0 f) i hx hf) (by omega)).mono fun e w' p => fin ok rfl p
        · have ok : StepOk 8 m { m with v := m.v.scroll i c } r (m.told { m with v := m.v.scroll i c }) 0 z := StepOk.told 8 hi o _ rfl rfl (V.ok_scroll vok i (V.idx_lt hx) c) (.inr rfl)
          exact (does15_part 8 n a c s av lv cv w bd d m _ r r z _ h hd rfl (.inr rfl) rfl rfl ok (fun w1 f => call_scroll_yes n a c s av lv cv w1 bd d m r z (h.fr0 f) (hd.fr0 f) i hx (by omega) (by omega)) (by omega)).mono fun e w' p => fin ok rfl p
    · by_cases hz : sizeB a c = true
      · have hz' : 1 ≤ a ∧ a ≤ 40 ∧ 1 ≤ c ∧ c ≤ 20 := by simp [sizeB] at hz; omega
        have ok : StepOk 9 m { m with W := a, H := c } (r.turn a c) (Pt.whole { m with W := a, H := c }) 0 false := StepOk.size a c o vok hz'.1 hz'.2.1 hz'.2.2.1 hz'.2.2.2
        exact (does15_whole 9 n a c s av lv cv w bd d m _ r (r.turn a c) z _ h hd rfl (.inl rfl) rfl rfl ok (fun w1 f => call_size_yes n a c s av lv cv w1 bd d m r z (h.fr0 f) (hd.fr0 f) hz'.1 hz'.2.1 hz'.2.2.1 hz'.2.2.2) (by rw [turn_begun]; omega)).mono fun e w' p => fin ok rfl p
      · have ok : StepOk 9 m m r [] 2 z := StepOk.quiet 9 _ hi (fun h0 => absurd h0 (by decide))
        exact (does15_no 9 n a c s av lv cv w bd d m m r r z 2 h hd rfl rfl ok (fun w1 f => call_size_no n a c s av lv cv w1 bd d m r z (h.fr0 f) (hd.fr0 f) (by simpa using hz)) (by omega)).mono fun e w' p => fin ok rfl p
    · have ok : StepOk 10 m m r m.whole 0 false := StepOk.redraw hi o vok
      exact (does15_whole 10 n a c s av lv cv w bd d m m r r z _ h hd rfl (.inr ⟨rfl, rfl⟩) rfl rfl ok (fun w1 f => call_redraw n a c s av lv cv w1 bd d m r z (h.fr0 f) (hd.fr0 f)) (by omega)).mono fun e w' p => fin ok rfl p
    · by_cases hy : 0 ≤ a ∧ a < m.H
      · have ok : StepOk 11 m m r [] 0 z := StepOk.quiet 11 _ hi (fun _ => ⟨by decide, by decide⟩)
        exact (does15_look 11 n a c s av lv cv w bd d m m r r z h hd rfl rfl rfl rfl rfl ok (fun w1 f => call_look_yes n a c s av lv cv w1 bd d m r z (h.fr0 f) (hd.fr0 f) hy) (by omega)).mono fun e w' p => fin ok rfl p
      · have ok : StepOk 11 m m r [] 8 z := StepOk.quiet 11 _ hi (fun h0 => absurd h0 (by decide))
        exact (does15_no 11 n a c s av lv cv w bd d m m r r z 8 h hd rfl rfl ok (fun w1 f => call_look_no n a c s av lv cv w1 bd d m r z (h.fr0 f) (hd.fr0 f) (by omega)) (by omega)).mono fun e w' p => fin ok rfl p
    · refine (noise_live 15 n a c s av lv cv w bd d m r z h hd (by omega)).mono ?_
      rintro e w' ⟨he, gt, t, hd'⟩
      refine ⟨he, DsUpd.of (gx := d.gx) (gp := d.gp) t hd' (hi.noise o (nums s) (nums_bd s)) ?_⟩
      have := R.feed_size (nums s) r
      rw [nums_length] at this
      omega
    · have ok : StepOk 13 m m r [] 0 z := StepOk.quiet 13 _ hi (fun _ => ⟨by decide, by decide⟩)
      exact (does15_look 13 n a c s av lv cv w bd d m m r r z h hd rfl rfl rfl rfl rfl ok (fun w1 f => call_looks n a c s av lv cv w1 bd d m r z (h.fr0 f) (hd.fr0 f)) (by omega)).mono fun e w' p => fin ok rfl p
end Go.Proofs.YtjhccghhinlmdabGreatDoor
