/- A step of terminals in a script. -/
import Derived.Test.YtjhccghhinlmdabGreatDoorLawGame
namespace Go.Proofs.YtjhccghhinlmdabGreatDoor
open Go.RowKit

theorem info_both : (Tryz.prog.info? 43).map (fun i => (i.zero, i.size, i.bytes)) = some (some (.agg #[.pointer none, .pointer none]), 2, 16) := by kernel_rfl

/-- a place more -/
theorem GUpd.more {base bG n m : Nat} {w w' : World} {v v' : Value} {ps : List (Option Pr)} {o : Option Pr} {S : List Nat} (h : GameAt base w bG v ps n) (hm : ps.length + 1 ≤ m) (f : Fr S w w') (hS : ∀ x ∈ S, base ≤ x) (hB : base ≤ w.heap.size)
    (hf : ∀ (k : Nat) q, ps[k]? = some q → ∀ x ∈ ofoot q, x ∉ S) (st : Blk w' bG [v', .slice none 0 0] 29) (row : w'.ownsRow base 43 2 v' (ps.length + 1) (flatB (ps ++ [o]))) (ho : OAt w' o) (hn : ∀ x ∈ ofoot o, w.heap.size ≤ x) (hb : beg o = 0) : GUpd base bG m n w w' := by
  have get : ∀ (i : Nat) x, (ps ++ [o])[i]? = some x → (i = ps.length ∧ x = o) ∨ (i < ps.length ∧ ps[i]? = some x) := by
    intro i x hx
    rcases Nat.lt_or_ge i ps.length with e | e
    · rw [List.getElem?_append_left e] at hx; exact .inr ⟨e, hx⟩
    · rw [List.getElem?_append_right e] at hx
      have : i - ps.length = 0 := by
        rcases Nat.eq_zero_or_pos (i - ps.length) with q | q
        · exact q
        · rw [List.getElem?_eq_none (by simp; omega)] at hx; cases hx
      rw [this] at hx; simp at hx
      exact .inl ⟨by omega, hx.symm⟩
  refine ⟨v', ps ++ [o], S, ⟨st, by rw [List.length_append]; exact row, ?_, ?_, ?_, h.bg, ?_⟩, by simpa using hm, f, hS⟩
  · intro k x hx
    rcases get k x hx with ⟨_, rfl⟩ | ⟨_, hx⟩
    · exact ho
    · exact (h.at' k x hx).fr f (hf k x hx)
  · intro i j x y hx hy hij z hz hz2
    rcases get i x hx with ⟨e1, rfl⟩ | ⟨e1, q1⟩
    · rcases get j y hy with ⟨e2, rfl⟩ | ⟨e2, q2⟩
      · omega
      · have := hn z hz; have := (h.at' j y q2).lt z hz2; omega
    · rcases get j y hy with ⟨e2, rfl⟩ | ⟨e2, q2⟩
      · have := hn z hz2; have := (h.at' i x q1).lt z hz; omega
      · exact h.ap i j x y q1 q2 hij z hz hz2
  · intro k x hx z hz
    rcases get k x hx with ⟨_, rfl⟩ | ⟨_, hx⟩
    · have := hn z hz; omega
    · exact h.ge k x hx z hz
  · intro k x hx
    rcases get k x hx with ⟨_, rfl⟩ | ⟨_, hx⟩
    · omega
    · exact h.be k x hx

set_option maxHeartbeats 4000000 in
set_option maxRecDepth 100000 in
theorem term_none (k n a c : Int) (s : ByteArray) (av : Option Addr) (lv cv : Nat) (w : World) (base bG : Nat) (v : Value) (m : Nat) (h : GameAt base w bG v [] m) (hk : k ≠ 1) :
    Calls Tryz.prog 5 #[.pointer (some ⟨bG, 0, none⟩), .agg #[.int .i64 k, .int .i64 n, .int .i64 a, .int .i64 c, .string s, .slice av lv cv]] w
      fun e w' => e = .returned (.bool true) ∧ Fr [] w w' := by
  have b1 : (k == 1) = false := by simpa using hk
  have q0 : w.cell? ⟨bG, 0, none⟩ = some v := h.st.cell 0
  have blt := h.st.lt
  have hv : ∃ av' cv', v = .slice av' 0 cv' := by
    rcases h.row.2 with ⟨rfl, _⟩ | ⟨g, cap, cur, rfl, _⟩
    · exact ⟨_, _, rfl⟩
    · exact ⟨_, _, rfl⟩
  obtain ⟨av', cv', rfl⟩ := hv
  clear h hk
  go_enter Tryz.func5, Tryz.ntmps5
  go_wp2
  go_ret
  exact ⟨rfl, (Fr.refl _ _).alloc _⟩

set_option maxHeartbeats 4000000 in
set_option maxRecDepth 100000 in
theorem term_at (k n a c : Int) (s : ByteArray) (av : Option Addr) (lv cv : Nat) (w : World) (base bG : Nat) (v : Value) (ps : List (Option Pr)) (m : Nat) (h : GameAt base w bG v ps m) (hk : k ≠ 1) (hl : 1 ≤ ps.length) (hl2 : ps.length ≤ 1048576) (hB : base ≤ w.heap.size) (hs : m + s.size ≤ 2305843009213693952) (n1 : -9223372036854775808 ≤ n) (n2 : n ≤ 9223372036854775807) :
    Calls Tryz.prog 5 #[.pointer (some ⟨bG, 0, none⟩), .agg #[.int .i64 k, .int .i64 n, .int .i64 a, .int .i64 c, .string s, .slice av lv cv]] w
      fun e w' => e = .returned (.bool true) ∧ GUpd base bG ps.length (m + s.size) w w' := by
  have b1 : (k == 1) = false := by simpa using hk
  have q0 : w.cell? ⟨bG, 0, none⟩ = some v := h.st.cell 0
  have blt := h.st.lt
  obtain ⟨p0, p1⟩ := pickF_bd n ps.length (by omega)
  have hi : (pickF n ps.length).toNat < ps.length := by omega
  obtain ⟨o, ho⟩ : ∃ o, ps[(pickF n ps.length).toNat]? = some o := ⟨_, List.getElem?_eq_getElem hi⟩
  obtain ⟨z1, z2⟩ := flatB_at ps _ o ho
  have hrow := h.row
  rcases hrow.2 with ⟨_, h0⟩ | ⟨g, cap, cur, rfl, _, hg, _⟩
  · omega
  have y1 := hrow.cells (g := g) rfl _ _ z1
  have y2 := hrow.cells (g := g) rfl _ _ z2
  have hadd : ∀ i, (⟨g, 0, none⟩ : Addr).add i = ⟨g, i, none⟩ := fun i => by unfold Addr.add; split <;> simp_all
  rw [hadd] at y1 y2
  have glt : g < w.heap.size := World.block_lt_of_cell? w _ y1
  obtain ⟨px, hx⟩ : ∃ px, vx o = .pointer px := by cases o <;> exact ⟨_, rfl⟩
  obtain ⟨pt, ht⟩ : ∃ pt, vt o = .pointer pt := by cases o <;> exact ⟨_, rfl⟩
  rw [hx] at y1
  rw [ht] at y2
  have H := hide h
  have HO := hide ho
  have HS : Hid (beg o + s.size ≤ 2305843009213693952) := by show _ ≤ _; have := h.be _ o ho; omega
  have DO : Hid (∀ w', OAt w' o → Calls Tryz.prog 10 #[.agg #[.pointer px, .pointer pt], .agg #[.int .i64 k, .int .i64 n, .int .i64 a, .int .i64 c, .string s, .slice av lv cv]] w' fun e w'' => e = .returned (.bool true) ∧ OUpd o s.size w' w'') := by
    intro w' hw
    have := does_any o k n a c s av lv cv w' hw HS.out
    rw [hx, ht] at this
    exact this
  clear h hk ho z1 z2 hrow hg hadd hx ht
  go_enter Tryz.func5, Tryz.ntmps5
  go_upto_region 8 with (fail)
  go_region_held (fun w' => w'.cell? ⟨bG, 0, none⟩ = some (.slice (some ⟨g, 0, none⟩) ps.length cap) ∧ w'.cell? ⟨w.heap.size, 1, none⟩ = some (.int .i64 n) ∧ w'.cell? ⟨g, (pickF n ps.length).toNat * 2, none⟩ = some (.pointer px) ∧ w'.cell? ⟨g, (pickF n ps.length).toNat * 2 + 1, none⟩ = some (.pointer pt)) (go_keep) ((go_at_call 9; refine (lawPick_any n ps.length _ ?h1 ?h2 n1 n2).mono ?_; (case h1 => omega); (case h2 => omega); rintro e w' ⟨rfl, rfl⟩))
  all_goals go_wp2_with fail
  all_goals
    have FA : Fr [] w ((w.alloc (.cells #[.int .i64 k, .int .i64 n, .int .i64 a, .int .i64 c, .string s, .slice av lv cv] 32)).alloc (.cells #[.pointer px, .pointer pt] 43)).drew := (((Fr.refl _ _).alloc _).alloc _).drew
    refine (DO.out _ ((H.out.at' _ o HO.out).fr FA (by simp))).mono ?_
    rintro e w2 ⟨rfl, u2⟩
    have U2 : Hid (GUpd base bG ps.length (m + s.size) w w2) := GUpd.ahead FA (GUpd.at (H.out.fr0 FA) (Nat.le_refl _) HO.out (Nat.le_trans hB FA.size) u2)
    clear u2 FA
    go_wp2
    go_ret
    exact ⟨rfl, U2.out⟩

/-- what stands once a place has been appended -/
theorem more_done {base bG m : Nat} {w w2 w3 : World} {v v' : Value} {ps : List (Option Pr)} {o : Option Pr} {ob : Obj} (h : GameAt base w bG v ps m) (hB : base ≤ w.heap.size) (F2 : Fr [] w w2) (ho : OAt w2 o) (hn : ∀ x ∈ ofoot o, w.heap.size ≤ x) (hb : beg o = 0)
    (hown : w3.ownsRow base 43 2 v' (ps.length + 1) (flatB ps ++ [vx o, vt o])) (hg : (w2.alloc ob).grownBy w3 v.ownBlock) :
    Blk w3 bG [v, .slice none 0 0] 29 ∧ GUpd base bG (ps.length + 1) m w (w3.setCell ⟨bG, 0, none⟩ v') := by
  have g2 := h.fr0 F2
  have st3 : Blk w3 bG [v, .slice none 0 0] 29 := (g2.st.alloc ob).grown hg (own_ne g2.row g2.st (by decide))
  have f3 : Fr (bG :: v.ownBlock.toList) w2 (w3.setCell ⟨bG, 0, none⟩ v') := (Fr.grown ((Fr.refl _ _).alloc ob) hg (fun k hk => .inl (by simp [hk]))).setCell (by simp) v'
  have offR : ∀ {q : Option Pr}, OAt w2 q → ∀ x ∈ ofoot q, x ∉ bG :: v.ownBlock.toList := by
    intro q hq x hx hm
    simp only [List.mem_cons, Option.mem_toList] at hm
    rcases hm with rfl | hm
    · exact OAt.off g2.st (by decide) hq hx
    · obtain ⟨us, hu⟩ := own_blk g2.row hm
      exact OAt.off hu (by decide) hq hx
  refine ⟨st3, GUpd.more (o := o) h (Nat.le_refl _) ((F2.of_nil).then f3) ?_ hB (fun k q hq => offR (g2.at' k q hq)) (st3.set 0 v') ?_ (ho.fr f3 (offR ho)) hn hb⟩
  · intro x hx
    simp only [List.mem_cons, Option.mem_toList] at hx
    rcases hx with rfl | hx
    · exact h.bg
    · exact (h.row.lt x hx).1
  · rw [← flatB_snoc]
    exact own_fr (S := [bG]) hown ((Fr.refl _ _).setCell (p := ⟨bG, 0, none⟩) (by simp) _) (by intro b hb; simp at hb; subst hb; exact own_ne hown st3 (by decide))

set_option maxHeartbeats 4000000 in
set_option maxRecDepth 100000 in
theorem term_new_no (n a c : Int) (s : ByteArray) (av : Option Addr) (lv cv : Nat) (w : World) (base bG : Nat) (v : Value) (ps : List (Option Pr)) (m : Nat) (h : GameAt base w bG v ps m) (hl2 : ps.length ≤ 1048576) (hB : base ≤ w.heap.size) (hz : sizeB a c = false) :
    Calls Tryz.prog 5 #[.pointer (some ⟨bG, 0, none⟩), .agg #[.int .i64 1, .int .i64 n, .int .i64 a, .int .i64 c, .string s, .slice av lv cv]] w
      fun e w' => e = .returned (.bool true) ∧ GUpd base bG (ps.length + 1) m w w' := by
  obtain ⟨i0, hi, hz0, hz1, hz2⟩ := info_parts info_both
  have H := hide h
  have HZ := hide hz
  clear h hz
  go_enter Tryz.func5, Tryz.ntmps5
  go_upto_region 3 with (go_at_call 7; refine (newTerminal_no _ _ _ HZ.out).mono ?_; rintro e w' ⟨rfl, rfl⟩)
  go_wp2_with fail
  refine (newTerm_no _ _ _ HZ.out).mono ?_
  rintro e w2 ⟨rfl, hw⟩
  have F2 : Hid (Fr [] w w2) := by show Fr [] w w2; rw [← hw]; exact (Fr.refl _ _).alloc _
  have G2 := hide (H.out.fr0 F2.out)
  have q0 : w2.cell? ⟨bG, 0, none⟩ = some v := G2.out.st.cell 0
  have fz := G2.out.st.frozen 0
  have blt := G2.out.st.lt
  have OB : Hid (base ≤ w2.heap.size) := Nat.le_trans hB F2.out.size
  clear hw
  go_wp2_with (at_builtin; refine wpList_append_lies _ rfl (.tmp 33) (.tmp 37) 26 rfl base 43 i0 (.agg #[.pointer none, .pointer none]) 2 16 Tryz.underlying26 hi hz0 hz1 hz2 rfl (by decide) v ps.length (flatB ps) rfl (own_fr0 G2.out.row ((Fr.refl _ _).alloc _)) ⟨w2.heap.size, 0, none⟩ 1 1 [.pointer none, .pointer none] rfl rfl (World.news_of_block (cs := #[.pointer none, .pointer none]) (t := 43) (fr := (0, 0)) (by exact heap_alloc_new w2 _)) (two_one _ _ rfl rfl) (by omega) (by unfold maxLen; omega) (by omega) (by simp; have := OB.out; omega) (w2.heap.size + 1) (by simp) ?_; intro g1 cap1 w3 hown1 hgrow hat hlt1; have D := more_done (o := none) H.out hB F2.out trivial (by simp [ofoot]) rfl hown1 hgrow; have q3 : w3.cell? ⟨bG, 0, none⟩ = some v := D.1.cell 0; have fz3 := D.1.frozen 0; have D2 := hide D.2; clear D hown1 hgrow hat)
  go_ret
  exact ⟨rfl, D2.out⟩

set_option maxHeartbeats 4000000 in
set_option maxRecDepth 100000 in
theorem term_new_yes (n a c : Int) (s : ByteArray) (av : Option Addr) (lv cv : Nat) (w : World) (base bG : Nat) (v : Value) (ps : List (Option Pr)) (m : Nat) (h : GameAt base w bG v ps m) (hl2 : ps.length ≤ 1048576) (hB : base ≤ w.heap.size) (h1 : 1 ≤ a) (h2 : a ≤ 40) (h3 : 1 ≤ c) (h4 : c ≤ 20) :
    Calls Tryz.prog 5 #[.pointer (some ⟨bG, 0, none⟩), .agg #[.int .i64 1, .int .i64 n, .int .i64 a, .int .i64 c, .string s, .slice av lv cv]] w
      fun e w' => e = .returned (.bool true) ∧ GUpd base bG (ps.length + 1) m w w' := by
  obtain ⟨i0, hi, hz0, hz1, hz2⟩ := info_parts info_both
  have H := hide h
  clear h
  go_enter Tryz.func5, Tryz.ntmps5
  go_wp2_with fail
  refine (newTerminal_yes _ _ _ h1 h2 h3 h4).mono ?_
  rintro e w1 ⟨bt, gt, rfl, n1, f1, t1⟩
  have B1 : Blk w1 w.heap.size [.int .i64 1, .int .i64 n, .int .i64 a, .int .i64 c, .string s, .slice av lv cv] 32 := (Blk.new _ _ _).fr0 f1
  have e2 : w1.cell? ⟨w.heap.size, 2, none⟩ = some (.int .i64 a) := B1.cell 2
  have e3 : w1.cell? ⟨w.heap.size, 3, none⟩ = some (.int .i64 c) := B1.cell 3
  have F1 : Hid (Fr [] w w1) := ((Fr.refl _ _).alloc _).then f1
  have T1 := hide t1
  have N1 : Hid (∀ x ∈ foot bt gt, w.heap.size ≤ x) := fun x hx => by have := n1 x hx; simp at this; omega
  clear B1 f1 t1 n1
  go_wp2_with fail
  refine (newTerm_yes _ _ _ h1 h2 h3 h4).mono ?_
  rintro e w2 ⟨b, g, rfl, n2, f2, t2⟩
  have F2 : Hid (Fr [] w w2) := F1.out.then f2
  have P2 : Hid (PairAt w2 ⟨bt, gt, b, g, R.new a c⟩) := ⟨T1.out.fr0 f2, t2, StyL.blank _, fun x hx hr => by have := T1.out.lt x hx; have := n2 x hr; omega⟩
  have N2 : Hid (∀ x ∈ ofoot (some ⟨bt, gt, b, g, R.new a c⟩), w.heap.size ≤ x) := fun x hx => by
    rcases List.mem_append.1 hx with hx | hx
    · exact N1.out x hx
    · have := n2 x hx; have := F1.out.size; omega
  have G2 := hide (H.out.fr0 F2.out)
  have q0 : w2.cell? ⟨bG, 0, none⟩ = some v := G2.out.st.cell 0
  have fz := G2.out.st.frozen 0
  have blt := G2.out.st.lt
  have OB : Hid (base ≤ w2.heap.size) := Nat.le_trans hB F2.out.size
  clear f2 t2 n2
  go_wp2_with (at_builtin; refine wpList_append_lies _ rfl (.tmp 33) (.tmp 37) 26 rfl base 43 i0 (.agg #[.pointer none, .pointer none]) 2 16 Tryz.underlying26 hi hz0 hz1 hz2 rfl (by decide) v ps.length (flatB ps) rfl (own_fr0 G2.out.row ((Fr.refl _ _).alloc _)) ⟨w2.heap.size, 0, none⟩ 1 1 [.pointer (some ⟨bt, 0, none⟩), .pointer (some ⟨b, 0, none⟩)] rfl rfl (World.news_of_block (cs := #[.pointer (some ⟨bt, 0, none⟩), .pointer (some ⟨b, 0, none⟩)]) (t := 43) (fr := (0, 0)) (by exact heap_alloc_new w2 _)) (two_one _ _ rfl rfl) (by omega) (by unfold maxLen; omega) (by omega) (by simp; have := OB.out; omega) (w2.heap.size + 1) (by simp) ?_; intro g1 cap1 w3 hown1 hgrow hat hlt1; have D := more_done (o := some ⟨bt, gt, b, g, R.new a c⟩) H.out hB F2.out P2.out N2.out rfl hown1 hgrow; have q3 : w3.cell? ⟨bG, 0, none⟩ = some v := D.1.cell 0; have fz3 := D.1.frozen 0; have D2 := hide D.2; clear D hown1 hgrow hat)
  go_ret
  exact ⟨rfl, D2.out⟩
end Go.Proofs.YtjhccghhinlmdabGreatDoor
