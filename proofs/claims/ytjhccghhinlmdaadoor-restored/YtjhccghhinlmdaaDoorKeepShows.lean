/- The statements' room: a view is shown, and the terminal gets the bytes. -/
import Derived.Test.YtjhccghhinlmdaaDoorKeepRoom
import Derived.Test.YtjhccghhinlmdaaDoorCutPure
namespace Go.Proofs.YtjhccghhinlmdaaDoor
open Go.RowKit

/-- a painter and a terminal, apart -/
structure RoomAt (w : World) (b : Nat) (g : PGh) (m : Pt) (bt : Nat) (gt : Gh) (t : T) : Prop where
  p : PntAt w b g m
  t : TermAt w bt gt t
  ap : ∀ x ∈ pfoot b g, x ∉ foot bt gt
theorem RoomAt.fr {w w' : World} {S : List Nat} {b : Nat} {g : PGh} {m : Pt} {bt : Nat} {gt : Gh} {t : T} (h : RoomAt w b g m bt gt t) (f : Fr S w w') (hs : ∀ x ∈ pfoot b g ++ foot bt gt, x ∉ S) : RoomAt w' b g m bt gt t :=
  ⟨PntRaw.fr h.p f (fun x hx => hs x (List.mem_append.2 (.inl hx))), h.t.fr f (fun x hx => hs x (List.mem_append.2 (.inr hx))), h.ap⟩
theorem RoomAt.fr0 {w w' : World} {b : Nat} {g : PGh} {m : Pt} {bt : Nat} {gt : Gh} {t : T} (h : RoomAt w b g m bt gt t) (f : Fr [] w w') : RoomAt w' b g m bt gt t := h.fr f (by simp)
theorem RoomAt.lt {w : World} {b : Nat} {g : PGh} {m : Pt} {bt : Nat} {gt : Gh} {t : T} (h : RoomAt w b g m bt gt t) : ∀ x ∈ pfoot b g ++ foot bt gt, x < w.heap.size := by
  intro x hx
  rcases List.mem_append.1 hx with hx | hx
  · exact PntRaw.lt h.p x hx
  · exact h.t.lt x hx
/-- what a call leaves of both -/
def RoomUpd (b : Nat) (g : PGh) (bt : Nat) (gt : Gh) (m' : Pt) (t' : T) (w w' : World) : Prop :=
  ∃ g' gt', RoomAt w' b g' m' bt gt' t' ∧ Fr (pfoot b g ++ foot bt gt) w w' ∧ ∀ x ∈ pfoot b g' ++ foot bt gt', x ∈ pfoot b g ++ foot bt gt ∨ w.heap.size ≤ x
theorem RoomUpd.ahead {b : Nat} {g : PGh} {bt : Nat} {gt : Gh} {m' : Pt} {t' : T} {w w1 w2 : World} (f : Fr [] w w1) (u : RoomUpd b g bt gt m' t' w1 w2) : RoomUpd b g bt gt m' t' w w2 := by
  obtain ⟨g', gt', r, f2, s⟩ := u
  refine ⟨g', gt', r, f.of_nil.then f2, fun x hx => ?_⟩
  rcases s x hx with h | h
  · exact .inl h
  · exact .inr (Nat.le_trans f.size h)
theorem RoomUpd.behind {b : Nat} {g : PGh} {bt : Nat} {gt : Gh} {m' : Pt} {t' : T} {w w1 w2 : World} (u : RoomUpd b g bt gt m' t' w w1) (f : Fr [] w1 w2) : RoomUpd b g bt gt m' t' w w2 := by
  obtain ⟨g', gt', r, f2, s⟩ := u
  exact ⟨g', gt', r.fr0 f, f2.then f.of_nil, s⟩
/-- the painter has turned -/
theorem RoomAt.painter {w w1 : World} {b : Nat} {g : PGh} {m m' : Pt} {bt : Nat} {gt : Gh} {t : T} (h : RoomAt w b g m bt gt t) (u : PUpd b g m' w w1) : RoomUpd b g bt gt m' t w w1 := by
  obtain ⟨g1, p1, f1, s1⟩ := u
  refine ⟨g1, gt, ⟨p1, h.t.fr f1 (fun x hx hm => h.ap x hm hx), ?_⟩, f1.mono (fun i hi => List.mem_append.2 (.inl hi)), ?_⟩
  · intro x hx hm
    rcases s1 x hx with h1 | h1
    · exact h.ap x h1 hm
    · have := h.t.lt x hm; omega
  · intro x hx
    rcases List.mem_append.1 hx with hx | hx
    · rcases s1 x hx with h1 | h1
      · exact .inl (List.mem_append.2 (.inl h1))
      · exact .inr h1
    · exact .inl (List.mem_append.2 (.inr hx))
/-- the terminal has turned -/
theorem RoomAt.term {w w1 : World} {b : Nat} {g : PGh} {m : Pt} {bt : Nat} {gt : Gh} {t t' : T} (h : RoomAt w b g m bt gt t) (u : Upd bt gt t' w w1) : RoomUpd b g bt gt m t' w w1 := by
  obtain ⟨g1, t1, f1, s1⟩ := u
  refine ⟨g, g1, ⟨PntRaw.fr h.p f1 h.ap, t1, ?_⟩, f1.mono (fun i hi => List.mem_append.2 (.inr hi)), ?_⟩
  · intro x hx hm
    rcases s1 x hm with h1 | h1
    · exact h.ap x hx h1
    · have := PntRaw.lt h.p x hx; omega
  · intro x hx
    rcases List.mem_append.1 hx with hx | hx
    · exact .inl (List.mem_append.2 (.inl hx))
    · rcases s1 x hx with h1 | h1
      · exact .inl (List.mem_append.2 (.inr h1))
      · exact .inr h1
/-- one behind the other -/
theorem RoomUpd.trans {b : Nat} {g : PGh} {bt : Nat} {gt : Gh} {m1 m2 : Pt} {t1 t2 : T} {w w1 w2 : World} (u : RoomUpd b g bt gt m1 t1 w w1) (k : ∀ g1 gt1, RoomAt w1 b g1 m1 bt gt1 t1 → RoomUpd b g1 bt gt1 m2 t2 w1 w2) : RoomUpd b g bt gt m2 t2 w w2 := by
  obtain ⟨g1, gt1, r1, f1, s1⟩ := u
  obtain ⟨g2, gt2, r2, f2, s2⟩ := k g1 gt1 r1
  refine ⟨g2, gt2, r2, f1.trans f2 (fun i hi => .inl hi) s1, fun x hx => ?_⟩
  rcases s2 x hx with h | h
  · exact s1 x h
  · exact .inr (Nat.le_trans f1.size h)

/-- the painter's bytes are bytes, and not many -/
theorem Pt.told_ok (m m' : Pt) (h : m'.v.Ok) (w1 : 1 ≤ m'.W) (w2 : m'.W ≤ 40) (h1 : 1 ≤ m'.H) (h2 : m'.H ≤ 20) : AreBytes (m.told m') ∧ (m.told m').length ≤ 20000 := by
  refine ⟨change_bytes w1 w2 h1 h2 _ _ (h.chars _ _) _ _ m'.cur_on, ?_⟩
  have a := change_len m'.W m'.H m.grid m'.grid m.cur m'.cur
  have b := others_le m.grid m'.grid (m'.W * m'.H).toNat
  have c := mul_bd w1 w2 h1 h2
  show (change _ _ _ _ _ _).length ≤ _
  omega
theorem Pt.whole_ok (m : Pt) (h : m.v.Ok) (w1 : 1 ≤ m.W) (w2 : m.W ≤ 40) (h1 : 1 ≤ m.H) (h2 : m.H ≤ 20) : AreBytes m.whole ∧ m.whole.length ≤ 20000 := by
  refine ⟨whole_bytes w1 w2 h1 h2 _ (h.chars _ _) _ m.cur_on, ?_⟩
  have a := whole_len m.W m.H m.grid m.cur
  have c := mul_bd w1 w2 h1 h2
  show (Proofs.YtjhccghhinlmdaaDoor.whole _ _ _ _).length ≤ _
  omega

set_option maxHeartbeats 1000000 in
theorem kfeeds_any (b : Nat) (W H : Int) (s : ByteArray) (w : World) (bt : Nat) (gt : Gh) (t : T) (h : TermAt w bt gt t) (hs : s.size ≤ 9223372036854775807) :
    Calls Tryd.prog 27 #[.agg #[.pointer (some ⟨b, 0, none⟩), .pointer (some ⟨bt, 0, none⟩), .int .i64 W, .int .i64 H], .string s] w fun e w' => e = .returned (.bool true) ∧ Upd bt gt (t.feed (nums s)) (w.alloc (.cells #[.pointer (some ⟨b, 0, none⟩), .pointer (some ⟨bt, 0, none⟩), .int .i64 W, .int .i64 H] 27)) w' := by
  have FD := hide (feed_any s (w.alloc (.cells #[.pointer (some ⟨b, 0, none⟩), .pointer (some ⟨bt, 0, none⟩), .int .i64 W, .int .i64 H] 27)) bt gt t (h.fr0 ((Fr.refl _ _).alloc _)) hs)
  clear h
  go_enter Tryd.func27, Tryd.ntmps27
  go_wp2_with fail
  refine FD.out.mono ?_
  rintro e w1 ⟨rfl, u⟩
  go_wp2
  go_ret
  exact ⟨rfl, u⟩
/-- both, when the terminal has been fed -/
theorem rfeeds_any (W H : Int) (s : ByteArray) (w : World) (b : Nat) (g : PGh) (m : Pt) (bt : Nat) (gt : Gh) (t : T) (h : RoomAt w b g m bt gt t) (hs : s.size ≤ 9223372036854775807) :
    Calls Tryd.prog 27 #[.agg #[.pointer (some ⟨b, 0, none⟩), .pointer (some ⟨bt, 0, none⟩), .int .i64 W, .int .i64 H], .string s] w fun e w' => e = .returned (.bool true) ∧ RoomUpd b g bt gt m (t.feed (nums s)) w w' := by
  refine (kfeeds_any b W H s w bt gt t h.t hs).mono fun e w' ⟨he, u⟩ => ⟨he, ?_⟩
  exact RoomUpd.ahead ((Fr.refl _ _).alloc _) ((h.fr0 ((Fr.refl _ _).alloc _)).term u)

set_option maxHeartbeats 1000000 in
set_option maxRecDepth 100000 in
theorem shows_yes (w : World) (b : Nat) (g : PGh) (m : Pt) (bt : Nat) (gt : Gh) (t : T) (h : RoomAt w b g m bt gt t) (W H : Int) (wa : Option Addr) (ws : List Win) (n wcap : Nat) (hw : WinsAt w wa ws) (hn : ws.length = n) (hcap : n ≤ wcap) (hsz : ∀ o ∈ ws, o.text.size ≤ 9223372036854775807) (he : errV ws = 0) :
    Calls Tryd.prog 16 #[.agg #[.pointer (some ⟨b, 0, none⟩), .pointer (some ⟨bt, 0, none⟩), .int .i64 W, .int .i64 H], .slice wa n wcap] w fun e w' => e = .returned (.bool true) ∧ RoomUpd b g bt gt { m with v := m.v.next ws, cx := 0, cy := 0 } (t.feed (m.told { m with v := m.v.next ws, cx := 0, cy := 0 })) w w' := by
  have FA : Hid (Fr [] w (w.alloc (.cells #[.pointer (some ⟨b, 0, none⟩), .pointer (some ⟨bt, 0, none⟩), .int .i64 W, .int .i64 H] 27))) := (Fr.refl _ _).alloc _
  have SH := hide (show_yes _ b g m (PntRaw.fr0 h.p FA.out) wa ws n wcap 0 0 (hw.fr FA.out (by simp)) hn hcap hsz he)
  have TO := hide (Pt.told_ok m { m with v := m.v.next ws, cx := 0, cy := 0 } (V.ok_next m.v he) h.p.gr.w1 h.p.gr.w2 h.p.gr.h1 h.p.gr.h2)
  have HR := hide (h.fr0 FA.out)
  have PL := hide (PntRaw.lt h.p)
  clear h hw hsz he
  generalize m.told { m with v := m.v.next ws, cx := 0, cy := 0 } = by' at *
  generalize ({ m with v := m.v.next ws, cx := 0, cy := 0 } : Pt) = m' at *
  go_enter Tryd.func16, Tryd.ntmps16
  go_wp2_with fail
  refine SH.out.mono ?_
  rintro e w1 ⟨rfl, u1⟩
  have U1 := hide (HR.out.painter u1)
  obtain ⟨g1, p1, f1, s1⟩ := u1
  have NR : w.heap.size ∉ pfoot b g := fun hm => by have := PL.out _ hm; omega
  have B := (Blk.new w [.pointer (some ⟨b, 0, none⟩), .pointer (some ⟨bt, 0, none⟩), .int .i64 W, .int .i64 H] 27).fr f1 NR
  have r0 : w1.cell? ⟨w.heap.size, 0, none⟩ = some (.pointer (some ⟨b, 0, none⟩)) := B.cell 0
  have r1 : w1.cell? ⟨w.heap.size, 1, none⟩ = some (.pointer (some ⟨bt, 0, none⟩)) := B.cell 1
  have r2 : w1.cell? ⟨w.heap.size, 2, none⟩ = some (.int .i64 W) := B.cell 2
  have r3 : w1.cell? ⟨w.heap.size, 3, none⟩ = some (.int .i64 H) := B.cell 3
  have TT := hide U1.out
  clear p1 f1 s1 SH B NR
  obtain ⟨g2, gt2, R2, F2, S2⟩ := TT.out
  have SZ : Hid ((strOfNums by').size ≤ 9223372036854775807) := by show _ ≤ _; rw [str_size]; have := TO.out.2; omega
  have FD := hide (rfeeds_any W H (strOfNums by') w1 b g2 m' bt gt2 t R2 SZ.out)
  rw [nums_str _ TO.out.1] at FD
  have U2 : Hid (∀ w2, RoomUpd b g2 bt gt2 m' (t.feed by') w1 w2 → RoomUpd b g bt gt m' (t.feed by') w w2) := by
    intro w2 u
    refine RoomUpd.ahead FA.out ?_
    obtain ⟨g3, gt3, r3, f3, s3⟩ := u
    refine ⟨g3, gt3, r3, F2.trans f3 (fun i hi => .inl hi) S2, fun x hx => ?_⟩
    rcases s3 x hx with h | h
    · exact S2 x h
    · exact .inr (Nat.le_trans F2.size h)
  clear R2 F2 S2 TT TO SZ U1 PL HR
  go_wp2_with fail
  refine FD.out.mono ?_
  rintro e w2 ⟨rfl, u2⟩
  have U3 := hide (U2.out w2 u2)
  clear u2
  go_wp2
  go_ret
  exact ⟨rfl, U3.out⟩
end Go.Proofs.YtjhccghhinlmdaaDoor
