/- The statements' room: a view is shown, and the terminal gets the bytes. -/
import Derived.Test.YtajhbbgehfamoaaKeepRoom
import Derived.Test.YtajhbbgehfamoaaCutPure
namespace Go.Proofs.Ytajhbbgehfamoaa
open Go.RowKit

set_option maxHeartbeats 1000000 in
theorem kfeeds_any (b : Nat) (W H : Int) (s : ByteArray) (w : World) (bt : Nat) (gt : Gh) (t : T) (h : TermAt w bt gt t) (hs : s.size ≤ 9223372036854775807) :
    Calls Try.prog 41 #[.agg #[.pointer (some ⟨b, 0, none⟩), .pointer (some ⟨bt, 0, none⟩), .int .i64 W, .int .i64 H], .string s] w fun e w' => e = .returned (.bool true) ∧ Upd bt gt (t.feed (nums s)) (w.alloc (.cells #[.pointer (some ⟨b, 0, none⟩), .pointer (some ⟨bt, 0, none⟩), .int .i64 W, .int .i64 H] 44)) w' := by
  have FD := hide (feed_any s (w.alloc (.cells #[.pointer (some ⟨b, 0, none⟩), .pointer (some ⟨bt, 0, none⟩), .int .i64 W, .int .i64 H] 44)) bt gt t (h.fr0 ((Fr.refl _ _).alloc _)) hs)
  clear h
  go_enter Try.func41, Try.ntmps41
  go_wp2_with fail
  refine FD.out.mono ?_
  rintro e w1 ⟨rfl, u⟩
  go_wp2
  go_ret
  exact ⟨rfl, u⟩

/-- a view has been shown, and the terminal got the bytes -/
def ShowsPost (b : Nat) (g : PGh) (bt : Nat) (gt : Gh) (m' : Pt) (w : World) (e : Ending) (w' : World) : Prop :=
  e = .returned (.bool true) ∧ ∃ g', PntAt w' b g' m' ∧ Fr (pfoot b g ++ foot bt gt) w w' ∧ ∀ x ∈ pfoot b g', x ∈ pfoot b g ∨ w.heap.size ≤ x

set_option maxHeartbeats 1000000 in
set_option maxRecDepth 100000 in
theorem shows_yes (w : World) (b : Nat) (g : PGh) (m : Pt) (h : PntAt w b g m) (bt : Nat) (gt : Gh) (t : T) (ht : TermAt w bt gt t) (hd : ∀ x ∈ pfoot b g, x ∉ foot bt gt) (W H : Int) (wa : Option Addr) (ws : List Win) (n wcap : Nat) (hw : WinsAt w wa ws) (hn : ws.length = n) (hcap : n ≤ wcap) (hsz : ∀ o ∈ ws, o.text.size ≤ 9223372036854775807) (he : errV ws = 0) :
    Calls Try.prog 24 #[.agg #[.pointer (some ⟨b, 0, none⟩), .pointer (some ⟨bt, 0, none⟩), .int .i64 W, .int .i64 H], .slice wa n wcap] w (ShowsPost b g bt gt { m with v := m.v.next ws, cx := 0, cy := 0 } w) := by
  have FA : Hid (Fr [] w (w.alloc (.cells #[.pointer (some ⟨b, 0, none⟩), .pointer (some ⟨bt, 0, none⟩), .int .i64 W, .int .i64 H] 44))) := (Fr.refl _ _).alloc _
  have SH := hide (show_yes _ b g m (h.fr0 FA.out) wa ws n wcap 0 0 (hw.fr FA.out (by simp)) hn hcap hsz he)
  have HT := hide (ht.fr0 FA.out)
  have TL := hide ht.lt
  have HD := hide hd
  have PL := hide h.lt
  clear h ht hw hsz he hd
  go_enter Try.func24, Try.ntmps24
  go_wp2_with fail
  refine SH.out.mono ?_
  rintro e w1 ⟨rfl, g1, p1, f1, s1⟩
  have NR : w.heap.size ∉ pfoot b g := fun hm => by have := PL.out _ hm; omega
  have B := (Blk.new w [.pointer (some ⟨b, 0, none⟩), .pointer (some ⟨bt, 0, none⟩), .int .i64 W, .int .i64 H] 44).fr f1 NR
  have r0 : w1.cell? ⟨w.heap.size, 0, none⟩ = some (.pointer (some ⟨b, 0, none⟩)) := B.cell 0
  have r1 : w1.cell? ⟨w.heap.size, 1, none⟩ = some (.pointer (some ⟨bt, 0, none⟩)) := B.cell 1
  have r2 : w1.cell? ⟨w.heap.size, 2, none⟩ = some (.int .i64 W) := B.cell 2
  have r3 : w1.cell? ⟨w.heap.size, 3, none⟩ = some (.int .i64 H) := B.cell 3
  have T1 := hide (HT.out.fr f1 (fun x hx hm => HD.out x hm hx))
  have F1 : Hid (Fr (pfoot b g ++ foot bt gt) w w1) := (FA.out.of_nil).then (f1.mono (fun i hi => List.mem_append.2 (.inl hi)))
  have P1 := hide p1
  have S1 := hide s1
  clear p1 f1 s1 SH HT B NR
  go_wp2_with fail
  refine (kfeeds_any b W H _ _ bt gt t T1.out (by decide)).mono ?_
  rintro e w2 ⟨rfl, gt2, t2, f2, s2⟩
  have F2 : Hid (Fr (pfoot b g ++ foot bt gt) w w2) := (F1.out.alloc _).then (f2.mono (fun i hi => List.mem_append.2 (.inr hi)))
  have P2 : Hid (PntAt w2 b g1 { m with v := m.v.next ws, cx := 0, cy := 0 }) := by
    refine (P1.out.fr0 ((Fr.refl _ _).alloc _)).fr f2 ?_
    intro x hx hm
    rcases S1.out x hx with h1 | h1
    · exact HD.out x h1 hm
    · have := TL.out x hm; simp at h1; omega
  clear f2 t2 s2
  go_wp2
  go_ret
  refine ⟨rfl, g1, P2.out, F2.out, ?_⟩
  intro x hx
  rcases S1.out x hx with h1 | h1
  · exact .inl h1
  · exact .inr (by simp at h1; omega)
end Go.Proofs.Ytajhbbgehfamoaa
