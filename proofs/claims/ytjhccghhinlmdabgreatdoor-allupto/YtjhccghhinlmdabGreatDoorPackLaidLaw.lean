import Derived.Test.YtjhccghhinlmdabGreatDoorPackLawSize
import Derived.Test.YtjhccghhinlmdabGreatDoorFeedsOpen
import Derived.Test.YtjhccghhinlmdabGreatDoorPackPaintNext2
import Derived.Test.YtjhccghhinlmdabGreatDoorLawTerm2
import Derived.Test.YtjhccghhinlmdabGreatDoorRows
import Derived.ProofKit
import Derived.OpenShut
import Derived.Deep.DeepHandedRow
import Derived.SevenTiedAt
import Derived.LaidMore
/- A step of a script on a painter of the program and on the document's: Show. -/
namespace Go.Proofs.YtjhccghhinlmdabGreatDoor
open Go.RowKit

theorem WinsAt.fr2 {w w' : World} {S : List Nat} {av : Option Addr} {ws : List Win} (h : WinsAt w av ws) (f : Fr S w w') (hn : ws ≠ [] → ∀ a, av = some a → a.block ∉ S) : WinsAt w' av ws := by
  intro i o ho
  obtain ⟨b, off, rfl, c⟩ := h i o ho
  exact ⟨b, off, rfl, c.fr f (hn (by rintro rfl; simp at ho) _ rfl)⟩
theorem own_flat {w : World} {base g n cap : Nat} {e : TypeId} {xs : List Value} {k : Nat} (h : w.ownsRow base e k (.slice (some ⟨g, 0, none⟩) n cap) n xs) : ∃ sp, Blk w g (xs ++ sp) e := by
  rcases h.2 with ⟨hv, _⟩ | ⟨g', cap', cur, hv, hb, hg, hc1, hc2, hc3, hc4⟩
  · simp at hv
  · simp only [Value.slice.injEq, Option.some.injEq, Addr.mk.injEq] at hv
    obtain ⟨⟨rfl, _⟩, _, rfl⟩ := hv
    refine ⟨cur.toList.drop (n * k), ?_⟩
    rw [← hc4, List.take_append_drop]; exact hg

set_option maxHeartbeats 4000000 in
set_option maxRecDepth 100000 in
theorem call_show_yes (n a c : Int) (s : ByteArray) (av : Option Addr) (ws : List Win) (lv cv : Nat) (w : World) (base bd : Nat) (d : Dg) (m : Pt) (r : R) (z : Bool) (h : TriAt w d m m r) (hd : Blk w bd (dkOf d z) 76) (hw : WinsAt w av ws) (hn : ws.length = lv) (hl : lv ≤ 1048576) (hsz : ∀ o ∈ ws, o.text.size ≤ 9223372036854775807) (hav : ws ≠ [] → ∀ x, av = some x → x.block < base) (hb : ∀ y ∈ d.foot, base ≤ y) (hB : base ≤ w.heap.size) (he : errV ws = 0) :
    Calls Tryz.prog 29 #[.pointer (some ⟨bd, 0, none⟩), .agg #[.int .i64 7, .int .i64 n, .int .i64 a, .int .i64 c, .string s, .slice av lv cv]] w (CallPost d { m with v := m.v.next ws, cx := a, cy := c } r (m.told { m with v := m.v.next ws, cx := a, cy := c }) 0 w) := by
  have H0 := hide (Held.box h hd (opOf 7 n a c s (.slice av lv cv)))
  have DL : Hid (∀ y ∈ dfoot d.bp d.gp, y < w.heap.size) := fun y hy => h.lt y (Dg.in_p hy)
  have HN := hide hn
  have HSZ := hide hsz
  have HAV := hide hav
  have HB := hide hb
  have HE := hide he
  have HW := hide hw
  obtain ⟨bs, hbs⟩ : ∃ l : List Int, l = (m.told { m with v := m.v.next ws, cx := a, cy := c }) := ⟨_, rfl⟩
  rw [← hbs]
  have HBS := hide hbs
  clear hbs
  have X1 : Hid (∀ w' g cap sp pb, Held w d.foot w' d m m r bd z w.heap.size (opOf 7 n a c s (.slice av lv cv)) → (WinsAt w' (some ⟨g, 0, none⟩) ws ∧ True) → lv ≤ cap → Blk w' g (flatW (ws ++ [markW, markW]) ++ sp) 104 → Blk w' pb [.int .i64 a, .int .i64 c] 96 → WinsAt w' av ws → Calls Tryz.prog 46 #[.pointer (some ⟨d.bx, 0, none⟩), .slice (some ⟨g, 0, none⟩) lv cap, .agg #[.int .i64 a, .int .i64 c]] w' fun e w'' => e = .returned (.tuple #[.string (strOfNums bs), .int .i64 0]) ∧ (w''.cell? ⟨bd, 0, none⟩ = some (.pointer (some ⟨d.bx, 0, none⟩)) ∧ w''.cell? ⟨w.heap.size, 5, none⟩ = some (.slice av lv cv) ∧ w''.cell? ⟨pb, 0, none⟩ = some (.int .i64 a) ∧ w''.cell? ⟨pb, 1, none⟩ = some (.int .i64 c)) ∧ ∃ gx, Held w d.foot w'' { d with gx := gx } { m with v := m.v.next ws, cx := a, cy := c } m r bd z w.heap.size (opOf 7 n a c s (.slice av lv cv)) ∧ Blk w'' g (flatW (ws ++ [markW, markW]) ++ sp) 104 ∧ Blk w'' pb [.int .i64 a, .int .i64 c] 96 ∧ WinsAt w'' av ws) := by
    intro w' g cap sp pb h' hp hcap hb hpb hwv
    refine (show_yes w' d.bx d.gx m h'.tm.at'.x (some ⟨g, 0, none⟩) ws lv cap a c hp.1 HN.out hcap HSZ.out HE.out).mono ?_
    rintro e w'' ⟨hr, u⟩
    obtain ⟨gx, h2, _⟩ := h'.pnt u
    obtain ⟨g1, p1, f1, s1⟩ := u
    have ng : g ∉ pfoot d.bx d.gx := fun hm => by
      obtain ⟨us, ty, k, hk⟩ := PntRaw.typed h'.tm.at'.x g hm
      have := blk_ty hb k; subst this; exact absurd hk (by decide)
    have np : pb ∉ pfoot d.bx d.gx := fun hm => by
      obtain ⟨us, ty, k, hk⟩ := PntRaw.typed h'.tm.at'.x pb hm
      have := blk_ty hpb k; subst this; exact absurd hk (by decide)
    have hpb2 := hpb.fr f1 np
    exact ⟨by rw [HBS.out]; exact hr, ⟨h2.dk.cell 0, h2.op.cell 5, hpb2.cell 0, hpb2.cell 1⟩, gx, h2, hb.fr f1 ng, hpb2, hwv.fr2 f1 (fun hz x hx hm => by have := HAV.out hz x hx; have := HB.out x.block (Dg.in_x hm); omega)⟩
  have X2 : Hid (∀ w' g sp pb gx, w.heap.size ≤ g → Held w d.foot w' { d with gx := gx } { m with v := m.v.next ws, cx := a, cy := c } m r bd z w.heap.size (opOf 7 n a c s (.slice av lv cv)) → Blk w' g (flatW (ws ++ [markW, markW]) ++ sp) 104 → Blk w' pb [.int .i64 a, .int .i64 c] 96 → WinsAt w' av ws → Calls Tryz.prog 47 #[.pointer (some ⟨d.bp, 0, none⟩), .slice av lv cv, .agg #[.int .i64 a, .int .i64 c]] w' fun e w'' => e = .returned (.int .i64 0) ∧ (w''.cell? ⟨bd, 1, none⟩ = some (.pointer (some ⟨d.bp, 0, none⟩)) ∧ w''.cell? ⟨w.heap.size, 5, none⟩ = some (.slice av lv cv) ∧ w''.cell? ⟨pb, 0, none⟩ = some (.int .i64 a) ∧ w''.cell? ⟨pb, 1, none⟩ = some (.int .i64 c)) ∧ ∃ gp, Held w d.foot w'' { d with gx := gx, gp := gp } { m with v := m.v.next ws, cx := a, cy := c } { m with v := m.v.next ws, cx := a, cy := c } r bd z w.heap.size (opOf 7 n a c s (.slice av lv cv)) ∧ Blk w'' g (flatW (ws ++ [markW, markW]) ++ sp) 104 ∧ WinsAt w'' av ws ∧ g ∉ dfoot d.bp gp) := by
    intro w' g sp pb gx hg h' hb hpb hw'
    rcases Nat.lt_or_ge 12 lv with h12 | h12
    · exfalso
      have := (errV_ok HE.out).1
      have := HN.out
      omega
    · refine (dshow_loop w' d.bp d.gp m h'.tm.at'.p av ws lv cv a c hw' HN.out h12 HSZ.out).mono ?_
      rintro e w'' ⟨hr, hu⟩
      rcases hu with ⟨hne, _⟩ | ⟨_, u⟩
      · exact absurd HE.out hne
      · obtain ⟨gp, p1, f1, s1⟩ := u
        obtain ⟨h2, _⟩ := h'.docG p1 f1 s1
        have ng : g ∉ dfoot d.bp d.gp := fun hm => by have := DL.out g hm; omega
        have np : pb ∉ dfoot d.bp d.gp := fun hm => by
          obtain ⟨us, ty, k, hk⟩ := h'.tm.at'.p.typed pb hm
          have := blk_ty hpb k; subst this; exact absurd hk (by decide)
        have hpb2 := hpb.fr f1 np
        refine ⟨by rw [← HE.out]; exact hr, ⟨h2.dk.cell 1, h2.op.cell 5, hpb2.cell 0, hpb2.cell 1⟩, gp, h2, hb.fr f1 ng, hw'.fr2 f1 (fun hz x hx hm => by have := HAV.out hz x hx; have := HB.out x.block (Dg.in_p hm); omega), ?_⟩
        intro hm
        rcases s1 g hm with k | k
        · exact ng k
        · have := hb.lt; omega
  have l1 := hd.lt
  clear h hd hw hsz he
  go_enter Tryz.func29, Tryz.ntmps29
  go_wp2_with fail
  generalize hwa : w.alloc (.cells #[.int .i64 7, .int .i64 n, .int .i64 a, .int .i64 c, .string s, .slice av lv cv] 32) = wa at *
  have H0' : Hid (Held w d.foot wa d m m r bd z w.heap.size (opOf 7 n a c s (.slice av lv cv))) := by show Held _ _ _ _ _ _ _ _ _ _ _; rw [← hwa]; exact H0.out
  have WA : Hid (Fr [] w wa) := by show Fr _ _ _; rw [← hwa]; exact (Fr.refl _ _).alloc _
  clear hwa H0
  refine (given_any av ws lv cv wa (HW.out.fr WA.out (by simp)) HN.out hl).mono ?_
  rintro e wb ⟨g, cap, rfl, hown, fb⟩
  rw [HN.out] at hown
  have hge : w.heap.size ≤ g := by
    have h1 := (hown.lt g rfl).1
    have := WA.out.size; omega
  obtain ⟨hwn, hcap⟩ := own_wins (by simp [HN.out]) hown
  obtain ⟨sp, hbg⟩ : ∃ sp, Blk wb g (flatW (ws ++ [markW, markW]) ++ sp) 104 := own_flat hown
  have hb1 := H0'.out.fr0 fb
  obtain ⟨k0, k1, k2, k3⟩ := hb1.dk.dk
  obtain ⟨j0, j1, j2, j3, j4, j5⟩ := hb1.op.op
  have l2 := hb1.op.lt
  have l3 := hb1.dk.lt
  have l4 := hbg.lt
  have HG := hide hge
  have FB := hide (WA.out.then fb)
  have H1 := hide (hb1.fr0 ((Fr.refl _ _).alloc (.cells #[.int .i64 a, .int .i64 c] 96)))
  have BG := hide (hbg.fr0 ((Fr.refl _ _).alloc (.cells #[.int .i64 a, .int .i64 c] 96)))
  have BP := hide (Blk.new wb [.int .i64 a, .int .i64 c] 96)
  have WN : Hid (WinsAt (wb.alloc (.cells #[.int .i64 a, .int .i64 c] 96)) (some ⟨g, 0, none⟩) ws) := by
    intro i o ho
    exact (hwn.fr ((Fr.refl [] _).alloc _) (by simp)) i o (by rw [List.getElem?_append_left ((List.getElem?_eq_some_iff.1 ho).1)]; exact ho)
  have HW1 : Hid (WinsAt (wb.alloc (.cells #[.int .i64 a, .int .i64 c] 96)) av ws) := HW.out.fr (FB.out.alloc _) (by simp)
  clear hown hwn hbg hb1 fb H0' WA hge
  have hcap2 : lv + 2 ≤ cap := by omega
  clear hcap
  go_wp2
  generalize wb.alloc (.cells #[.int .i64 a, .int .i64 c] 96) = wc at *
  generalize wb.heap.size = pb at *
  clear k0 k1 k2 k3 j0 j1 j2 j3 j4 j5 l2 l3 l4
  obtain ⟨k0, k1, k2, k3⟩ := H1.out.dk.dk
  obtain ⟨j0, j1, j2, j3, j4, j5⟩ := H1.out.op.op
  have p0 : wc.cell? ⟨pb, 0, none⟩ = some (.int .i64 a) := BP.out.cell 0
  have p1 : wc.cell? ⟨pb, 1, none⟩ = some (.int .i64 c) := BP.out.cell 1
  have cp1 : (lv : Int) ≤ cap := by omega
  have cp2 : (lv : Int) ≤ (lv : Int) + 2 := by omega
  clear hn hav hb
  go_region_held (fun w' => w'.cell? ⟨bd, 0, none⟩ = some (.pointer (some ⟨d.bx, 0, none⟩)) ∧ w'.cell? ⟨w.heap.size, 5, none⟩ = some (.slice av lv cv) ∧ w'.cell? ⟨pb, 0, none⟩ = some (.int .i64 a) ∧ w'.cell? ⟨pb, 1, none⟩ = some (.int .i64 c)) (go_keep) ((go_at_call 46; refine (X1.out _ g cap sp pb ?h1 ?h2 ?h3 ?h4 ?h5 ?h6).mono ?_; (case h1 => exact H1.out.fr0 (by repeat first | exact Fr.refl _ _ | apply Fr.drew | apply Fr.drewN)); (case h2 => exact ⟨WN.out.fr (S := []) (by repeat first | exact Fr.refl _ _ | apply Fr.drew | apply Fr.drewN) (by simp), trivial⟩); (case h3 => omega); (case h4 => exact BG.out.fr0 (by repeat first | exact Fr.refl _ _ | apply Fr.drew | apply Fr.drewN)); (case h5 => exact BP.out.fr0 (by repeat first | exact Fr.refl _ _ | apply Fr.drew | apply Fr.drewN)); (case h6 => exact HW1.out.fr (S := []) (by repeat first | exact Fr.refl _ _ | apply Fr.drew | apply Fr.drewN) (by simp)); rintro e w1 ⟨rfl, hS, hD⟩; have HD := hide hD; obtain ⟨x0, x1, x2, x3⟩ := hS; clear hD))
  obtain ⟨gx, HA, BGA, BPA, HWA⟩ := HD.out
  have HAH := hide HA
  have BGH := hide BGA
  have BPH := hide BPA
  have HWH := hide HWA
  clear HD HA BGA BPA HWA H1 BG BP WN HW1 X1 k0 k1 k2 k3 j0 j1 j2 j3 j4 j5 p0 p1 x0 x1 x2 x3
  obtain ⟨k0, k1, k2, k3⟩ := HAH.out.dk.dk
  obtain ⟨j0, j1, j2, j3, j4, j5⟩ := HAH.out.op.op
  have p0 : w1.cell? ⟨pb, 0, none⟩ = some (.int .i64 a) := BPH.out.cell 0
  have p1 : w1.cell? ⟨pb, 1, none⟩ = some (.int .i64 c) := BPH.out.cell 1
  go_wp2
  go_region_held (fun w' => w'.cell? ⟨bd, 1, none⟩ = some (.pointer (some ⟨d.bp, 0, none⟩)) ∧ w'.cell? ⟨w.heap.size, 5, none⟩ = some (.slice av lv cv) ∧ w'.cell? ⟨pb, 0, none⟩ = some (.int .i64 a) ∧ w'.cell? ⟨pb, 1, none⟩ = some (.int .i64 c)) (go_keep) ((go_at_call 47; refine (X2.out _ g sp pb gx HG.out ?h1 ?h2 ?h3 ?h4).mono ?_; (case h1 => exact HAH.out.fr0 (by repeat first | exact Fr.refl _ _ | apply Fr.drew | apply Fr.drewN)); (case h2 => exact BGH.out.fr0 (by repeat first | exact Fr.refl _ _ | apply Fr.drew | apply Fr.drewN)); (case h3 => exact BPH.out.fr0 (by repeat first | exact Fr.refl _ _ | apply Fr.drew | apply Fr.drewN)); (case h4 => exact HWH.out.fr (S := []) (by repeat first | exact Fr.refl _ _ | apply Fr.drew | apply Fr.drewN) (by simp)); rintro e w2 ⟨rfl, hS, hD⟩; have HD := hide hD; obtain ⟨x0, x1, x2, x3⟩ := hS; clear hD))
  obtain ⟨gp, HA, BGA, HWA, NGA⟩ := HD.out
  have NGH := hide NGA
  have HCH := hide HA
  have BGC := hide BGA
  have HWC := hide HWA
  clear HD HA BGA HWA NGA HAH BGH BPH HWH X2 k0 k1 k2 k3 j0 j1 j2 j3 j4 j5 p0 p1 x0 x1 x2 x3
  obtain ⟨k0, k1, k2, k3⟩ := HCH.out.dk.dk
  obtain ⟨j0, j1, j2, j3, j4, j5⟩ := HCH.out.op.op
  have UT := hide (untouched_any av ws lv cv g cap sp w2 HWC.out HN.out hl BGC.out (fun hz x hx hg => by have := HAV.out hz x hx; have := HG.out; omega))
  have NG : Hid (∀ y ∈ Dg.foot { d with gx := gx, gp := gp }, y ∉ [g]) := by
    intro y hy hm
    simp at hm
    subst hm
    rcases List.mem_append.1 hy with hy | hy
    · obtain ⟨us, ty, k, hk⟩ := PntRaw.typed HCH.out.tm.at'.x y hy
      have := blk_ty BGC.out k; subst this; exact absurd hk (by decide)
    · rcases List.mem_append.1 hy with hy | hy
      · exact NGH.out hy
      · obtain ⟨us, ty, k, hk⟩ := HCH.out.tm.at'.t.typed y hy
        have := blk_ty BGC.out k; subst this; exact absurd hk (by decide)
  go_wp2_with fail
  refine UT.out.mono ?_
  rintro e w3 ⟨rfl, f3⟩
  have T3 := hide (HCH.out.tm.fr f3 NG.out (by intro y hy; simp at hy; subst hy; exact HG.out))
  clear f3 UT k0 k1 k2 k3 j0 j1 j2 j3 j4 j5
  go_wp2
  go_ret3
  exact ⟨rfl, gx, gp, d.gt, T3.out⟩

set_option maxHeartbeats 4000000 in
set_option maxRecDepth 100000 in
theorem call_show_no (n a c : Int) (s : ByteArray) (av : Option Addr) (ws : List Win) (lv cv : Nat) (w : World) (base bd : Nat) (d : Dg) (m : Pt) (r : R) (z : Bool) (h : TriAt w d m m r) (hd : Blk w bd (dkOf d z) 76) (hw : WinsAt w av ws) (hn : ws.length = lv) (hl : lv ≤ 1048576) (hsz : ∀ o ∈ ws, o.text.size ≤ 9223372036854775807) (hav : ws ≠ [] → ∀ x, av = some x → x.block < base) (hb : ∀ y ∈ d.foot, base ≤ y) (hB : base ≤ w.heap.size) (he : errV ws ≠ 0) :
    Calls Tryz.prog 29 #[.pointer (some ⟨bd, 0, none⟩), .agg #[.int .i64 7, .int .i64 n, .int .i64 a, .int .i64 c, .string s, .slice av lv cv]] w (CallPost d m r [] (errV ws) w) := by
  have H0 := hide (Held.box h hd (opOf 7 n a c s (.slice av lv cv)))
  have DL : Hid (∀ y ∈ dfoot d.bp d.gp, y < w.heap.size) := fun y hy => h.lt y (Dg.in_p hy)
  have HN := hide hn
  have HSZ := hide hsz
  have HAV := hide hav
  have HB := hide hb
  have HE := hide he
  have HW := hide hw
  obtain ⟨er, her⟩ : ∃ e : Int, e = errV ws := ⟨_, rfl⟩
  have ner : (er == 0) = false := by rw [her]; simpa using he
  rw [← her]
  have HER := hide her
  clear her
  have X1 : Hid (∀ w' g cap sp pb, Held w d.foot w' d m m r bd z w.heap.size (opOf 7 n a c s (.slice av lv cv)) → (WinsAt w' (some ⟨g, 0, none⟩) ws ∧ True) → lv ≤ cap → Blk w' g (flatW (ws ++ [markW, markW]) ++ sp) 104 → Blk w' pb [.int .i64 a, .int .i64 c] 96 → WinsAt w' av ws → Calls Tryz.prog 46 #[.pointer (some ⟨d.bx, 0, none⟩), .slice (some ⟨g, 0, none⟩) lv cap, .agg #[.int .i64 a, .int .i64 c]] w' fun e w'' => e = .returned (.tuple #[.string ByteArray.empty, .int .i64 er]) ∧ (w''.cell? ⟨bd, 0, none⟩ = some (.pointer (some ⟨d.bx, 0, none⟩)) ∧ w''.cell? ⟨w.heap.size, 5, none⟩ = some (.slice av lv cv) ∧ w''.cell? ⟨pb, 0, none⟩ = some (.int .i64 a) ∧ w''.cell? ⟨pb, 1, none⟩ = some (.int .i64 c)) ∧ ∃ gx, Held w d.foot w'' { d with gx := gx } m m r bd z w.heap.size (opOf 7 n a c s (.slice av lv cv)) ∧ Blk w'' g (flatW (ws ++ [markW, markW]) ++ sp) 104 ∧ Blk w'' pb [.int .i64 a, .int .i64 c] 96 ∧ WinsAt w'' av ws) := by
    intro w' g cap sp pb h' hp hcap hb hpb hwv
    refine (show_no w' d.bx (some ⟨g, 0, none⟩) ws lv cap a c hp.1 HN.out hcap (by omega) HSZ.out HE.out).mono ?_
    rintro e w'' ⟨hr, f1⟩
    have h2 := h'.fr0 f1
    have hpb2 := hpb.fr0 f1
    exact ⟨by rw [HER.out]; exact hr, ⟨h2.dk.cell 0, h2.op.cell 5, hpb2.cell 0, hpb2.cell 1⟩, d.gx, h2, hb.fr0 f1, hpb2, hwv.fr f1 (by simp)⟩
  have X2 : Hid (∀ w' g sp pb gx, w.heap.size ≤ g → Held w d.foot w' { d with gx := gx } m m r bd z w.heap.size (opOf 7 n a c s (.slice av lv cv)) → Blk w' g (flatW (ws ++ [markW, markW]) ++ sp) 104 → Blk w' pb [.int .i64 a, .int .i64 c] 96 → WinsAt w' av ws → Calls Tryz.prog 47 #[.pointer (some ⟨d.bp, 0, none⟩), .slice av lv cv, .agg #[.int .i64 a, .int .i64 c]] w' fun e w'' => e = .returned (.int .i64 er) ∧ (w''.cell? ⟨bd, 1, none⟩ = some (.pointer (some ⟨d.bp, 0, none⟩)) ∧ w''.cell? ⟨w.heap.size, 5, none⟩ = some (.slice av lv cv) ∧ w''.cell? ⟨pb, 0, none⟩ = some (.int .i64 a) ∧ w''.cell? ⟨pb, 1, none⟩ = some (.int .i64 c)) ∧ ∃ gp, Held w d.foot w'' { d with gx := gx, gp := gp } m m r bd z w.heap.size (opOf 7 n a c s (.slice av lv cv)) ∧ Blk w'' g (flatW (ws ++ [markW, markW]) ++ sp) 104 ∧ WinsAt w'' av ws ∧ g ∉ dfoot d.bp gp) := by
    intro w' g sp pb gx hg h' hb hpb hw'
    have fin : ∀ (e : Ending) (w'' : World), e = .returned (.int .i64 (errV ws)) → Fr [] w' w'' → e = .returned (.int .i64 er) ∧ (w''.cell? ⟨bd, 1, none⟩ = some (.pointer (some ⟨d.bp, 0, none⟩)) ∧ w''.cell? ⟨w.heap.size, 5, none⟩ = some (.slice av lv cv) ∧ w''.cell? ⟨pb, 0, none⟩ = some (.int .i64 a) ∧ w''.cell? ⟨pb, 1, none⟩ = some (.int .i64 c)) ∧ ∃ gp, Held w d.foot w'' { d with gx := gx, gp := gp } m m r bd z w.heap.size (opOf 7 n a c s (.slice av lv cv)) ∧ Blk w'' g (flatW (ws ++ [markW, markW]) ++ sp) 104 ∧ WinsAt w'' av ws ∧ g ∉ dfoot d.bp gp := by
      intro e w'' hr f1
      have h2 := h'.fr0 f1
      have hpb2 := hpb.fr0 f1
      exact ⟨by rw [HER.out]; exact hr, ⟨h2.dk.cell 1, h2.op.cell 5, hpb2.cell 0, hpb2.cell 1⟩, d.gp, h2, hb.fr0 f1, hw'.fr f1 (by simp), fun hm => by have := DL.out g hm; omega⟩
    rcases Nat.lt_or_ge 12 lv with h12 | h12
    · refine (dshow_many w' ⟨d.bp, 0, none⟩ av lv cv a c h12 (by omega)).mono ?_
      rintro e w'' ⟨hr, f1⟩
      exact fin e w'' (by rw [hr]; unfold errV; rw [if_pos (by rw [HN.out]; exact h12)]) f1
    · refine (dshow_loop w' d.bp d.gp m h'.tm.at'.p av ws lv cv a c hw' HN.out h12 HSZ.out).mono ?_
      rintro e w'' ⟨hr, hu⟩
      rcases hu with ⟨_, f1⟩ | ⟨hz, _⟩
      · exact fin e w'' hr f1
      · exact absurd hz HE.out
  have l1 := hd.lt
  clear h hd hw hsz he
  go_enter Tryz.func29, Tryz.ntmps29
  go_wp2_with fail
  generalize hwa : w.alloc (.cells #[.int .i64 7, .int .i64 n, .int .i64 a, .int .i64 c, .string s, .slice av lv cv] 32) = wa at *
  have H0' : Hid (Held w d.foot wa d m m r bd z w.heap.size (opOf 7 n a c s (.slice av lv cv))) := by show Held _ _ _ _ _ _ _ _ _ _ _; rw [← hwa]; exact H0.out
  have WA : Hid (Fr [] w wa) := by show Fr _ _ _; rw [← hwa]; exact (Fr.refl _ _).alloc _
  clear hwa H0
  refine (given_any av ws lv cv wa (HW.out.fr WA.out (by simp)) HN.out hl).mono ?_
  rintro e wb ⟨g, cap, rfl, hown, fb⟩
  rw [HN.out] at hown
  have hge : w.heap.size ≤ g := by
    have h1 := (hown.lt g rfl).1
    have := WA.out.size; omega
  obtain ⟨hwn, hcap⟩ := own_wins (by simp [HN.out]) hown
  obtain ⟨sp, hbg⟩ : ∃ sp, Blk wb g (flatW (ws ++ [markW, markW]) ++ sp) 104 := own_flat hown
  have hb1 := H0'.out.fr0 fb
  obtain ⟨k0, k1, k2, k3⟩ := hb1.dk.dk
  obtain ⟨j0, j1, j2, j3, j4, j5⟩ := hb1.op.op
  have l2 := hb1.op.lt
  have l3 := hb1.dk.lt
  have l4 := hbg.lt
  have HG := hide hge
  have FB := hide (WA.out.then fb)
  have H1 := hide (hb1.fr0 ((Fr.refl _ _).alloc (.cells #[.int .i64 a, .int .i64 c] 96)))
  have BG := hide (hbg.fr0 ((Fr.refl _ _).alloc (.cells #[.int .i64 a, .int .i64 c] 96)))
  have BP := hide (Blk.new wb [.int .i64 a, .int .i64 c] 96)
  have WN : Hid (WinsAt (wb.alloc (.cells #[.int .i64 a, .int .i64 c] 96)) (some ⟨g, 0, none⟩) ws) := by
    intro i o ho
    exact (hwn.fr ((Fr.refl [] _).alloc _) (by simp)) i o (by rw [List.getElem?_append_left ((List.getElem?_eq_some_iff.1 ho).1)]; exact ho)
  have HW1 : Hid (WinsAt (wb.alloc (.cells #[.int .i64 a, .int .i64 c] 96)) av ws) := HW.out.fr (FB.out.alloc _) (by simp)
  clear hown hwn hbg hb1 fb H0' WA hge
  have hcap2 : lv + 2 ≤ cap := by omega
  clear hcap
  go_wp2
  generalize wb.alloc (.cells #[.int .i64 a, .int .i64 c] 96) = wc at *
  generalize wb.heap.size = pb at *
  clear k0 k1 k2 k3 j0 j1 j2 j3 j4 j5 l2 l3 l4
  obtain ⟨k0, k1, k2, k3⟩ := H1.out.dk.dk
  obtain ⟨j0, j1, j2, j3, j4, j5⟩ := H1.out.op.op
  have p0 : wc.cell? ⟨pb, 0, none⟩ = some (.int .i64 a) := BP.out.cell 0
  have p1 : wc.cell? ⟨pb, 1, none⟩ = some (.int .i64 c) := BP.out.cell 1
  have cp1 : (lv : Int) ≤ cap := by omega
  have cp2 : (lv : Int) ≤ (lv : Int) + 2 := by omega
  clear hn hav hb
  go_region_held (fun w' => w'.cell? ⟨bd, 0, none⟩ = some (.pointer (some ⟨d.bx, 0, none⟩)) ∧ w'.cell? ⟨w.heap.size, 5, none⟩ = some (.slice av lv cv) ∧ w'.cell? ⟨pb, 0, none⟩ = some (.int .i64 a) ∧ w'.cell? ⟨pb, 1, none⟩ = some (.int .i64 c)) (go_keep) ((go_at_call 46; refine (X1.out _ g cap sp pb ?h1 ?h2 ?h3 ?h4 ?h5 ?h6).mono ?_; (case h1 => exact H1.out.fr0 (by repeat first | exact Fr.refl _ _ | apply Fr.drew | apply Fr.drewN)); (case h2 => exact ⟨WN.out.fr (S := []) (by repeat first | exact Fr.refl _ _ | apply Fr.drew | apply Fr.drewN) (by simp), trivial⟩); (case h3 => omega); (case h4 => exact BG.out.fr0 (by repeat first | exact Fr.refl _ _ | apply Fr.drew | apply Fr.drewN)); (case h5 => exact BP.out.fr0 (by repeat first | exact Fr.refl _ _ | apply Fr.drew | apply Fr.drewN)); (case h6 => exact HW1.out.fr (S := []) (by repeat first | exact Fr.refl _ _ | apply Fr.drew | apply Fr.drewN) (by simp)); rintro e w1 ⟨rfl, hS, hD⟩; have HD := hide hD; obtain ⟨x0, x1, x2, x3⟩ := hS; clear hD))
  obtain ⟨gx, HA, BGA, BPA, HWA⟩ := HD.out
  have HAH := hide HA
  have BGH := hide BGA
  have BPH := hide BPA
  have HWH := hide HWA
  clear HD HA BGA BPA HWA H1 BG BP WN HW1 X1 k0 k1 k2 k3 j0 j1 j2 j3 j4 j5 p0 p1 x0 x1 x2 x3
  obtain ⟨k0, k1, k2, k3⟩ := HAH.out.dk.dk
  obtain ⟨j0, j1, j2, j3, j4, j5⟩ := HAH.out.op.op
  have p0 : w1.cell? ⟨pb, 0, none⟩ = some (.int .i64 a) := BPH.out.cell 0
  have p1 : w1.cell? ⟨pb, 1, none⟩ = some (.int .i64 c) := BPH.out.cell 1
  go_wp2
  go_region_held (fun w' => w'.cell? ⟨bd, 1, none⟩ = some (.pointer (some ⟨d.bp, 0, none⟩)) ∧ w'.cell? ⟨w.heap.size, 5, none⟩ = some (.slice av lv cv) ∧ w'.cell? ⟨pb, 0, none⟩ = some (.int .i64 a) ∧ w'.cell? ⟨pb, 1, none⟩ = some (.int .i64 c)) (go_keep) ((go_at_call 47; refine (X2.out _ g sp pb gx HG.out ?h1 ?h2 ?h3 ?h4).mono ?_; (case h1 => exact HAH.out.fr0 (by repeat first | exact Fr.refl _ _ | apply Fr.drew | apply Fr.drewN)); (case h2 => exact BGH.out.fr0 (by repeat first | exact Fr.refl _ _ | apply Fr.drew | apply Fr.drewN)); (case h3 => exact BPH.out.fr0 (by repeat first | exact Fr.refl _ _ | apply Fr.drew | apply Fr.drewN)); (case h4 => exact HWH.out.fr (S := []) (by repeat first | exact Fr.refl _ _ | apply Fr.drew | apply Fr.drewN) (by simp)); rintro e w2 ⟨rfl, hS, hD⟩; have HD := hide hD; obtain ⟨x0, x1, x2, x3⟩ := hS; clear hD))
  obtain ⟨gp, HA, BGA, HWA, NGA⟩ := HD.out
  have NGH := hide NGA
  have HCH := hide HA
  have BGC := hide BGA
  have HWC := hide HWA
  clear HD HA BGA HWA NGA HAH BGH BPH HWH X2 k0 k1 k2 k3 j0 j1 j2 j3 j4 j5 p0 p1 x0 x1 x2 x3
  obtain ⟨k0, k1, k2, k3⟩ := HCH.out.dk.dk
  obtain ⟨j0, j1, j2, j3, j4, j5⟩ := HCH.out.op.op
  have UT := hide (untouched_any av ws lv cv g cap sp w2 HWC.out HN.out hl BGC.out (fun hz x hx hg => by have := HAV.out hz x hx; have := HG.out; omega))
  have NG : Hid (∀ y ∈ Dg.foot { d with gx := gx, gp := gp }, y ∉ [g]) := by
    intro y hy hm
    simp at hm
    subst hm
    rcases List.mem_append.1 hy with hy | hy
    · obtain ⟨us, ty, k, hk⟩ := PntRaw.typed HCH.out.tm.at'.x y hy
      have := blk_ty BGC.out k; subst this; exact absurd hk (by decide)
    · rcases List.mem_append.1 hy with hy | hy
      · exact NGH.out hy
      · obtain ⟨us, ty, k, hk⟩ := HCH.out.tm.at'.t.typed y hy
        have := blk_ty BGC.out k; subst this; exact absurd hk (by decide)
  go_wp2_with fail
  refine UT.out.mono ?_
  rintro e w3 ⟨rfl, f3⟩
  have T3 := hide (HCH.out.tm.fr f3 NG.out (by intro y hy; simp at hy; subst hy; exact HG.out))
  clear f3 UT k0 k1 k2 k3 j0 j1 j2 j3 j4 j5
  go_wp2
  go_ret3
  exact ⟨rfl, gx, gp, d.gt, T3.out⟩
end Go.Proofs.YtjhccghhinlmdabGreatDoor
/- A step of a script on a painter of the program and on the document's: every row. -/
namespace Go.Proofs.YtjhccghhinlmdabGreatDoor
open Go.RowKit

set_option maxHeartbeats 2000000 in
set_option maxRecDepth 100000 in
theorem rows_live (w : World) (bd : Nat) (d : Dg) (m : Pt) (r : R) (z : Bool) (h : TriAt w d m m r) (hd : Blk w bd (dkOf d z) 76) :
    Calls Tryz.prog 56 #[.pointer (some ⟨bd, 0, none⟩)] w fun e w' => e = .returned (.bool true) ∧ Fr [] w w' := by
  have H := hide h
  have HD := hide hd
  have h1 := h.p.h1
  have h2 := h.p.h2
  obtain ⟨q0, q1, q2, q3⟩ := hd.dk
  clear h hd
  go_enter Tryz.func56, Tryz.ntmps56
  go_wp2
  go_loopw [3] (fun i wr => ∃ k : Nat, i = .int .i64 k ∧ (k : Int) ≤ m.H ∧ Fr [] w wr) (fun i _ => (3000 - intOf i).toNat)
  case atStart => exact ⟨0, rfl, by omega, Fr.refl _ _⟩
  case round =>
    obtain ⟨k, rfl, hk, f⟩ := hrel
    have F := hide f
    obtain ⟨k0, k1, k2, k3⟩ := (HD.out.fr0 f).dk
    have p1 : wr.cell? ⟨d.bp, 1, none⟩ = some (.int .i64 m.H) := (H.out.fr0 f).p.st.cell 1
    clear f
    by_cases hend : (k : Int) < m.H
    · have PR := hide (prow_yes wr d.bx d.gx m (H.out.fr0 F.out).x k (by omega) hend)
      go_wp2_with fail
      refine PR.out.mono ?_
      rintro e w1 ⟨rfl, f1⟩
      have F1 := hide (F.out.then f1)
      have DR := hide (drow_yes w1 d.bp d.gp m (H.out.fr0 F1.out).p k (by omega) hend)
      clear f1 PR k0 k1 k2 k3 p1
      obtain ⟨k0, k1, k2, k3⟩ := (HD.out.fr0 F1.out).dk
      generalize strOfNums ((rowOf m.W k (m.v.grid m.W m.H)).map (·.1)) = s1 at *
      generalize strOfNums ((rowOf m.W k (m.v.grid m.W m.H)).map (·.2)) = s2 at *
      go_wp2_with fail
      refine DR.out.mono ?_
      rintro e w2 ⟨rfl, f2⟩
      have F2 := hide (F1.out.then f2)
      clear f2 DR k0 k1 k2 k3
      go_wp2
      go_roundw
      case rel => exact ⟨k + 1, by go_num, by omega, F2.out⟩
      case measure => simp [intOf]; omega
    · go_wp2
      go_ret
      exact ⟨rfl, F.out⟩

set_option maxHeartbeats 2000000 in
set_option maxRecDepth 100000 in
theorem call_looks (n a c : Int) (s : ByteArray) (av : Option Addr) (lv cv : Nat) (w : World) (bd : Nat) (d : Dg) (m : Pt) (r : R) (z : Bool) (h : TriAt w d m m r) (hd : Blk w bd (dkOf d z) 76) :
    Calls Tryz.prog 29 #[.pointer (some ⟨bd, 0, none⟩), .agg #[.int .i64 13, .int .i64 n, .int .i64 a, .int .i64 c, .string s, .slice av lv cv]] w (CallPost d m r [] 0 w) := by
  have RW := hide (rows_live (w.alloc (.cells #[.int .i64 13, .int .i64 n, .int .i64 a, .int .i64 c, .string s, .slice av lv cv] 32)) bd d m r z (h.fr0 ((Fr.refl _ _).alloc _)) (hd.alloc _))
  have TS := hide (TM.start h)
  clear h hd
  go_enter Tryz.func29, Tryz.ntmps29
  go_wp2_with fail
  refine RW.out.mono ?_
  rintro e w1 ⟨rfl, f1⟩
  have T1 := hide (TS.out.fr0 (((Fr.refl _ _).alloc _).then f1))
  clear f1 RW
  go_wp2
  go_ret3
  exact ⟨rfl, d.gx, d.gp, d.gt, T1.out⟩
end Go.Proofs.YtjhccghhinlmdabGreatDoor
/- A step of a script on a desk of nils: the document's error both times. -/
namespace Go.Proofs.YtjhccghhinlmdabGreatDoor
open Go.RowKit

/-- what the noise leaves -/
def NoisePost (d : Dg) (m : Pt) (r' : R) (bd : Nat) (w : World) (e : Ending) (w' : World) : Prop := e = .returned (.bool true) ∧ ∃ gt, TM w (bd :: d.foot) w' { d with gt := gt } m m r' ∧ Blk w' bd (dkOf d true) 76
theorem TM.flag' {w0 : World} {F0 : List Nat} {w : World} {d : Dg} {mx mp : Pt} {r : R} (h : TM w0 F0 w d mx mp r) (bd : Nat) (off : bd ∉ d.foot) (o : Nat) (v : Value) : TM w0 (bd :: F0) (w.setCell ⟨bd, o, none⟩ v) d mx mp r := by
  have f : Fr [bd] w (w.setCell ⟨bd, o, none⟩ v) := (Fr.refl _ _).setCell (.inl (by simp)) _
  have hf : Fr (bd :: F0) w0 w := h.f.mono (fun _ hi => List.mem_cons_of_mem _ hi)
  exact ⟨h.at'.fr f (fun y hy hm => by simp at hm; subst hm; exact off hy), hf.trans f (fun _ hi => .inl hi) (by intro i hi; simp at hi; subst hi; exact .inl (by simp)), fun y hy => (h.s y hy).elim (fun k => .inl (List.mem_cons_of_mem _ k)) .inr⟩
theorem Blk.four' {w : World} {b : Nat} {c0 c1 c2 c3 : Value} {ty : TypeId} (h : Blk w b [c0, c1, c2, c3] ty) : w.cell? ⟨b, 0, none⟩ = some c0 ∧ w.cell? ⟨b, 1, none⟩ = some c1 ∧ w.cell? ⟨b, 2, none⟩ = some c2 ∧ w.cell? ⟨b, 3, none⟩ = some c3 :=
  ⟨h.cell 0, h.cell 1, h.cell 2, h.cell 3⟩

set_option maxHeartbeats 4000000 in
set_option maxRecDepth 100000 in
theorem callnil_8 (n a c : Int) (s : ByteArray) (av : Option Addr) (lv cv : Nat) (w : World) (bd : Nat) (z : Bool) (hd : Blk w bd [.pointer none, .pointer none, .pointer none, .bool z] 76) :
    Calls Tryz.prog 29 #[.pointer (some ⟨bd, 0, none⟩), .agg #[.int .i64 8, .int .i64 n, .int .i64 a, .int .i64 c, .string s, .slice av lv cv]] w fun e w' => e = .returned (.tuple #[.string ByteArray.empty, .int .i64 1, .bool true]) ∧ Fr [] w w' := by
  have HD := hide hd
  have l1 := hd.lt
  obtain ⟨q0, q1, q2, q3⟩ := hd.four'
  clear hd
  go_enter Tryz.func29, Tryz.ntmps29
  go_wp2
  generalize hwa : w.alloc (.cells #[.int .i64 8, .int .i64 n, .int .i64 a, .int .i64 c, .string s, .slice av lv cv] 32) = wa at *
  have F0 : Hid (Fr [] w wa) := by show Fr _ _ _; rw [← hwa]; exact (Fr.refl _ _).alloc _
  have BO : Hid (Blk wa w.heap.size (opOf 8 n a c s (.slice av lv cv)) 32) := by show Blk _ _ _ _; rw [← hwa]; exact Blk.new _ _ _
  clear hwa q0 q1 q2 q3
  have D0 := hide (HD.out.fr0 F0.out)
  obtain ⟨k0, k1, k2, k3⟩ := D0.out.four'
  obtain ⟨j0, j1, j2, j3, j4, j5⟩ := BO.out.op
  have X : Hid (∀ w', Fr [] wa w' → Calls Tryz.prog 49 #[.pointer none, .int .i64 a, .int .i64 c] w' fun e w'' => e = .returned (.tuple #[.string ByteArray.empty, .int .i64 1]) ∧ (w''.cell? ⟨bd, 0, none⟩ = some (.pointer none) ∧ w''.cell? ⟨w.heap.size, 2, none⟩ = some (.int .i64 a) ∧ w''.cell? ⟨w.heap.size, 3, none⟩ = some (.int .i64 c)) ∧ Fr [] wa w'') := by
    intro w' f'
    refine (scroll_nil w' a c).mono ?_
    rintro e w'' ⟨he, hf⟩
    have f2 : Fr [] wa w'' := hf ▸ f'
    have D2 := D0.out.fr0 f2
    have B2 := BO.out.fr0 f2
    exact ⟨he, ⟨D2.cell 0, B2.cell 2, B2.cell 3⟩, f2⟩
  go_region_held (fun w' => w'.cell? ⟨bd, 0, none⟩ = some (.pointer none) ∧ w'.cell? ⟨w.heap.size, 2, none⟩ = some (.int .i64 a) ∧ w'.cell? ⟨w.heap.size, 3, none⟩ = some (.int .i64 c)) (go_keep) ((go_at_call 49; refine (X.out _ ?hf).mono ?_; (case hf => exact (by repeat first | exact Fr.refl _ _ | apply Fr.drew | apply Fr.drewN)); rintro e w1 ⟨rfl, hS, hD⟩; have HF := hide hD; obtain ⟨x0, x1, x2⟩ := hS; clear hD))
  have D1 := hide (D0.out.fr0 HF.out)
  have BO1 := hide (BO.out.fr0 HF.out)
  have F1 := hide (F0.out.then HF.out)
  clear D0 BO F0 HF X k0 k1 k2 k3 j0 j1 j2 j3 j4 j5 x0 x1 x2
  have D0 := D1
  have BO := BO1
  have F0 := F1
  clear D1 BO1 F1
  obtain ⟨k0, k1, k2, k3⟩ := D0.out.four'
  obtain ⟨j0, j1, j2, j3, j4, j5⟩ := BO.out.op
  go_wp2
  have X : Hid (∀ w', Fr [] w1 w' → Calls Tryz.prog 50 #[.pointer none, .int .i64 a, .int .i64 c] w' fun e w'' => e = .returned (.int .i64 1) ∧ (w''.cell? ⟨bd, 1, none⟩ = some (.pointer none) ∧ w''.cell? ⟨w.heap.size, 2, none⟩ = some (.int .i64 a) ∧ w''.cell? ⟨w.heap.size, 3, none⟩ = some (.int .i64 c)) ∧ Fr [] w1 w'') := by
    intro w' f'
    refine (dscroll_nil w' a c).mono ?_
    rintro e w'' ⟨he, hf⟩
    have f2 : Fr [] w1 w'' := hf ▸ f'
    have D2 := D0.out.fr0 f2
    have B2 := BO.out.fr0 f2
    exact ⟨he, ⟨D2.cell 1, B2.cell 2, B2.cell 3⟩, f2⟩
  go_region_held (fun w' => w'.cell? ⟨bd, 1, none⟩ = some (.pointer none) ∧ w'.cell? ⟨w.heap.size, 2, none⟩ = some (.int .i64 a) ∧ w'.cell? ⟨w.heap.size, 3, none⟩ = some (.int .i64 c)) (go_keep) ((go_at_call 50; refine (X.out _ ?hf).mono ?_; (case hf => exact (by repeat first | exact Fr.refl _ _ | apply Fr.drew | apply Fr.drewN)); rintro e w2 ⟨rfl, hS, hD⟩; have HF := hide hD; obtain ⟨x0, x1, x2⟩ := hS; clear hD))
  have D1 := hide (D0.out.fr0 HF.out)
  have BO1 := hide (BO.out.fr0 HF.out)
  have F1 := hide (F0.out.then HF.out)
  clear D0 BO F0 HF X k0 k1 k2 k3 j0 j1 j2 j3 j4 j5 x0 x1 x2
  have D0 := D1
  have BO := BO1
  have F0 := F1
  clear D1 BO1 F1
  obtain ⟨k0, k1, k2, k3⟩ := D0.out.four'
  obtain ⟨j0, j1, j2, j3, j4, j5⟩ := BO.out.op
  go_wp2
  go_ret3
  exact ⟨rfl, F0.out⟩

set_option maxHeartbeats 4000000 in
set_option maxRecDepth 100000 in
theorem callnil_9 (n a c : Int) (s : ByteArray) (av : Option Addr) (lv cv : Nat) (w : World) (bd : Nat) (z : Bool) (hd : Blk w bd [.pointer none, .pointer none, .pointer none, .bool z] 76) :
    Calls Tryz.prog 29 #[.pointer (some ⟨bd, 0, none⟩), .agg #[.int .i64 9, .int .i64 n, .int .i64 a, .int .i64 c, .string s, .slice av lv cv]] w fun e w' => e = .returned (.tuple #[.string ByteArray.empty, .int .i64 1, .bool true]) ∧ Fr [] w w' := by
  have HD := hide hd
  have l1 := hd.lt
  obtain ⟨q0, q1, q2, q3⟩ := hd.four'
  clear hd
  go_enter Tryz.func29, Tryz.ntmps29
  go_wp2
  generalize hwa : w.alloc (.cells #[.int .i64 9, .int .i64 n, .int .i64 a, .int .i64 c, .string s, .slice av lv cv] 32) = wa at *
  have F0 : Hid (Fr [] w wa) := by show Fr _ _ _; rw [← hwa]; exact (Fr.refl _ _).alloc _
  have BO : Hid (Blk wa w.heap.size (opOf 9 n a c s (.slice av lv cv)) 32) := by show Blk _ _ _ _; rw [← hwa]; exact Blk.new _ _ _
  clear hwa q0 q1 q2 q3
  have D0 := hide (HD.out.fr0 F0.out)
  obtain ⟨k0, k1, k2, k3⟩ := D0.out.four'
  obtain ⟨j0, j1, j2, j3, j4, j5⟩ := BO.out.op
  have X : Hid (∀ w', Fr [] wa w' → Calls Tryz.prog 51 #[.pointer none, .int .i64 a, .int .i64 c] w' fun e w'' => e = .returned (.tuple #[.string ByteArray.empty, .int .i64 1]) ∧ (w''.cell? ⟨bd, 0, none⟩ = some (.pointer none) ∧ w''.cell? ⟨w.heap.size, 2, none⟩ = some (.int .i64 a) ∧ w''.cell? ⟨w.heap.size, 3, none⟩ = some (.int .i64 c)) ∧ Fr [] wa w'') := by
    intro w' f'
    refine (presize_nil w' a c).mono ?_
    rintro e w'' ⟨he, hf⟩
    have f2 : Fr [] wa w'' := hf ▸ f'
    have D2 := D0.out.fr0 f2
    have B2 := BO.out.fr0 f2
    exact ⟨he, ⟨D2.cell 0, B2.cell 2, B2.cell 3⟩, f2⟩
  go_region_held (fun w' => w'.cell? ⟨bd, 0, none⟩ = some (.pointer none) ∧ w'.cell? ⟨w.heap.size, 2, none⟩ = some (.int .i64 a) ∧ w'.cell? ⟨w.heap.size, 3, none⟩ = some (.int .i64 c)) (go_keep) ((go_at_call 51; refine (X.out _ ?hf).mono ?_; (case hf => exact (by repeat first | exact Fr.refl _ _ | apply Fr.drew | apply Fr.drewN)); rintro e w1 ⟨rfl, hS, hD⟩; have HF := hide hD; obtain ⟨x0, x1, x2⟩ := hS; clear hD))
  have D1 := hide (D0.out.fr0 HF.out)
  have BO1 := hide (BO.out.fr0 HF.out)
  have F1 := hide (F0.out.then HF.out)
  clear D0 BO F0 HF X k0 k1 k2 k3 j0 j1 j2 j3 j4 j5 x0 x1 x2
  have D0 := D1
  have BO := BO1
  have F0 := F1
  clear D1 BO1 F1
  obtain ⟨k0, k1, k2, k3⟩ := D0.out.four'
  obtain ⟨j0, j1, j2, j3, j4, j5⟩ := BO.out.op
  go_wp2
  have X : Hid (∀ w', Fr [] w1 w' → Calls Tryz.prog 52 #[.pointer none, .int .i64 a, .int .i64 c] w' fun e w'' => e = .returned (.int .i64 1) ∧ (w''.cell? ⟨bd, 1, none⟩ = some (.pointer none) ∧ w''.cell? ⟨w.heap.size, 2, none⟩ = some (.int .i64 a) ∧ w''.cell? ⟨w.heap.size, 3, none⟩ = some (.int .i64 c)) ∧ Fr [] w1 w'') := by
    intro w' f'
    refine (dturn_nil w' a c).mono ?_
    rintro e w'' ⟨he, hf⟩
    have f2 : Fr [] w1 w'' := hf ▸ f'
    have D2 := D0.out.fr0 f2
    have B2 := BO.out.fr0 f2
    exact ⟨he, ⟨D2.cell 1, B2.cell 2, B2.cell 3⟩, f2⟩
  go_region_held (fun w' => w'.cell? ⟨bd, 1, none⟩ = some (.pointer none) ∧ w'.cell? ⟨w.heap.size, 2, none⟩ = some (.int .i64 a) ∧ w'.cell? ⟨w.heap.size, 3, none⟩ = some (.int .i64 c)) (go_keep) ((go_at_call 52; refine (X.out _ ?hf).mono ?_; (case hf => exact (by repeat first | exact Fr.refl _ _ | apply Fr.drew | apply Fr.drewN)); rintro e w2 ⟨rfl, hS, hD⟩; have HF := hide hD; obtain ⟨x0, x1, x2⟩ := hS; clear hD))
  have D1 := hide (D0.out.fr0 HF.out)
  have BO1 := hide (BO.out.fr0 HF.out)
  have F1 := hide (F0.out.then HF.out)
  clear D0 BO F0 HF X k0 k1 k2 k3 j0 j1 j2 j3 j4 j5 x0 x1 x2
  have D0 := D1
  have BO := BO1
  have F0 := F1
  clear D1 BO1 F1
  obtain ⟨k0, k1, k2, k3⟩ := D0.out.four'
  obtain ⟨j0, j1, j2, j3, j4, j5⟩ := BO.out.op
  go_wp2
  go_ret3
  exact ⟨rfl, F0.out⟩

set_option maxHeartbeats 4000000 in
set_option maxRecDepth 100000 in
theorem callnil_11 (n a c : Int) (s : ByteArray) (av : Option Addr) (lv cv : Nat) (w : World) (bd : Nat) (z : Bool) (hd : Blk w bd [.pointer none, .pointer none, .pointer none, .bool z] 76) :
    Calls Tryz.prog 29 #[.pointer (some ⟨bd, 0, none⟩), .agg #[.int .i64 11, .int .i64 n, .int .i64 a, .int .i64 c, .string s, .slice av lv cv]] w fun e w' => e = .returned (.tuple #[.string ByteArray.empty, .int .i64 1, .bool true]) ∧ Fr [] w w' := by
  have HD := hide hd
  have l1 := hd.lt
  obtain ⟨q0, q1, q2, q3⟩ := hd.four'
  clear hd
  go_enter Tryz.func29, Tryz.ntmps29
  go_wp2
  generalize hwa : w.alloc (.cells #[.int .i64 11, .int .i64 n, .int .i64 a, .int .i64 c, .string s, .slice av lv cv] 32) = wa at *
  have F0 : Hid (Fr [] w wa) := by show Fr _ _ _; rw [← hwa]; exact (Fr.refl _ _).alloc _
  have BO : Hid (Blk wa w.heap.size (opOf 11 n a c s (.slice av lv cv)) 32) := by show Blk _ _ _ _; rw [← hwa]; exact Blk.new _ _ _
  clear hwa q0 q1 q2 q3
  have D0 := hide (HD.out.fr0 F0.out)
  obtain ⟨k0, k1, k2, k3⟩ := D0.out.four'
  obtain ⟨j0, j1, j2, j3, j4, j5⟩ := BO.out.op
  have X : Hid (∀ w', Fr [] wa w' → Calls Tryz.prog 54 #[.pointer none, .int .i64 a] w' fun e w'' => e = .returned (.tuple #[.string ByteArray.empty, .string ByteArray.empty, .int .i64 1]) ∧ (w''.cell? ⟨bd, 0, none⟩ = some (.pointer none) ∧ w''.cell? ⟨w.heap.size, 2, none⟩ = some (.int .i64 a)) ∧ Fr [] wa w'') := by
    intro w' f'
    refine (prow_nil w' a).mono ?_
    rintro e w'' ⟨he, hf⟩
    have f2 : Fr [] wa w'' := hf ▸ f'
    have D2 := D0.out.fr0 f2
    have B2 := BO.out.fr0 f2
    exact ⟨he, ⟨D2.cell 0, B2.cell 2⟩, f2⟩
  go_region_held (fun w' => w'.cell? ⟨bd, 0, none⟩ = some (.pointer none) ∧ w'.cell? ⟨w.heap.size, 2, none⟩ = some (.int .i64 a)) (go_keep) ((go_at_call 54; refine (X.out _ ?hf).mono ?_; (case hf => exact (by repeat first | exact Fr.refl _ _ | apply Fr.drew | apply Fr.drewN)); rintro e w1 ⟨rfl, hS, hD⟩; have HF := hide hD; obtain ⟨x0, x1⟩ := hS; clear hD))
  have D1 := hide (D0.out.fr0 HF.out)
  have BO1 := hide (BO.out.fr0 HF.out)
  have F1 := hide (F0.out.then HF.out)
  clear D0 BO F0 HF X k0 k1 k2 k3 j0 j1 j2 j3 j4 j5 x0 x1
  have D0 := D1
  have BO := BO1
  have F0 := F1
  clear D1 BO1 F1
  obtain ⟨k0, k1, k2, k3⟩ := D0.out.four'
  obtain ⟨j0, j1, j2, j3, j4, j5⟩ := BO.out.op
  go_wp2
  have X : Hid (∀ w', Fr [] w1 w' → Calls Tryz.prog 55 #[.pointer none, .int .i64 a] w' fun e w'' => e = .returned (.tuple #[.string ByteArray.empty, .string ByteArray.empty, .int .i64 1]) ∧ (w''.cell? ⟨bd, 1, none⟩ = some (.pointer none) ∧ w''.cell? ⟨w.heap.size, 2, none⟩ = some (.int .i64 a)) ∧ Fr [] w1 w'') := by
    intro w' f'
    refine (drow_nil w' a).mono ?_
    rintro e w'' ⟨he, hf⟩
    have f2 : Fr [] w1 w'' := hf ▸ f'
    have D2 := D0.out.fr0 f2
    have B2 := BO.out.fr0 f2
    exact ⟨he, ⟨D2.cell 1, B2.cell 2⟩, f2⟩
  go_region_held (fun w' => w'.cell? ⟨bd, 1, none⟩ = some (.pointer none) ∧ w'.cell? ⟨w.heap.size, 2, none⟩ = some (.int .i64 a)) (go_keep) ((go_at_call 55; refine (X.out _ ?hf).mono ?_; (case hf => exact (by repeat first | exact Fr.refl _ _ | apply Fr.drew | apply Fr.drewN)); rintro e w2 ⟨rfl, hS, hD⟩; have HF := hide hD; obtain ⟨x0, x1⟩ := hS; clear hD))
  have D1 := hide (D0.out.fr0 HF.out)
  have BO1 := hide (BO.out.fr0 HF.out)
  have F1 := hide (F0.out.then HF.out)
  clear D0 BO F0 HF X k0 k1 k2 k3 j0 j1 j2 j3 j4 j5 x0 x1
  have D0 := D1
  have BO := BO1
  have F0 := F1
  clear D1 BO1 F1
  obtain ⟨k0, k1, k2, k3⟩ := D0.out.four'
  obtain ⟨j0, j1, j2, j3, j4, j5⟩ := BO.out.op
  go_wp2
  go_ret3
  exact ⟨rfl, F0.out⟩

set_option maxHeartbeats 4000000 in
set_option maxRecDepth 100000 in
theorem callnil_10 (n a c : Int) (s : ByteArray) (av : Option Addr) (lv cv : Nat) (w : World) (bd : Nat) (z : Bool) (hd : Blk w bd [.pointer none, .pointer none, .pointer none, .bool z] 76) :
    Calls Tryz.prog 29 #[.pointer (some ⟨bd, 0, none⟩), .agg #[.int .i64 10, .int .i64 n, .int .i64 a, .int .i64 c, .string s, .slice av lv cv]] w fun e w' => e = .returned (.tuple #[.string ByteArray.empty, .int .i64 1, .bool true]) ∧ Fr [] w w' := by
  have HD := hide hd
  have l1 := hd.lt
  obtain ⟨q0, q1, q2, q3⟩ := hd.four'
  clear hd
  go_enter Tryz.func29, Tryz.ntmps29
  go_wp2_with fail
  generalize hwa : w.alloc (.cells #[.int .i64 10, .int .i64 n, .int .i64 a, .int .i64 c, .string s, .slice av lv cv] 32) = wa at *
  have F0 : Hid (Fr [] w wa) := by show Fr _ _ _; rw [← hwa]; exact (Fr.refl _ _).alloc _
  have BO : Hid (Blk wa w.heap.size (opOf 10 n a c s (.slice av lv cv)) 32) := by show Blk _ _ _ _; rw [← hwa]; exact Blk.new _ _ _
  clear hwa q0 q1 q2 q3
  have D0 := hide (HD.out.fr0 F0.out)
  obtain ⟨k0, k1, k2, k3⟩ := D0.out.four'
  obtain ⟨j0, j1, j2, j3, j4, j5⟩ := BO.out.op
  refine (predraw_nil wa).mono ?_
  rintro e w1 ⟨rfl, wc⟩
  subst wc
  go_wp2
  go_ret3
  exact ⟨rfl, F0.out⟩

set_option maxHeartbeats 1000000 in
theorem rows_nil (w : World) (bd : Nat) (z : Bool) (hd : Blk w bd [.pointer none, .pointer none, .pointer none, .bool z] 76) :
    Calls Tryz.prog 56 #[.pointer (some ⟨bd, 0, none⟩)] w fun e w' => e = .returned (.bool true) ∧ w = w' := by
  obtain ⟨q0, q1, q2, q3⟩ := hd.four'
  clear hd
  go_enter Tryz.func56, Tryz.ntmps56
  go_wp2
  go_ret
  exact ⟨rfl, rfl⟩

set_option maxHeartbeats 4000000 in
set_option maxRecDepth 100000 in
theorem callnil_13 (n a c : Int) (s : ByteArray) (av : Option Addr) (lv cv : Nat) (w : World) (bd : Nat) (z : Bool) (hd : Blk w bd [.pointer none, .pointer none, .pointer none, .bool z] 76) :
    Calls Tryz.prog 29 #[.pointer (some ⟨bd, 0, none⟩), .agg #[.int .i64 13, .int .i64 n, .int .i64 a, .int .i64 c, .string s, .slice av lv cv]] w fun e w' => e = .returned (.tuple #[.string ByteArray.empty, .int .i64 0, .bool true]) ∧ Fr [] w w' := by
  have HD := hide hd
  have l1 := hd.lt
  obtain ⟨q0, q1, q2, q3⟩ := hd.four'
  clear hd
  go_enter Tryz.func29, Tryz.ntmps29
  go_wp2_with fail
  generalize hwa : w.alloc (.cells #[.int .i64 13, .int .i64 n, .int .i64 a, .int .i64 c, .string s, .slice av lv cv] 32) = wa at *
  have F0 : Hid (Fr [] w wa) := by show Fr _ _ _; rw [← hwa]; exact (Fr.refl _ _).alloc _
  have BO : Hid (Blk wa w.heap.size (opOf 13 n a c s (.slice av lv cv)) 32) := by show Blk _ _ _ _; rw [← hwa]; exact Blk.new _ _ _
  clear hwa q0 q1 q2 q3
  have D0 := hide (HD.out.fr0 F0.out)
  obtain ⟨k0, k1, k2, k3⟩ := D0.out.four'
  obtain ⟨j0, j1, j2, j3, j4, j5⟩ := BO.out.op
  refine (rows_nil wa bd z D0.out).mono ?_
  rintro e w1 ⟨rfl, wc⟩
  subst wc
  go_wp2
  go_ret3
  exact ⟨rfl, F0.out⟩

set_option maxHeartbeats 4000000 in
set_option maxRecDepth 100000 in
theorem does2_nil (k n a c : Int) (s : ByteArray) (av : Option Addr) (lv cv : Nat) (w : World) (bd : Nat) (z : Bool) (er : Int) (hd : Blk w bd [.pointer none, .pointer none, .pointer none, .bool z] 76) (k12 : (k == 12) = false)
    (HC : ∀ w1, Fr [] w w1 → Calls Tryz.prog 29 #[.pointer (some ⟨bd, 0, none⟩), .agg #[.int .i64 k, .int .i64 n, .int .i64 a, .int .i64 c, .string s, .slice av lv cv]] w1 fun e w' => e = .returned (.tuple #[.string ByteArray.empty, .int .i64 er, .bool true]) ∧ Fr [] w1 w') :
    Calls Tryz.prog 12 #[.pointer (some ⟨bd, 0, none⟩), .agg #[.int .i64 k, .int .i64 n, .int .i64 a, .int .i64 c, .string s, .slice av lv cv], .int .i64 2] w fun e w' => e = .returned (.bool true) ∧ Fr [] w w' := by
  have F0 : Hid (Fr [] w ((w.alloc (.cells #[.int .i64 k, .int .i64 n, .int .i64 a, .int .i64 c, .string s, .slice av lv cv] 32)).alloc (.cells #[.int .i64 0, .int .i64 0, .bool false] 66))) := ((Fr.refl _ _).alloc _).alloc _
  have CL := hide (HC _ F0.out)
  have HD := hide hd
  have l0 := hd.lt
  obtain ⟨q0, q1, q2, q3⟩ := hd.four'
  clear hd HC
  go_enter Tryz.func12, Tryz.ntmps12
  go_wp2_with fail
  refine CL.out.mono ?_
  rintro e w1 ⟨rfl, f1⟩
  have F1 := hide (F0.out.then f1)
  obtain ⟨k0, k1, k2, k3⟩ := (HD.out.fr0 F1.out).four'
  clear f1 CL q0 q1 q2 q3
  go_wp2
  go_ret
  exact ⟨rfl, F1.out⟩

set_option maxHeartbeats 4000000 in
set_option maxRecDepth 100000 in
theorem does4_nil (k n a c : Int) (s : ByteArray) (av : Option Addr) (lv cv : Nat) (w : World) (bd : Nat) (z : Bool) (er : Int) (hd : Blk w bd [.pointer none, .pointer none, .pointer none, .bool z] 76) (k12 : (k == 12) = false)
    (HC : ∀ w1, Fr [] w w1 → Calls Tryz.prog 29 #[.pointer (some ⟨bd, 0, none⟩), .agg #[.int .i64 k, .int .i64 n, .int .i64 a, .int .i64 c, .string s, .slice av lv cv]] w1 fun e w' => e = .returned (.tuple #[.string ByteArray.empty, .int .i64 er, .bool true]) ∧ Fr [] w1 w') :
    Calls Tryz.prog 12 #[.pointer (some ⟨bd, 0, none⟩), .agg #[.int .i64 k, .int .i64 n, .int .i64 a, .int .i64 c, .string s, .slice av lv cv], .int .i64 4] w fun e w' => e = .returned (.bool true) ∧ Fr [] w w' := by
  have F0 : Hid (Fr [] w ((w.alloc (.cells #[.int .i64 k, .int .i64 n, .int .i64 a, .int .i64 c, .string s, .slice av lv cv] 32)).alloc (.cells #[.int .i64 0, .int .i64 0, .bool false] 66))) := ((Fr.refl _ _).alloc _).alloc _
  have CL := hide (HC _ F0.out)
  have HD := hide hd
  have l0 := hd.lt
  obtain ⟨q0, q1, q2, q3⟩ := hd.four'
  clear hd HC
  go_enter Tryz.func12, Tryz.ntmps12
  go_wp2_with fail
  refine CL.out.mono ?_
  rintro e w1 ⟨rfl, f1⟩
  have F1 := hide (F0.out.then f1)
  obtain ⟨k0, k1, k2, k3⟩ := (HD.out.fr0 F1.out).four'
  clear f1 CL q0 q1 q2 q3
  go_wp2
  go_ret
  exact ⟨rfl, F1.out⟩

set_option maxHeartbeats 4000000 in
set_option maxRecDepth 100000 in
theorem does8_nil (k n a c : Int) (s : ByteArray) (av : Option Addr) (lv cv : Nat) (w : World) (bd : Nat) (z : Bool) (er : Int) (hd : Blk w bd [.pointer none, .pointer none, .pointer none, .bool z] 76) (k12 : (k == 12) = false)
    (HC : ∀ w1, Fr [] w w1 → Calls Tryz.prog 29 #[.pointer (some ⟨bd, 0, none⟩), .agg #[.int .i64 k, .int .i64 n, .int .i64 a, .int .i64 c, .string s, .slice av lv cv]] w1 fun e w' => e = .returned (.tuple #[.string ByteArray.empty, .int .i64 er, .bool true]) ∧ Fr [] w1 w') :
    Calls Tryz.prog 12 #[.pointer (some ⟨bd, 0, none⟩), .agg #[.int .i64 k, .int .i64 n, .int .i64 a, .int .i64 c, .string s, .slice av lv cv], .int .i64 8] w fun e w' => e = .returned (.bool true) ∧ Fr [] w w' := by
  have F0 : Hid (Fr [] w ((w.alloc (.cells #[.int .i64 k, .int .i64 n, .int .i64 a, .int .i64 c, .string s, .slice av lv cv] 32)).alloc (.cells #[.int .i64 0, .int .i64 0, .bool false] 66))) := ((Fr.refl _ _).alloc _).alloc _
  have CL := hide (HC _ F0.out)
  have HD := hide hd
  have l0 := hd.lt
  obtain ⟨q0, q1, q2, q3⟩ := hd.four'
  clear hd HC
  go_enter Tryz.func12, Tryz.ntmps12
  go_wp2_with fail
  refine CL.out.mono ?_
  rintro e w1 ⟨rfl, f1⟩
  have F1 := hide (F0.out.then f1)
  obtain ⟨k0, k1, k2, k3⟩ := (HD.out.fr0 F1.out).four'
  clear f1 CL q0 q1 q2 q3
  go_wp2
  go_ret
  exact ⟨rfl, F1.out⟩

set_option maxHeartbeats 4000000 in
set_option maxRecDepth 100000 in
theorem does15_nil (k n a c : Int) (s : ByteArray) (av : Option Addr) (lv cv : Nat) (w : World) (bd : Nat) (z : Bool) (er : Int) (hd : Blk w bd [.pointer none, .pointer none, .pointer none, .bool z] 76) (k12 : (k == 12) = false)
    (HC : ∀ w1, Fr [] w w1 → Calls Tryz.prog 29 #[.pointer (some ⟨bd, 0, none⟩), .agg #[.int .i64 k, .int .i64 n, .int .i64 a, .int .i64 c, .string s, .slice av lv cv]] w1 fun e w' => e = .returned (.tuple #[.string ByteArray.empty, .int .i64 er, .bool true]) ∧ Fr [] w1 w') :
    Calls Tryz.prog 12 #[.pointer (some ⟨bd, 0, none⟩), .agg #[.int .i64 k, .int .i64 n, .int .i64 a, .int .i64 c, .string s, .slice av lv cv], .int .i64 15] w fun e w' => e = .returned (.bool true) ∧ Fr [] w w' := by
  have F0 : Hid (Fr [] w ((w.alloc (.cells #[.int .i64 k, .int .i64 n, .int .i64 a, .int .i64 c, .string s, .slice av lv cv] 32)).alloc (.cells #[.int .i64 0, .int .i64 0, .bool false] 66))) := ((Fr.refl _ _).alloc _).alloc _
  have CL := hide (HC _ F0.out)
  have HD := hide hd
  have l0 := hd.lt
  obtain ⟨q0, q1, q2, q3⟩ := hd.four'
  clear hd HC
  go_enter Tryz.func12, Tryz.ntmps12
  go_wp2_with fail
  refine CL.out.mono ?_
  rintro e w1 ⟨rfl, f1⟩
  have F1 := hide (F0.out.then f1)
  obtain ⟨k0, k1, k2, k3⟩ := (HD.out.fr0 F1.out).four'
  clear f1 CL q0 q1 q2 q3
  go_wp2
  go_ret
  exact ⟨rfl, F1.out⟩

set_option maxHeartbeats 4000000 in
set_option maxRecDepth 100000 in
/-- the terminal is fed something besides -/
theorem noise_live (held n a c : Int) (s : ByteArray) (av : Option Addr) (lv cv : Nat) (w : World) (bd : Nat) (d : Dg) (m : Pt) (r : R) (z : Bool) (h : TriAt w d m m r) (hd : Blk w bd (dkOf d z) 76) (hs : r.begun.size + s.size ≤ 2305843009213693952) :
    Calls Tryz.prog 12 #[.pointer (some ⟨bd, 0, none⟩), .agg #[.int .i64 12, .int .i64 n, .int .i64 a, .int .i64 c, .string s, .slice av lv cv], .int .i64 held] w (NoisePost d m (r.feed (nums s)) bd w) := by
  have H0 := hide (Held.box h hd (opOf 12 n a c s (.slice av lv cv)))
  have X1 : Hid (∀ w', Held w d.foot w' d m m r bd z w.heap.size (opOf 12 n a c s (.slice av lv cv)) → Calls Tryz.prog 17 #[.pointer (some ⟨d.bt, 0, none⟩), .string s] w' fun e w'' => e = .returned (.int .i64 0) ∧ (w''.cell? ⟨bd, 2, none⟩ = some (.pointer (some ⟨d.bt, 0, none⟩)) ∧ w''.cell? ⟨w.heap.size, 4, none⟩ = some (.string s)) ∧ ∃ gt, Held w d.foot w'' { d with gt := gt } m m (r.feed (nums s)) bd z w.heap.size (opOf 12 n a c s (.slice av lv cv))) := by
    intro w' h'
    refine (rfeed_any s w' d.bt d.gt r h'.tm.at'.t hs).mono ?_
    rintro e w'' ⟨he, u⟩
    obtain ⟨gt, h2, _⟩ := h'.ref u
    exact ⟨he, ⟨h2.dk.cell 2, h2.op.cell 4⟩, gt, h2⟩
  have l1 := hd.lt
  obtain ⟨q0, q1, q2, q3⟩ := hd.dk
  clear h hd
  go_enter Tryz.func12, Tryz.ntmps12
  go_wp2
  generalize hwa : w.alloc (.cells #[.int .i64 12, .int .i64 n, .int .i64 a, .int .i64 c, .string s, .slice av lv cv] 32) = wa at *
  have H0' : Hid (Held w d.foot wa d m m r bd z w.heap.size (opOf 12 n a c s (.slice av lv cv))) := by show Held _ _ _ _ _ _ _ _ _ _ _; rw [← hwa]; exact H0.out
  clear hwa H0 q0 q1 q2 q3
  obtain ⟨k0, k1, k2, k3⟩ := H0'.out.dk.dk
  obtain ⟨j0, j1, j2, j3, j4, j5⟩ := H0'.out.op.op
  go_region_held (fun w' => w'.cell? ⟨bd, 2, none⟩ = some (.pointer (some ⟨d.bt, 0, none⟩)) ∧ w'.cell? ⟨w.heap.size, 4, none⟩ = some (.string s)) (go_keep) ((go_at_call 17; refine (X1.out _ ?hf).mono ?_; (case hf => exact H0'.out.fr0 (by repeat first | exact Fr.refl _ _ | apply Fr.drew | apply Fr.drewN)); rintro e w1 ⟨rfl, hS, hD⟩; have HD := hide hD; obtain ⟨x0, x1⟩ := hS; clear hD))
  obtain ⟨gt, H1⟩ := HD.out
  have HA := hide H1
  clear HD H1 H0' X1 k0 k1 k2 k3 j0 j1 j2 j3 j4 j5 x0 x1
  obtain ⟨k0, k1, k2, k3⟩ := HA.out.dk.dk
  have z3 := HA.out.dk.frozen 3
  go_wp2
  go_ret
  exact ⟨rfl, gt, HA.out.tm.flag' bd (HA.out.tm.at'.off HA.out.dk (by decide)) 3 (.bool true), HA.out.dk.set 3 _⟩
set_option maxHeartbeats 1000000 in
theorem noise_nil (held n a c : Int) (s : ByteArray) (av : Option Addr) (lv cv : Nat) (w : World) (bd : Nat) (z : Bool) (hd : Blk w bd [.pointer none, .pointer none, .pointer none, .bool z] 76) :
    Calls Tryz.prog 12 #[.pointer (some ⟨bd, 0, none⟩), .agg #[.int .i64 12, .int .i64 n, .int .i64 a, .int .i64 c, .string s, .slice av lv cv], .int .i64 held] w fun e w' => e = .returned (.bool true) ∧ Fr [] w w' := by
  have l0 := hd.lt
  obtain ⟨q0, q1, q2, q3⟩ := hd.four'
  clear hd
  go_enter Tryz.func12, Tryz.ntmps12
  go_wp2
  go_ret
  exact ⟨rfl, (Fr.refl _ _).alloc _⟩
end Go.Proofs.YtjhccghhinlmdabGreatDoor
/- A step of a script on a desk of nils: Show. -/
namespace Go.Proofs.YtjhccghhinlmdabGreatDoor
open Go.RowKit

set_option maxHeartbeats 4000000 in
set_option maxRecDepth 100000 in
theorem callnil_7 (n a c : Int) (s : ByteArray) (av : Option Addr) (lv cv : Nat) (w : World) (bd : Nat) (z : Bool) (hd : Blk w bd [.pointer none, .pointer none, .pointer none, .bool z] 76) (ws : List Win) (hw : WinsAt w av ws) (hn : ws.length = lv) (hl : lv ≤ 1048576) (hav : ws ≠ [] → ∀ x, av = some x → x.block < w.heap.size) :
    Calls Tryz.prog 29 #[.pointer (some ⟨bd, 0, none⟩), .agg #[.int .i64 7, .int .i64 n, .int .i64 a, .int .i64 c, .string s, .slice av lv cv]] w fun e w' => e = .returned (.tuple #[.string ByteArray.empty, .int .i64 1, .bool true]) ∧ Fr [] w w' := by
  have HD := hide hd
  have l1 := hd.lt
  obtain ⟨q0, q1, q2, q3⟩ := hd.four'
  have HW := hide hw
  have HN := hide hn
  have HAV := hide hav
  clear hw hn hav
  clear hd
  go_enter Tryz.func29, Tryz.ntmps29
  go_wp2_with fail
  generalize hwa : w.alloc (.cells #[.int .i64 7, .int .i64 n, .int .i64 a, .int .i64 c, .string s, .slice av lv cv] 32) = wa at *
  have F0 : Hid (Fr [] w wa) := by show Fr _ _ _; rw [← hwa]; exact (Fr.refl _ _).alloc _
  have BO : Hid (Blk wa w.heap.size (opOf 7 n a c s (.slice av lv cv)) 32) := by show Blk _ _ _ _; rw [← hwa]; exact Blk.new _ _ _
  clear hwa q0 q1 q2 q3
  have D0 := hide (HD.out.fr0 F0.out)
  obtain ⟨k0, k1, k2, k3⟩ := D0.out.four'
  obtain ⟨j0, j1, j2, j3, j4, j5⟩ := BO.out.op
  refine (given_any av ws lv cv wa (HW.out.fr F0.out (by simp)) HN.out hl).mono ?_
  rintro e wb ⟨g, cap, rfl, hown, fb⟩
  rw [HN.out] at hown ⊢
  have HG : Hid (w.heap.size ≤ g) := by
    have h1 := (hown.lt g rfl).1
    have := F0.out.size
    show _ ≤ _; omega
  obtain ⟨hwn, hcap⟩ := own_wins (by simp [HN.out]) hown
  obtain ⟨sp, hbg⟩ : ∃ sp, Blk wb g (flatW (ws ++ [markW, markW]) ++ sp) 104 := own_flat hown
  have FA := fb.alloc (.cells #[.int .i64 a, .int .i64 c] 96)
  have l2 := (BO.out.fr0 fb).lt
  have l3 := (D0.out.fr0 fb).lt
  have F1 := hide (F0.out.then FA)
  have BP := hide (Blk.new wb [.int .i64 a, .int .i64 c] 96)
  have BG := hide (hbg.fr0 ((Fr.refl [] _).alloc (.cells #[.int .i64 a, .int .i64 c] 96)))
  have D1 := hide (D0.out.fr0 FA)
  have BO1 := hide (BO.out.fr0 FA)
  obtain ⟨m0, m1, m2, m3⟩ := (D0.out.fr0 fb).four'
  obtain ⟨i0, i1, i2, i3, i4, i5⟩ := (BO.out.fr0 fb).op
  have hcap2 : lv + 2 ≤ cap := by omega
  clear hown hwn hbg fb FA D0 BO F0 hcap k0 k1 k2 k3 j0 j1 j2 j3 j4 j5
  have D0 := D1
  have BO := BO1
  have F0 := F1
  clear D1 BO1 F1
  go_wp2
  generalize wb.alloc (.cells #[.int .i64 a, .int .i64 c] 96) = wc at *
  generalize wb.heap.size = pb at *
  clear m0 m1 m2 m3 i0 i1 i2 i3 i4 i5 l2 l3
  obtain ⟨k0, k1, k2, k3⟩ := D0.out.four'
  obtain ⟨j0, j1, j2, j3, j4, j5⟩ := BO.out.op
  have p0 : wc.cell? ⟨pb, 0, none⟩ = some (.int .i64 a) := BP.out.cell 0
  have p1 : wc.cell? ⟨pb, 1, none⟩ = some (.int .i64 c) := BP.out.cell 1
  have cp1 : (lv : Int) ≤ cap := by omega
  have cp2 : (lv : Int) ≤ (lv : Int) + 2 := by omega
  have X : Hid (∀ w', Fr [] wc w' → Calls Tryz.prog 46 #[.pointer none, .slice (some ⟨g, 0, none⟩) lv cap, .agg #[.int .i64 a, .int .i64 c]] w' fun e w'' => e = .returned (.tuple #[.string ByteArray.empty, .int .i64 1]) ∧ (w''.cell? ⟨bd, 0, none⟩ = some (.pointer none) ∧ w''.cell? ⟨w.heap.size, 5, none⟩ = some (.slice av lv cv) ∧ w''.cell? ⟨pb, 0, none⟩ = some (.int .i64 a) ∧ w''.cell? ⟨pb, 1, none⟩ = some (.int .i64 c)) ∧ Fr [] wc w'') := by
    intro w' f'
    refine (show_nil w' (some ⟨g, 0, none⟩) lv cap a c).mono ?_
    rintro e w'' ⟨he, hf⟩
    have f2 : Fr [] wc w'' := f'.then hf
    have D2 := D0.out.fr0 f2
    have B2 := BO.out.fr0 f2
    have P2 := BP.out.fr0 f2
    exact ⟨he, ⟨D2.cell 0, B2.cell 5, P2.cell 0, P2.cell 1⟩, f2⟩
  go_region_held (fun w' => w'.cell? ⟨bd, 0, none⟩ = some (.pointer none) ∧ w'.cell? ⟨w.heap.size, 5, none⟩ = some (.slice av lv cv) ∧ w'.cell? ⟨pb, 0, none⟩ = some (.int .i64 a) ∧ w'.cell? ⟨pb, 1, none⟩ = some (.int .i64 c)) (go_keep) ((go_at_call 46; refine (X.out _ ?hf).mono ?_; (case hf => exact (by repeat first | exact Fr.refl _ _ | apply Fr.drew | apply Fr.drewN)); rintro e w1 ⟨rfl, hS, hD⟩; have HF := hide hD; obtain ⟨x0, x1, x2, x3⟩ := hS; clear hD))
  have D1 := hide (D0.out.fr0 HF.out)
  have BO1 := hide (BO.out.fr0 HF.out)
  have F1 := hide (F0.out.then HF.out)
  have BP1 := hide (BP.out.fr0 HF.out)
  have BG1 := hide (BG.out.fr0 HF.out)
  clear D0 BO F0 HF X BP BG p0 p1 k0 k1 k2 k3 j0 j1 j2 j3 j4 j5 x0 x1 x2 x3
  have D0 := D1
  have BO := BO1
  have F0 := F1
  have BP := BP1
  have BG := BG1
  clear D1 BO1 F1 BP1 BG1
  have p0 : w1.cell? ⟨pb, 0, none⟩ = some (.int .i64 a) := BP.out.cell 0
  have p1 : w1.cell? ⟨pb, 1, none⟩ = some (.int .i64 c) := BP.out.cell 1
  obtain ⟨k0, k1, k2, k3⟩ := D0.out.four'
  obtain ⟨j0, j1, j2, j3, j4, j5⟩ := BO.out.op
  go_wp2
  have X : Hid (∀ w', Fr [] w1 w' → Calls Tryz.prog 47 #[.pointer none, .slice av lv cv, .agg #[.int .i64 a, .int .i64 c]] w' fun e w'' => e = .returned (.int .i64 1) ∧ (w''.cell? ⟨bd, 1, none⟩ = some (.pointer none) ∧ w''.cell? ⟨w.heap.size, 5, none⟩ = some (.slice av lv cv) ∧ w''.cell? ⟨pb, 0, none⟩ = some (.int .i64 a) ∧ w''.cell? ⟨pb, 1, none⟩ = some (.int .i64 c)) ∧ Fr [] w1 w'') := by
    intro w' f'
    refine (dshow_nil w' av lv cv a c).mono ?_
    rintro e w'' ⟨he, hf⟩
    have f2 : Fr [] w1 w'' := f'.then hf
    have D2 := D0.out.fr0 f2
    have B2 := BO.out.fr0 f2
    have P2 := BP.out.fr0 f2
    exact ⟨he, ⟨D2.cell 1, B2.cell 5, P2.cell 0, P2.cell 1⟩, f2⟩
  go_region_held (fun w' => w'.cell? ⟨bd, 1, none⟩ = some (.pointer none) ∧ w'.cell? ⟨w.heap.size, 5, none⟩ = some (.slice av lv cv) ∧ w'.cell? ⟨pb, 0, none⟩ = some (.int .i64 a) ∧ w'.cell? ⟨pb, 1, none⟩ = some (.int .i64 c)) (go_keep) ((go_at_call 47; refine (X.out _ ?hf).mono ?_; (case hf => exact (by repeat first | exact Fr.refl _ _ | apply Fr.drew | apply Fr.drewN)); rintro e w2 ⟨rfl, hS, hD⟩; have HF := hide hD; obtain ⟨x0, x1, x2, x3⟩ := hS; clear hD))
  have D1 := hide (D0.out.fr0 HF.out)
  have BO1 := hide (BO.out.fr0 HF.out)
  have F1 := hide (F0.out.then HF.out)
  have BP1 := hide (BP.out.fr0 HF.out)
  have BG1 := hide (BG.out.fr0 HF.out)
  clear D0 BO F0 HF X BP BG p0 p1 k0 k1 k2 k3 j0 j1 j2 j3 j4 j5 x0 x1 x2 x3
  have D0 := D1
  have BO := BO1
  have F0 := F1
  have BP := BP1
  have BG := BG1
  clear D1 BO1 F1 BP1 BG1
  have p0 : w2.cell? ⟨pb, 0, none⟩ = some (.int .i64 a) := BP.out.cell 0
  have p1 : w2.cell? ⟨pb, 1, none⟩ = some (.int .i64 c) := BP.out.cell 1
  obtain ⟨k0, k1, k2, k3⟩ := D0.out.four'
  obtain ⟨j0, j1, j2, j3, j4, j5⟩ := BO.out.op
  have UT := hide (untouched_any av ws lv cv g cap sp w2 (HW.out.fr F0.out (by simp)) HN.out hl BG.out (fun hz x hx hg => by have := HAV.out hz x hx; have := HG.out; omega))
  go_wp2_with fail
  refine UT.out.mono ?_
  rintro e w3 ⟨rfl, f3⟩
  have F3 : Hid (Fr [] w w3) := F0.out.trans f3 (by simp) (by intro i hi; simp at hi; subst hi; exact .inr HG.out)
  clear f3 UT
  go_wp2
  go_ret3
  exact ⟨rfl, F3.out⟩
end Go.Proofs.YtjhccghhinlmdabGreatDoor
/- A desk as a script keeps it: three nils, or the three. -/
namespace Go.Proofs.YtjhccghhinlmdabGreatDoor
open Go.RowKit

structure Ds where
  bd : Nat
  o : Option (Dg × Pt × R)
  z : Bool
def Ds.foot (q : Ds) : List Nat := q.bd :: (match q.o with | none => [] | some p => p.1.foot)
def Ds.At (w : World) (q : Ds) : Prop :=
  match q.o with
  | none => Blk w q.bd [.pointer none, .pointer none, .pointer none, .bool q.z] 76
  | some p => Blk w q.bd (dkOf p.1 q.z) 76 ∧ TriAt w p.1 p.2.1 p.2.1 p.2.2 ∧ DInv p.2.1 p.2.2 q.z
def Ds.beg (q : Ds) : Nat := match q.o with | none => 0 | some p => p.2.2.begun.size
theorem Ds.At.blk {w : World} {q : Ds} (h : q.At w) : ∃ us, Blk w q.bd us 76 := by
  obtain ⟨bd, o, z⟩ := q
  cases o with
  | none => exact ⟨_, h⟩
  | some p => exact ⟨_, h.1⟩
theorem Ds.At.fr {w w' : World} {S : List Nat} {q : Ds} (h : q.At w) (f : Fr S w w') (hs : ∀ x ∈ q.foot, x ∉ S) : q.At w' := by
  obtain ⟨bd, o, z⟩ := q
  cases o with
  | none => exact Blk.fr h f (hs _ (by simp [Ds.foot]))
  | some p => exact ⟨h.1.fr f (hs _ (by simp [Ds.foot])), h.2.1.fr f (fun y hy => hs y (by simp [Ds.foot, hy])), h.2.2⟩
theorem Ds.At.fr0 {w w' : World} {q : Ds} (h : q.At w) (f : Fr [] w w') : q.At w' := h.fr f (by simp)
theorem Ds.At.lt {w : World} {q : Ds} (h : q.At w) : ∀ x ∈ q.foot, x < w.heap.size := by
  obtain ⟨bd, o, z⟩ := q
  intro x hx
  cases o with
  | none =>
    simp [Ds.foot] at hx; subst hx; exact Blk.lt h
  | some p =>
    simp only [Ds.foot, List.mem_cons] at hx
    rcases hx with rfl | hx
    · exact h.1.lt
    · exact h.2.1.lt x hx
/-- what a step leaves of a desk -/
def DsUpd (q : Ds) (n : Nat) (w w' : World) : Prop := ∃ q' : Ds, q'.bd = q.bd ∧ q'.At w' ∧ Fr q.foot w w' ∧ (∀ x ∈ q'.foot, x ∈ q.foot ∨ w.heap.size ≤ x) ∧ q'.beg ≤ q.beg + n
theorem DsUpd.same {q : Ds} {n : Nat} {w w' : World} (h : q.At w) (f : Fr [] w w') : DsUpd q n w w' := ⟨q, rfl, h.fr0 f, f.of_nil, fun _ hx => .inl hx, Nat.le_add_right _ _⟩
theorem DsUpd.ahead {q : Ds} {n : Nat} {w w1 w2 : World} (f : Fr [] w w1) (u : DsUpd q n w1 w2) : DsUpd q n w w2 := by
  obtain ⟨q', e, a, g, s, b⟩ := u
  exact ⟨q', e, a, f.of_nil.then g, fun x hx => (s x hx).imp id (Nat.le_trans f.size), b⟩
theorem DsUpd.of {bd : Nat} {d : Dg} {m m' : Pt} {r r' : R} {z z' : Bool} {n : Nat} {w w' : World} {gx : PGh} {gp : DGh} {gt : RGh} (t : TM w (bd :: d.foot) w' { d with gx := gx, gp := gp, gt := gt } m' m' r') (hd : Blk w' bd (dkOf d z') 76) (hi : DInv m' r' z') (hb : r'.begun.size ≤ r.begun.size + n) : DsUpd ⟨bd, some (d, m, r), z⟩ n w w' := by
  refine ⟨⟨bd, some ({ d with gx := gx, gp := gp, gt := gt }, m', r'), z'⟩, rfl, ⟨hd, t.at', hi⟩, t.f, ?_, hb⟩
  intro x hx
  simp only [Ds.foot, List.mem_cons] at hx
  rcases hx with rfl | hx
  · exact .inl (by simp [Ds.foot])
  · exact t.s x hx
theorem turn_begun (r : R) (a c : Int) : (r.turn a c).begun = r.begun := rfl
/-- a step's windows, as they lie while it goes on -/
structure OpWins (w : World) (base : Nat) (av : Option Addr) (ws : List Win) (lv : Nat) : Prop where
  at' : WinsAt w av ws
  n : ws.length = lv
  l : lv ≤ 1048576
  sz : ∀ o ∈ ws, o.text.size ≤ 9223372036854775807
  lo : ws ≠ [] → ∀ x, av = some x → x.block < base
theorem OpWins.fr0 {w w' : World} {base : Nat} {av : Option Addr} {ws : List Win} {lv : Nat} (h : OpWins w base av ws lv) (f : Fr [] w w') : OpWins w' base av ws lv := ⟨h.at'.fr f (by simp), h.n, h.l, h.sz, h.lo⟩
end Go.Proofs.YtjhccghhinlmdabGreatDoor
/- A script as it comes in: its steps by their index, each with its windows. -/
namespace Go.Proofs.YtjhccghhinlmdabGreatDoor.feeds
open Go.ChangeShapes Go.WideShapes Go.ChangeAt Go.RowKit Go.Deep

theorem all_mem {H : Type} : ∀ {l : List (DataW H)} {d : DataW H}, d ∈ l → Rows.uptoBulk d ≤ Rows.uptoBulkAll l
  | [], _, h => by cases h
  | x :: l, d, h => by
    simp only [Rows.uptoBulkAll]
    rcases List.mem_cons.1 h with rfl | h
    · omega
    · have := all_mem h; omega
theorem all_len {H : Type} : ∀ l : List (DataW H), l.length ≤ Rows.uptoBulkAll l
  | [] => by simp
  | x :: l => by
    have := all_len l
    have := bulk_pos x
    simp only [Rows.uptoBulkAll, List.length_cons]
    omega
theorem win_bulk {H : Type} (o : Win) : o.text.size ≤ Rows.uptoBulk (Win.datum (H := H) o) := by
  simp only [Win.datum, Rows.uptoBulk, Rows.uptoBulkAll, Array.length_toList]
  have : o.text.data.size = o.text.size := rfl
  omega
theorem wins_bulk {H : Type} {d : DataW H} {ws : List Win} (h : (d = .nil ∧ ws = []) ∨ ∃ spare, d = .slice (ws.map Win.datum) spare) : ws.length ≤ Rows.uptoBulk d ∧ ∀ o ∈ ws, o.text.size ≤ Rows.uptoBulk d := by
  rcases h with ⟨_, rfl⟩ | ⟨spare, rfl⟩
  · simp
  · simp only [Rows.uptoBulk]
    refine ⟨?_, fun o ho => ?_⟩
    · have := all_len (ws.map (Win.datum (H := H)))
      rw [List.length_map] at this
      omega
    · have := all_mem (H := H) (List.mem_map.2 ⟨o, ho, rfl⟩ : Win.datum o ∈ ws.map Win.datum)
      have := win_bulk (H := H) o
      omega
/-- one step: its six cells, and its windows -/
theorem op_open {H : Type} {enc : TypeId × Value → H} {w : World} {fuel : Nat} {cs : List Value} {y : DataW H × List MemPlace} (h : DataW.trod enc Tryz.prog w 0 (fun _ => true) true fuel 32 cs = some y) :
    ∃ (k n a c : Int) (s : ByteArray) (av : Option Addr) (lv cv : Nat) (ws : List Win), cs = [.int .i64 k, .int .i64 n, .int .i64 a, .int .i64 c, .string s, .slice av lv cv] ∧ (Lit.int .i64 n).wf = true ∧ s.size + 1 ≤ Rows.uptoBulk y.1 ∧ WinsAt w av ws ∧ ws.length = lv ∧ ws.length ≤ Rows.uptoBulk y.1 ∧ ∀ o ∈ ws, o.text.size ≤ Rows.uptoBulk y.1 := by
  obtain ⟨xs, m, rfl, hy, hl, hxl, hf⟩ := DataW.trod_struct Tryz.underlying32 h
  rw [cells_op] at hl
  obtain ⟨c0, c1, c2, c3, c4, c5, rfl⟩ := six cs hl
  obtain ⟨y0, y1, y2, y3, y4, y5, rfl⟩ := six xs hxl
  have g0 := hf 0 _ rfl
  have g1 := hf 1 _ rfl
  have g2 := hf 2 _ rfl
  have g3 := hf 3 _ rfl
  have g4 := hf 4 _ rfl
  have g5 := hf 5 _ rfl
  simp [cells_int, cells_str, cells_win] at g0 g1 g2 g3 g4 g5
  obtain ⟨k, e0, _, _⟩ := DataW.trod_int Tryz.underlying3 g0
  obtain ⟨n, e1, _, w1⟩ := DataW.trod_int Tryz.underlying3 g1
  obtain ⟨a, e2, _, _⟩ := DataW.trod_int Tryz.underlying3 g2
  obtain ⟨c, e3, _, _⟩ := DataW.trod_int Tryz.underlying3 g3
  obtain ⟨s, e4, z4, _⟩ := DataW.trod_string Tryz.underlying9 g4
  obtain ⟨av, lv, cv, e5⟩ := slice_of Tryz.underlying30 g5
  simp only [List.cons.injEq, and_true] at e0 e1 e2 e3 e4 e5
  subst e0 e1 e2 e3 e4 e5
  obtain ⟨ws, hn, hat, _, _, hd⟩ := wins_open g5
  obtain ⟨b1, b2⟩ := wins_bulk hd
  refine ⟨k, n, a, c, s, av, lv, cv, ws, rfl, w1, ?_, hat, hn, ?_, fun o ho => ?_⟩
  · rw [hy, z4]
    simp only [List.map_cons, List.map_nil, Rows.uptoBulk, Rows.uptoBulkAll, Array.length_toList]
    have : s.data.size = s.size := rfl
    omega
  · rw [hy]
    simp only [List.map_cons, List.map_nil, Rows.uptoBulk, Rows.uptoBulkAll]
    omega
  · have := b2 o ho
    rw [hy]
    simp only [List.map_cons, List.map_nil, Rows.uptoBulk, Rows.uptoBulkAll]
    omega
theorem wins_lo {w : World} {av : Option Addr} {ws : List Win} (h : WinsAt w av ws) : ws ≠ [] → ∀ x, av = some x → x.block < w.heap.size := by
  intro hne x hx
  obtain ⟨o, ho⟩ : ∃ o, ws[0]? = some o := ⟨_, List.getElem?_eq_getElem (List.length_pos_iff.2 hne)⟩
  obtain ⟨b, off, e, c⟩ := h 0 o ho
  rw [hx] at e
  simp at e
  subst e
  exact World.block_lt_of_cell? w _ c.1
/-- a whole script: its steps lie one behind the other, each with its windows -/
theorem script_open {H : Type} {enc : TypeId × Value → H} {W : World} {fuel : Nat} {a : Addr} {len m : Nat} {D : Nat → DataW H} {Pl : Nat → List MemPlace} (hz : len ≠ 0) (hm : len ≤ m) (hel : ∀ i, i < len → Rows.uptoBulk (D i) ≤ 1048576)
    (hcell : ∀ i, i < m → ∃ cs, W.cells? 0 (a.add (i * 6)) 6 = some cs ∧ DataW.trod enc Tryz.prog W 0 (fun _ => true) true fuel 32 cs = some (D i, Pl i)) :
    ∃ (gb off : Nat) (K N A C : Nat → Int) (Sx : Nat → ByteArray) (V : Nat → Option Addr × Nat × Nat) (Ws : Nat → List Win), a = ⟨gb, off, none⟩ ∧ OpsAt W gb off len K N A C Sx V ∧ ∀ i, i < len → OpWins W W.heap.size (V i).1 (Ws i) (V i).2.1 := by
  have each : ∀ i, i < len → ∃ q : Int × Int × Int × Int × ByteArray × (Option Addr × Nat × Nat) × List Win, W.cells? 0 (a.add (i * 6)) 6 = some [.int .i64 q.1, .int .i64 q.2.1, .int .i64 q.2.2.1, .int .i64 q.2.2.2.1, .string q.2.2.2.2.1, .slice q.2.2.2.2.2.1.1 q.2.2.2.2.2.1.2.1 q.2.2.2.2.2.1.2.2] ∧ (Lit.int .i64 q.2.1).wf = true ∧ q.2.2.2.2.1.size ≤ 1048576 ∧ OpWins W W.heap.size q.2.2.2.2.2.1.1 q.2.2.2.2.2.2 q.2.2.2.2.2.1.2.1 := by
    intro i hi
    obtain ⟨cs', h1, h2⟩ := hcell i (by omega)
    obtain ⟨k, n', a', c, s, av, lv, cv, ws, rfl, hwf, hbs, hat, hn, hb1, hb2⟩ := op_open h2
    have hb := hel i hi
    exact ⟨(k, n', a', c, s, (av, lv, cv), ws), h1, hwf, by simp only [] at hbs ⊢; omega, ⟨hat, hn, by simp only [] at hb1 ⊢; omega, fun o ho => by have := hb2 o ho; simp only [] at this; omega, wins_lo hat⟩⟩
  obtain ⟨q, hq⟩ := choose_lt each
  obtain ⟨gb, off, spot⟩ := a
  have hspot : spot = none := by
    obtain ⟨_, _, hc⟩ := World.cells?_some (hq 0 (by omega)).1
    have := hc 0 (by omega)
    simpa [Addr.add] using World.cell?_spot this
  subst hspot
  refine ⟨gb, off, fun i => (q i).1, fun i => (q i).2.1, fun i => (q i).2.2.1, fun i => (q i).2.2.2.1, fun i => (q i).2.2.2.2.1, fun i => (q i).2.2.2.2.2.1, fun i => (q i).2.2.2.2.2.2, rfl, ⟨fun i hi => ?_, fun i hi => ?_, fun i hi => (hq i hi).2.2.1⟩, fun i hi => (hq i hi).2.2.2⟩
  · obtain ⟨_, _, hc⟩ := World.cells?_some (hq i hi).1
    have hadd : ∀ x, (⟨gb, off, none⟩ : Addr).add x = ⟨gb, off + x, none⟩ := fun x => by unfold Addr.add; split <;> simp_all
    have c0 := hc 0 (by omega)
    have c1 := hc 1 (by omega)
    have c2 := hc 2 (by omega)
    have c3 := hc 3 (by omega)
    have c4 := hc 4 (by omega)
    have c5 := hc 5 (by omega)
    rw [add_add, hadd] at c0 c1 c2 c3 c4 c5
    exact ⟨by simpa using c0, by simpa [Nat.add_assoc] using c1, by simpa [Nat.add_assoc] using c2, by simpa [Nat.add_assoc] using c3, by simpa [Nat.add_assoc] using c4, by simpa [Nat.add_assoc] using c5⟩
  · have := (hq i hi).2.1
    simpa [Lit.wf, IntKind.min, IntKind.max, IntKind.signed, IntKind.bits] using this
end Go.Proofs.YtjhccghhinlmdabGreatDoor.feeds
/- A desk is opened. -/
namespace Go.Proofs.YtjhccghhinlmdabGreatDoor
open Go.RowKit

/-- a new desk has been handed back -/
def OpenedPost (w : World) (e : Ending) (w' : World) : Prop :=
  ∃ q : Ds, e = .returned (.tuple #[.pointer (some ⟨q.bd, 0, none⟩), .bool true]) ∧ q.At w' ∧ (∀ x ∈ q.foot, w.heap.size ≤ x) ∧ Fr [] w w' ∧ q.beg = 0
set_option maxHeartbeats 4000000 in
set_option maxRecDepth 100000 in
theorem openD_no (a c : Int) (w : World) (hz : sizeB a c = false) :
    Calls Tryz.prog 11 #[.int .i64 a, .int .i64 c] w (OpenedPost w) := by
  have HZ := hide hz
  clear hz
  go_enter Tryz.func11, Tryz.ntmps11
  go_wp2_with fail
  refine (newPainter_no a c w HZ.out).mono ?_
  rintro e w1 ⟨rfl, wc⟩
  subst wc
  go_wp2_with fail
  refine (newPaint_no a c w HZ.out).mono ?_
  rintro e w1 ⟨rfl, wc⟩
  subst wc
  go_wp2_with fail
  refine (newTerm_no a c w HZ.out).mono ?_
  rintro e w1 ⟨rfl, wc⟩
  subst wc
  go_wp2
  go_ret2
  exact ⟨⟨w.heap.size, none, false⟩, rfl, Blk.new _ _ _, by simp [Ds.foot], (Fr.refl _ _).alloc _, rfl⟩
set_option maxHeartbeats 4000000 in
set_option maxRecDepth 100000 in
theorem openD_yes (a c : Int) (w : World) (h1 : 1 ≤ a) (h2 : a ≤ 40) (h3 : 1 ≤ c) (h4 : c ≤ 20) :
    Calls Tryz.prog 11 #[.int .i64 a, .int .i64 c] w (OpenedPost w) := by
  go_enter Tryz.func11, Tryz.ntmps11
  go_wp2_with fail
  refine (newPainter_yes a c w h1 h2 h3 h4).mono ?_
  rintro e w1 ⟨bx, gx, rfl, n1, f1, p1⟩
  have N1 := hide n1
  have F1 := hide f1
  have P1 := hide p1
  clear n1 f1 p1
  go_wp2_with fail
  refine (newPaint_yes a c w1 h1 h2 h3 h4).mono ?_
  rintro e w2 ⟨bp, gp, rfl, n2, f2, p2⟩
  have N2 : Hid (∀ x ∈ dfoot bp gp, w.heap.size ≤ x) := fun x hx => Nat.le_trans F1.out.size (n2 x hx)
  have F2 := hide (F1.out.then f2)
  have P2 := hide (PntRaw.fr0 P1.out f2)
  have D2 := hide p2
  clear n2 f2 p2 P1
  go_wp2_with fail
  refine (newTerm_yes a c w2 h1 h2 h3 h4).mono ?_
  rintro e w3 ⟨bt, gt, rfl, n3, f3, t3⟩
  have N3 : Hid (∀ x ∈ rfoot bt gt, w.heap.size ≤ x) := fun x hx => Nat.le_trans F2.out.size (n3 x hx)
  have F3 := hide (F2.out.then f3)
  have T3 : Hid (TriAt w3 ⟨bx, gx, bp, gp, bt, gt⟩ ⟨a, c, [], 0, 0⟩ ⟨a, c, [], 0, 0⟩ (R.new a c)) := ⟨PntRaw.fr0 P2.out f3, D2.out.fr0 f3, t3⟩
  clear n3 f3 t3 P2 D2
  go_wp2
  go_ret2
  refine ⟨⟨w3.heap.size, some (⟨bx, gx, bp, gp, bt, gt⟩, ⟨a, c, [], 0, 0⟩, R.new a c), false⟩, rfl, ⟨Blk.new _ _ _, T3.out.fr0 ((Fr.refl _ _).alloc _), DInv.new a c h1 h2 h3 h4⟩, ?_, F3.out.alloc _, rfl⟩
  intro x hx
  simp only [Ds.foot, Dg.foot, List.mem_cons, List.mem_append] at hx
  rcases hx with rfl | hx | hx | hx
  · exact F3.out.size
  · exact N1.out x hx
  · exact N2.out x hx
  · exact N3.out x hx
theorem openD_any (a c : Int) (w : World) : Calls Tryz.prog 11 #[.int .i64 a, .int .i64 c] w (OpenedPost w) := by
  by_cases hz : sizeB a c = true
  · have hz' : 1 ≤ a ∧ a ≤ 40 ∧ 1 ≤ c ∧ c ≤ 20 := by simp [sizeB] at hz; omega
    exact openD_yes a c w hz'.1 hz'.2.1 hz'.2.2.1 hz'.2.2.2
  · exact openD_no a c w (by simpa using hz)
end Go.Proofs.YtjhccghhinlmdabGreatDoor
/- What a script has made of painters: a list of pointers to desks; a step of painters. -/
namespace Go.Proofs.YtjhccghhinlmdabGreatDoor
open Go.RowKit

theorem info_desk : (Tryz.prog.info? 45).map (fun i => (i.zero, i.size, i.bytes)) = some (some (.pointer none), 1, 8) := by kernel_rfl
def Ds.ptr (q : Ds) : Value := .pointer (some ⟨q.bd, 0, none⟩)
def dsfoot (dv : Value) (ds : List Ds) : List Nat := dv.ownBlock.toList ++ ds.flatMap Ds.foot
/-- all desks lie here: the game at block bG, its list of terminals whatever it is -/
structure DGame (base : Nat) (w : World) (bG : Nat) (tv dv : Value) (ds : List Ds) (n : Nat) : Prop where
  st : Blk w bG [tv, dv] 29
  row : w.ownsRow base 45 1 dv ds.length (ds.map Ds.ptr)
  at' : ∀ (k : Nat) q, ds[k]? = some q → q.At w
  ap : ∀ (i j : Nat) a b, ds[i]? = some a → ds[j]? = some b → i ≠ j → ∀ x ∈ a.foot, x ∉ b.foot
  ge : ∀ (k : Nat) q, ds[k]? = some q → ∀ x ∈ q.foot, base ≤ x
  bg : base ≤ bG
  be : ∀ (k : Nat) q, ds[k]? = some q → q.beg ≤ n
theorem DGame.fr0 {base : Nat} {w w' : World} {bG : Nat} {tv dv : Value} {ds : List Ds} {n : Nat} (h : DGame base w bG tv dv ds n) (f : Fr [] w w') : DGame base w' bG tv dv ds n :=
  ⟨h.st.fr0 f, own_fr0 h.row f, fun k q e => (h.at' k q e).fr0 f, h.ap, h.ge, h.bg, h.be⟩
theorem DGame.mono {base : Nat} {w : World} {bG : Nat} {tv dv : Value} {ds : List Ds} {n m : Nat} (h : DGame base w bG tv dv ds n) (hm : n ≤ m) : DGame base w bG tv dv ds m :=
  ⟨h.st, h.row, h.at', h.ap, h.ge, h.bg, fun k q e => Nat.le_trans (h.be k q e) hm⟩
def deskTy : List TypeId := 76 :: triTy
theorem Ds.At.typed {w : World} {q : Ds} (h : q.At w) : ∀ x ∈ q.foot, ∃ us ty, Blk w x us ty ∧ ty ∈ deskTy := by
  obtain ⟨bd, o, z⟩ := q
  intro x hx
  cases o with
  | none =>
    simp [Ds.foot] at hx; subst hx; exact ⟨_, _, h, by simp [deskTy]⟩
  | some p =>
    simp only [Ds.foot, List.mem_cons] at hx
    rcases hx with rfl | hx
    · exact ⟨_, _, h.1, by simp [deskTy]⟩
    · obtain ⟨us, ty, k, hk⟩ := h.2.1.typed x hx
      exact ⟨us, ty, k, List.mem_cons_of_mem _ hk⟩
theorem Ds.At.off {w : World} {q : Ds} (h : q.At w) {c : Nat} {us : List Value} {ty : TypeId} (hb : Blk w c us ty) (ht : ty ∉ deskTy) : c ∉ q.foot := by
  intro hc
  obtain ⟨vs, tz, k, hk⟩ := h.typed c hc
  exact ht (blk_ty hb k ▸ hk)
theorem DGame.low {base : Nat} {w : World} {bG : Nat} {tv dv : Value} {ds : List Ds} {n : Nat} (h : DGame base w bG tv dv ds n) : ∀ x ∈ bG :: dsfoot dv ds, base ≤ x := by
  intro x hx
  rcases List.mem_cons.1 hx with rfl | hx
  · exact h.bg
  · rcases List.mem_append.1 hx with hx | hx
    · exact (h.row.lt x (by simpa using hx)).1
    · obtain ⟨y, hy, hxy⟩ := List.mem_flatMap.1 hx
      obtain ⟨i, hi⟩ := List.getElem?_of_mem hy
      exact h.ge i y hi x hxy
/-- what a step of painters leaves -/
def DGUpd (base bG : Nat) (tv dv : Value) (ds : List Ds) (n : Nat) (w w' : World) : Prop :=
  ∃ dv' ds' S, DGame base w' bG tv dv' ds' n ∧ ds'.length ≤ ds.length + 1 ∧ Fr S w w' ∧ (∀ x ∈ S, x ∈ bG :: dsfoot dv ds) ∧ ∀ x ∈ dsfoot dv' ds', x ∈ dsfoot dv ds ∨ w.heap.size ≤ x
theorem DGUpd.same {base bG n : Nat} {tv dv : Value} {ds : List Ds} {w w' : World} (h : DGame base w bG tv dv ds n) (f : Fr [] w w') : DGUpd base bG tv dv ds n w w' :=
  ⟨dv, ds, [], h.fr0 f, by omega, f, by simp, fun _ hx => .inl hx⟩
theorem DGUpd.ahead {base bG n : Nat} {tv dv : Value} {ds : List Ds} {w w1 w2 : World} (f : Fr [] w w1) (u : DGUpd base bG tv dv ds n w1 w2) : DGUpd base bG tv dv ds n w w2 := by
  obtain ⟨dv', ds', S, g, l, f2, s, t⟩ := u
  exact ⟨dv', ds', S, g, l, f.of_nil.then f2, s, fun x hx => (t x hx).imp id (Nat.le_trans f.size)⟩
theorem ptr_set (ds : List Ds) : ∀ (k : Nat) (q q' : Ds), ds[k]? = some q → q'.bd = q.bd → (ds.set k q').map Ds.ptr = ds.map Ds.ptr := by
  intro k q q' h e
  apply List.ext_getElem?
  intro i
  rw [List.getElem?_map, List.getElem?_map]
  by_cases hi : i = k
  · subst hi
    rw [List.getElem?_set_self (List.getElem?_eq_some_iff.1 h).1, h]
    simp [Ds.ptr, e]
  · rw [List.getElem?_set_ne (fun x => hi x.symm)]
/-- one desk has turned -/
theorem DGUpd.at {base bG n q : Nat} {tv dv : Value} {ds : List Ds} {w w' : World} {k : Nat} {o : Ds} (h : DGame base w bG tv dv ds n) (hk : ds[k]? = some o) (hB : base ≤ w.heap.size) (u : DsUpd o q w w') : DGUpd base bG tv dv ds (n + q) w w' := by
  obtain ⟨o', e1, a, f, s, hb⟩ := u
  have hst : bG ∉ o.foot := (h.at' k o hk).off h.st (by decide)
  have hlt : k < ds.length := (List.getElem?_eq_some_iff.1 hk).1
  have get : ∀ (i : Nat) x, (ds.set k o')[i]? = some x → (i = k ∧ x = o') ∨ (i ≠ k ∧ ds[i]? = some x) := by
    intro i x hx
    by_cases e : i = k
    · subst e; rw [List.getElem?_set_self hlt] at hx; simp at hx; exact .inl ⟨rfl, hx.symm⟩
    · rw [List.getElem?_set_ne (fun q => e q.symm)] at hx; exact .inr ⟨e, hx⟩
  have inF : ∀ {i : Nat} {x : Ds}, ds[i]? = some x → ∀ y ∈ x.foot, y ∈ dsfoot dv ds := by
    intro i x hx y hy
    exact List.mem_append.2 (.inr (List.mem_flatMap.2 ⟨x, List.mem_of_getElem? hx, hy⟩))
  refine ⟨dv, ds.set k o', o.foot, ⟨h.st.fr f hst, ?_, ?_, ?_, ?_, h.bg, ?_⟩, by simp, f, fun x hx => List.mem_cons_of_mem _ (inF hk x hx), ?_⟩
  · rw [ptr_set ds k o o' hk e1, List.length_set]
    refine own_fr h.row f (fun b hb he => ?_)
    obtain ⟨us, hu⟩ := own_blk h.row he.symm
    exact (h.at' k o hk).off hu (by decide) hb
  · intro i x hx
    rcases get i x hx with ⟨rfl, rfl⟩ | ⟨hne, hx⟩
    · exact a
    · exact (h.at' i x hx).fr f (h.ap i k x o hx hk hne)
  · intro i j x y hx hy hij z hz hz2
    have lt : ∀ {i : Nat} {x : Ds}, ds[i]? = some x → ∀ z ∈ x.foot, z < w.heap.size := fun e => (h.at' _ _ e).lt
    rcases get i x hx with ⟨rfl, rfl⟩ | ⟨hne, hxx⟩
    · rcases get j y hy with ⟨rfl, rfl⟩ | ⟨hne2, hy⟩
      · exact hij rfl
      · rcases s z hz with hh | hh
        · exact h.ap i j o y hk hy hij z hh hz2
        · have := lt hy z hz2; omega
    · rcases get j y hy with ⟨rfl, rfl⟩ | ⟨hne2, hy⟩
      · rcases s z hz2 with hh | hh
        · exact h.ap i j x o hxx hk hij z hz hh
        · have := lt hxx z hz; omega
      · exact h.ap i j x y hxx hy hij z hz hz2
  · intro i x hx z hz
    rcases get i x hx with ⟨rfl, rfl⟩ | ⟨hne, hx⟩
    · rcases s z hz with hh | hh
      · exact h.ge i o hk z hh
      · omega
    · exact h.ge i x hx z hz
  · intro i x hx
    rcases get i x hx with ⟨rfl, rfl⟩ | ⟨hne, hx⟩
    · have := h.be i o hk; omega
    · have := h.be i x hx; omega
  · intro x hx
    rcases List.mem_append.1 hx with hx | hx
    · exact .inl (List.mem_append.2 (.inl hx))
    · obtain ⟨y, hy, hxy⟩ := List.mem_flatMap.1 hx
      obtain ⟨i, hi⟩ := List.getElem?_of_mem hy
      rcases get i y hi with ⟨rfl, rfl⟩ | ⟨hne, hi⟩
      · rcases s x hxy with hh | hh
        · exact .inl (inF hk x hh)
        · exact .inr hh
      · exact .inl (inF hi x hxy)
/-- a desk more -/
theorem DGUpd.more {base bG n : Nat} {tv dv dv' : Value} {ds : List Ds} {q : Ds} {w w2 w3 : World} {ob : Obj} (h : DGame base w bG tv dv ds n) (hB : base ≤ w.heap.size) (F2 : Fr [] w w2) (ho : q.At w2) (hn : ∀ x ∈ q.foot, w.heap.size ≤ x) (hb : q.beg = 0)
    (hown : w3.ownsRow base 45 1 dv' (ds.length + 1) (ds.map Ds.ptr ++ [q.ptr])) (hg : (w2.alloc ob).grownBy w3 dv.ownBlock) (hat : ∀ g, dv'.ownBlock = some g → dv.ownBlock = some g ∨ w.heap.size ≤ g) :
    Blk w3 bG [tv, dv] 29 ∧ DGUpd base bG tv dv ds n w (w3.setCell ⟨bG, 1, none⟩ dv') := by
  have g2 := h.fr0 F2
  have st3 : Blk w3 bG [tv, dv] 29 := (g2.st.alloc ob).grown hg (own_ne g2.row g2.st (by decide))
  have f3 : Fr (bG :: dv.ownBlock.toList) w2 (w3.setCell ⟨bG, 1, none⟩ dv') := (Fr.grown ((Fr.refl _ _).alloc ob) hg (fun k hk => .inl (by simp [hk]))).setCell (by simp) dv'
  have offR : ∀ {x : Ds}, x.At w2 → ∀ y ∈ x.foot, y ∉ bG :: dv.ownBlock.toList := by
    intro x hx y hy hm
    simp only [List.mem_cons, Option.mem_toList] at hm
    rcases hm with rfl | hm
    · exact hx.off g2.st (by decide) hy
    · obtain ⟨us, hu⟩ := own_blk g2.row hm
      exact hx.off hu (by decide) hy
  have get : ∀ (i : Nat) x, (ds ++ [q])[i]? = some x → (i = ds.length ∧ x = q) ∨ (i < ds.length ∧ ds[i]? = some x) := by
    intro i x hx
    rcases Nat.lt_or_ge i ds.length with e | e
    · rw [List.getElem?_append_left e] at hx; exact .inr ⟨e, hx⟩
    · rw [List.getElem?_append_right e] at hx
      have : i - ds.length = 0 := by
        rcases Nat.eq_zero_or_pos (i - ds.length) with q | q
        · exact q
        · rw [List.getElem?_eq_none (by simp; omega)] at hx; cases hx
      rw [this] at hx; simp at hx
      exact .inl ⟨by omega, hx.symm⟩
  refine ⟨st3, dv', ds ++ [q], bG :: dv.ownBlock.toList, ⟨st3.set 1 dv', ?_, ?_, ?_, ?_, h.bg, ?_⟩, by simp, F2.of_nil.then f3, ?_, ?_⟩
  · rw [List.length_append, List.map_append]
    exact own_fr (S := [bG]) hown ((Fr.refl _ _).setCell (p := ⟨bG, 1, none⟩) (by simp) _) (by intro b hb; simp at hb; subst hb; exact own_ne hown st3 (by decide))
  · intro k x hx
    rcases get k x hx with ⟨_, rfl⟩ | ⟨_, hx⟩
    · exact ho.fr f3 (offR ho)
    · exact (g2.at' k x hx).fr f3 (offR (g2.at' k x hx))
  · intro i j x y hx hy hij z hz hz2
    rcases get i x hx with ⟨e1, rfl⟩ | ⟨e1, q1⟩
    · rcases get j y hy with ⟨e2, rfl⟩ | ⟨e2, q2⟩
      · omega
      · have := hn z hz; have := (h.at' j y q2).lt z hz2; omega
    · rcases get j y hy with ⟨e2, rfl⟩ | ⟨e2, q2⟩
      · have := hn z hz2; have := (h.at' i x q1).lt z hz; omega
      · exact h.ap i j x y q1 q2 hij z hz hz2
  · intro k x hx z hz
    rcases get k x hx with ⟨_, rfl⟩ | ⟨_, hx⟩
    · have := hn z hz; omega
    · exact h.ge k x hx z hz
  · intro k x hx
    rcases get k x hx with ⟨_, rfl⟩ | ⟨_, hx⟩
    · omega
    · exact h.be k x hx
  · intro x hx
    simp only [List.mem_cons, Option.mem_toList] at hx
    rcases hx with rfl | hx
    · exact List.mem_cons_self
    · exact List.mem_cons_of_mem _ (List.mem_append.2 (.inl (by simpa using hx)))
  · intro x hx
    rcases List.mem_append.1 hx with hx | hx
    · rcases hat x (by simpa using hx) with k | k
      · exact .inl (List.mem_append.2 (.inl (by simpa using k)))
      · exact .inr k
    · rw [List.flatMap_append] at hx
      rcases List.mem_append.1 hx with hx | hx
      · exact .inl (List.mem_append.2 (.inr hx))
      · exact .inr (hn x (by simpa using hx))

set_option maxHeartbeats 4000000 in
set_option maxRecDepth 100000 in
theorem painter_new (held n a c : Int) (s : ByteArray) (av : Option Addr) (lv cv : Nat) (w : World) (base bG : Nat) (tv dv : Value) (ds : List Ds) (m : Nat) (h : DGame base w bG tv dv ds m) (hl2 : ds.length ≤ 1048576) (hB : base ≤ w.heap.size) :
    Calls Tryz.prog 6 #[.pointer (some ⟨bG, 0, none⟩), .agg #[.int .i64 6, .int .i64 n, .int .i64 a, .int .i64 c, .string s, .slice av lv cv], .int .i64 held] w
      fun e w' => e = .returned (.bool true) ∧ DGUpd base bG tv dv ds m w w' := by
  obtain ⟨i0, hi, hz0, hz1, hz2⟩ := info_parts info_desk
  have H := hide h
  clear h
  go_enter Tryz.func6, Tryz.ntmps6
  go_wp2_with fail
  refine (openD_any a c _).mono ?_
  rintro e w2 ⟨q, rfl, hq, hn, f2, hbeg⟩
  have F2 : Hid (Fr [] w w2) := ((Fr.refl _ _).alloc _).then f2
  have HQ := hide hq
  have HN : Hid (∀ x ∈ q.foot, w.heap.size ≤ x) := fun x hx => by have := hn x hx; simp at this; omega
  have HBG := hide hbeg
  have G2 := hide (H.out.fr0 F2.out)
  have q0 : w2.cell? ⟨bG, 1, none⟩ = some dv := G2.out.st.cell 1
  have fz := G2.out.st.frozen 1
  have blt := G2.out.st.lt
  have OB : Hid (base ≤ w2.heap.size) := Nat.le_trans hB F2.out.size
  have qp : q.ptr = .pointer (some ⟨q.bd, 0, none⟩) := rfl
  have QP := hide qp
  clear f2 hq hn hbeg qp
  generalize q.bd = qb at *
  go_wp2_with (at_builtin; refine wpList_append_lies _ rfl (.tmp 25) (.tmp 27) 27 rfl base 45 i0 (.pointer none) 1 8 Tryz.underlying27 hi hz0 hz1 hz2 rfl (by decide) dv ds.length (ds.map Ds.ptr) rfl (own_fr0 G2.out.row ((Fr.refl _ _).alloc _)) ⟨w2.heap.size, 0, none⟩ 1 1 [.pointer (some ⟨qb, 0, none⟩)] rfl rfl (World.news_of_block (cs := #[.pointer (some ⟨qb, 0, none⟩)]) (t := 45) (fr := (0, 0)) (by exact heap_alloc_new w2 _)) (one_one _ rfl) (by omega) (by unfold maxLen; omega) (by omega) (by simp; have := OB.out; omega) (w2.heap.size + 1) (by simp) ?_; intro g1 cap1 w3 hown1 hgrow hat hlt1; have D := DGUpd.more (q := q) H.out hB F2.out HQ.out HN.out HBG.out (by rw [QP.out]; exact hown1) hgrow (by intro g hg; simp only [Value.ownBlock, Option.some.injEq] at hg; subst hg; rcases hat with k | k; (exact .inl k); (have := F2.out.size; exact .inr (by omega))); have q3 : w3.cell? ⟨bG, 1, none⟩ = some dv := D.1.cell 1; have fz3 := D.1.frozen 1; have D2 := hide D.2; clear D hown1 hgrow hat)
  go_ret
  exact ⟨rfl, D2.out⟩
end Go.Proofs.YtjhccghhinlmdabGreatDoor
/- A step of painters in a script. -/
namespace Go.Proofs.YtjhccghhinlmdabGreatDoor
open Go.RowKit

/-- what one step does to one desk, whatever is held -/
def StepHeld (held : Int) : Prop := ∀ (q : Ds) (k n a c : Int) (s : ByteArray) (av : Option Addr) (ws : List Win) (lv cv : Nat) (w : World) (base : Nat), q.At w → (7 ≤ k ∧ k ≤ 13) → OpWins w base av ws lv → (∀ y ∈ q.foot, base ≤ y) → base ≤ w.heap.size → q.beg + s.size ≤ 1152921504606846976 →
    Calls Tryz.prog 12 #[.pointer (some ⟨q.bd, 0, none⟩), .agg #[.int .i64 k, .int .i64 n, .int .i64 a, .int .i64 c, .string s, .slice av lv cv], .int .i64 held] w fun e w' => e = .returned (.bool true) ∧ DsUpd q (s.size + 20000) w w'

set_option maxHeartbeats 4000000 in
set_option maxRecDepth 100000 in
theorem painter_none (held k n a c : Int) (s : ByteArray) (av : Option Addr) (lv cv : Nat) (w : World) (base bG : Nat) (tv dv : Value) (m : Nat) (h : DGame base w bG tv dv [] m) (hk : 7 ≤ k ∧ k ≤ 13) :
    Calls Tryz.prog 6 #[.pointer (some ⟨bG, 0, none⟩), .agg #[.int .i64 k, .int .i64 n, .int .i64 a, .int .i64 c, .string s, .slice av lv cv], .int .i64 held] w
      fun e w' => e = .returned (.bool true) ∧ Fr [] w w' := by
  have b1 : (k == 6) = false := by rw [beq_eq_false_iff_ne]; omega
  have q0 : w.cell? ⟨bG, 1, none⟩ = some dv := h.st.cell 1
  have blt := h.st.lt
  have hv : ∃ av' cv', dv = .slice av' 0 cv' := by
    rcases h.row.2 with ⟨rfl, _⟩ | ⟨g, cap, cur, rfl, _⟩
    · exact ⟨_, _, rfl⟩
    · exact ⟨_, _, rfl⟩
  obtain ⟨av', cv', rfl⟩ := hv
  clear h hk
  go_enter Tryz.func6, Tryz.ntmps6
  go_wp2
  go_ret
  exact ⟨rfl, (Fr.refl _ _).alloc _⟩

set_option maxHeartbeats 4000000 in
set_option maxRecDepth 100000 in
theorem painter_at (held : Int) (HH : StepHeld held) (k n a c : Int) (s : ByteArray) (av : Option Addr) (ws : List Win) (lv cv : Nat) (w : World) (base bG : Nat) (tv dv : Value) (ds : List Ds) (m : Nat) (h : DGame base w bG tv dv ds m) (hk : 7 ≤ k ∧ k ≤ 13) (ow : OpWins w base av ws lv) (hl : 1 ≤ ds.length) (hl2 : ds.length ≤ 1048576) (hB : base ≤ w.heap.size) (hs : m + s.size ≤ 1152921504606846976) (n1 : -9223372036854775808 ≤ n) (n2 : n ≤ 9223372036854775807) :
    Calls Tryz.prog 6 #[.pointer (some ⟨bG, 0, none⟩), .agg #[.int .i64 k, .int .i64 n, .int .i64 a, .int .i64 c, .string s, .slice av lv cv], .int .i64 held] w
      fun e w' => e = .returned (.bool true) ∧ DGUpd base bG tv dv ds (m + (s.size + 20000)) w w' := by
  have b1 : (k == 6) = false := by rw [beq_eq_false_iff_ne]; omega
  have q0 : w.cell? ⟨bG, 1, none⟩ = some dv := h.st.cell 1
  have blt := h.st.lt
  obtain ⟨p0, p1⟩ := pickF_bd n ds.length (by omega)
  have hi : (pickF n ds.length).toNat < ds.length := by omega
  obtain ⟨o, ho⟩ : ∃ o, ds[(pickF n ds.length).toNat]? = some o := ⟨_, List.getElem?_eq_getElem hi⟩
  have z1 : (ds.map Ds.ptr)[(pickF n ds.length).toNat]? = some o.ptr := by rw [List.getElem?_map, ho]; rfl
  have hrow := h.row
  rcases hrow.2 with ⟨_, h0⟩ | ⟨g, cap, cur, hdv, _, hg, _⟩
  · omega
  have y0 := hrow.cells (g := g) (by rw [hdv]; rfl) _ _ z1
  have hadd : ∀ i, (⟨g, 0, none⟩ : Addr).add i = ⟨g, i, none⟩ := fun i => by unfold Addr.add; split <;> simp_all
  rw [hadd] at y0
  have glt : g < w.heap.size := World.block_lt_of_cell? w _ y0
  have H := hide h
  have HO := hide ho
  have DO : Hid (∀ w', Fr [] w w' → Calls Tryz.prog 12 #[.pointer (some ⟨o.bd, 0, none⟩), .agg #[.int .i64 k, .int .i64 n, .int .i64 a, .int .i64 c, .string s, .slice av lv cv], .int .i64 held] w' fun e w'' => e = .returned (.bool true) ∧ DGUpd base bG tv dv ds (m + (s.size + 20000)) w w'') := by
    intro w' f
    have hbe := h.be _ o ho
    refine (HH o k n a c s av ws lv cv w' base ((h.at' _ o ho).fr0 f) hk (ow.fr0 f) (h.ge _ o ho) (Nat.le_trans hB f.size) (by omega)).mono ?_
    rintro e w2 ⟨he, u⟩
    exact ⟨he, DGUpd.ahead f (DGUpd.at (h.fr0 f) ho (Nat.le_trans hB f.size) u)⟩
  rw [hdv] at q0
  have y1 : w.cell? ⟨g, (pickF n ds.length).toNat, none⟩ = some (.pointer (some ⟨o.bd, 0, none⟩)) := y0
  clear y0 hdv h hk ho z1 hrow hg hadd ow HH
  generalize o.bd = ob at *
  go_enter Tryz.func6, Tryz.ntmps6
  go_upto_region 7 with (fail)
  go_region_held (fun w' => w'.cell? ⟨bG, 1, none⟩ = some (.slice (some ⟨g, 0, none⟩) ds.length cap) ∧ w'.cell? ⟨w.heap.size, 1, none⟩ = some (.int .i64 n) ∧ w'.cell? ⟨g, (pickF n ds.length).toNat, none⟩ = some (.pointer (some ⟨ob, 0, none⟩))) (go_keep) ((go_at_call 9; refine (lawPick_any n ds.length _ ?h1 ?h2 n1 n2).mono ?_; (case h1 => omega); (case h2 => omega); rintro e w' ⟨rfl, rfl⟩))
  all_goals go_wp2_with fail
  all_goals
    refine (DO.out _ (((Fr.refl _ _).alloc _).drew)).mono ?_
    rintro e w2 ⟨rfl, u2⟩
    have U2 := hide u2
    clear u2
    go_wp2
    go_ret
    exact ⟨rfl, U2.out⟩

theorem meas_lt (k : Nat) (h : k < 1048576) : (3000000 - ((k : Int) + 1)).toNat < 3000000 - k := by omega

theorem painter_any (held : Int) (HH : StepHeld held) (k n a c : Int) (s : ByteArray) (av : Option Addr) (ws : List Win) (lv cv : Nat) (w : World) (base bG : Nat) (tv dv : Value) (ds : List Ds) (m : Nat) (h : DGame base w bG tv dv ds m) (hk : 6 ≤ k ∧ k ≤ 13) (ow : OpWins w base av ws lv) (hl2 : ds.length ≤ 1048576) (hB : base ≤ w.heap.size) (hs : m + s.size ≤ 1152921504606846976) (n1 : -9223372036854775808 ≤ n) (n2 : n ≤ 9223372036854775807) :
    Calls Tryz.prog 6 #[.pointer (some ⟨bG, 0, none⟩), .agg #[.int .i64 k, .int .i64 n, .int .i64 a, .int .i64 c, .string s, .slice av lv cv], .int .i64 held] w
      fun e w' => e = .returned (.bool true) ∧ DGUpd base bG tv dv ds (m + (s.size + 20000)) w w' := by
  by_cases h6 : k = 6
  · subst h6
    refine (painter_new held n a c s av lv cv w base bG tv dv ds m h hl2 hB).mono ?_
    rintro e w' ⟨he, dv', ds', S, g, l, f, s, t⟩
    exact ⟨he, dv', ds', S, g.mono (by omega), l, f, s, t⟩
  · by_cases hl : ds.length = 0
    · have e : ds = [] := List.eq_nil_of_length_eq_zero hl
      subst e
      exact (painter_none held k n a c s av lv cv w base bG tv dv m h (by omega)).mono fun e w' ⟨he, f⟩ => ⟨he, DGUpd.same (h.mono (by omega)) f⟩
    · exact painter_at held HH k n a c s av ws lv cv w base bG tv dv ds m h (by omega) ow (by omega) hl2 hB hs n1 n2
end Go.Proofs.YtjhccghhinlmdabGreatDoor
/- Terminals and painters of one script lie apart. -/
namespace Go.Proofs.YtjhccghhinlmdabGreatDoor
open Go.RowKit

structure Both (base : Nat) (w : World) (bG : Nat) (v dv : Value) (ps : List (Option Pr)) (ds : List Ds) (n : Nat) : Prop where
  t : GameAt2 base w bG v dv ps n
  d : DGame base w bG v dv ds n
  ap : ∀ x ∈ tfoot v ps, x ∉ dsfoot dv ds
theorem Both.fr0 {base : Nat} {w w' : World} {bG : Nat} {v dv : Value} {ps : List (Option Pr)} {ds : List Ds} {n : Nat} (h : Both base w bG v dv ps ds n) (f : Fr [] w w') : Both base w' bG v dv ps ds n := ⟨h.t.fr0 f, h.d.fr0 f, h.ap⟩
theorem Both.mono {base : Nat} {w : World} {bG : Nat} {v dv : Value} {ps : List (Option Pr)} {ds : List Ds} {n m : Nat} (h : Both base w bG v dv ps ds n) (hm : n ≤ m) : Both base w bG v dv ps ds m := ⟨h.t.mono hm, h.d.mono hm, h.ap⟩
theorem DGame.lt {base : Nat} {w : World} {bG : Nat} {tv dv : Value} {ds : List Ds} {n : Nat} (h : DGame base w bG tv dv ds n) : ∀ x ∈ dsfoot dv ds, x < w.heap.size := by
  intro x hx
  rcases List.mem_append.1 hx with hx | hx
  · exact (h.row.lt x (by simpa using hx)).2
  · obtain ⟨y, hy, hxy⟩ := List.mem_flatMap.1 hx
    obtain ⟨i, hi⟩ := List.getElem?_of_mem hy
    exact (h.at' i y hi).lt x hxy
/-- bG is none of the painters' blocks -/
theorem DGame.out {base : Nat} {w : World} {bG : Nat} {tv dv : Value} {ds : List Ds} {n : Nat} (h : DGame base w bG tv dv ds n) : bG ∉ dsfoot dv ds := by
  intro hx
  rcases List.mem_append.1 hx with hx | hx
  · have e : dv.ownBlock = some bG := by simpa using hx
    exact own_ne h.row h.st (by decide) e.symm
  · obtain ⟨y, hy, hxy⟩ := List.mem_flatMap.1 hx
    obtain ⟨i, hi⟩ := List.getElem?_of_mem hy
    exact (h.at' i y hi).off h.st (by decide) hxy
theorem GameAt2.out {base : Nat} {w : World} {bG : Nat} {v dv : Value} {ps : List (Option Pr)} {n : Nat} (h : GameAt2 base w bG v dv ps n) : bG ∉ tfoot v ps := by
  intro hx
  rcases List.mem_append.1 hx with hx | hx
  · have e : v.ownBlock = some bG := by simpa using hx
    exact own_ne h.row h.st (by decide) e.symm
  · obtain ⟨y, hy, hxy⟩ := List.mem_flatMap.1 hx
    obtain ⟨i, hi⟩ := List.getElem?_of_mem hy
    exact OAt.off h.st (by decide) (h.at' i y hi) hxy
/-- a step of terminals leaves the painters as they were -/
theorem Both.term {base : Nat} {w w' : World} {bG : Nat} {v dv : Value} {ps : List (Option Pr)} {ds : List Ds} {n m q : Nat} (h : Both base w bG v dv ps ds n) (hq : n ≤ q) (u : GUpd2 base bG v dv ps m q w w') :
    ∃ v' ps' S, Both base w' bG v' dv ps' ds q ∧ ps'.length ≤ m ∧ Fr S w w' ∧ (∀ x ∈ S, x ∈ bG :: tfoot v ps) ∧ ∀ x ∈ S, base ≤ x := by
  obtain ⟨v', ps', S, g, l, f, s, t⟩ := u
  have off : ∀ x ∈ dsfoot dv ds, x ∉ S := by
    intro x hx hs
    rcases List.mem_cons.1 (s x hs) with rfl | k
    · exact h.d.out hx
    · exact h.ap x k hx
  refine ⟨v', ps', S, ⟨g, ⟨g.st, ?_, ?_, h.d.ap, h.d.ge, h.d.bg, fun k x e => Nat.le_trans (h.d.be k x e) hq⟩, ?_⟩, l, f, s, fun x hx => h.t.low x (s x hx)⟩
  · exact own_fr h.d.row f (fun b hb he => off b (List.mem_append.2 (.inl (by simp [← he]))) hb)
  · intro k x e
    exact (h.d.at' k x e).fr f (fun y hy => off y (List.mem_append.2 (.inr (List.mem_flatMap.2 ⟨x, List.mem_of_getElem? e, hy⟩))))
  · intro x hx hd
    rcases t x hx with k | k
    · exact h.ap x k hd
    · have := h.d.lt x hd; omega
/-- a step of painters leaves the terminals as they were -/
theorem Both.paint {base : Nat} {w w' : World} {bG : Nat} {v dv : Value} {ps : List (Option Pr)} {ds : List Ds} {n q : Nat} (h : Both base w bG v dv ps ds n) (hq : n ≤ q) (u : DGUpd base bG v dv ds q w w') :
    ∃ dv' ds' S, Both base w' bG v dv' ps ds' q ∧ ds'.length ≤ ds.length + 1 ∧ Fr S w w' ∧ ∀ x ∈ S, base ≤ x := by
  obtain ⟨dv', ds', S, g, l, f, s, t⟩ := u
  have off : ∀ x ∈ tfoot v ps, x ∉ S := by
    intro x hx hs
    rcases List.mem_cons.1 (s x hs) with rfl | k
    · exact h.t.out hx
    · exact h.ap x hx k
  refine ⟨dv', ds', S, ⟨⟨g.st, ?_, ?_, h.t.ap, h.t.ge, h.t.bg, fun k x e => Nat.le_trans (h.t.be k x e) hq⟩, g, ?_⟩, l, f, fun x hx => h.d.low x (s x hx)⟩
  · exact own_fr h.t.row f (fun b hb he => off b (List.mem_append.2 (.inl (by simp [← he]))) hb)
  · intro k x e
    exact (h.t.at' k x e).fr f (fun y hy => off y (List.mem_append.2 (.inr (List.mem_flatMap.2 ⟨x, List.mem_of_getElem? e, hy⟩))))
  · intro x hx hd
    rcases t x hd with k | k
    · exact h.ap x hx k
    · have := h.t.lt x hx; omega
end Go.Proofs.YtjhccghhinlmdabGreatDoor
/- What the rows of scripts that list tables share. -/
namespace Go.Proofs.YtjhccghhinlmdabGreatDoor
open Go.ChangeShapes Go.WideShapes Go.ChangeAt Go.RowKit

theorem noStandIn (l : List TypeId) (hall : (l.all fun u => !Tryz.prog.wantsStandIn u) = true) (t : TypeId) (hm : t ∈ l) : Tryz.prog.wantsStandIn t = false := by
  simpa using List.all_eq_true.1 hall t hm
end Go.Proofs.YtjhccghhinlmdabGreatDoor
