/- A step of a script on a desk, where 15 is held of it. -/
import Derived.Test.YtjhccghhinlmdabGreatDoorPackLawSize
namespace Go.Proofs.YtjhccghhinlmdabGreatDoor
open Go.RowKit

set_option maxHeartbeats 8000000 in
set_option maxRecDepth 100000 in
theorem does15_no (k n a c : Int) (s : ByteArray) (av : Option Addr) (lv cv : Nat) (w : World) (bd : Nat) (d : Dg) (m m' : Pt) (r r' : R) (z : Bool) (er : Int) (h : TriAt w d m m r) (hd : Blk w bd (dkOf d z) 76) (k12 : (k == 12) = false) (ner : (er == 0) = false)
    (OK : StepOk k m m' r' [] er z) (HC : ∀ w1, Fr [] w w1 → Calls Tryz.prog 29 #[.pointer (some ⟨bd, 0, none⟩), .agg #[.int .i64 k, .int .i64 n, .int .i64 a, .int .i64 c, .string s, .slice av lv cv]] w1 (CallPost d m' r' [] er w1)) (hs : r'.begun.size ≤ 1152921504606846976) :
    Calls Tryz.prog 12 #[.pointer (some ⟨bd, 0, none⟩), .agg #[.int .i64 k, .int .i64 n, .int .i64 a, .int .i64 c, .string s, .slice av lv cv], .int .i64 15] w (DoesPost d m' (r'.feed []) z bd w) := by
  have H := hide h
  have HD := hide hd
  have HK := hide OK
  have HCC := hide HC
  have mb := mul_bd h.p.w1 h.p.w2 h.p.h1 h.p.h2
  obtain ⟨N, hN⟩ : ∃ N : Nat, N = (m.W * m.H).toNat := ⟨_, rfl⟩
  have n1 : 1 ≤ N := by omega
  have n2 : N ≤ 800 := by omega
  have HN := hide hN
  have HL : Hid ((m.v.grid m.W m.H).length = N) := by show _ = _; rw [V.grid_length, HN.out]
  have FX : Hid (Fr [] w ((w.alloc (.cells #[.int .i64 k, .int .i64 n, .int .i64 a, .int .i64 c, .string s, .slice av lv cv] 32)).alloc (.cells #[.int .i64 0, .int .i64 0, .bool false] 66))) := ((Fr.refl _ _).alloc _).alloc _
  have GR := hide (dgrid_any _ d.bp d.gp m (h.fr0 FX.out).p)
  have BW : Hid (Blk ((w.alloc (.cells #[.int .i64 k, .int .i64 n, .int .i64 a, .int .i64 c, .string s, .slice av lv cv] 32)).alloc (.cells #[.int .i64 0, .int .i64 0, .bool false] 66)) (w.heap.size + 1) [.int .i64 0, .int .i64 0, .bool false] 66) := by
    have := Blk.new (w.alloc (.cells #[.int .i64 k, .int .i64 n, .int .i64 a, .int .i64 c, .string s, .slice av lv cv] 32)) [.int .i64 0, .int .i64 0, .bool false] 66
    exact hide (by simpa using this)
  have BO := hide ((Blk.new w (opOf k n a c s (.slice av lv cv)) 32).alloc (.cells #[.int .i64 0, .int .i64 0, .bool false] 66))
  have l0 := hd.lt
  obtain ⟨q0, q1, q2, q3⟩ := hd.dk
  clear h hd OK HC mb hN
  go_enter Tryz.func12, Tryz.ntmps12
  go_wp2_with fail
  refine GR.out.mono ?_
  rintro e w1 ⟨u, rfl, hu, f1⟩
  rw [← HN.out] at hu
  obtain ⟨fb, fcap, fsp, rfl, hge, hrow⟩ := RRow.of hu HL.out n1
  have F1 := hide (FX.out.then f1)
  have FGE : Hid (w.heap.size ≤ fb) := by
    show _ ≤ _
    have := FX.out.size
    omega
  have RW1 := hide hrow
  have BW1 := hide (BW.out.fr0 f1)
  have BO1 := hide (BO.out.fr0 f1)
  have PL := hide (place_cur w1 d.bp d.gp m (H.out.fr0 F1.out).p)
  clear hu hge hrow f1 GR q0 q1 q2 q3
  obtain ⟨k0, k1, k2, k3⟩ := (HD.out.fr0 F1.out).dk
  have l1 := (HD.out.fr0 F1.out).lt
  obtain ⟨cx, hcx⟩ : ∃ x, x = m.cur.x := ⟨_, rfl⟩
  obtain ⟨cy, hcy⟩ : ∃ x, x = m.cur.y := ⟨_, rfl⟩
  obtain ⟨cs, hcs⟩ : ∃ x, x = m.cur.shown := ⟨_, rfl⟩
  rw [← hcx, ← hcy, ← hcs] at PL
  have CU : Hid ((⟨cx, cy, cs⟩ : Cur) = m.cur) := by show _ = _; rw [hcx, hcy, hcs]
  clear hcx hcy hcs
  go_wp2_with fail
  refine PL.out.mono ?_
  rintro e w2 ⟨rfl, f2⟩
  have F2 := hide (F1.out.then f2)
  have RW2 := hide (RW1.out.fr0 f2)
  have BW2 := hide (BW1.out.fr0 f2)
  have BO2 := hide (BO1.out.fr0 f2)
  have wc0 : w2.cell? ⟨w.heap.size + 1, 0, none⟩ = some (.int .i64 0) := BW2.out.cell 0
  have wc1 : w2.cell? ⟨w.heap.size + 1, 1, none⟩ = some (.int .i64 0) := BW2.out.cell 1
  have wc2 : w2.cell? ⟨w.heap.size + 1, 2, none⟩ = some (.bool false) := BW2.out.cell 2
  have wz0 := BW2.out.frozen 0
  have wz1 := BW2.out.frozen 1
  have wz2 := BW2.out.frozen 2
  have wl := BW2.out.lt
  obtain ⟨o0, o1, o2, o3, o4, o5⟩ := BO2.out.op
  have ol := BO2.out.lt
  clear f2 PL k0 k1 k2 k3 RW1 BW1 BO1 BW BO
  have F3 : Hid (Fr [] w (((w2.setCell ⟨w.heap.size + 1, 0, none⟩ (.int .i64 cx)).setCell ⟨w.heap.size + 1, 1, none⟩ (.int .i64 cy)).setCell ⟨w.heap.size + 1, 2, none⟩ (.bool cs))) := ((F2.out.setCell (.inr (by simp)) _).setCell (.inr (by simp)) _).setCell (.inr (by simp)) _
  have F23 : Fr [w.heap.size + 1] w2 (((w2.setCell ⟨w.heap.size + 1, 0, none⟩ (.int .i64 cx)).setCell ⟨w.heap.size + 1, 1, none⟩ (.int .i64 cy)).setCell ⟨w.heap.size + 1, 2, none⟩ (.bool cs)) := (((Fr.refl _ _).setCell (.inl (by simp)) _).setCell (.inl (by simp)) _).setCell (.inl (by simp)) _
  have BW3 : Hid (Blk (((w2.setCell ⟨w.heap.size + 1, 0, none⟩ (.int .i64 cx)).setCell ⟨w.heap.size + 1, 1, none⟩ (.int .i64 cy)).setCell ⟨w.heap.size + 1, 2, none⟩ (.bool cs)) (w.heap.size + 1) [.int .i64 cx, .int .i64 cy, .bool cs] 66) := ((BW2.out.set 0 _).set 1 _).set 2 _
  have RW3 := hide (RW2.out.fr F23 (by simpa using RW2.out.row.ne BW2.out (by decide)))
  have BO3 := hide (BO2.out.fr F23 (by simp))
  have CL := hide (HCC.out _ F3.out)
  clear F23
  go_wp2_with fail
  generalize ((w2.setCell ⟨w.heap.size + 1, 0, none⟩ (.int .i64 cx)).setCell ⟨w.heap.size + 1, 1, none⟩ (.int .i64 cy)).setCell ⟨w.heap.size + 1, 2, none⟩ (.bool cs) = w3 at *
  clear wc0 wc1 wc2 wz0 wz1 wz2 wl o0 o1 o2 o3 o4 o5 ol BW2 BO2 RW2
  refine CL.out.mono ?_
  rintro e w4 ⟨rfl, gx, gp, gt, t4⟩
  have h3 := hide (H.out.fr0 F3.out)
  have D4 := hide ((HD.out.fr0 F3.out).fr t4.f (h3.out.off (HD.out.fr0 F3.out) (by decide)))
  have BW4 := hide (BW3.out.fr t4.f (h3.out.off BW3.out (by decide)))
  have BO4 := hide (BO3.out.fr t4.f (h3.out.off BO3.out (by decide)))
  have FLT : Hid (fb < w3.heap.size) := RW3.out.row.lt
  have RW4 := hide (RW3.out.fr t4.f (fun hm => by have := H.out.lt fb hm; have := FGE.out; omega))
  have NF : Hid (fb ∉ Dg.foot { d with gx := gx, gp := gp, gt := gt }) := fun hm => by
    rcases t4.s fb hm with y | y
    · have := H.out.lt fb y; have := FGE.out; omega
    · have := FLT.out; omega
  have T4 := hide t4
  obtain ⟨k0, k1, k2, k3⟩ := D4.out.dk
  have FD := hide (rfeed_any (strOfNums []) w4 d.bt gt r' T4.out.at'.t (by rw [str_size]; have := HK.out.len; omega))
  rw [nums_str _ HK.out.bytes] at FD
  have LN : Hid ((strOfNums []).size = [].length) := str_size _
  have LB := HK.out.len
  clear t4 CL BW3 BO3 RW3
  have SE : strOfNums [] = ByteArray.empty := rfl
  rw [SE] at FD
  clear SE LB LN
  go_wp2_with fail
  refine FD.out.mono ?_
  rintro e w5 ⟨rfl, u5⟩
  obtain ⟨gt5, t5, f5⟩ := T4.out.ref u5
  have D5 := hide (T4.out.keep f5 D4.out (by decide))
  have BW5 := hide (T4.out.keep f5 BW4.out (by decide))
  have BO5 := hide (T4.out.keep f5 BO4.out (by decide))
  have RW5 := hide (RW4.out.fr f5 NF.out)
  have T5 := hide t5
  clear u5 t5 f5 FD T4 D4 BW4 BO4 RW4 NF FLT h3 k0 k1 k2 k3
  obtain ⟨k0, k1, k2, k3⟩ := D5.out.dk
  obtain ⟨o0, o1, o2, o3, o4, o5⟩ := BO5.out.op
  have y0 : w5.cell? ⟨w.heap.size + 1, 0, none⟩ = some (.int .i64 cx) := BW5.out.cell 0
  have y1 : w5.cell? ⟨w.heap.size + 1, 1, none⟩ = some (.int .i64 cy) := BW5.out.cell 1
  have y2 : w5.cell? ⟨w.heap.size + 1, 2, none⟩ = some (.bool cs) := BW5.out.cell 2
  have z3 := D5.out.frozen 3
  have dl := D5.out.lt
  have T6 : Hid (TM w3 (bd :: d.foot) w5 { d with gx := gx, gp := gp, gt := gt5 } m' m' (r'.feed [])) := T5.out.wide bd
  have D6 := D5
  have BW6 := BW5
  have BO6 := BO5
  have RW6 := RW5
  clear T5 D5 BW5 BO5 RW5
  cases z
  · have SHO := HK.out.inv.sh rfl
    obtain ⟨g1, g2, g3⟩ := SHO.desk
    have SH := hide (shown_yes w5 bd { d with gx := gx, gp := gp, gt := gt5 } m' m' (r'.feed []) false T6.out.at' D6.out g1 g2 g3)
    clear SHO g1 g2 g3
    go_wp2_with fail
    refine SH.out.mono ?_
    rintro e w7 ⟨rfl, f7⟩
    have T7 := hide (T6.out.fr0 f7)
    have D7 := hide (D6.out.fr0 f7)
    have BW7 := hide (BW6.out.fr0 f7)
    have BO7 := hide (BO6.out.fr0 f7)
    have RW7 := hide (RW6.out.fr0 f7)
    clear f7 SH k0 k1 k2 k3 o0 o1 o2 o3 o4 o5 y0 y1 y2
    obtain ⟨k0, k1, k2, k3⟩ := D7.out.dk
    obtain ⟨o0, o1, o2, o3, o4, o5⟩ := BO7.out.op
    have y0 : w7.cell? ⟨w.heap.size + 1, 0, none⟩ = some (.int .i64 cx) := BW7.out.cell 0
    have y1 : w7.cell? ⟨w.heap.size + 1, 1, none⟩ = some (.int .i64 cy) := BW7.out.cell 1
    have y2 : w7.cell? ⟨w.heap.size + 1, 2, none⟩ = some (.bool cs) := BW7.out.cell 2
    go_wp2
    go_ret
    exact ⟨ret_bool (by rw [bytes_empty, str_size]; simp), DoesPost.of F3.out H.out.lt T7.out D7.out⟩
  · go_wp2
    go_ret
    exact ⟨ret_bool (by rw [bytes_empty, str_size]; simp), DoesPost.of F3.out H.out.lt T6.out D6.out⟩

set_option maxHeartbeats 8000000 in
set_option maxRecDepth 100000 in
theorem does15_look (k n a c : Int) (s : ByteArray) (av : Option Addr) (lv cv : Nat) (w : World) (bd : Nat) (d : Dg) (m m' : Pt) (r r' : R) (z : Bool) (h : TriAt w d m m r) (hd : Blk w bd (dkOf d z) 76) (k12 : (k == 12) = false) (k7 : (k == 7) = false) (k8 : (k == 8) = false) (k9 : (k == 9) = false) (k10 : (k == 10) = false)
    (OK : StepOk k m m' r' [] 0 z) (HC : ∀ w1, Fr [] w w1 → Calls Tryz.prog 29 #[.pointer (some ⟨bd, 0, none⟩), .agg #[.int .i64 k, .int .i64 n, .int .i64 a, .int .i64 c, .string s, .slice av lv cv]] w1 (CallPost d m' r' [] 0 w1)) (hs : r'.begun.size ≤ 1152921504606846976) :
    Calls Tryz.prog 12 #[.pointer (some ⟨bd, 0, none⟩), .agg #[.int .i64 k, .int .i64 n, .int .i64 a, .int .i64 c, .string s, .slice av lv cv], .int .i64 15] w (DoesPost d m' (r'.feed []) z bd w) := by
  have H := hide h
  have HD := hide hd
  have HK := hide OK
  have HCC := hide HC
  have mb := mul_bd h.p.w1 h.p.w2 h.p.h1 h.p.h2
  obtain ⟨N, hN⟩ : ∃ N : Nat, N = (m.W * m.H).toNat := ⟨_, rfl⟩
  have n1 : 1 ≤ N := by omega
  have n2 : N ≤ 800 := by omega
  have HN := hide hN
  have HL : Hid ((m.v.grid m.W m.H).length = N) := by show _ = _; rw [V.grid_length, HN.out]
  have FX : Hid (Fr [] w ((w.alloc (.cells #[.int .i64 k, .int .i64 n, .int .i64 a, .int .i64 c, .string s, .slice av lv cv] 32)).alloc (.cells #[.int .i64 0, .int .i64 0, .bool false] 66))) := ((Fr.refl _ _).alloc _).alloc _
  have GR := hide (dgrid_any _ d.bp d.gp m (h.fr0 FX.out).p)
  have BW : Hid (Blk ((w.alloc (.cells #[.int .i64 k, .int .i64 n, .int .i64 a, .int .i64 c, .string s, .slice av lv cv] 32)).alloc (.cells #[.int .i64 0, .int .i64 0, .bool false] 66)) (w.heap.size + 1) [.int .i64 0, .int .i64 0, .bool false] 66) := by
    have := Blk.new (w.alloc (.cells #[.int .i64 k, .int .i64 n, .int .i64 a, .int .i64 c, .string s, .slice av lv cv] 32)) [.int .i64 0, .int .i64 0, .bool false] 66
    exact hide (by simpa using this)
  have BO := hide ((Blk.new w (opOf k n a c s (.slice av lv cv)) 32).alloc (.cells #[.int .i64 0, .int .i64 0, .bool false] 66))
  have l0 := hd.lt
  obtain ⟨q0, q1, q2, q3⟩ := hd.dk
  clear h hd OK HC mb hN
  go_enter Tryz.func12, Tryz.ntmps12
  go_wp2_with fail
  refine GR.out.mono ?_
  rintro e w1 ⟨u, rfl, hu, f1⟩
  rw [← HN.out] at hu
  obtain ⟨fb, fcap, fsp, rfl, hge, hrow⟩ := RRow.of hu HL.out n1
  have F1 := hide (FX.out.then f1)
  have FGE : Hid (w.heap.size ≤ fb) := by
    show _ ≤ _
    have := FX.out.size
    omega
  have RW1 := hide hrow
  have BW1 := hide (BW.out.fr0 f1)
  have BO1 := hide (BO.out.fr0 f1)
  have PL := hide (place_cur w1 d.bp d.gp m (H.out.fr0 F1.out).p)
  clear hu hge hrow f1 GR q0 q1 q2 q3
  obtain ⟨k0, k1, k2, k3⟩ := (HD.out.fr0 F1.out).dk
  have l1 := (HD.out.fr0 F1.out).lt
  obtain ⟨cx, hcx⟩ : ∃ x, x = m.cur.x := ⟨_, rfl⟩
  obtain ⟨cy, hcy⟩ : ∃ x, x = m.cur.y := ⟨_, rfl⟩
  obtain ⟨cs, hcs⟩ : ∃ x, x = m.cur.shown := ⟨_, rfl⟩
  rw [← hcx, ← hcy, ← hcs] at PL
  have CU : Hid ((⟨cx, cy, cs⟩ : Cur) = m.cur) := by show _ = _; rw [hcx, hcy, hcs]
  clear hcx hcy hcs
  go_wp2_with fail
  refine PL.out.mono ?_
  rintro e w2 ⟨rfl, f2⟩
  have F2 := hide (F1.out.then f2)
  have RW2 := hide (RW1.out.fr0 f2)
  have BW2 := hide (BW1.out.fr0 f2)
  have BO2 := hide (BO1.out.fr0 f2)
  have wc0 : w2.cell? ⟨w.heap.size + 1, 0, none⟩ = some (.int .i64 0) := BW2.out.cell 0
  have wc1 : w2.cell? ⟨w.heap.size + 1, 1, none⟩ = some (.int .i64 0) := BW2.out.cell 1
  have wc2 : w2.cell? ⟨w.heap.size + 1, 2, none⟩ = some (.bool false) := BW2.out.cell 2
  have wz0 := BW2.out.frozen 0
  have wz1 := BW2.out.frozen 1
  have wz2 := BW2.out.frozen 2
  have wl := BW2.out.lt
  obtain ⟨o0, o1, o2, o3, o4, o5⟩ := BO2.out.op
  have ol := BO2.out.lt
  clear f2 PL k0 k1 k2 k3 RW1 BW1 BO1 BW BO
  have F3 : Hid (Fr [] w (((w2.setCell ⟨w.heap.size + 1, 0, none⟩ (.int .i64 cx)).setCell ⟨w.heap.size + 1, 1, none⟩ (.int .i64 cy)).setCell ⟨w.heap.size + 1, 2, none⟩ (.bool cs))) := ((F2.out.setCell (.inr (by simp)) _).setCell (.inr (by simp)) _).setCell (.inr (by simp)) _
  have F23 : Fr [w.heap.size + 1] w2 (((w2.setCell ⟨w.heap.size + 1, 0, none⟩ (.int .i64 cx)).setCell ⟨w.heap.size + 1, 1, none⟩ (.int .i64 cy)).setCell ⟨w.heap.size + 1, 2, none⟩ (.bool cs)) := (((Fr.refl _ _).setCell (.inl (by simp)) _).setCell (.inl (by simp)) _).setCell (.inl (by simp)) _
  have BW3 : Hid (Blk (((w2.setCell ⟨w.heap.size + 1, 0, none⟩ (.int .i64 cx)).setCell ⟨w.heap.size + 1, 1, none⟩ (.int .i64 cy)).setCell ⟨w.heap.size + 1, 2, none⟩ (.bool cs)) (w.heap.size + 1) [.int .i64 cx, .int .i64 cy, .bool cs] 66) := ((BW2.out.set 0 _).set 1 _).set 2 _
  have RW3 := hide (RW2.out.fr F23 (by simpa using RW2.out.row.ne BW2.out (by decide)))
  have BO3 := hide (BO2.out.fr F23 (by simp))
  have CL := hide (HCC.out _ F3.out)
  clear F23
  go_wp2_with fail
  generalize ((w2.setCell ⟨w.heap.size + 1, 0, none⟩ (.int .i64 cx)).setCell ⟨w.heap.size + 1, 1, none⟩ (.int .i64 cy)).setCell ⟨w.heap.size + 1, 2, none⟩ (.bool cs) = w3 at *
  clear wc0 wc1 wc2 wz0 wz1 wz2 wl o0 o1 o2 o3 o4 o5 ol BW2 BO2 RW2
  refine CL.out.mono ?_
  rintro e w4 ⟨rfl, gx, gp, gt, t4⟩
  have h3 := hide (H.out.fr0 F3.out)
  have D4 := hide ((HD.out.fr0 F3.out).fr t4.f (h3.out.off (HD.out.fr0 F3.out) (by decide)))
  have BW4 := hide (BW3.out.fr t4.f (h3.out.off BW3.out (by decide)))
  have BO4 := hide (BO3.out.fr t4.f (h3.out.off BO3.out (by decide)))
  have FLT : Hid (fb < w3.heap.size) := RW3.out.row.lt
  have RW4 := hide (RW3.out.fr t4.f (fun hm => by have := H.out.lt fb hm; have := FGE.out; omega))
  have NF : Hid (fb ∉ Dg.foot { d with gx := gx, gp := gp, gt := gt }) := fun hm => by
    rcases t4.s fb hm with y | y
    · have := H.out.lt fb y; have := FGE.out; omega
    · have := FLT.out; omega
  have T4 := hide t4
  obtain ⟨k0, k1, k2, k3⟩ := D4.out.dk
  have FD := hide (rfeed_any (strOfNums []) w4 d.bt gt r' T4.out.at'.t (by rw [str_size]; have := HK.out.len; omega))
  rw [nums_str _ HK.out.bytes] at FD
  have LN : Hid ((strOfNums []).size = [].length) := str_size _
  have LB := HK.out.len
  clear t4 CL BW3 BO3 RW3
  have SE : strOfNums [] = ByteArray.empty := rfl
  rw [SE] at FD
  clear SE LB LN
  go_wp2_with fail
  refine FD.out.mono ?_
  rintro e w5 ⟨rfl, u5⟩
  obtain ⟨gt5, t5, f5⟩ := T4.out.ref u5
  have D5 := hide (T4.out.keep f5 D4.out (by decide))
  have BW5 := hide (T4.out.keep f5 BW4.out (by decide))
  have BO5 := hide (T4.out.keep f5 BO4.out (by decide))
  have RW5 := hide (RW4.out.fr f5 NF.out)
  have T5 := hide t5
  clear u5 t5 f5 FD T4 D4 BW4 BO4 RW4 NF FLT h3 k0 k1 k2 k3
  obtain ⟨k0, k1, k2, k3⟩ := D5.out.dk
  obtain ⟨o0, o1, o2, o3, o4, o5⟩ := BO5.out.op
  have y0 : w5.cell? ⟨w.heap.size + 1, 0, none⟩ = some (.int .i64 cx) := BW5.out.cell 0
  have y1 : w5.cell? ⟨w.heap.size + 1, 1, none⟩ = some (.int .i64 cy) := BW5.out.cell 1
  have y2 : w5.cell? ⟨w.heap.size + 1, 2, none⟩ = some (.bool cs) := BW5.out.cell 2
  have z3 := D5.out.frozen 3
  have dl := D5.out.lt
  have T6 : Hid (TM w3 (bd :: d.foot) w5 { d with gx := gx, gp := gp, gt := gt5 } m' m' (r'.feed [])) := T5.out.wide bd
  have D6 := D5
  have BW6 := BW5
  have BO6 := BO5
  have RW6 := RW5
  clear T5 D5 BW5 BO5 RW5
  cases z
  · have SHO := HK.out.inv.sh rfl
    obtain ⟨g1, g2, g3⟩ := SHO.desk
    have SH := hide (shown_yes w5 bd { d with gx := gx, gp := gp, gt := gt5 } m' m' (r'.feed []) false T6.out.at' D6.out g1 g2 g3)
    clear SHO g1 g2 g3
    go_wp2_with fail
    refine SH.out.mono ?_
    rintro e w7 ⟨rfl, f7⟩
    have T7 := hide (T6.out.fr0 f7)
    have D7 := hide (D6.out.fr0 f7)
    have BW7 := hide (BW6.out.fr0 f7)
    have BO7 := hide (BO6.out.fr0 f7)
    have RW7 := hide (RW6.out.fr0 f7)
    clear f7 SH k0 k1 k2 k3 o0 o1 o2 o3 o4 o5 y0 y1 y2
    obtain ⟨k0, k1, k2, k3⟩ := D7.out.dk
    obtain ⟨o0, o1, o2, o3, o4, o5⟩ := BO7.out.op
    have y0 : w7.cell? ⟨w.heap.size + 1, 0, none⟩ = some (.int .i64 cx) := BW7.out.cell 0
    have y1 : w7.cell? ⟨w.heap.size + 1, 1, none⟩ = some (.int .i64 cy) := BW7.out.cell 1
    have y2 : w7.cell? ⟨w.heap.size + 1, 2, none⟩ = some (.bool cs) := BW7.out.cell 2
    obtain ⟨N2, hN2⟩ : ∃ N : Nat, N = (m'.W * m'.H).toNat := ⟨_, rfl⟩
    have e3 := HK.out.all rfl (by simpa using k7) (by simpa using k8)
    have SHT := hide (short_all k n a c s av lv cv w7 bd { d with gx := gx, gp := gp, gt := gt5 } m' m' (r'.feed []) false T7.out.at' D7.out k7 k8 (some ⟨fb, 0, none⟩) N fcap N2 hN2.symm [].length cx cy cs (by rw [hN2]; exact e3))
    clear e3 hN2
    go_wp2_with fail
    refine SHT.out.mono ?_
    rintro e w8 ⟨rfl, f8⟩
    have T8 := hide (T7.out.fr0 f8)
    have D8 := hide (D7.out.fr0 f8)
    clear f8 SHT
    go_wp2
    go_ret
    exact ⟨rfl, DoesPost.of F3.out H.out.lt T8.out D8.out⟩
  · obtain ⟨N2, hN2⟩ : ∃ N : Nat, N = (m'.W * m'.H).toNat := ⟨_, rfl⟩
    have e3 := HK.out.all rfl (by simpa using k7) (by simpa using k8)
    have SHT := hide (short_all k n a c s av lv cv w5 bd { d with gx := gx, gp := gp, gt := gt5 } m' m' (r'.feed []) true T6.out.at' D6.out k7 k8 (some ⟨fb, 0, none⟩) N fcap N2 hN2.symm [].length cx cy cs (by rw [hN2]; exact e3))
    clear e3 hN2
    go_wp2_with fail
    refine SHT.out.mono ?_
    rintro e w8 ⟨rfl, f8⟩
    have T8 := hide (T6.out.fr0 f8)
    have D8 := hide (D6.out.fr0 f8)
    clear f8 SHT
    go_wp2
    go_ret
    exact ⟨rfl, DoesPost.of F3.out H.out.lt T8.out D8.out⟩

set_option maxHeartbeats 8000000 in
set_option maxRecDepth 100000 in
theorem does15_part (k n a c : Int) (s : ByteArray) (av : Option Addr) (lv cv : Nat) (w : World) (bd : Nat) (d : Dg) (m m' : Pt) (r r' : R) (z : Bool) (bs : List Int) (h : TriAt w d m m r) (hd : Blk w bd (dkOf d z) 76) (k12 : (k == 12) = false) (k7 : k = 7 ∨ k = 8) (k9 : (k == 9) = false) (k10 : (k == 10) = false)
    (OK : StepOk k m m' r' bs 0 z) (HC : ∀ w1, Fr [] w w1 → Calls Tryz.prog 29 #[.pointer (some ⟨bd, 0, none⟩), .agg #[.int .i64 k, .int .i64 n, .int .i64 a, .int .i64 c, .string s, .slice av lv cv]] w1 (CallPost d m' r' bs 0 w1)) (hs : r'.begun.size ≤ 1152921504606846976) :
    Calls Tryz.prog 12 #[.pointer (some ⟨bd, 0, none⟩), .agg #[.int .i64 k, .int .i64 n, .int .i64 a, .int .i64 c, .string s, .slice av lv cv], .int .i64 15] w (DoesPost d m' (r'.feed bs) z bd w) := by
  have H := hide h
  have HD := hide hd
  have HK := hide OK
  have HCC := hide HC
  have mb := mul_bd h.p.w1 h.p.w2 h.p.h1 h.p.h2
  obtain ⟨N, hN⟩ : ∃ N : Nat, N = (m.W * m.H).toNat := ⟨_, rfl⟩
  have n1 : 1 ≤ N := by omega
  have n2 : N ≤ 800 := by omega
  have HN := hide hN
  have HL : Hid ((m.v.grid m.W m.H).length = N) := by show _ = _; rw [V.grid_length, HN.out]
  have FX : Hid (Fr [] w ((w.alloc (.cells #[.int .i64 k, .int .i64 n, .int .i64 a, .int .i64 c, .string s, .slice av lv cv] 32)).alloc (.cells #[.int .i64 0, .int .i64 0, .bool false] 66))) := ((Fr.refl _ _).alloc _).alloc _
  have GR := hide (dgrid_any _ d.bp d.gp m (h.fr0 FX.out).p)
  have BW : Hid (Blk ((w.alloc (.cells #[.int .i64 k, .int .i64 n, .int .i64 a, .int .i64 c, .string s, .slice av lv cv] 32)).alloc (.cells #[.int .i64 0, .int .i64 0, .bool false] 66)) (w.heap.size + 1) [.int .i64 0, .int .i64 0, .bool false] 66) := by
    have := Blk.new (w.alloc (.cells #[.int .i64 k, .int .i64 n, .int .i64 a, .int .i64 c, .string s, .slice av lv cv] 32)) [.int .i64 0, .int .i64 0, .bool false] 66
    exact hide (by simpa using this)
  have BO := hide ((Blk.new w (opOf k n a c s (.slice av lv cv)) 32).alloc (.cells #[.int .i64 0, .int .i64 0, .bool false] 66))
  have l0 := hd.lt
  obtain ⟨q0, q1, q2, q3⟩ := hd.dk
  clear h hd OK HC mb hN
  go_enter Tryz.func12, Tryz.ntmps12
  go_wp2_with fail
  refine GR.out.mono ?_
  rintro e w1 ⟨u, rfl, hu, f1⟩
  rw [← HN.out] at hu
  obtain ⟨fb, fcap, fsp, rfl, hge, hrow⟩ := RRow.of hu HL.out n1
  have F1 := hide (FX.out.then f1)
  have FGE : Hid (w.heap.size ≤ fb) := by
    show _ ≤ _
    have := FX.out.size
    omega
  have RW1 := hide hrow
  have BW1 := hide (BW.out.fr0 f1)
  have BO1 := hide (BO.out.fr0 f1)
  have PL := hide (place_cur w1 d.bp d.gp m (H.out.fr0 F1.out).p)
  clear hu hge hrow f1 GR q0 q1 q2 q3
  obtain ⟨k0, k1, k2, k3⟩ := (HD.out.fr0 F1.out).dk
  have l1 := (HD.out.fr0 F1.out).lt
  obtain ⟨cx, hcx⟩ : ∃ x, x = m.cur.x := ⟨_, rfl⟩
  obtain ⟨cy, hcy⟩ : ∃ x, x = m.cur.y := ⟨_, rfl⟩
  obtain ⟨cs, hcs⟩ : ∃ x, x = m.cur.shown := ⟨_, rfl⟩
  rw [← hcx, ← hcy, ← hcs] at PL
  have CU : Hid ((⟨cx, cy, cs⟩ : Cur) = m.cur) := by show _ = _; rw [hcx, hcy, hcs]
  clear hcx hcy hcs
  go_wp2_with fail
  refine PL.out.mono ?_
  rintro e w2 ⟨rfl, f2⟩
  have F2 := hide (F1.out.then f2)
  have RW2 := hide (RW1.out.fr0 f2)
  have BW2 := hide (BW1.out.fr0 f2)
  have BO2 := hide (BO1.out.fr0 f2)
  have wc0 : w2.cell? ⟨w.heap.size + 1, 0, none⟩ = some (.int .i64 0) := BW2.out.cell 0
  have wc1 : w2.cell? ⟨w.heap.size + 1, 1, none⟩ = some (.int .i64 0) := BW2.out.cell 1
  have wc2 : w2.cell? ⟨w.heap.size + 1, 2, none⟩ = some (.bool false) := BW2.out.cell 2
  have wz0 := BW2.out.frozen 0
  have wz1 := BW2.out.frozen 1
  have wz2 := BW2.out.frozen 2
  have wl := BW2.out.lt
  obtain ⟨o0, o1, o2, o3, o4, o5⟩ := BO2.out.op
  have ol := BO2.out.lt
  clear f2 PL k0 k1 k2 k3 RW1 BW1 BO1 BW BO
  have F3 : Hid (Fr [] w (((w2.setCell ⟨w.heap.size + 1, 0, none⟩ (.int .i64 cx)).setCell ⟨w.heap.size + 1, 1, none⟩ (.int .i64 cy)).setCell ⟨w.heap.size + 1, 2, none⟩ (.bool cs))) := ((F2.out.setCell (.inr (by simp)) _).setCell (.inr (by simp)) _).setCell (.inr (by simp)) _
  have F23 : Fr [w.heap.size + 1] w2 (((w2.setCell ⟨w.heap.size + 1, 0, none⟩ (.int .i64 cx)).setCell ⟨w.heap.size + 1, 1, none⟩ (.int .i64 cy)).setCell ⟨w.heap.size + 1, 2, none⟩ (.bool cs)) := (((Fr.refl _ _).setCell (.inl (by simp)) _).setCell (.inl (by simp)) _).setCell (.inl (by simp)) _
  have BW3 : Hid (Blk (((w2.setCell ⟨w.heap.size + 1, 0, none⟩ (.int .i64 cx)).setCell ⟨w.heap.size + 1, 1, none⟩ (.int .i64 cy)).setCell ⟨w.heap.size + 1, 2, none⟩ (.bool cs)) (w.heap.size + 1) [.int .i64 cx, .int .i64 cy, .bool cs] 66) := ((BW2.out.set 0 _).set 1 _).set 2 _
  have RW3 := hide (RW2.out.fr F23 (by simpa using RW2.out.row.ne BW2.out (by decide)))
  have BO3 := hide (BO2.out.fr F23 (by simp))
  have CL := hide (HCC.out _ F3.out)
  clear F23
  go_wp2_with fail
  generalize ((w2.setCell ⟨w.heap.size + 1, 0, none⟩ (.int .i64 cx)).setCell ⟨w.heap.size + 1, 1, none⟩ (.int .i64 cy)).setCell ⟨w.heap.size + 1, 2, none⟩ (.bool cs) = w3 at *
  clear wc0 wc1 wc2 wz0 wz1 wz2 wl o0 o1 o2 o3 o4 o5 ol BW2 BO2 RW2
  refine CL.out.mono ?_
  rintro e w4 ⟨rfl, gx, gp, gt, t4⟩
  have h3 := hide (H.out.fr0 F3.out)
  have D4 := hide ((HD.out.fr0 F3.out).fr t4.f (h3.out.off (HD.out.fr0 F3.out) (by decide)))
  have BW4 := hide (BW3.out.fr t4.f (h3.out.off BW3.out (by decide)))
  have BO4 := hide (BO3.out.fr t4.f (h3.out.off BO3.out (by decide)))
  have FLT : Hid (fb < w3.heap.size) := RW3.out.row.lt
  have RW4 := hide (RW3.out.fr t4.f (fun hm => by have := H.out.lt fb hm; have := FGE.out; omega))
  have NF : Hid (fb ∉ Dg.foot { d with gx := gx, gp := gp, gt := gt }) := fun hm => by
    rcases t4.s fb hm with y | y
    · have := H.out.lt fb y; have := FGE.out; omega
    · have := FLT.out; omega
  have T4 := hide t4
  obtain ⟨k0, k1, k2, k3⟩ := D4.out.dk
  have FD := hide (rfeed_any (strOfNums bs) w4 d.bt gt r' T4.out.at'.t (by rw [str_size]; have := HK.out.len; omega))
  rw [nums_str _ HK.out.bytes] at FD
  have LN : Hid ((strOfNums bs).size = bs.length) := str_size _
  have LB := HK.out.len
  clear t4 CL BW3 BO3 RW3
  generalize strOfNums bs = sx at *
  go_wp2_with fail
  refine FD.out.mono ?_
  rintro e w5 ⟨rfl, u5⟩
  obtain ⟨gt5, t5, f5⟩ := T4.out.ref u5
  have D5 := hide (T4.out.keep f5 D4.out (by decide))
  have BW5 := hide (T4.out.keep f5 BW4.out (by decide))
  have BO5 := hide (T4.out.keep f5 BO4.out (by decide))
  have RW5 := hide (RW4.out.fr f5 NF.out)
  have T5 := hide t5
  clear u5 t5 f5 FD T4 D4 BW4 BO4 RW4 NF FLT h3 k0 k1 k2 k3
  obtain ⟨k0, k1, k2, k3⟩ := D5.out.dk
  obtain ⟨o0, o1, o2, o3, o4, o5⟩ := BO5.out.op
  have y0 : w5.cell? ⟨w.heap.size + 1, 0, none⟩ = some (.int .i64 cx) := BW5.out.cell 0
  have y1 : w5.cell? ⟨w.heap.size + 1, 1, none⟩ = some (.int .i64 cy) := BW5.out.cell 1
  have y2 : w5.cell? ⟨w.heap.size + 1, 2, none⟩ = some (.bool cs) := BW5.out.cell 2
  have z3 := D5.out.frozen 3
  have dl := D5.out.lt
  have T6 : Hid (TM w3 (bd :: d.foot) w5 { d with gx := gx, gp := gp, gt := gt5 } m' m' (r'.feed bs)) := T5.out.wide bd
  have D6 := D5
  have BW6 := BW5
  have BO6 := BO5
  have RW6 := RW5
  clear T5 D5 BW5 BO5 RW5
  cases z
  · have SHO := HK.out.inv.sh rfl
    obtain ⟨g1, g2, g3⟩ := SHO.desk
    have SH := hide (shown_yes w5 bd { d with gx := gx, gp := gp, gt := gt5 } m' m' (r'.feed bs) false T6.out.at' D6.out g1 g2 g3)
    clear SHO g1 g2 g3
    go_wp2_with fail
    refine SH.out.mono ?_
    rintro e w7 ⟨rfl, f7⟩
    have T7 := hide (T6.out.fr0 f7)
    have D7 := hide (D6.out.fr0 f7)
    have BW7 := hide (BW6.out.fr0 f7)
    have BO7 := hide (BO6.out.fr0 f7)
    have RW7 := hide (RW6.out.fr0 f7)
    clear f7 SH k0 k1 k2 k3 o0 o1 o2 o3 o4 o5 y0 y1 y2
    obtain ⟨k0, k1, k2, k3⟩ := D7.out.dk
    obtain ⟨o0, o1, o2, o3, o4, o5⟩ := BO7.out.op
    have y0 : w7.cell? ⟨w.heap.size + 1, 0, none⟩ = some (.int .i64 cx) := BW7.out.cell 0
    have y1 : w7.cell? ⟨w.heap.size + 1, 1, none⟩ = some (.int .i64 cy) := BW7.out.cell 1
    have y2 : w7.cell? ⟨w.heap.size + 1, 2, none⟩ = some (.bool cs) := BW7.out.cell 2
    obtain ⟨e1, e2, e3, e4⟩ := HK.out.part rfl k7
    have SHT := hide (short_part k n a c s av lv cv w7 bd { d with gx := gx, gp := gp, gt := gt5 } m' m' (r'.feed bs) false T7.out.at' D7.out k7 fb fcap fsp _ RW7.out N (by rw [e1, e2]; exact HN.out.symm) HL.out bs.length cx cy cs (by have := e3; rw [e1, e2, ← HN.out] at this; rw [e1, e2]; simpa only [Pt.grid, e1, e2] using this) (by intro hz hc; refine e4 ?_ (CU.out.symm.trans hc); rw [e1, e2, ← HN.out]; simpa only [Pt.grid, e1, e2] using hz) (by omega))
    rw [← LN.out] at SHT
    clear e1 e2 e3 e4
    go_wp2_with fail
    refine SHT.out.mono ?_
    rintro e w8 ⟨rfl, f8⟩
    have T8 := hide (T7.out.fr0 f8)
    have D8 := hide (D7.out.fr0 f8)
    clear f8 SHT
    go_wp2
    go_ret
    exact ⟨rfl, DoesPost.of F3.out H.out.lt T8.out D8.out⟩
  · obtain ⟨e1, e2, e3, e4⟩ := HK.out.part rfl k7
    have SHT := hide (short_part k n a c s av lv cv w5 bd { d with gx := gx, gp := gp, gt := gt5 } m' m' (r'.feed bs) true T6.out.at' D6.out k7 fb fcap fsp _ RW6.out N (by rw [e1, e2]; exact HN.out.symm) HL.out bs.length cx cy cs (by have := e3; rw [e1, e2, ← HN.out] at this; rw [e1, e2]; simpa only [Pt.grid, e1, e2] using this) (by intro hz hc; refine e4 ?_ (CU.out.symm.trans hc); rw [e1, e2, ← HN.out]; simpa only [Pt.grid, e1, e2] using hz) (by omega))
    rw [← LN.out] at SHT
    clear e1 e2 e3 e4
    go_wp2_with fail
    refine SHT.out.mono ?_
    rintro e w8 ⟨rfl, f8⟩
    have T8 := hide (T6.out.fr0 f8)
    have D8 := hide (D6.out.fr0 f8)
    clear f8 SHT
    go_wp2
    go_ret
    exact ⟨rfl, DoesPost.of F3.out H.out.lt T8.out D8.out⟩

set_option maxHeartbeats 8000000 in
set_option maxRecDepth 100000 in
theorem does15_whole (k n a c : Int) (s : ByteArray) (av : Option Addr) (lv cv : Nat) (w : World) (bd : Nat) (d : Dg) (m m' : Pt) (r r' : R) (z : Bool) (bs : List Int) (h : TriAt w d m m r) (hd : Blk w bd (dkOf d z) 76) (k12 : (k == 12) = false) (k9 : (k == 9) = true ∨ ((k == 9) = false ∧ (k == 10) = true)) (k7 : (k == 7) = false) (k8 : (k == 8) = false)
    (OK : StepOk k m m' r' bs 0 false) (HC : ∀ w1, Fr [] w w1 → Calls Tryz.prog 29 #[.pointer (some ⟨bd, 0, none⟩), .agg #[.int .i64 k, .int .i64 n, .int .i64 a, .int .i64 c, .string s, .slice av lv cv]] w1 (CallPost d m' r' bs 0 w1)) (hs : r'.begun.size ≤ 1152921504606846976) :
    Calls Tryz.prog 12 #[.pointer (some ⟨bd, 0, none⟩), .agg #[.int .i64 k, .int .i64 n, .int .i64 a, .int .i64 c, .string s, .slice av lv cv], .int .i64 15] w (DoesPost d m' (r'.feed bs) false bd w) := by
  have H := hide h
  have HD := hide hd
  have HK := hide OK
  have HCC := hide HC
  have mb := mul_bd h.p.w1 h.p.w2 h.p.h1 h.p.h2
  obtain ⟨N, hN⟩ : ∃ N : Nat, N = (m.W * m.H).toNat := ⟨_, rfl⟩
  have n1 : 1 ≤ N := by omega
  have n2 : N ≤ 800 := by omega
  have HN := hide hN
  have HL : Hid ((m.v.grid m.W m.H).length = N) := by show _ = _; rw [V.grid_length, HN.out]
  have FX : Hid (Fr [] w ((w.alloc (.cells #[.int .i64 k, .int .i64 n, .int .i64 a, .int .i64 c, .string s, .slice av lv cv] 32)).alloc (.cells #[.int .i64 0, .int .i64 0, .bool false] 66))) := ((Fr.refl _ _).alloc _).alloc _
  have GR := hide (dgrid_any _ d.bp d.gp m (h.fr0 FX.out).p)
  have BW : Hid (Blk ((w.alloc (.cells #[.int .i64 k, .int .i64 n, .int .i64 a, .int .i64 c, .string s, .slice av lv cv] 32)).alloc (.cells #[.int .i64 0, .int .i64 0, .bool false] 66)) (w.heap.size + 1) [.int .i64 0, .int .i64 0, .bool false] 66) := by
    have := Blk.new (w.alloc (.cells #[.int .i64 k, .int .i64 n, .int .i64 a, .int .i64 c, .string s, .slice av lv cv] 32)) [.int .i64 0, .int .i64 0, .bool false] 66
    exact hide (by simpa using this)
  have BO := hide ((Blk.new w (opOf k n a c s (.slice av lv cv)) 32).alloc (.cells #[.int .i64 0, .int .i64 0, .bool false] 66))
  have l0 := hd.lt
  obtain ⟨q0, q1, q2, q3⟩ := hd.dk
  clear h hd OK HC mb hN
  go_enter Tryz.func12, Tryz.ntmps12
  go_wp2_with fail
  refine GR.out.mono ?_
  rintro e w1 ⟨u, rfl, hu, f1⟩
  rw [← HN.out] at hu
  obtain ⟨fb, fcap, fsp, rfl, hge, hrow⟩ := RRow.of hu HL.out n1
  have F1 := hide (FX.out.then f1)
  have FGE : Hid (w.heap.size ≤ fb) := by
    show _ ≤ _
    have := FX.out.size
    omega
  have RW1 := hide hrow
  have BW1 := hide (BW.out.fr0 f1)
  have BO1 := hide (BO.out.fr0 f1)
  have PL := hide (place_cur w1 d.bp d.gp m (H.out.fr0 F1.out).p)
  clear hu hge hrow f1 GR q0 q1 q2 q3
  obtain ⟨k0, k1, k2, k3⟩ := (HD.out.fr0 F1.out).dk
  have l1 := (HD.out.fr0 F1.out).lt
  obtain ⟨cx, hcx⟩ : ∃ x, x = m.cur.x := ⟨_, rfl⟩
  obtain ⟨cy, hcy⟩ : ∃ x, x = m.cur.y := ⟨_, rfl⟩
  obtain ⟨cs, hcs⟩ : ∃ x, x = m.cur.shown := ⟨_, rfl⟩
  rw [← hcx, ← hcy, ← hcs] at PL
  have CU : Hid ((⟨cx, cy, cs⟩ : Cur) = m.cur) := by show _ = _; rw [hcx, hcy, hcs]
  clear hcx hcy hcs
  go_wp2_with fail
  refine PL.out.mono ?_
  rintro e w2 ⟨rfl, f2⟩
  have F2 := hide (F1.out.then f2)
  have RW2 := hide (RW1.out.fr0 f2)
  have BW2 := hide (BW1.out.fr0 f2)
  have BO2 := hide (BO1.out.fr0 f2)
  have wc0 : w2.cell? ⟨w.heap.size + 1, 0, none⟩ = some (.int .i64 0) := BW2.out.cell 0
  have wc1 : w2.cell? ⟨w.heap.size + 1, 1, none⟩ = some (.int .i64 0) := BW2.out.cell 1
  have wc2 : w2.cell? ⟨w.heap.size + 1, 2, none⟩ = some (.bool false) := BW2.out.cell 2
  have wz0 := BW2.out.frozen 0
  have wz1 := BW2.out.frozen 1
  have wz2 := BW2.out.frozen 2
  have wl := BW2.out.lt
  obtain ⟨o0, o1, o2, o3, o4, o5⟩ := BO2.out.op
  have ol := BO2.out.lt
  clear f2 PL k0 k1 k2 k3 RW1 BW1 BO1 BW BO
  have F3 : Hid (Fr [] w (((w2.setCell ⟨w.heap.size + 1, 0, none⟩ (.int .i64 cx)).setCell ⟨w.heap.size + 1, 1, none⟩ (.int .i64 cy)).setCell ⟨w.heap.size + 1, 2, none⟩ (.bool cs))) := ((F2.out.setCell (.inr (by simp)) _).setCell (.inr (by simp)) _).setCell (.inr (by simp)) _
  have F23 : Fr [w.heap.size + 1] w2 (((w2.setCell ⟨w.heap.size + 1, 0, none⟩ (.int .i64 cx)).setCell ⟨w.heap.size + 1, 1, none⟩ (.int .i64 cy)).setCell ⟨w.heap.size + 1, 2, none⟩ (.bool cs)) := (((Fr.refl _ _).setCell (.inl (by simp)) _).setCell (.inl (by simp)) _).setCell (.inl (by simp)) _
  have BW3 : Hid (Blk (((w2.setCell ⟨w.heap.size + 1, 0, none⟩ (.int .i64 cx)).setCell ⟨w.heap.size + 1, 1, none⟩ (.int .i64 cy)).setCell ⟨w.heap.size + 1, 2, none⟩ (.bool cs)) (w.heap.size + 1) [.int .i64 cx, .int .i64 cy, .bool cs] 66) := ((BW2.out.set 0 _).set 1 _).set 2 _
  have RW3 := hide (RW2.out.fr F23 (by simpa using RW2.out.row.ne BW2.out (by decide)))
  have BO3 := hide (BO2.out.fr F23 (by simp))
  have CL := hide (HCC.out _ F3.out)
  clear F23
  go_wp2_with fail
  generalize ((w2.setCell ⟨w.heap.size + 1, 0, none⟩ (.int .i64 cx)).setCell ⟨w.heap.size + 1, 1, none⟩ (.int .i64 cy)).setCell ⟨w.heap.size + 1, 2, none⟩ (.bool cs) = w3 at *
  clear wc0 wc1 wc2 wz0 wz1 wz2 wl o0 o1 o2 o3 o4 o5 ol BW2 BO2 RW2
  refine CL.out.mono ?_
  rintro e w4 ⟨rfl, gx, gp, gt, t4⟩
  have h3 := hide (H.out.fr0 F3.out)
  have D4 := hide ((HD.out.fr0 F3.out).fr t4.f (h3.out.off (HD.out.fr0 F3.out) (by decide)))
  have BW4 := hide (BW3.out.fr t4.f (h3.out.off BW3.out (by decide)))
  have BO4 := hide (BO3.out.fr t4.f (h3.out.off BO3.out (by decide)))
  have FLT : Hid (fb < w3.heap.size) := RW3.out.row.lt
  have RW4 := hide (RW3.out.fr t4.f (fun hm => by have := H.out.lt fb hm; have := FGE.out; omega))
  have NF : Hid (fb ∉ Dg.foot { d with gx := gx, gp := gp, gt := gt }) := fun hm => by
    rcases t4.s fb hm with y | y
    · have := H.out.lt fb y; have := FGE.out; omega
    · have := FLT.out; omega
  have T4 := hide t4
  obtain ⟨k0, k1, k2, k3⟩ := D4.out.dk
  have FD := hide (rfeed_any (strOfNums bs) w4 d.bt gt r' T4.out.at'.t (by rw [str_size]; have := HK.out.len; omega))
  rw [nums_str _ HK.out.bytes] at FD
  have LN : Hid ((strOfNums bs).size = bs.length) := str_size _
  have LB := HK.out.len
  clear t4 CL BW3 BO3 RW3
  generalize strOfNums bs = sx at *
  go_wp2_with fail
  refine FD.out.mono ?_
  rintro e w5 ⟨rfl, u5⟩
  obtain ⟨gt5, t5, f5⟩ := T4.out.ref u5
  have D5 := hide (T4.out.keep f5 D4.out (by decide))
  have BW5 := hide (T4.out.keep f5 BW4.out (by decide))
  have BO5 := hide (T4.out.keep f5 BO4.out (by decide))
  have RW5 := hide (RW4.out.fr f5 NF.out)
  have T5 := hide t5
  clear u5 t5 f5 FD T4 D4 BW4 BO4 RW4 NF FLT h3 k0 k1 k2 k3
  obtain ⟨k0, k1, k2, k3⟩ := D5.out.dk
  obtain ⟨o0, o1, o2, o3, o4, o5⟩ := BO5.out.op
  have y0 : w5.cell? ⟨w.heap.size + 1, 0, none⟩ = some (.int .i64 cx) := BW5.out.cell 0
  have y1 : w5.cell? ⟨w.heap.size + 1, 1, none⟩ = some (.int .i64 cy) := BW5.out.cell 1
  have y2 : w5.cell? ⟨w.heap.size + 1, 2, none⟩ = some (.bool cs) := BW5.out.cell 2
  have z3 := D5.out.frozen 3
  have dl := D5.out.lt
  have T6 : Hid (TM w3 (bd :: d.foot) (w5.setCell ⟨bd, 3, none⟩ (.bool false)) { d with gx := gx, gp := gp, gt := gt5 } m' m' (r'.feed bs)) := by
    have off := T5.out.at'.off D5.out (by decide)
    exact T5.out.flag bd off 3 (.bool false)
  have D6 : Hid (Blk (w5.setCell ⟨bd, 3, none⟩ (.bool false)) bd (dkOf { d with gx := gx, gp := gp, gt := gt5 } false) 76) := D5.out.set 3 _
  have BW6 := hide (BW5.out.setOther (p := ⟨bd, 3, none⟩) (BW5.out.ne D5.out (by decide)) (.bool false))
  have BO6 := hide (BO5.out.setOther (p := ⟨bd, 3, none⟩) (BO5.out.ne D5.out (by decide)) (.bool false))
  have RW6 : Hid (RRow (w5.setCell ⟨bd, 3, none⟩ (.bool false)) fb fcap fsp (m.v.grid m.W m.H)) := ⟨RW5.out.row.setOther (p := ⟨bd, 3, none⟩) (RW5.out.row.ne D5.out (by decide)) _, RW5.out.capLe⟩
  clear T5 D5 BW5 BO5 RW5
  rcases k9 with k9 | ⟨k9, k10⟩
  all_goals
    have SHO := HK.out.inv.sh rfl
    obtain ⟨g1, g2, g3⟩ := SHO.desk
    have SH := hide (shown_yes (w5.setCell ⟨bd, 3, none⟩ (.bool false)) bd { d with gx := gx, gp := gp, gt := gt5 } m' m' (r'.feed bs) false T6.out.at' D6.out g1 g2 g3)
    clear SHO g1 g2 g3
    go_wp2_with fail
    refine SH.out.mono ?_
    rintro e w7 ⟨rfl, f7⟩
    have T7 := hide (T6.out.fr0 f7)
    have D7 := hide (D6.out.fr0 f7)
    have BW7 := hide (BW6.out.fr0 f7)
    have BO7 := hide (BO6.out.fr0 f7)
    have RW7 := hide (RW6.out.fr0 f7)
    clear f7 SH k0 k1 k2 k3 o0 o1 o2 o3 o4 o5 y0 y1 y2
    obtain ⟨k0, k1, k2, k3⟩ := D7.out.dk
    obtain ⟨o0, o1, o2, o3, o4, o5⟩ := BO7.out.op
    have y0 : w7.cell? ⟨w.heap.size + 1, 0, none⟩ = some (.int .i64 cx) := BW7.out.cell 0
    have y1 : w7.cell? ⟨w.heap.size + 1, 1, none⟩ = some (.int .i64 cy) := BW7.out.cell 1
    have y2 : w7.cell? ⟨w.heap.size + 1, 2, none⟩ = some (.bool cs) := BW7.out.cell 2
    obtain ⟨N2, hN2⟩ : ∃ N : Nat, N = (m'.W * m'.H).toNat := ⟨_, rfl⟩
    have e3 := HK.out.all rfl (by simpa using k7) (by simpa using k8)
    have SHT := hide (short_all k n a c s av lv cv w7 bd { d with gx := gx, gp := gp, gt := gt5 } m' m' (r'.feed bs) false T7.out.at' D7.out k7 k8 (some ⟨fb, 0, none⟩) N fcap N2 hN2.symm bs.length cx cy cs (by rw [hN2]; exact e3))
    rw [← LN.out] at SHT
    clear e3 hN2
    go_wp2_with fail
    refine SHT.out.mono ?_
    rintro e w8 ⟨rfl, f8⟩
    have T8 := hide (T7.out.fr0 f8)
    have D8 := hide (D7.out.fr0 f8)
    clear f8 SHT
    go_wp2
    go_ret
    exact ⟨rfl, DoesPost.of F3.out H.out.lt T8.out D8.out⟩
end Go.Proofs.YtjhccghhinlmdabGreatDoor
