import Derived.Test.YtjhccghhinlmdabGreatDoorPackDocRefused
import Derived.Test.YtjhccghhinlmdabGreatDoorLawGame
import Derived.Test.YtjhccghhinlmdabGreatDoorLawWhole
import Derived.Test.YtjhccghhinlmdabGreatDoorSimFeed
/- The document's painter: a view is shown. -/
namespace Go.Proofs.YtjhccghhinlmdabGreatDoor
open Go.RowKit

theorem info_int' : (Tryz.prog.info? 3).map (fun i => (i.zero, i.size, i.bytes)) = some (some (.int .i64 0), 1, 8) := by kernel_rfl

set_option maxHeartbeats 400000 in
theorem dshow_nil (w : World) (wa : Option Addr) (n wcap : Nat) (cx cy : Int) :
    Calls Tryz.prog 47 #[.pointer none, .slice wa n wcap, .agg #[.int .i64 cx, .int .i64 cy]] w fun e w' => e = .returned (.int .i64 1) ∧ Fr [] w w' := by
  go_enter Tryz.func47, Tryz.ntmps47
  go_wp2
  go_ret
  exact ⟨rfl, (Fr.refl _ _).alloc _⟩
set_option maxHeartbeats 400000 in
theorem dshow_many (w : World) (pb : Addr) (wa : Option Addr) (n wcap : Nat) (cx cy : Int) (h : 12 < n) (hl : n ≤ 9223372036854775807) :
    Calls Tryz.prog 47 #[.pointer (some pb), .slice wa n wcap, .agg #[.int .i64 cx, .int .i64 cy]] w fun e w' => e = .returned (.int .i64 3) ∧ Fr [] w w' := by
  go_enter Tryz.func47, Tryz.ntmps47
  go_wp2
  go_ret
  exact ⟨rfl, (Fr.refl _ _).alloc _⟩

/-- the offset that a view without two windows of a key has, asked from the back -/
theorem offOf_last (v : V) (hv : v.Ok) (key n : Int) (h1 : ∀ j, j < v.length → (v.at j).1.key = key → n = (v.at j).2) (h2 : (∀ j, j < v.length → (v.at j).1.key ≠ key) → n = 0) : v.offOf key = n := by
  by_cases h : ∃ j, j < v.length ∧ (v.at j).1.key = key
  · obtain ⟨j, hj, hjk⟩ := h
    rw [h1 j hj hjk]
    have gen : ∀ (u : V) (j : Nat), j < u.length → (u.at j).1.key = key → (∀ i, i < j → (u.at i).1.key ≠ key) → u.offOf key = (u.at j).2 := by
      intro u
      induction u with
      | nil => intro j hj; simp at hj
      | cons p u ih =>
        intro j hj hjk hlt
        obtain ⟨o, m⟩ := p
        cases j with
        | zero =>
          have : o.key = key := hjk
          show (if o.key = key then m else V.offOf u key) = m
          rw [if_pos this]
        | succ j =>
          have h0 : o.key ≠ key := hlt 0 (by omega)
          show (if o.key = key then m else V.offOf u key) = _
          rw [if_neg h0]
          exact ih j (by simpa using hj) hjk (fun i hi => hlt (i + 1) (by omega))
    refine gen v j hj hjk ?_
    intro i hi hik
    exact hv.keys i j _ _ (V.at_some (by omega)) (V.at_some hj) hi (by rw [hik, hjk])
  · rw [h2 (fun j hj hk => h ⟨j, hj, hk⟩)]
    have gen : ∀ u : V, (∀ j, j < u.length → (u.at j).1.key ≠ key) → u.offOf key = 0 := by
      intro u
      induction u with
      | nil => intro _; rfl
      | cons p u ih =>
        intro hu
        obtain ⟨o, m⟩ := p
        show (if o.key = key then m else V.offOf u key) = 0
        have h0 : o.key ≠ key := hu 0 (by simp)
        rw [if_neg h0]
        exact ih (fun j hj => hu (j + 1) (by simpa using hj))
    exact gen v (fun j hj hk => h ⟨j, hj, hk⟩)
end Go.Proofs.YtjhccghhinlmdabGreatDoor
/- The document's painter: a view is shown, window by window. -/
namespace Go.Proofs.YtjhccghhinlmdabGreatDoor
open Go.RowKit

/-- so many windows have been taken over -/
structure Taken (base : Nat) (w : World) (u1 u2 : Value) (k : Nat) (ws : List Win) (os : List Int) : Prop where
  vw : w.ownsRow base 104 8 u1 k (flatW ws)
  of : w.ownsRow base 3 1 u2 k (os.map (Value.int .i64))
theorem Taken.fr0 {base : Nat} {w w' : World} {u1 u2 : Value} {k : Nat} {ws : List Win} {os : List Int} (h : Taken base w u1 u2 k ws os) (f : Fr [] w w') : Taken base w' u1 u2 k ws os := ⟨own_fr0 h.vw f, own_fr0 h.of f⟩
theorem own_two {w w' : World} {base n m : Nat} {s1 s2 : Nat} {e1 e2 : TypeId} {u v : Value} {xs ys : List Value} (h : w.ownsRow base e1 s1 u n xs) (k : w.ownsRow base e2 s2 v m ys) (he : e1 ≠ e2) (hg : w.grownBy w' u.ownBlock) : w'.ownsRow base e2 s2 v m ys := by
  refine own_grown k hg ?_
  intro b hb hv
  obtain ⟨us, hu⟩ := own_blk' h hb
  obtain ⟨vs, hvs⟩ := own_blk' k hv
  exact (hu.ne hvs he) rfl

theorem next_offs (v : V) (ws : List Win) : (v.next ws).wins = ws ∧ (v.next ws).offs = ws.map fun o => o.fits (v.offOf o.key) := by
  constructor
  · simp [V.next, V.wins, Function.comp_def]
  · simp [V.next, V.offs, Function.comp_def]

set_option maxHeartbeats 4000000 in
set_option maxRecDepth 100000 in
theorem dshow_loop (w : World) (b : Nat) (g : DGh) (m : Pt) (h : DPAt w b g m) (wa : Option Addr) (ws : List Win) (n wcap : Nat) (cx cy : Int) (hw : WinsAt w wa ws) (hn : ws.length = n) (h12 : n ≤ 12) (hsz : ∀ o ∈ ws, o.text.size ≤ 9223372036854775807) :
    Calls Tryz.prog 47 #[.pointer (some ⟨b, 0, none⟩), .slice wa n wcap, .agg #[.int .i64 cx, .int .i64 cy]] w fun e w' => e = .returned (.int .i64 (errV ws)) ∧ ((errV ws ≠ 0 ∧ Fr [] w w') ∨ (errV ws = 0 ∧ DUpd b g { m with v := m.v.next ws, cx := cx, cy := cy } w w')) := by
  subst hn
  obtain ⟨va, oa, cv, co, r, ev, eo⟩ := h.reads
  have n12 := h.ok.n
  have HR := hide r
  have H := hide h
  have HW := hide hw
  have HS := hide hsz
  have EE : Hid (errV ws = errFrom ws 0 ws) := by show _ = _; unfold errV; rw [if_neg (by omega)]
  obtain ⟨i0, hi, hz0, hz1, hz2⟩ := info_parts info_win
  obtain ⟨j0, ji, jz0, jz1, jz2⟩ := info_parts info_int'
  clear h r hw hsz
  go_enter Tryz.func47, Tryz.ntmps47
  go_wp2
  go_loopw [7, 8, 9] (fun u1 u2 i wr => ∃ k : Nat, i = .int .i64 k ∧ k ≤ ws.length ∧ Fr [] w wr ∧ Blk wr w.heap.size [.int .i64 cx, .int .i64 cy] 96 ∧ Taken w.heap.size wr u1 u2 k (ws.take k) ((m.v.next ws).offs.take k) ∧ errV ws = errFrom ws k (ws.drop k)) (fun _ _ i _ => (3000 - intOf i).toNat)
  case atStart => exact ⟨0, rfl, by omega, (Fr.refl _ _).alloc _, Blk.new _ _ _, ⟨World.ownsRow_nil _ _ _ _, World.ownsRow_nil _ _ _ _⟩, EE.out⟩
  case round =>
    obtain ⟨k, rfl, hk, f, B, T, he⟩ := hrel
    by_cases hend : k < ws.length
    · obtain ⟨o, ho⟩ : ∃ o, ws[k]? = some o := ⟨_, List.getElem?_eq_getElem hend⟩
      have RF := hide (refused'_any ws k o wa _ wcap wr (HW.out.fr f (by simp)) rfl (by omega) ho (HS.out o (List.mem_of_getElem? ho)))
      have ST := hide (errFrom_step ws k o ho)
      rw [← he] at ST
      have HB := hide B
      have HT := hide T
      have HO := hide ho
      have b1 : (k : Int) < ws.length := by omega
      clear B T he ho
      by_cases hz : errAt ws k o = 0
      · rw [hz] at RF
        rw [if_pos hz] at ST
        have ok := (errAt_ok hz).1
        clear hz
        go_wp2_with fail
        refine RF.out.mono ?_
        rintro e w1 ⟨rfl, f1⟩
        have F1 := hide (f.then f1)
        have B1 := hide (HB.out.fr0 f1)
        have T1 := hide (HT.out.fr0 f1)
        have R1 := hide (HR.out.fr0 F1.out)
        have W1 := hide (HW.out.fr F1.out (by simp))
        clear f1 RF HB HT f
        go_wp2
        go_loopw [11, 12] (fun u i wq => ∃ (q : Nat) (nn : Int), i = .int .i64 q ∧ q ≤ m.v.length ∧ u = .int .i64 nn ∧ (0 ≤ nn ∧ nn ≤ 401) ∧ Fr [] w1 wq ∧ (∀ j, j < q → (m.v.at j).1.key = o.key → nn = (m.v.at j).2) ∧ ((∀ j, j < q → (m.v.at j).1.key ≠ o.key) → nn = 0)) (fun _ i _ => (3000 - intOf i).toNat)
        case atStart => exact ⟨0, 0, rfl, by omega, rfl, by omega, Fr.refl _ _, by simp, fun _ => rfl⟩
        case round =>
          obtain ⟨q, nn, rfl, hq, rfl, ⟨nn1, nn2⟩, f2, hA, hZ⟩ := hrel
          have R2 := R1.out.fr0 f2
          have c2 := R2.c2
          have c3 := R2.c3
          obtain ⟨wb, woff, rfl, CW⟩ := (W1.out.fr f2 (by simp)) k o HO.out
          have w0 := CW.c0
          by_cases hqe : q < m.v.length
          · obtain ⟨gb, off, rfl, C⟩ := R2.ws q _ (wins_at hqe)
            obtain ⟨og, rfl, oc⟩ := R2.os q _ (offs_at hqe)
            have c0 := C.c0
            have bq : (q : Int) < m.v.length := by omega
            have obd := (H.out.ok.at hqe).2
            have HA := hide hA
            have HZ := hide hZ
            clear hA hZ R2 C CW
            by_cases hkey : (m.v.at q).1.key = o.key
            · have bk : ((m.v.at q).1.key == o.key) = true := by simpa using hkey
              have NA : Hid (∀ j, j < q + 1 → (m.v.at j).1.key = o.key → (m.v.at q).2 = (m.v.at j).2) := by
                intro j hj hjk
                rcases Nat.lt_or_ge j q with e | e
                · exact absurd (hjk.trans hkey.symm) (H.out.ok.keys j q _ _ (V.at_some (by omega)) (V.at_some hqe) e)
                · have : j = q := by omega
                  subst this; rfl
              have NZ : Hid ((∀ j, j < q + 1 → (m.v.at j).1.key ≠ o.key) → (m.v.at q).2 = 0) := fun hh => absurd hkey (hh q (by omega))
              clear hkey
              go_wp2
              go_quiet (fail)
              go_wp2
              go_roundw
              case rel => exact ⟨q + 1, _, by go_num, by omega, rfl, obd, f2.drewN _, NA.out, NZ.out⟩
              case measure => simp [intOf]; omega
            · have bk : ((m.v.at q).1.key == o.key) = false := by simpa using hkey
              have NA : Hid (∀ j, j < q + 1 → (m.v.at j).1.key = o.key → nn = (m.v.at j).2) := by
                intro j hj hjk
                rcases Nat.lt_or_ge j q with e | e
                · exact HA.out j e hjk
                · have : j = q := by omega
                  subst this; exact absurd hjk hkey
              have NZ : Hid ((∀ j, j < q + 1 → (m.v.at j).1.key ≠ o.key) → nn = 0) := fun hh => HZ.out (fun j hj => hh j (by omega))
              clear hkey
              go_wp2
              go_quiet (fail)
              go_wp2
              go_roundw
              case rel => exact ⟨q + 1, nn, by go_num, by omega, rfl, ⟨nn1, nn2⟩, f2.drewN _, NA.out, NZ.out⟩
              case measure => simp [intOf]; omega
          · have hq' : q = m.v.length := by omega
            subst hq'
            have NO := hide (offOf_last m.v H.out.ok o.key nn hA hZ)
            obtain ⟨w0', w1', w2', w3', w4', w5', w6', w7'⟩ := CW
            have F2 := hide (F1.out.then f2)
            have B2 := hide (B1.out.fr0 f2)
            have T2 := hide (T1.out.fr0 f2)
            have W2 := hide (W1.out.fr f2 (by simp))
            clear hA hZ R2 f2 B1 T1 F1
            go_wp2_with fail
            refine (greatest_any o _ ok).mono ?_
            rintro e w3 ⟨rfl, f3⟩
            have F3 := hide (F2.out.then f3)
            have B3 := hide (B2.out.fr0 f3)
            have T3 := hide (T2.out.fr0 f3)
            obtain ⟨wb', woff', he', CW3⟩ := (W2.out.fr f3 (by simp)) k o HO.out
            simp only [Option.some.injEq, Addr.mk.injEq, and_true] at he'
            obtain ⟨rfl, rfl⟩ := he'
            obtain ⟨x0, x1, x2, x3, x4, x5, x6, x7⟩ := CW3
            have FV : Hid (dleast nn o.most = o.fits (m.v.offOf o.key)) := by
              show _ = _; rw [NO.out, fits_least o ok nn, if_neg (by omega)]
            have fbd := o.fits_bd ok (m.v.offOf o.key)
            have LS := hide (fun w' => dleast_any nn o.most w')
            rw [FV.out] at LS
            have TW : Hid (flatW (ws.take k) ++ o.vals = flatW (ws.take (k + 1))) := by
              show _ = _
              rw [flatW_snoc, List.take_add_one, HO.out]; rfl
            have TO : Hid (((m.v.next ws).offs.take k).map (Value.int .i64) ++ [.int .i64 (o.fits (m.v.offOf o.key))] = ((m.v.next ws).offs.take (k + 1)).map (Value.int .i64)) := by
              show _ = _
              rw [(next_offs m.v ws).2, List.take_add_one, List.getElem?_map, HO.out]; simp
            have hs3 := F3.out.size
            generalize o.fits (m.v.offOf o.key) = fv at *
            clear f3 B2 T2 w0' w1' w2' w3' w4' w5' w6' w7' W2 FV NO c2 c3 w0 nn1 nn2
            go_wp2_with fail
            refine (LS.out _).mono ?_
            rintro e w' ⟨rfl, wc⟩
            subst wc
            go_wp2_with (first | (at_builtin; refine wpList_append_lies _ rfl (.tmp 69) (.tmp 74) 30 rfl w.heap.size 104 i0 (.agg #[.int .i64 0, .int .i64 0, .int .i64 0, .int .i64 0, .int .i64 0, .int .i64 0, .int .i64 0, .string ⟨#[]⟩]) 8 72 Tryz.underlying30 hi hz0 hz1 hz2 rfl (by decide) u7 k (flatW (ws.take k)) rfl (own_fr0 T3.out.vw ((Fr.refl _ _).alloc _)) ⟨w3.heap.size, 0, none⟩ 1 1 [.int .i64 o.key, .int .i64 o.x, .int .i64 o.y, .int .i64 o.w, .int .i64 o.h, .int .i64 o.layer, .int .i64 o.style, .string o.text] rfl rfl (World.news_of_block (cs := #[.int .i64 o.key, .int .i64 o.x, .int .i64 o.y, .int .i64 o.w, .int .i64 o.h, .int .i64 o.layer, .int .i64 o.style, .string o.text]) (t := 104) (fr := (0, 0)) (by exact heap_alloc_new w3 _)) (eight_one _ _ _ _ _ _ _ _) (by omega) (by unfold maxLen; omega) (by omega) (by simp; omega) (w3.heap.size + 1) (by simp) ?_; intro g1 cap1 w4 hown1 hgrow hat hlt1; have F4 : Hid (Fr [] w w4) := (Fr.grown (F3.out.alloc _) hgrow (fun j hj => .inr (T3.out.vw.lt j hj).1)); have B4 : Hid (Blk w4 w.heap.size [.int .i64 cx, .int .i64 cy] 96) := ((B3.out.alloc _).grown hgrow (own_ne T3.out.vw B3.out (by decide))); have O4 : Hid (w4.ownsRow w.heap.size 3 1 u8 k (((m.v.next ws).offs.take k).map (Value.int .i64))) := (own_two (own_fr0 T3.out.vw ((Fr.refl _ _).alloc _)) (own_fr0 T3.out.of ((Fr.refl _ _).alloc _)) (by decide) hgrow); have V4 : Hid (w4.ownsRow w.heap.size 104 8 (.slice (some ⟨g1, 0, none⟩) (k + 1) cap1) (k + 1) (flatW (ws.take (k + 1)))) := (by rw [← TW.out]; exact hown1); have hs4 := F4.out.size; clear hown1 hgrow hat) | (at_builtin; refine wpList_append_lies _ rfl (.tmp 76) (.tmp 78) 99 rfl w.heap.size 3 j0 (.int .i64 0) 1 8 Tryz.underlying99 ji jz0 jz1 jz2 rfl (by decide) u8 k (((m.v.next ws).offs.take k).map (Value.int .i64)) rfl (own_fr0 O4.out ((Fr.refl _ _).alloc _)) ⟨w4.heap.size, 0, none⟩ 1 1 [.int .i64 fv] rfl rfl (World.news_of_block (cs := #[.int .i64 fv]) (t := 3) (fr := (0, 0)) (by exact heap_alloc_new w4 _)) (one_one _ rfl) (by omega) (by unfold maxLen; omega) (by omega) (by simp; omega) (w4.heap.size + 1) (by simp) ?_; intro g2 cap2 w5 hown2 hgrow2 hat2 hlt2; have F5 : Hid (Fr [] w w5) := (Fr.grown (F4.out.alloc _) hgrow2 (fun j hj => .inr (O4.out.lt j hj).1)); have B5 : Hid (Blk w5 w.heap.size [.int .i64 cx, .int .i64 cy] 96) := ((B4.out.alloc _).grown hgrow2 (own_ne O4.out B4.out (by decide))); have V5 : Hid (w5.ownsRow w.heap.size 104 8 (.slice (some ⟨g1, 0, none⟩) (k + 1) cap1) (k + 1) (flatW (ws.take (k + 1)))) := (own_two (own_fr0 O4.out ((Fr.refl _ _).alloc _)) (own_fr0 V4.out ((Fr.refl _ _).alloc _)) (by decide) hgrow2); have O5 : Hid (w5.ownsRow w.heap.size 3 1 (.slice (some ⟨g2, 0, none⟩) (k + 1) cap2) (k + 1) (((m.v.next ws).offs.take (k + 1)).map (Value.int .i64))) := (by rw [← TO.out]; exact hown2); clear hown2 hgrow2 hat2))
            go_roundw
            case rel => exact ⟨k + 1, by go_num, by omega, F5.out, B5.out, ⟨V5.out, O5.out⟩, ST.out⟩
            case measure => simp [intOf]; omega
      · rw [if_neg hz] at ST
        have bz : (errAt ws k o == 0) = false := by simpa using hz
        generalize errAt ws k o = er at *
        go_wp2_with fail
        refine RF.out.mono ?_
        rintro e w1 ⟨rfl, f1⟩
        go_wp2
        go_ret
        exact ⟨ret_int ST.out.symm, .inl ⟨by rw [ST.out]; exact hz, f.then f1⟩⟩
    · have hk' : k = ws.length := by omega
      subst hk'
      have E0 : errV ws = 0 := by rw [he, List.drop_eq_nil_of_le (Nat.le_refl _)]; rfl
      have OL : (m.v.next ws).offs.length = ws.length := by rw [(next_offs m.v ws).2]; simp
      obtain ⟨T1, T2⟩ := T
      rw [List.take_of_length_le (Nat.le_refl _)] at T1
      rw [List.take_of_length_le (by omega)] at T2
      have h1 := H.out.fr0 f
      have DU : Hid (DUpd b g { m with v := m.v.next ws, cx := cx, cy := cy } w ((((wr.setCell ⟨b, 2, none⟩ u7).setCell ⟨b, 3, none⟩ u8).setCell ⟨b, 4, none⟩ (.int .i64 cx)).setCell ⟨b, 5, none⟩ (.int .i64 cy))) := by
        have f2 : Fr [b] wr ((((wr.setCell ⟨b, 2, none⟩ u7).setCell ⟨b, 3, none⟩ u8).setCell ⟨b, 4, none⟩ (.int .i64 cx)).setCell ⟨b, 5, none⟩ (.int .i64 cy)) := ((((Fr.refl _ _).setCell (.inl (by simp)) _).setCell (.inl (by simp)) _).setCell (.inl (by simp)) _).setCell (.inl (by simp)) _
        have e1 : (m.v.next ws).length = ws.length := by simp [V.next]
        refine ⟨⟨u7, u8⟩, ⟨(((h1.st.set 2 u7).set 3 u8).set 4 _).set 5 _, ?_, ?_, V.ok_next m.v E0, h1.w1, h1.w2, h1.h1, h1.h2⟩, (f.of_nil).then (f2.mono (by intro i hi; simp at hi; subst hi; simp [dfoot])), ?_⟩
        · have := own_fr (S := [b]) T1 f2 (by intro x hx; simp at hx; subst hx; exact own_ne T1 h1.st (by decide))
          show World.ownsRow _ 0 _ 8 u7 (m.v.next ws).length (flatW (m.v.next ws).wins)
          rw [(next_offs m.v ws).1, e1]
          exact own_base this (Nat.zero_le _)
        · have := own_fr (S := [b]) T2 f2 (by intro x hx; simp at hx; subst hx; exact own_ne T2 h1.st (by decide))
          show World.ownsRow _ 0 _ 1 u8 (m.v.next ws).length ((m.v.next ws).offs.map (Value.int .i64))
          rw [e1]
          exact own_base this (Nat.zero_le _)
        · intro x hx
          simp only [dfoot, List.mem_cons, List.mem_append, Option.mem_toList] at hx
          rcases hx with rfl | hx | hx
          · exact .inl (by simp [dfoot])
          · exact .inr (T1.lt x hx).1
          · exact .inr (T2.lt x hx).1
      obtain ⟨s1, s2, s3, hu7⟩ : ∃ a b c, u7 = .slice a b c := by
        rcases T1.2 with ⟨hh, _⟩ | ⟨_, _, _, hh, _⟩ <;> exact ⟨_, _, _, hh⟩
      obtain ⟨t1, t2, t3, hu8⟩ : ∃ a b c, u8 = .slice a b c := by
        rcases T2.2 with ⟨hh, _⟩ | ⟨_, _, _, hh, _⟩ <;> exact ⟨_, _, _, hh⟩
      have q2 : wr.cell? ⟨b, 2, none⟩ = some g.vv := h1.st.cell 2
      have q3 : wr.cell? ⟨b, 3, none⟩ = some g.ov := h1.st.cell 3
      have q4 : wr.cell? ⟨b, 4, none⟩ = some (.int .i64 m.cx) := h1.st.cell 4
      have q5 : wr.cell? ⟨b, 5, none⟩ = some (.int .i64 m.cy) := h1.st.cell 5
      have z2 := h1.st.frozen 2
      have z3 := h1.st.frozen 3
      have z4 := h1.st.frozen 4
      have z5 := h1.st.frozen 5
      have p0 : wr.cell? ⟨w.heap.size, 0, none⟩ = some (.int .i64 cx) := B.cell 0
      have p1 : wr.cell? ⟨w.heap.size, 1, none⟩ = some (.int .i64 cy) := B.cell 1
      have bne : b ≠ w.heap.size := by have := H.out.st.lt; omega
      have bne2 : w.heap.size ≠ b := fun e => bne e.symm
      rw [hu7, hu8] at DU
      subst hu7
      subst hu8
      have HE0 := hide E0
      clear T1 T2 h1 B he E0 OL
      go_wp2
      go_ret
      exact ⟨ret_int HE0.out.symm, .inr ⟨HE0.out, DU.out⟩⟩
end Go.Proofs.YtjhccghhinlmdabGreatDoor
/- The document's painter: where the cursor is to be, and whether it is shown. -/
namespace Go.Proofs.YtjhccghhinlmdabGreatDoor
open Go.RowKit


set_option maxHeartbeats 1000000 in
set_option maxRecDepth 100000 in
theorem place_any (w : World) (b : Nat) (g : DGh) (m : Pt) (h : DPAt w b g m) :
    Calls Tryz.prog 28 #[.pointer (some ⟨b, 0, none⟩)] w fun e w' => e = .returned (.agg #[.int .i64 (if m.on then m.cx else 0), .int .i64 (if m.on then m.cy else 0), .bool m.on]) ∧ Fr [] w w' := by
  have c0 : w.cell? ⟨b, 0, none⟩ = some (.int .i64 m.W) := h.st.cell 0
  have c1 : w.cell? ⟨b, 1, none⟩ = some (.int .i64 m.H) := h.st.cell 1
  have c4 : w.cell? ⟨b, 4, none⟩ = some (.int .i64 m.cx) := h.st.cell 4
  have c5 : w.cell? ⟨b, 5, none⟩ = some (.int .i64 m.cy) := h.st.cell 5
  have bl := h.st.lt
  have ON : Hid (m.on = (decide (0 ≤ m.cx) && decide (m.cx < m.W) && decide (0 ≤ m.cy) && decide (m.cy < m.H))) := rfl
  clear h
  by_cases p1 : m.cx < 0
  · have E : m.on = false := by rw [ON.out]; simp; omega
    rw [E]
    go_enter Tryz.func28, Tryz.ntmps28
    go_wp2
    go_quiet (fail)
    go_wp2
    refine bodyPost_ret (v := .agg #[.int .i64 0, .int .i64 0, .bool false]) (by simp [results, Tryz.results28, go_sem]) rfl ?_
    exact ⟨rfl, ((((((Fr.refl _ _).alloc _).alloc _).drewN _).setCell (.inr (by simp)) _).setCell (.inr (by simp)) _).setCell (.inr (by simp)) _⟩
  have d1 : decide (m.cx < 0) = false := by simpa using p1
  by_cases p2 : m.W ≤ m.cx
  · have E : m.on = false := by rw [ON.out]; simp; omega
    rw [E]
    go_enter Tryz.func28, Tryz.ntmps28
    go_wp2
    go_quiet (fail)
    go_wp2
    refine bodyPost_ret (v := .agg #[.int .i64 0, .int .i64 0, .bool false]) (by simp [results, Tryz.results28, go_sem]) rfl ?_
    exact ⟨rfl, ((((((Fr.refl _ _).alloc _).alloc _).drewN _).setCell (.inr (by simp)) _).setCell (.inr (by simp)) _).setCell (.inr (by simp)) _⟩
  have d2 : decide (m.cx ≥ m.W) = false := by simpa using p2
  by_cases p3 : m.cy < 0
  · have E : m.on = false := by rw [ON.out]; simp; omega
    rw [E]
    go_enter Tryz.func28, Tryz.ntmps28
    go_wp2
    go_quiet (fail)
    go_wp2
    refine bodyPost_ret (v := .agg #[.int .i64 0, .int .i64 0, .bool false]) (by simp [results, Tryz.results28, go_sem]) rfl ?_
    exact ⟨rfl, ((((((Fr.refl _ _).alloc _).alloc _).drewN _).setCell (.inr (by simp)) _).setCell (.inr (by simp)) _).setCell (.inr (by simp)) _⟩
  have d3 : decide (m.cy < 0) = false := by simpa using p3
  by_cases p4 : m.H ≤ m.cy
  · have E : m.on = false := by rw [ON.out]; simp; omega
    rw [E]
    go_enter Tryz.func28, Tryz.ntmps28
    go_wp2
    go_quiet (fail)
    go_wp2
    refine bodyPost_ret (v := .agg #[.int .i64 0, .int .i64 0, .bool false]) (by simp [results, Tryz.results28, go_sem]) rfl ?_
    exact ⟨rfl, ((((((Fr.refl _ _).alloc _).alloc _).drewN _).setCell (.inr (by simp)) _).setCell (.inr (by simp)) _).setCell (.inr (by simp)) _⟩
  have d4 : decide (m.cy ≥ m.H) = false := by simpa using p4
  have E : m.on = true := by rw [ON.out]; simp; omega
  rw [E]
  go_enter Tryz.func28, Tryz.ntmps28
  go_wp2
  go_quiet (fail)
  go_wp2
  refine bodyPost_ret (v := .agg #[.int .i64 m.cx, .int .i64 m.cy, .bool true]) (by simp [results, Tryz.results28, go_sem]) rfl ?_
  exact ⟨rfl, ((((((Fr.refl _ _).alloc _).alloc _).drewN _).setCell (.inr (by simp)) _).setCell (.inr (by simp)) _).setCell (.inr (by simp)) _⟩
end Go.Proofs.YtjhccghhinlmdabGreatDoor
/- The desk's lists: the windows in a list with spare room. -/
namespace Go.Proofs.YtjhccghhinlmdabGreatDoor
open Go.RowKit

/-- what stands in the spare room -/
def markW : Win := ⟨77, 1, 1, 2, 2, 9, 9, ⟨#[109, 97, 114, 107]⟩⟩

set_option maxHeartbeats 400000 in
theorem mark_any (w : World) :
    Calls Tryz.prog 68 #[] w fun e w' => e = .returned (.agg #[.int .i64 77, .int .i64 1, .int .i64 1, .int .i64 2, .int .i64 2, .int .i64 9, .int .i64 9, .string ⟨#[109, 97, 114, 107]⟩]) ∧ w' = w.alloc (.cells #[.int .i64 77, .int .i64 1, .int .i64 1, .int .i64 2, .int .i64 2, .int .i64 9, .int .i64 9, .string ⟨#[109, 97, 114, 107]⟩] 104) := by
  go_enter Tryz.func68, Tryz.ntmps68
  go_wp2
  exact bodyPost_ret (v := .agg #[.int .i64 77, .int .i64 1, .int .i64 1, .int .i64 2, .int .i64 2, .int .i64 9, .int .i64 9, .string ⟨#[109, 97, 114, 107]⟩]) (by simp [results, Tryz.results68, go_sem]) rfl ⟨rfl, rfl⟩

/-- the windows, and two marks behind them -/
def GivenPost (w : World) (ws : List Win) (e : Ending) (w' : World) : Prop :=
  ∃ g cap, e = .returned (.slice (some ⟨g, 0, none⟩) (ws.length + 2) cap) ∧ w'.ownsRow w.heap.size 104 8 (.slice (some ⟨g, 0, none⟩) (ws.length + 2) cap) (ws.length + 2) (flatW (ws ++ [markW, markW])) ∧ Fr [] w w'

set_option maxHeartbeats 2000000 in
set_option maxRecDepth 100000 in
theorem given_any (wa : Option Addr) (ws : List Win) (n wcap : Nat) (w : World) (hw : WinsAt w wa ws) (hn : ws.length = n) (hl : n ≤ 1048576) :
    Calls Tryz.prog 45 #[.slice wa n wcap] w (GivenPost w ws) := by
  subst hn
  have HW := hide hw
  obtain ⟨i0, hi, hz0, hz1, hz2⟩ := info_parts info_win
  clear hw
  go_enter Tryz.func45, Tryz.ntmps45
  go_wp2
  go_loopw [3, 4] (fun u i wr => ∃ k : Nat, i = .int .i64 k ∧ k ≤ ws.length ∧ Fr [] w wr ∧ wr.ownsRow w.heap.size 104 8 u k (flatW (ws.take k))) (fun _ i _ => (3000000 - intOf i).toNat)
  case atStart => exact ⟨0, rfl, by omega, Fr.refl _ _, World.ownsRow_nil _ _ _ _⟩
  case round =>
    obtain ⟨k, rfl, hk, f, hown⟩ := hrel
    have hsz := f.size
    by_cases hend : k < ws.length
    · obtain ⟨q, hq⟩ : ∃ q, ws[k]? = some q := ⟨_, List.getElem?_eq_getElem hend⟩
      obtain ⟨vb, voff, rfl, C⟩ := HW.out.fr f (by simp) k q hq
      obtain ⟨d0, d1, d2, d3, d4, d5, d6, d7⟩ := C
      have b1 : (k : Int) < ws.length := by omega
      have HO := hide hown
      have ST : Hid (flatW (ws.take k) ++ q.vals = flatW (ws.take (k + 1))) := by
        show _ = _
        rw [flatW_snoc, List.take_add_one, hq]; rfl
      clear hown hq
      go_wp2_with (at_builtin; refine wpList_append_lies _ rfl (.tmp 12) (.tmp 17) 30 rfl w.heap.size 104 i0 (.agg #[.int .i64 0, .int .i64 0, .int .i64 0, .int .i64 0, .int .i64 0, .int .i64 0, .int .i64 0, .string ⟨#[]⟩]) 8 72 Tryz.underlying30 hi hz0 hz1 hz2 rfl (by decide) u3 k (flatW (ws.take k)) rfl (own_fr0 HO.out ((Fr.refl _ _).alloc _)) ⟨wr.heap.size, 0, none⟩ 1 1 [.int .i64 q.key, .int .i64 q.x, .int .i64 q.y, .int .i64 q.w, .int .i64 q.h, .int .i64 q.layer, .int .i64 q.style, .string q.text] rfl rfl (World.news_of_block (cs := #[.int .i64 q.key, .int .i64 q.x, .int .i64 q.y, .int .i64 q.w, .int .i64 q.h, .int .i64 q.layer, .int .i64 q.style, .string q.text]) (t := 104) (fr := (0, 0)) (new_blk _ _ _ (by simp))) (eight_one _ _ _ _ _ _ _ _) (by omega) (by unfold maxLen; omega) (by omega) (by simp; omega) (wr.heap.size + 1) (by simp) ?_; intro g1 cap1 w4 hown1 hgrow hat hlt1; have F4 : Hid (Fr [] w w4) := (Fr.grown (f.alloc _) hgrow (fun j hj => .inr (HO.out.lt j hj).1)); have HO1 : Hid (w4.ownsRow w.heap.size 104 8 (.slice (some ⟨g1, 0, none⟩) (k + 1) cap1) (k + 1) (flatW (ws.take (k + 1)))) := (by rw [← ST.out]; exact hown1); clear hown1 hgrow hat)
      go_roundw
      case rel => exact ⟨k + 1, by go_num, by omega, F4.out, HO1.out⟩
      case measure => simp [intOf]; omega
    · have hk' : k = ws.length := by omega
      subst hk'
      rw [List.take_of_length_le (Nat.le_refl _)] at hown
      have HO := hide hown
      have S1 : Hid (flatW ws ++ markW.vals = flatW (ws ++ [markW])) := flatW_snoc ws markW
      have S2 : Hid (flatW (ws ++ [markW]) ++ markW.vals = flatW (ws ++ [markW, markW])) := by show _ = _; rw [flatW_snoc]; simp
      clear hown
      go_wp2_with (first | (go_at_call 68; refine (mark_any _).mono ?_; rintro e w' ⟨rfl, rfl⟩) | (at_builtin; refine wpList_append_lies _ rfl (.tmp 20) (.tmp 22) 30 rfl w.heap.size 104 i0 (.agg #[.int .i64 0, .int .i64 0, .int .i64 0, .int .i64 0, .int .i64 0, .int .i64 0, .int .i64 0, .string ⟨#[]⟩]) 8 72 Tryz.underlying30 hi hz0 hz1 hz2 rfl (by decide) u3 ws.length (flatW ws) rfl (own_fr0 HO.out ((((Fr.refl _ _).alloc _).alloc _).alloc _)) ⟨wr.heap.size + 2, 0, none⟩ 1 1 [.int .i64 77, .int .i64 1, .int .i64 1, .int .i64 2, .int .i64 2, .int .i64 9, .int .i64 9, .string ⟨#[109, 97, 114, 107]⟩] rfl rfl (World.news_of_block (cs := #[.int .i64 77, .int .i64 1, .int .i64 1, .int .i64 2, .int .i64 2, .int .i64 9, .int .i64 9, .string ⟨#[109, 97, 114, 107]⟩]) (t := 104) (fr := (0, 0)) (new_blk _ _ _ (by simp))) (eight_one _ _ _ _ _ _ _ _) (by omega) (by unfold maxLen; omega) (by omega) (by simp; omega) (wr.heap.size + 2 + 1) (by simp) ?_; intro g1 cap1 w4 hown1 hgrow hat hlt1; have F4 : Hid (Fr [] w w4) := (Fr.grown (((f.alloc _).alloc _).alloc _) hgrow (fun j hj => .inr (HO.out.lt j hj).1)); have HO1 : Hid (w4.ownsRow w.heap.size 104 8 (.slice (some ⟨g1, 0, none⟩) (ws.length + 1) cap1) (ws.length + 1) (flatW (ws ++ [markW]))) := (by rw [← S1.out]; exact hown1); have hs4 := F4.out.size; have BM : Blk w4 (wr.heap.size + 1) markW.vals 104 := (by have q := ((Blk.new (wr.alloc (.cells #[.int .i64 77, .int .i64 1, .int .i64 1, .int .i64 2, .int .i64 2, .int .i64 9, .int .i64 9, .string ⟨#[109, 97, 114, 107]⟩] 104)) markW.vals 104).alloc (.cells #[.int .i64 77, .int .i64 1, .int .i64 1, .int .i64 2, .int .i64 2, .int .i64 9, .int .i64 9, .string ⟨#[109, 97, 114, 107]⟩] 104)); rw [World.size_alloc] at q; refine q.grown hgrow ?_; intro hx; have := (HO.out.lt _ hx.symm).2; omega); have m0 : w4.cell? ⟨wr.heap.size + 1, 0, none⟩ = some (.int .i64 77) := BM.cell 0; have m1 : w4.cell? ⟨wr.heap.size + 1, 1, none⟩ = some (.int .i64 1) := BM.cell 1; have m2 : w4.cell? ⟨wr.heap.size + 1, 2, none⟩ = some (.int .i64 1) := BM.cell 2; have m3 : w4.cell? ⟨wr.heap.size + 1, 3, none⟩ = some (.int .i64 2) := BM.cell 3; have m4 : w4.cell? ⟨wr.heap.size + 1, 4, none⟩ = some (.int .i64 2) := BM.cell 4; have m5 : w4.cell? ⟨wr.heap.size + 1, 5, none⟩ = some (.int .i64 9) := BM.cell 5; have m6 : w4.cell? ⟨wr.heap.size + 1, 6, none⟩ = some (.int .i64 9) := BM.cell 6; have m7 : w4.cell? ⟨wr.heap.size + 1, 7, none⟩ = some (.string ⟨#[109, 97, 114, 107]⟩) := BM.cell 7; clear hown1 hgrow hat BM) | (at_builtin; refine wpList_append_lies _ rfl (.tmp 24) (.tmp 26) 30 rfl w.heap.size 104 i0 (.agg #[.int .i64 0, .int .i64 0, .int .i64 0, .int .i64 0, .int .i64 0, .int .i64 0, .int .i64 0, .string ⟨#[]⟩]) 8 72 Tryz.underlying30 hi hz0 hz1 hz2 rfl (by decide) (.slice (some ⟨g1, 0, none⟩) (ws.length + 1) cap1) (ws.length + 1) (flatW (ws ++ [markW])) rfl (own_fr0 HO1.out ((Fr.refl _ _).alloc _)) ⟨w4.heap.size, 0, none⟩ 1 1 [.int .i64 77, .int .i64 1, .int .i64 1, .int .i64 2, .int .i64 2, .int .i64 9, .int .i64 9, .string ⟨#[109, 97, 114, 107]⟩] rfl rfl (World.news_of_block (cs := #[.int .i64 77, .int .i64 1, .int .i64 1, .int .i64 2, .int .i64 2, .int .i64 9, .int .i64 9, .string ⟨#[109, 97, 114, 107]⟩]) (t := 104) (fr := (0, 0)) (new_blk _ _ _ (by simp))) (eight_one _ _ _ _ _ _ _ _) (by omega) (by unfold maxLen; omega) (by omega) (by simp; omega) (w4.heap.size + 1) (by simp) ?_; intro g2 cap2 w5 hown2 hgrow2 hat2 hlt2; have F5 : Hid (Fr [] w w5) := (Fr.grown (F4.out.alloc _) hgrow2 (fun j hj => .inr (HO1.out.lt j hj).1)); have HO2 : Hid (w5.ownsRow w.heap.size 104 8 (.slice (some ⟨g2, 0, none⟩) (ws.length + 2) cap2) (ws.length + 2) (flatW (ws ++ [markW, markW]))) := (by rw [← S2.out]; exact hown2); clear hown2 hgrow2 hat2))
      go_ret
      exact ⟨g2, cap2, rfl, HO2.out, F5.out⟩
end Go.Proofs.YtjhccghhinlmdabGreatDoor
/- The desk's lists: is the list that was handed over as it was? -/
namespace Go.Proofs.YtjhccghhinlmdabGreatDoor
open Go.RowKit

theorem flatW_cons (q : Win) (l : List Win) : flatW (q :: l) = q.vals ++ flatW l := by simp [flatW]
theorem set_past (a b : List Value) (i : Nat) (v : Value) : (a ++ b).set (a.length + i) v = a ++ b.set i v := by
  rw [List.set_append_right _ _ (by omega), Nat.add_sub_cancel_left]
theorem flatW_set8 (l : List Win) : ∀ (k : Nat) (o : Win), k < l.length → (((((((((flatW l)).set (k * 8) (.int .i64 o.key)).set (k * 8 + 1) (.int .i64 o.x)).set (k * 8 + 2) (.int .i64 o.y)).set (k * 8 + 3) (.int .i64 o.w)).set (k * 8 + 4) (.int .i64 o.h)).set (k * 8 + 5) (.int .i64 o.layer)).set (k * 8 + 6) (.int .i64 o.style)).set (k * 8 + 7) (.string o.text) = flatW (l.set k o) := by
  induction l with
  | nil => intro k o h; simp at h
  | cons q l ih =>
    intro k o h
    cases k with
    | zero => simp [flatW_cons, Win.vals]
    | succ k =>
      have := ih k o (by simpa using h)
      have e : ∀ j, (k + 1) * 8 + j = q.vals.length + (k * 8 + j) := fun j => by show (k + 1) * 8 + j = 8 + (k * 8 + j); omega
      have e0 : (k + 1) * 8 = q.vals.length + k * 8 := by show (k + 1) * 8 = 8 + k * 8; omega
      rw [List.set_cons_succ, flatW_cons, flatW_cons, e 1, e 2, e 3, e 4, e 5, e 6, e 7, e0]
      simp only [set_past]
      rw [this]
theorem blk_set8 {w : World} {g : Nat} {l : List Win} {sp : List Value} (h : Blk w g (flatW l ++ sp) 104) (k : Nat) (o : Win) (hk : k < l.length) :
    Blk (((((((((w).setCell ⟨g, k * 8, none⟩ (.int .i64 o.key)).setCell ⟨g, k * 8 + 1, none⟩ (.int .i64 o.x)).setCell ⟨g, k * 8 + 2, none⟩ (.int .i64 o.y)).setCell ⟨g, k * 8 + 3, none⟩ (.int .i64 o.w)).setCell ⟨g, k * 8 + 4, none⟩ (.int .i64 o.h)).setCell ⟨g, k * 8 + 5, none⟩ (.int .i64 o.layer)).setCell ⟨g, k * 8 + 6, none⟩ (.int .i64 o.style)).setCell ⟨g, k * 8 + 7, none⟩ (.string o.text)) g (flatW (l.set k o) ++ sp) 104 ∧ Fr [g] w (((((((((w).setCell ⟨g, k * 8, none⟩ (.int .i64 o.key)).setCell ⟨g, k * 8 + 1, none⟩ (.int .i64 o.x)).setCell ⟨g, k * 8 + 2, none⟩ (.int .i64 o.y)).setCell ⟨g, k * 8 + 3, none⟩ (.int .i64 o.w)).setCell ⟨g, k * 8 + 4, none⟩ (.int .i64 o.h)).setCell ⟨g, k * 8 + 5, none⟩ (.int .i64 o.layer)).setCell ⟨g, k * 8 + 6, none⟩ (.int .i64 o.style)).setCell ⟨g, k * 8 + 7, none⟩ (.string o.text)) := by
  have hl := flatW_length l
  refine ⟨?_, ((((((((Fr.refl _ _).setCell (.inl (by simp)) _).setCell (.inl (by simp)) _).setCell (.inl (by simp)) _).setCell (.inl (by simp)) _).setCell (.inl (by simp)) _).setCell (.inl (by simp)) _).setCell (.inl (by simp)) _).setCell (.inl (by simp)) _⟩
  have := ((((((((h).set (k * 8) (.int .i64 o.key)).set (k * 8 + 1) (.int .i64 o.x)).set (k * 8 + 2) (.int .i64 o.y)).set (k * 8 + 3) (.int .i64 o.w)).set (k * 8 + 4) (.int .i64 o.h)).set (k * 8 + 5) (.int .i64 o.layer)).set (k * 8 + 6) (.int .i64 o.style)).set (k * 8 + 7) (.string o.text)
  rw [← flatW_set8 l k o hk]
  have s : ∀ (a : List Value) (i : Nat) (v : Value), i < a.length → (a ++ sp).set i v = a.set i v ++ sp := fun a i v hi => List.set_append_left _ _ hi
  rw [s _ _ _ (by omega), s _ _ _ (by simp only [List.length_set]; omega), s _ _ _ (by simp only [List.length_set]; omega), s _ _ _ (by simp only [List.length_set]; omega), s _ _ _ (by simp only [List.length_set]; omega), s _ _ _ (by simp only [List.length_set]; omega), s _ _ _ (by simp only [List.length_set]; omega), s _ _ _ (by simp only [List.length_set]; omega)] at this
  exact this
/-- the list on the way: k windows have been written over -/
def overW (ws : List Win) (k : Nat) : List Win := List.replicate k markW ++ ws.drop k ++ [markW, markW]
theorem overW_length (ws : List Win) (k : Nat) (h : k ≤ ws.length) : (overW ws k).length = ws.length + 2 := by simp [overW]; omega
theorem overW_zero (ws : List Win) : overW ws 0 = ws ++ [markW, markW] := by simp [overW]
theorem overW_at (ws : List Win) (k : Nat) (o : Win) (h : ws[k]? = some o) : (overW ws k)[k]? = some o := by
  have hk : k < ws.length := (List.getElem?_eq_some_iff.1 h).1
  unfold overW
  rw [List.append_assoc, List.getElem?_append_right (by simp), List.length_replicate, Nat.sub_self, List.getElem?_append_left (by simp; omega), List.getElem?_drop, Nat.add_zero]
  exact h
theorem overW_step (ws : List Win) (k : Nat) (h : k < ws.length) : (overW ws k).set k markW = overW ws (k + 1) := by
  unfold overW
  rw [List.append_assoc, List.set_append_right _ _ (by simp), List.length_replicate, Nat.sub_self, List.drop_eq_getElem_cons h, List.cons_append, List.set_cons_zero, List.replicate_succ']
  simp

set_option maxHeartbeats 4000000 in
set_option maxRecDepth 100000 in
theorem untouched_any (wa : Option Addr) (ws : List Win) (n wcap g cap : Nat) (sp : List Value) (w : World) (hw : WinsAt w wa ws) (hn : ws.length = n) (hl : n ≤ 1048576) (hb : Blk w g (flatW (ws ++ [markW, markW]) ++ sp) 104) (hne : ws ≠ [] → ∀ a, wa = some a → a.block ≠ g) :
    Calls Tryz.prog 48 #[.slice (some ⟨g, 0, none⟩) (n + 2) cap, .slice wa n wcap] w fun e w' => e = .returned (.bool true) ∧ Fr [g] w w' := by
  subst hn
  have hlf := flatW_length (ws ++ [markW, markW])
  have kk : ∀ (i j : Nat) (q : Win), (ws ++ [markW, markW])[i]? = some q → j < 8 → w.cell? ⟨g, i * 8 + j, none⟩ = q.vals[j]? := by
    intro i j q hq hj
    have hi : i < (ws ++ [markW, markW]).length := (List.getElem?_eq_some_iff.1 hq).1
    rw [hb.cell, List.getElem?_append_left (by omega), flatW_at _ i q hq j hj]
  have m1 : (ws ++ [markW, markW])[ws.length]? = some markW := by rw [List.getElem?_append_right (by omega), Nat.sub_self]; rfl
  have m2 : (ws ++ [markW, markW])[ws.length + 1]? = some markW := by rw [List.getElem?_append_right (by omega), Nat.add_sub_cancel_left]; rfl
  have a0 : w.cell? ⟨g, ws.length * 8, none⟩ = some (.int .i64 77) := kk _ 0 _ m1 (by decide)
  have a1 : w.cell? ⟨g, ws.length * 8 + 1, none⟩ = some (.int .i64 1) := kk _ 1 _ m1 (by decide)
  have a2 : w.cell? ⟨g, ws.length * 8 + 2, none⟩ = some (.int .i64 1) := kk _ 2 _ m1 (by decide)
  have a3 : w.cell? ⟨g, ws.length * 8 + 3, none⟩ = some (.int .i64 2) := kk _ 3 _ m1 (by decide)
  have a4 : w.cell? ⟨g, ws.length * 8 + 4, none⟩ = some (.int .i64 2) := kk _ 4 _ m1 (by decide)
  have a5 : w.cell? ⟨g, ws.length * 8 + 5, none⟩ = some (.int .i64 9) := kk _ 5 _ m1 (by decide)
  have a6 : w.cell? ⟨g, ws.length * 8 + 6, none⟩ = some (.int .i64 9) := kk _ 6 _ m1 (by decide)
  have a7 : w.cell? ⟨g, ws.length * 8 + 7, none⟩ = some (.string ⟨#[109, 97, 114, 107]⟩) := kk _ 7 _ m1 (by decide)
  have c0 : w.cell? ⟨g, (ws.length + 1) * 8, none⟩ = some (.int .i64 77) := kk _ 0 _ m2 (by decide)
  have c1 : w.cell? ⟨g, (ws.length + 1) * 8 + 1, none⟩ = some (.int .i64 1) := kk _ 1 _ m2 (by decide)
  have c2 : w.cell? ⟨g, (ws.length + 1) * 8 + 2, none⟩ = some (.int .i64 1) := kk _ 2 _ m2 (by decide)
  have c3 : w.cell? ⟨g, (ws.length + 1) * 8 + 3, none⟩ = some (.int .i64 2) := kk _ 3 _ m2 (by decide)
  have c4 : w.cell? ⟨g, (ws.length + 1) * 8 + 4, none⟩ = some (.int .i64 2) := kk _ 4 _ m2 (by decide)
  have c5 : w.cell? ⟨g, (ws.length + 1) * 8 + 5, none⟩ = some (.int .i64 9) := kk _ 5 _ m2 (by decide)
  have c6 : w.cell? ⟨g, (ws.length + 1) * 8 + 6, none⟩ = some (.int .i64 9) := kk _ 6 _ m2 (by decide)
  have c7 : w.cell? ⟨g, (ws.length + 1) * 8 + 7, none⟩ = some (.string ⟨#[109, 97, 114, 107]⟩) := kk _ 7 _ m2 (by decide)
  have gl := hb.lt
  have HW := hide hw
  have HB := hide hb
  have HN := hide hne
  have l1 : (ws.length : Int) < ((ws.length + 2 : Nat) : Int) := by omega
  have l2 : (ws.length : Int) + 1 < ((ws.length + 2 : Nat) : Int) := by omega
  clear hw hb hne kk m1 m2 hlf
  go_enter Tryz.func48, Tryz.ntmps48
  go_wp2_with fail
  refine (mark_any _).mono ?_
  rintro e w' ⟨rfl, rfl⟩
  go_wp2
  go_quiet (fail)
  go_wp2
  go_loopw [6, 7] (fun u i wr => ∃ k : Nat, i = .int .i64 k ∧ k ≤ ws.length ∧ u = .bool true ∧ Fr [g] w wr ∧ Blk wr g (flatW (overW ws k) ++ sp) 104 ∧ Blk wr (w.heap.size + 1) markW.vals 104) (fun _ i _ => (3000000 - intOf i).toNat)
  case atStart =>
    refine ⟨0, rfl, by omega, rfl, (((Fr.refl _ _).alloc _).alloc _).drewN _, ?_, ?_⟩
    · rw [overW_zero]; exact ((HB.out.alloc _).alloc _).drewN _
    · have := (Blk.new (w.alloc (.cells markW.vals.toArray 104)) markW.vals 104).drewN nq
      rw [World.size_alloc] at this
      exact this
  case round =>
    obtain ⟨k, rfl, hk, rfl, f, B, BM⟩ := hrel
    by_cases hend : k < ws.length
    · obtain ⟨o, ho⟩ : ∃ o, ws[k]? = some o := ⟨_, List.getElem?_eq_getElem hend⟩
      obtain ⟨vb, voff, rfl, C⟩ := HW.out.fr f (by intro a ha; simpa using HN.out (by rintro rfl; simp at hend) a ha) k o ho
      obtain ⟨d0, d1, d2, d3, d4, d5, d6, d7⟩ := C
      have hol := overW_length ws k hk
      have hlf := flatW_length (overW ws k)
      have kk : ∀ j, j < 8 → wr.cell? ⟨g, k * 8 + j, none⟩ = o.vals[j]? := by
        intro j hj
        rw [Blk.cell B, List.getElem?_append_left (by omega), flatW_at _ k o (overW_at ws k o ho) j hj]
      have e0 : wr.cell? ⟨g, k * 8, none⟩ = some (.int .i64 o.key) := kk 0 (by decide)
      have z0 := B.frozen (k * 8)
      have y0 : wr.cell? ⟨w.heap.size + 1, 0, none⟩ = some (.int .i64 77) := BM.cell 0
      have e1 : wr.cell? ⟨g, k * 8 + 1, none⟩ = some (.int .i64 o.x) := kk 1 (by decide)
      have z1 := B.frozen (k * 8 + 1)
      have y1 : wr.cell? ⟨w.heap.size + 1, 1, none⟩ = some (.int .i64 1) := BM.cell 1
      have e2 : wr.cell? ⟨g, k * 8 + 2, none⟩ = some (.int .i64 o.y) := kk 2 (by decide)
      have z2 := B.frozen (k * 8 + 2)
      have y2 : wr.cell? ⟨w.heap.size + 1, 2, none⟩ = some (.int .i64 1) := BM.cell 2
      have e3 : wr.cell? ⟨g, k * 8 + 3, none⟩ = some (.int .i64 o.w) := kk 3 (by decide)
      have z3 := B.frozen (k * 8 + 3)
      have y3 : wr.cell? ⟨w.heap.size + 1, 3, none⟩ = some (.int .i64 2) := BM.cell 3
      have e4 : wr.cell? ⟨g, k * 8 + 4, none⟩ = some (.int .i64 o.h) := kk 4 (by decide)
      have z4 := B.frozen (k * 8 + 4)
      have y4 : wr.cell? ⟨w.heap.size + 1, 4, none⟩ = some (.int .i64 2) := BM.cell 4
      have e5 : wr.cell? ⟨g, k * 8 + 5, none⟩ = some (.int .i64 o.layer) := kk 5 (by decide)
      have z5 := B.frozen (k * 8 + 5)
      have y5 : wr.cell? ⟨w.heap.size + 1, 5, none⟩ = some (.int .i64 9) := BM.cell 5
      have e6 : wr.cell? ⟨g, k * 8 + 6, none⟩ = some (.int .i64 o.style) := kk 6 (by decide)
      have z6 := B.frozen (k * 8 + 6)
      have y6 : wr.cell? ⟨w.heap.size + 1, 6, none⟩ = some (.int .i64 9) := BM.cell 6
      have e7 : wr.cell? ⟨g, k * 8 + 7, none⟩ = some (.string o.text) := kk 7 (by decide)
      have z7 := B.frozen (k * 8 + 7)
      have y7 : wr.cell? ⟨w.heap.size + 1, 7, none⟩ = some (.string ⟨#[109, 97, 114, 107]⟩) := BM.cell 7
      have b1 : (k : Int) < ws.length := by omega
      have b2 : (k : Int) < ((ws.length + 2 : Nat) : Int) := by omega
      have ST := hide (fun nq => blk_set8 (B.drewN nq) k markW (by omega))
      have OS := hide (overW_step ws k hend)
      have gne : w.heap.size + 1 ≠ g := by omega
      have gne2 : g ≠ w.heap.size + 1 := by omega
      have gl2 := B.lt
      have ml2 := BM.lt
      have HM := hide BM
      clear B BM kk hlf hol ho
      go_wp2
      go_quiet (fail)
      go_wp2
      go_roundw
      case rel =>
        refine ⟨k + 1, by go_num, by omega, rfl, (f.drewN nq).then (ST.out nq).2, ?_, (HM.out.drewN nq).fr (ST.out nq).2 (by simpa using gne)⟩
        rw [← OS.out]; exact (ST.out nq).1
      case measure => simp [intOf]; omega
    · have b1 : ¬ (k : Int) < ws.length := by omega
      go_wp2
      go_ret
      exact ⟨rfl, f⟩
end Go.Proofs.YtjhccghhinlmdabGreatDoor
/- A desk of a script: the program's painter, the document's, and the document's terminal that the bytes go to: where they lie, and what a call leaves of them. -/
namespace Go.Proofs.YtjhccghhinlmdabGreatDoor
open Go.RowKit

/-- where the three lie -/
structure Dg where
  bx : Nat
  gx : PGh
  bp : Nat
  gp : DGh
  bt : Nat
  gt : RGh
def Dg.foot (d : Dg) : List Nat := pfoot d.bx d.gx ++ (dfoot d.bp d.gp ++ rfoot d.bt d.gt)
def triTy : List TypeId := [98, 115, 117, 140, 9, 101, 104, 3, 59, 84]
def pTy : List TypeId := [98, 115, 117, 140, 9]
def dTy : List TypeId := [101, 104, 3]
def rTy : List TypeId := [59, 84]
theorem PntRaw.typed {w : World} {b : Nat} {g : PGh} {m : Pt} {l : List (Int × Int)} (h : PntRaw w b g m l) : ∀ x ∈ pfoot b g, ∃ us ty, Blk w x us ty ∧ ty ∈ pTy := by
  intro x hx
  simp only [pfoot, List.mem_cons, List.mem_append, Option.mem_toList, List.mem_map] at hx
  rcases hx with rfl | rfl | rfl | hx | ⟨p, hp, rfl⟩
  · exact ⟨_, _, h.st, by simp [pTy]⟩
  · exact ⟨_, _, h.gr.hd, by simp [pTy]⟩
  · exact ⟨_, _, h.gr.row, by simp [pTy]⟩
  · obtain ⟨us, hu⟩ := own_pane h.pn hx; exact ⟨_, _, hu, by simp [pTy]⟩
  · obtain ⟨vs, hv, _⟩ := (h.pn.ok p hp).1.ls; exact ⟨vs, _, hv, by simp [pTy]⟩
theorem DPAt.typed {w : World} {b : Nat} {g : DGh} {m : Pt} (h : DPAt w b g m) : ∀ x ∈ dfoot b g, ∃ us ty, Blk w x us ty ∧ ty ∈ dTy := by
  intro x hx
  simp only [dfoot, List.mem_cons, List.mem_append, Option.mem_toList] at hx
  rcases hx with rfl | hx | hx
  · exact ⟨_, _, h.st, by simp [dTy]⟩
  · obtain ⟨us, hu⟩ := own_blk h.vw hx; exact ⟨_, _, hu, by simp [dTy]⟩
  · obtain ⟨us, hu⟩ := own_blk h.of hx; exact ⟨_, _, hu, by simp [dTy]⟩
theorem RefAt.typed {w : World} {b : Nat} {g : RGh} {r : R} (h : RefAt w b g r) : ∀ x ∈ rfoot b g, ∃ us ty, Blk w x us ty ∧ ty ∈ rTy := by
  intro x hx
  simp only [rfoot, List.mem_cons, List.not_mem_nil, or_false] at hx
  rcases hx with rfl | rfl
  · exact ⟨_, _, h.st, by simp [rTy]⟩
  · exact ⟨_, _, h.row.row, by simp [rTy]⟩
theorem blk_ty {w : World} {c : Nat} {us vs : List Value} {ty tz : TypeId} (h : Blk w c us ty) (k : Blk w c vs tz) : ty = tz := by
  unfold Blk at h k; rw [h] at k; simp at k; exact k.2
/-- blocks of two kinds of types are two -/
theorem typed_apart {w : World} {A B : List Nat} {tA tB : List TypeId} (hA : ∀ x ∈ A, ∃ us ty, Blk w x us ty ∧ ty ∈ tA) (hB : ∀ x ∈ B, ∃ us ty, Blk w x us ty ∧ ty ∈ tB) (hd : ∀ t ∈ tA, t ∉ tB) : ∀ x ∈ A, x ∉ B := by
  intro x h1 h2
  obtain ⟨us, ty, k, hk⟩ := hA x h1
  obtain ⟨vs, tz, l, hl⟩ := hB x h2
  exact hd ty hk (blk_ty k l ▸ hl)
theorem pd_apart : ∀ t ∈ pTy, t ∉ dTy := by decide
theorem pr_apart : ∀ t ∈ pTy, t ∉ rTy := by decide
theorem dr_apart : ∀ t ∈ dTy, t ∉ rTy := by decide

structure TriAt (w : World) (d : Dg) (mx mp : Pt) (r : R) : Prop where
  x : PntAt w d.bx d.gx mx
  p : DPAt w d.bp d.gp mp
  t : RefAt w d.bt d.gt r
theorem TriAt.typed {w : World} {d : Dg} {mx mp : Pt} {r : R} (h : TriAt w d mx mp r) : ∀ y ∈ d.foot, ∃ us ty, Blk w y us ty ∧ ty ∈ triTy := by
  have i1 : ∀ t ∈ pTy, t ∈ triTy := by decide
  have i2 : ∀ t ∈ dTy, t ∈ triTy := by decide
  have i3 : ∀ t ∈ rTy, t ∈ triTy := by decide
  intro y hy
  rcases List.mem_append.1 hy with hy | hy
  · obtain ⟨us, ty, k, hk⟩ := PntRaw.typed h.x y hy; exact ⟨us, ty, k, i1 _ hk⟩
  · rcases List.mem_append.1 hy with hy | hy
    · obtain ⟨us, ty, k, hk⟩ := h.p.typed y hy; exact ⟨us, ty, k, i2 _ hk⟩
    · obtain ⟨us, ty, k, hk⟩ := h.t.typed y hy; exact ⟨us, ty, k, i3 _ hk⟩
theorem TriAt.off {w : World} {d : Dg} {mx mp : Pt} {r : R} (h : TriAt w d mx mp r) {c : Nat} {us : List Value} {ty : TypeId} (hb : Blk w c us ty) (ht : ty ∉ triTy) : c ∉ d.foot := by
  intro hc
  obtain ⟨vs, tz, k, hk⟩ := h.typed c hc
  exact ht (blk_ty hb k ▸ hk)
theorem TriAt.lt {w : World} {d : Dg} {mx mp : Pt} {r : R} (h : TriAt w d mx mp r) : ∀ y ∈ d.foot, y < w.heap.size := by
  intro y hy
  obtain ⟨us, ty, k, _⟩ := h.typed y hy
  exact k.lt
theorem Dg.in_x {d : Dg} {y : Nat} (h : y ∈ pfoot d.bx d.gx) : y ∈ d.foot := List.mem_append.2 (.inl h)
theorem Dg.in_p {d : Dg} {y : Nat} (h : y ∈ dfoot d.bp d.gp) : y ∈ d.foot := List.mem_append.2 (.inr (List.mem_append.2 (.inl h)))
theorem Dg.in_t {d : Dg} {y : Nat} (h : y ∈ rfoot d.bt d.gt) : y ∈ d.foot := List.mem_append.2 (.inr (List.mem_append.2 (.inr h)))
theorem TriAt.fr {w w' : World} {S : List Nat} {d : Dg} {mx mp : Pt} {r : R} (h : TriAt w d mx mp r) (f : Fr S w w') (hs : ∀ y ∈ d.foot, y ∉ S) : TriAt w' d mx mp r :=
  ⟨PntRaw.fr h.x f (fun y hy => hs y (Dg.in_x hy)), h.p.fr f (fun y hy => hs y (Dg.in_p hy)), h.t.fr f (fun y hy => hs y (Dg.in_t hy))⟩
theorem TriAt.fr0 {w w' : World} {d : Dg} {mx mp : Pt} {r : R} (h : TriAt w d mx mp r) (f : Fr [] w w') : TriAt w' d mx mp r := h.fr f (by simp)

/-- the three behind some calls that began in w0, when they lay at F0 -/
structure TM (w0 : World) (F0 : List Nat) (w : World) (d : Dg) (mx mp : Pt) (r : R) : Prop where
  at' : TriAt w d mx mp r
  f : Fr F0 w0 w
  s : ∀ y ∈ d.foot, y ∈ F0 ∨ w0.heap.size ≤ y
theorem TM.start {w : World} {d : Dg} {mx mp : Pt} {r : R} (h : TriAt w d mx mp r) : TM w d.foot w d mx mp r := ⟨h, Fr.refl _ _, fun _ hy => .inl hy⟩
theorem TM.fr0 {w0 : World} {F0 : List Nat} {w w' : World} {d : Dg} {mx mp : Pt} {r : R} (h : TM w0 F0 w d mx mp r) (f : Fr [] w w') : TM w0 F0 w' d mx mp r := ⟨h.at'.fr0 f, h.f.then f.of_nil, h.s⟩
/-- new blocks beside them have been written -/
theorem TM.fr {w0 : World} {F0 : List Nat} {w w' : World} {S : List Nat} {d : Dg} {mx mp : Pt} {r : R} (h : TM w0 F0 w d mx mp r) (f : Fr S w w') (h1 : ∀ y ∈ d.foot, y ∉ S) (h2 : ∀ y ∈ S, w0.heap.size ≤ y) : TM w0 F0 w' d mx mp r :=
  ⟨h.at'.fr f h1, h.f.trans f (fun _ hi => .inl hi) (fun i hi => .inr (h2 i hi)), h.s⟩
theorem TM.keep {w0 : World} {F0 : List Nat} {w w' : World} {d : Dg} {mx mp : Pt} {r : R} (h : TM w0 F0 w d mx mp r) (f : Fr d.foot w w') {c : Nat} {us : List Value} {ty : TypeId} (hb : Blk w c us ty) (ht : ty ∉ triTy) : Blk w' c us ty := hb.fr f (h.at'.off hb ht)
theorem TM.go {w0 : World} {F0 : List Nat} {w w' : World} {d d' : Dg} {mx mp mx' mp' : Pt} {r r' : R} (h : TM w0 F0 w d mx mp r) (a : TriAt w' d' mx' mp' r') (f : Fr d.foot w w') (s : ∀ y ∈ d'.foot, y ∈ d.foot ∨ w.heap.size ≤ y) : TM w0 F0 w' d' mx' mp' r' :=
  ⟨a, h.f.trans f (fun _ hi => .inl hi) h.s, fun y hy => (s y hy).elim (h.s y) (fun k => .inr (Nat.le_trans h.f.size k))⟩
/-- the program's painter has turned -/
theorem TM.pnt {w0 : World} {F0 : List Nat} {w w' : World} {d : Dg} {mx mp mx' : Pt} {r : R} (h : TM w0 F0 w d mx mp r) (u : PUpd d.bx d.gx mx' w w') : ∃ gx, TM w0 F0 w' { d with gx := gx } mx' mp r ∧ Fr d.foot w w' := by
  obtain ⟨g1, p1, f1, s1⟩ := u
  have F : Fr d.foot w w' := f1.mono (fun _ hy => Dg.in_x hy)
  have a1 := typed_apart (PntRaw.typed h.at'.x) h.at'.p.typed pd_apart
  have a2 := typed_apart (PntRaw.typed h.at'.x) h.at'.t.typed pr_apart
  refine ⟨g1, h.go ⟨p1, h.at'.p.fr f1 (fun y hy hm => a1 y hm hy), h.at'.t.fr f1 (fun y hy hm => a2 y hm hy)⟩ F ?_, F⟩
  intro y hy
  rcases List.mem_append.1 hy with hy | hy
  · exact (s1 y hy).elim (fun k => .inl (Dg.in_x k)) .inr
  · exact .inl (List.mem_append.2 (.inr hy))
/-- the document's has -/
theorem TM.doc {w0 : World} {F0 : List Nat} {w w' : World} {d : Dg} {mx mp mp' : Pt} {r : R} (h : TM w0 F0 w d mx mp r) (u : DUpd d.bp d.gp mp' w w') : ∃ gp, TM w0 F0 w' { d with gp := gp } mx mp' r ∧ Fr d.foot w w' := by
  obtain ⟨g1, p1, f1, s1⟩ := u
  have F : Fr d.foot w w' := f1.mono (fun _ hy => Dg.in_p hy)
  have a1 := typed_apart (PntRaw.typed h.at'.x) h.at'.p.typed pd_apart
  have a2 := typed_apart h.at'.p.typed h.at'.t.typed dr_apart
  refine ⟨g1, h.go ⟨PntRaw.fr h.at'.x f1 a1, p1, h.at'.t.fr f1 (fun y hy hm => a2 y hm hy)⟩ F ?_, F⟩
  intro y hy
  rcases List.mem_append.1 hy with hy | hy
  · exact .inl (Dg.in_x hy)
  · rcases List.mem_append.1 hy with hy | hy
    · exact (s1 y hy).elim (fun k => .inl (Dg.in_p k)) .inr
    · exact .inl (Dg.in_t hy)
/-- the document's terminal has -/
theorem TM.ref {w0 : World} {F0 : List Nat} {w w' : World} {d : Dg} {mx mp : Pt} {r r' : R} (h : TM w0 F0 w d mx mp r) (u : RUpd d.bt d.gt r' w w') : ∃ gt, TM w0 F0 w' { d with gt := gt } mx mp r' ∧ Fr d.foot w w' := by
  obtain ⟨g1, p1, f1, s1⟩ := u
  have F : Fr d.foot w w' := f1.mono (fun _ hy => Dg.in_t hy)
  have a1 := typed_apart (PntRaw.typed h.at'.x) h.at'.t.typed pr_apart
  have a2 := typed_apart h.at'.p.typed h.at'.t.typed dr_apart
  refine ⟨g1, h.go ⟨PntRaw.fr h.at'.x f1 a1, h.at'.p.fr f1 a2, p1⟩ F ?_, F⟩
  intro y hy
  rcases List.mem_append.1 hy with hy | hy
  · exact .inl (Dg.in_x hy)
  · rcases List.mem_append.1 hy with hy | hy
    · exact .inl (Dg.in_p hy)
    · exact (s1 y hy).elim (fun k => .inl (Dg.in_t k)) .inr

/-- a desk's own block -/
def dkOf (d : Dg) (noise : Bool) : List Value := [.pointer (some ⟨d.bx, 0, none⟩), .pointer (some ⟨d.bp, 0, none⟩), .pointer (some ⟨d.bt, 0, none⟩), .bool noise]
/-- a step of a script, in memory -/
def opOf (k n a c : Int) (s : ByteArray) (v : Value) : List Value := [.int .i64 k, .int .i64 n, .int .i64 a, .int .i64 c, .string s, v]
theorem Blk.dk {w : World} {b : Nat} {d : Dg} {z : Bool} {ty : TypeId} (h : Blk w b (dkOf d z) ty) : w.cell? ⟨b, 0, none⟩ = some (.pointer (some ⟨d.bx, 0, none⟩)) ∧ w.cell? ⟨b, 1, none⟩ = some (.pointer (some ⟨d.bp, 0, none⟩)) ∧ w.cell? ⟨b, 2, none⟩ = some (.pointer (some ⟨d.bt, 0, none⟩)) ∧ w.cell? ⟨b, 3, none⟩ = some (.bool z) :=
  ⟨h.cell 0, h.cell 1, h.cell 2, h.cell 3⟩
theorem Blk.op {w : World} {b : Nat} {k n a c : Int} {s : ByteArray} {v : Value} {ty : TypeId} (h : Blk w b (opOf k n a c s v) ty) : w.cell? ⟨b, 0, none⟩ = some (.int .i64 k) ∧ w.cell? ⟨b, 1, none⟩ = some (.int .i64 n) ∧ w.cell? ⟨b, 2, none⟩ = some (.int .i64 a) ∧ w.cell? ⟨b, 3, none⟩ = some (.int .i64 c) ∧ w.cell? ⟨b, 4, none⟩ = some (.string s) ∧ w.cell? ⟨b, 5, none⟩ = some v :=
  ⟨h.cell 0, h.cell 1, h.cell 2, h.cell 3, h.cell 4, h.cell 5⟩
/-- what desk.call leaves: the answer, and the three with what they hold now -/
def CallPost (d : Dg) (m' : Pt) (r' : R) (bs : List Int) (er : Int) (w : World) (e : Ending) (w' : World) : Prop :=
  e = .returned (.tuple #[.string (strOfNums bs), .int .i64 er, .bool true]) ∧ ∃ gx gp gt, TM w d.foot w' { d with gx := gx, gp := gp, gt := gt } m' m' r'

/-- the three, the desk's own block and the step's, in the midst of a call -/
structure Held (w0 : World) (F0 : List Nat) (w : World) (d : Dg) (mx mp : Pt) (r : R) (bd : Nat) (z : Bool) (ob : Nat) (o : List Value) : Prop where
  tm : TM w0 F0 w d mx mp r
  dk : Blk w bd (dkOf d z) 76
  op : Blk w ob o 32
theorem Held.fr0 {w0 : World} {F0 : List Nat} {w w' : World} {d : Dg} {mx mp : Pt} {r : R} {bd : Nat} {z : Bool} {ob : Nat} {o : List Value} (h : Held w0 F0 w d mx mp r bd z ob o) (f : Fr [] w w') : Held w0 F0 w' d mx mp r bd z ob o := ⟨h.tm.fr0 f, h.dk.fr0 f, h.op.fr0 f⟩
theorem Held.pnt {w0 : World} {F0 : List Nat} {w w' : World} {d : Dg} {mx mp mx' : Pt} {r : R} {bd : Nat} {z : Bool} {ob : Nat} {o : List Value} (h : Held w0 F0 w d mx mp r bd z ob o) (u : PUpd d.bx d.gx mx' w w') : ∃ gx, Held w0 F0 w' { d with gx := gx } mx' mp r bd z ob o ∧ Fr d.foot w w' := by
  obtain ⟨gx, t, f⟩ := h.tm.pnt u
  exact ⟨gx, ⟨t, h.tm.keep f h.dk (by decide), h.tm.keep f h.op (by decide)⟩, f⟩
theorem Held.doc {w0 : World} {F0 : List Nat} {w w' : World} {d : Dg} {mx mp mp' : Pt} {r : R} {bd : Nat} {z : Bool} {ob : Nat} {o : List Value} (h : Held w0 F0 w d mx mp r bd z ob o) (u : DUpd d.bp d.gp mp' w w') : ∃ gp, Held w0 F0 w' { d with gp := gp } mx mp' r bd z ob o ∧ Fr d.foot w w' := by
  obtain ⟨gp, t, f⟩ := h.tm.doc u
  exact ⟨gp, ⟨t, h.tm.keep f h.dk (by decide), h.tm.keep f h.op (by decide)⟩, f⟩
/-- the document's painter has turned, its lists where they are known to lie -/
theorem Held.docG {w0 : World} {F0 : List Nat} {w w' : World} {d : Dg} {gp : DGh} {mx mp mp' : Pt} {r : R} {bd : Nat} {z : Bool} {ob : Nat} {o : List Value} (h : Held w0 F0 w d mx mp r bd z ob o) (p1 : DPAt w' d.bp gp mp') (f1 : Fr (dfoot d.bp d.gp) w w') (s1 : ∀ x ∈ dfoot d.bp gp, x ∈ dfoot d.bp d.gp ∨ w.heap.size ≤ x) : Held w0 F0 w' { d with gp := gp } mx mp' r bd z ob o ∧ Fr d.foot w w' := by
  have F : Fr d.foot w w' := f1.mono (fun _ hy => Dg.in_p hy)
  have a1 := typed_apart (PntRaw.typed h.tm.at'.x) h.tm.at'.p.typed pd_apart
  have a2 := typed_apart h.tm.at'.p.typed h.tm.at'.t.typed dr_apart
  have t : TM w0 F0 w' { d with gp := gp } mx mp' r := by
    refine h.tm.go ⟨PntRaw.fr h.tm.at'.x f1 a1, p1, h.tm.at'.t.fr f1 (fun y hy hm => a2 y hm hy)⟩ F ?_
    intro y hy
    rcases List.mem_append.1 hy with hy | hy
    · exact .inl (Dg.in_x hy)
    · rcases List.mem_append.1 hy with hy | hy
      · exact (s1 y hy).elim (fun k => .inl (Dg.in_p k)) .inr
      · exact .inl (Dg.in_t hy)
  exact ⟨⟨t, h.tm.keep F h.dk (by decide), h.tm.keep F h.op (by decide)⟩, F⟩
theorem Held.ref {w0 : World} {F0 : List Nat} {w w' : World} {d : Dg} {mx mp : Pt} {r r' : R} {bd : Nat} {z : Bool} {ob : Nat} {o : List Value} (h : Held w0 F0 w d mx mp r bd z ob o) (u : RUpd d.bt d.gt r' w w') : ∃ gt, Held w0 F0 w' { d with gt := gt } mx mp r' bd z ob o ∧ Fr d.foot w w' := by
  obtain ⟨gt, t, f⟩ := h.tm.ref u
  exact ⟨gt, ⟨t, h.tm.keep f h.dk (by decide), h.tm.keep f h.op (by decide)⟩, f⟩
/-- as a call begins: the step has been boxed -/
theorem Held.box {w : World} {d : Dg} {m : Pt} {r : R} {bd : Nat} {z : Bool} (h : TriAt w d m m r) (hd : Blk w bd (dkOf d z) 76) (o : List Value) : Held w d.foot (w.alloc (.cells o.toArray 32)) d m m r bd z w.heap.size o :=
  ⟨(TM.start h).fr0 ((Fr.refl _ _).alloc _), hd.alloc _, Blk.new _ _ _⟩
end Go.Proofs.YtjhccghhinlmdabGreatDoor
/- The desk: how many cells differ. -/
namespace Go.Proofs.YtjhccghhinlmdabGreatDoor
open Go.RowKit

theorem cell_at (l : List (Int × Int)) (k : Nat) (h : k < l.length) : l.getD k (32, 7) = (chr l k, sty l k) := by
  simp [chr, sty, List.getD_eq_getElem?_getD, h]
set_option maxHeartbeats 4000000 in
set_option maxRecDepth 100000 in
theorem other_any (w : World) (fb fcap : Nat) (fsp : List Value) (f : List (Int × Int)) (gb gcap : Nat) (gsp : List Value) (g : List (Int × Int)) (N : Nat) (hf : RRow w fb fcap fsp f) (hg : RRow w gb gcap gsp g) (lf : f.length = N) (lg : g.length = N) (n2 : N ≤ 800) :
    Calls Tryz.prog 57 #[.slice (some ⟨fb, 0, none⟩) N fcap, .slice (some ⟨gb, 0, none⟩) N gcap] w fun e w' => e = .returned (.int .i64 (others f g N)) ∧ Fr [] w w' := by
  have HF := hide hf
  have HG := hide hg
  have LF := hide lf
  have LG := hide lg
  clear hf hg lf lg
  go_enter Tryz.func57, Tryz.ntmps57
  go_wp2
  go_loopw [5, 6] (fun u i wr => ∃ k : Nat, i = .int .i64 k ∧ k ≤ N ∧ u = .int .i64 (others f g k) ∧ Fr [] w wr) (fun _ i _ => (3000 - intOf i).toNat)
  case atStart => exact ⟨0, rfl, by omega, rfl, Fr.refl _ _⟩
  case round =>
    obtain ⟨k, rfl, hk, rfl, fr⟩ := hrel
    have FW := hide fr
    have ole := others_le f g k
    by_cases hend : k < N
    · obtain ⟨a1, a2⟩ := (HF.out.fr0 fr).cells k (by rw [LF.out]; exact hend)
      obtain ⟨b1, b2⟩ := (HG.out.fr0 fr).cells k (by rw [LG.out]; exact hend)
      have i1 : (k : Int) < N := by omega
      have ST : Hid (others f g (k + 1) = others f g k + if (chr g k, sty g k) = (chr f k, sty f k) then 0 else 1) := by
        show _ = _
        conv => lhs; unfold others
        rw [cell_at g k (by rw [LG.out]; exact hend), cell_at f k (by rw [LF.out]; exact hend)]
      generalize others f g k = oc at *
      generalize chr f k = c1 at *
      generalize sty f k = s1 at *
      generalize chr g k = c2 at *
      generalize sty g k = s2 at *
      clear fr
      by_cases hs : c1 = c2 ∧ s1 = s2
      · obtain ⟨rfl, rfl⟩ := hs
        have E : Hid (others f g (k + 1) = oc) := by show _ = _; rw [ST.out, if_pos rfl, Nat.add_zero]
        clear ST
        go_wp2
        go_region
        go_wp2
        go_roundw
        case rel => exact ⟨k + 1, by go_num, by omega, by rw [E.out], FW.out.drew⟩
        case measure => simp [intOf]; omega
      · have E : Hid (others f g (k + 1) = oc + 1) := by
          show _ = _; rw [ST.out, if_neg (by intro h; simp at h; exact hs ⟨h.1.symm, h.2.symm⟩)]
        have hne : (c1 == c2) = false ∨ ((c1 == c2) = true ∧ (s1 == s2) = false) := by
          by_cases hx : c1 = c2
          · exact .inr ⟨by simpa using hx, by simp; intro hy; exact hs ⟨hx, hy⟩⟩
          · exact .inl (by simpa using hx)
        clear ST hs
        rcases hne with q1 | ⟨q1, q2⟩
        all_goals
          go_wp2
          go_region
          go_wp2
          go_roundw
          case rel => exact ⟨k + 1, by go_num, by omega, by rw [E.out]; go_num, FW.out.drew⟩
          case measure => simp [intOf]; omega
    · have i1 : ¬ (k : Int) < N := by omega
      have e : k = N := by omega
      subst e
      go_wp2
      go_ret
      exact ⟨rfl, FW.out⟩
end Go.Proofs.YtjhccghhinlmdabGreatDoor
/- The desk: may there be so many bytes? -/
namespace Go.Proofs.YtjhccghhinlmdabGreatDoor
open Go.RowKit

theorem place_cur (w : World) (b : Nat) (g : DGh) (m : Pt) (h : DPAt w b g m) :
    Calls Tryz.prog 28 #[.pointer (some ⟨b, 0, none⟩)] w fun e w' => e = .returned (.agg #[.int .i64 m.cur.x, .int .i64 m.cur.y, .bool m.cur.shown]) ∧ Fr [] w w' := place_any w b g m h

set_option maxHeartbeats 4000000 in
set_option maxRecDepth 100000 in
/-- of a step that may not change every cell -/
theorem short_part (k n a c : Int) (s : ByteArray) (av : Option Addr) (lv cv : Nat) (w : World) (bd : Nat) (d : Dg) (mx m : Pt) (r : R) (z : Bool) (h : TriAt w d mx m r) (hd : Blk w bd (dkOf d z) 76) (hk : k = 7 ∨ k = 8)
    (fb fcap : Nat) (fsp : List Value) (f : List (Int × Int)) (hf : RRow w fb fcap fsp f) (N : Nat) (hN : (m.W * m.H).toNat = N) (lf : f.length = N) (ln : Nat) (wx wy : Int) (wsh : Bool) (h1 : ln ≤ 40 * others f (m.v.grid m.W m.H) N + 60) (h2 : others f (m.v.grid m.W m.H) N = 0 → (⟨wx, wy, wsh⟩ : Cur) = m.cur → ln = 0) (h3 : ln ≤ 100000) :
    Calls Tryz.prog 31 #[.pointer (some ⟨bd, 0, none⟩), .agg #[.int .i64 k, .int .i64 n, .int .i64 a, .int .i64 c, .string s, .slice av lv cv], .int .i64 ln, .slice (some ⟨fb, 0, none⟩) N fcap, .agg #[.int .i64 wx, .int .i64 wy, .bool wsh]] w fun e w' => e = .returned (.bool true) ∧ Fr [] w w' := by
  have mb := mul_bd h.p.w1 h.p.w2 h.p.h1 h.p.h2
  have hlen : (m.v.grid m.W m.H).length = N := by rw [V.grid_length]; omega
  have n1 : 1 ≤ N := by omega
  have n2 : N ≤ 800 := by omega
  have FX : Hid (Fr [] w ((w.alloc (.cells #[.int .i64 k, .int .i64 n, .int .i64 a, .int .i64 c, .string s, .slice av lv cv] 32)).alloc (.cells #[.int .i64 wx, .int .i64 wy, .bool wsh] 66))) := ((Fr.refl _ _).alloc _).alloc _
  have GR := hide (dgrid_any _ d.bp d.gp m (h.fr0 FX.out).p)
  have BW : Hid (Blk ((w.alloc (.cells #[.int .i64 k, .int .i64 n, .int .i64 a, .int .i64 c, .string s, .slice av lv cv] 32)).alloc (.cells #[.int .i64 wx, .int .i64 wy, .bool wsh] 66)) (w.heap.size + 1) [.int .i64 wx, .int .i64 wy, .bool wsh] 66) := by
    have := Blk.new (w.alloc (.cells #[.int .i64 k, .int .i64 n, .int .i64 a, .int .i64 c, .string s, .slice av lv cv] 32)) [.int .i64 wx, .int .i64 wy, .bool wsh] 66
    exact hide (by simpa using this)
  have BO := hide ((Blk.new w [.int .i64 k, .int .i64 n, .int .i64 a, .int .i64 c, .string s, .slice av lv cv] 32).alloc (.cells #[.int .i64 wx, .int .i64 wy, .bool wsh] 66))
  have H := hide h
  have HD := hide hd
  have HF := hide hf
  have LF := hide lf
  have HL := hide hlen
  have HN := hide hN
  have H1 := hide h1
  have H2 := hide h2
  have l0 := hd.lt
  obtain ⟨q0, q1, q2, q3⟩ := hd.dk
  clear h hd hf lf hlen hN h1 h2 mb
  go_enter Tryz.func31, Tryz.ntmps31
  go_wp2_with fail
  refine GR.out.mono ?_
  rintro e w1 ⟨u, rfl, hu, f1⟩
  rw [HN.out] at hu
  obtain ⟨gb, gcap, gsp, rfl, hge, hrow⟩ := RRow.of hu HL.out n1
  have F1 := hide (FX.out.then f1)
  have FP := hide f1
  have OT := hide (other_any w1 fb fcap fsp f gb gcap gsp _ N (HF.out.fr0 F1.out) hrow LF.out HL.out n2)
  have ole := others_le f (m.v.grid m.W m.H) N
  have h1 := H1.out
  generalize others f (m.v.grid m.W m.H) N = oc at *
  obtain ⟨k0, k1, k2, k3⟩ := (HD.out.fr0 F1.out).dk
  have o0 : w1.cell? ⟨w.heap.size, 0, none⟩ = some (.int .i64 k) := (BO.out.fr0 f1).cell 0
  have ol := (BO.out.fr0 f1).lt
  clear hu hge hrow f1 GR q0 q1 q2 q3
  have hkk : (k == 7) = true ∨ ((k == 7) = false ∧ (k == 8) = true) := by
    rcases hk with rfl | rfl
    · exact .inl rfl
    · exact .inr ⟨rfl, rfl⟩
  clear hk
  rcases hkk with e7 | ⟨e7, e8⟩
  all_goals
    go_wp2_with fail
    refine OT.out.mono ?_
    rintro e w2 ⟨rfl, f2⟩
    have F2 := hide (F1.out.then f2)
    have FP2 := hide (FP.out.then f2)
    have PL := hide (place_cur w2 d.bp d.gp m (H.out.fr0 F2.out).p)
    clear k0 k1 k2 k3 o0 ol f2 OT
    obtain ⟨k0, k1, k2, k3⟩ := (HD.out.fr0 F2.out).dk
    have CE : Hid (∀ h : m.cur ≠ (⟨wx, wy, wsh⟩ : Cur), _) := fun h => cur_ne h
    have h2 := H2.out
    have H2' := hide h2
    clear h2 H2 H1
    generalize m.cur = cu at *
    obtain ⟨cx, cy, cs⟩ := cu
    go_wp2_with fail
    refine PL.out.mono ?_
    rintro e w3 ⟨rfl, f3⟩
    have F3 := hide (F2.out.then f3)
    have BW3 := BW.out.fr0 (FP2.out.then f3)
    have y0 : w3.cell? ⟨w.heap.size + 1, 0, none⟩ = some (.int .i64 wx) := BW3.cell 0
    have y1 : w3.cell? ⟨w.heap.size + 1, 1, none⟩ = some (.int .i64 wy) := BW3.cell 1
    have y2 : w3.cell? ⟨w.heap.size + 1, 2, none⟩ = some (.bool wsh) := BW3.cell 2
    have yl := BW3.lt
    clear f3 BW3 PL k0 k1 k2 k3
    by_cases hz : oc = 0
    · subst hz
      by_cases hc : (⟨cx, cy, cs⟩ : Cur) = ⟨wx, wy, wsh⟩
      · have hl := H2'.out rfl hc.symm
        injection hc with c1 c2 c3
        subst c1 c2 c3 hl
        clear H2' CE
        go_wp2
        go_ret
        exact ⟨rfl, F3.out.alloc _⟩
      · have hne := CE.out hc
        clear H2' CE hc
        rcases hne with q1 | ⟨q1, q2⟩ | ⟨q1, q2, q3⟩
        all_goals
          go_wp2
          go_ret
          exact ⟨ret_bool (by simp; omega), F3.out.alloc _⟩
    · have hzi : ((oc : Int) == 0) = false := by simp; omega
      clear H2' CE
      go_wp2
      go_ret
      exact ⟨ret_bool (by simp; omega), F3.out.alloc _⟩

set_option maxHeartbeats 4000000 in
set_option maxRecDepth 100000 in
/-- of a step that may change every cell -/
theorem short_all (k n a c : Int) (s : ByteArray) (av : Option Addr) (lv cv : Nat) (w : World) (bd : Nat) (d : Dg) (mx m : Pt) (r : R) (z : Bool) (h : TriAt w d mx m r) (hd : Blk w bd (dkOf d z) 76) (k7 : (k == 7) = false) (k8 : (k == 8) = false)
    (oa : Option Addr) (on oc : Nat) (N : Nat) (hN : (m.W * m.H).toNat = N) (ln : Nat) (wx wy : Int) (wsh : Bool) (h1 : ln ≤ 40 * N + 60) :
    Calls Tryz.prog 31 #[.pointer (some ⟨bd, 0, none⟩), .agg #[.int .i64 k, .int .i64 n, .int .i64 a, .int .i64 c, .string s, .slice av lv cv], .int .i64 ln, .slice oa on oc, .agg #[.int .i64 wx, .int .i64 wy, .bool wsh]] w fun e w' => e = .returned (.bool true) ∧ Fr [] w w' := by
  have mb := mul_bd h.p.w1 h.p.w2 h.p.h1 h.p.h2
  have hlen : (m.v.grid m.W m.H).length = N := by rw [V.grid_length]; omega
  have n1 : 1 ≤ N := by omega
  have n2 : N ≤ 800 := by omega
  have FX : Hid (Fr [] w ((w.alloc (.cells #[.int .i64 k, .int .i64 n, .int .i64 a, .int .i64 c, .string s, .slice av lv cv] 32)).alloc (.cells #[.int .i64 wx, .int .i64 wy, .bool wsh] 66))) := ((Fr.refl _ _).alloc _).alloc _
  have GR := hide (dgrid_any _ d.bp d.gp m (h.fr0 FX.out).p)
  have BO := hide ((Blk.new w [.int .i64 k, .int .i64 n, .int .i64 a, .int .i64 c, .string s, .slice av lv cv] 32).alloc (.cells #[.int .i64 wx, .int .i64 wy, .bool wsh] 66))
  have HL := hide hlen
  have HN := hide hN
  have l0 := hd.lt
  obtain ⟨q0, q1, q2, q3⟩ := hd.dk
  clear h hd hlen hN mb
  go_enter Tryz.func31, Tryz.ntmps31
  go_wp2_with fail
  refine GR.out.mono ?_
  rintro e w1 ⟨u, rfl, hu, f1⟩
  rw [HN.out] at hu
  obtain ⟨gb, gcap, gsp, rfl, hge, hrow⟩ := RRow.of hu HL.out n1
  have F1 := hide (FX.out.then f1)
  have o0 : w1.cell? ⟨w.heap.size, 0, none⟩ = some (.int .i64 k) := (BO.out.fr0 f1).cell 0
  have ol := (BO.out.fr0 f1).lt
  clear hu hge hrow f1 GR q0 q1 q2 q3
  go_wp2
  go_ret
  exact ⟨ret_bool (by simp; omega), F1.out⟩
end Go.Proofs.YtjhccghhinlmdabGreatDoor
/- The desk: does the document's terminal show what is to be seen? How many cells differ? -/
namespace Go.Proofs.YtjhccghhinlmdabGreatDoor
open Go.RowKit

set_option maxHeartbeats 4000000 in
set_option maxRecDepth 100000 in
theorem shown_yes (w : World) (bd : Nat) (d : Dg) (mx m : Pt) (r : R) (z : Bool) (h : TriAt w d mx m r) (hd : Blk w bd (dkOf d z) 76) (hc : r.cells = m.v.grid m.W m.H) (hs : (!r.hidden) = m.on) (hp : m.on = true → r.x = m.cx ∧ r.y = m.cy) :
    Calls Tryz.prog 30 #[.pointer (some ⟨bd, 0, none⟩)] w fun e w' => e = .returned (.bool true) ∧ Fr [] w w' := by
  have H := hide h
  have HD := hide hd
  have HC := hide hc
  have HS := hide hs
  have HP := hide hp
  have mb := mul_bd h.p.w1 h.p.w2 h.p.h1 h.p.h2
  obtain ⟨N, hN⟩ := Int.eq_ofNat_of_zero_le (show 0 ≤ m.W * m.H by omega)
  have hlen : (m.v.grid m.W m.H).length = N := by rw [V.grid_length]; omega
  have n1 : 1 ≤ N := by omega
  have n2 : N ≤ 800 := by omega
  have HL := hide hlen
  have GR := hide (dgrid_any w d.bp d.gp m h.p)
  have HN : Hid ((m.W * m.H).toNat = N) := by show _ = _; omega
  obtain ⟨q0, q1, q2, q3⟩ := hd.dk
  clear h hd hc hs hp hN hlen mb
  go_enter Tryz.func30, Tryz.ntmps30
  go_wp2_with fail
  refine GR.out.mono ?_
  rintro e w1 ⟨u, rfl, hu, f1⟩
  rw [HN.out] at hu
  obtain ⟨gb, gcap, gsp, rfl, hge, hrow⟩ := RRow.of hu HL.out n1
  have HR := hide hrow
  have F1 := hide f1
  have h1 := H.out.fr0 f1
  obtain ⟨k0, k1, k2, k3⟩ := (HD.out.fr0 f1).dk
  have c2 : w1.cell? ⟨d.bt, 2, none⟩ = some (.slice (some ⟨d.gt.bc, 0, none⟩) N d.gt.cap) := by
    have := h1.t.st.cell 2
    simp only [rstOf, List.getElem?_cons_succ, List.getElem?_cons_zero] at this
    rw [HC.out, HL.out] at this
    exact this
  clear hu f1 h1 hge hrow GR q0 q1 q2 q3
  go_wp2
  go_loopw [4] (fun i wr => ∃ k : Nat, i = .int .i64 k ∧ k ≤ N ∧ Fr [] w1 wr) (fun i _ => (3000 - intOf i).toNat)
  case atStart => exact ⟨0, rfl, by omega, Fr.refl _ _⟩
  case round =>
    obtain ⟨k, rfl, hk, f⟩ := hrel
    have F := hide (F1.out.then f)
    have FW := hide f
    have hw := H.out.fr0 F.out
    obtain ⟨k0, k1, k2, k3⟩ := (HD.out.fr0 F.out).dk
    have c2 : wr.cell? ⟨d.bt, 2, none⟩ = some (.slice (some ⟨d.gt.bc, 0, none⟩) N d.gt.cap) := by
      have := hw.t.st.cell 2
      simp only [rstOf, List.getElem?_cons_succ, List.getElem?_cons_zero] at this
      rw [HC.out, HL.out] at this
      exact this
    by_cases hend : k < N
    · obtain ⟨a1, a2⟩ := (HR.out.fr0 f).cells k (by rw [HL.out]; exact hend)
      obtain ⟨b1, b2⟩ := hw.t.row.cells k (by rw [HC.out, HL.out]; exact hend)
      rw [HC.out] at b1 b2
      have i1 : (k : Int) < N := by omega
      generalize chr (m.v.grid m.W m.H) k = cc at *
      generalize sty (m.v.grid m.W m.H) k = ss at *
      clear f hw
      go_wp2
      go_region
      go_wp2
      go_roundw
      case rel => exact ⟨k + 1, by go_num, by omega, FW.out.drew⟩
      case measure => simp [intOf]; omega
    · have i1 : ¬ (k : Int) < N := by omega
      have PL := hide (place_any wr d.bp d.gp m hw.p)
      clear f hw
      by_cases on : m.on = true
      · rw [on] at PL
        obtain ⟨px, py⟩ := HP.out on
        have hh : (!r.hidden) = true := by rw [HS.out, on]
        have PX := hide px
        have PY := hide py
        have HH := hide hh
        simp only [if_true] at PL
        clear on px py hh
        go_wp2_with fail
        refine PL.out.mono ?_
        rintro e w3 ⟨rfl, f3⟩
        have F3 := hide (F.out.then f3)
        obtain ⟨j0, j1, j2, j3⟩ := (HD.out.fr0 F3.out).dk
        have CU := hide (refCursor_any (w3.alloc (.cells #[.int .i64 m.cx, .int .i64 m.cy, .bool true] 66)) d.bt d.gt r ((H.out.fr0 F3.out).t.fr0 ((Fr.refl _ _).alloc _)))
        rw [PX.out, PY.out, HH.out] at CU
        have l3 := (HD.out.fr0 F3.out).lt
        clear f3 PL k0 k1 k2 k3 c2
        go_wp2_with fail
        refine CU.out.mono ?_
        rintro e w4 ⟨rfl, f4⟩
        have B4 := (Blk.new w3 [.int .i64 m.cx, .int .i64 m.cy, .bool true] 66).fr0 f4
        have y0 : w4.cell? ⟨w3.heap.size, 0, none⟩ = some (.int .i64 m.cx) := B4.cell 0
        have y1 : w4.cell? ⟨w3.heap.size, 1, none⟩ = some (.int .i64 m.cy) := B4.cell 1
        have y2 : w4.cell? ⟨w3.heap.size, 2, none⟩ = some (.bool true) := B4.cell 2
        have yl := B4.lt
        have F4 := hide ((F3.out.alloc _).then f4)
        clear f4 B4 CU j0 j1 j2 j3
        go_wp2
        go_ret
        exact ⟨rfl, F4.out.alloc _⟩
      · have off : m.on = false := by simpa using on
        rw [off] at PL
        have hh : (!r.hidden) = false := by rw [HS.out, off]
        have HH := hide hh
        simp only [Bool.false_eq_true, if_false] at PL
        clear on off hh
        go_wp2_with fail
        refine PL.out.mono ?_
        rintro e w3 ⟨rfl, f3⟩
        have F3 := hide (F.out.then f3)
        obtain ⟨j0, j1, j2, j3⟩ := (HD.out.fr0 F3.out).dk
        have CU := hide (refCursor_any (w3.alloc (.cells #[.int .i64 0, .int .i64 0, .bool false] 66)) d.bt d.gt r ((H.out.fr0 F3.out).t.fr0 ((Fr.refl _ _).alloc _)))
        rw [HH.out] at CU
        have l3 := (HD.out.fr0 F3.out).lt
        clear f3 PL k0 k1 k2 k3 c2
        go_wp2_with fail
        refine CU.out.mono ?_
        rintro e w4 ⟨rfl, f4⟩
        have B4 := (Blk.new w3 [.int .i64 0, .int .i64 0, .bool false] 66).fr0 f4
        have y2 : w4.cell? ⟨w3.heap.size, 2, none⟩ = some (.bool false) := B4.cell 2
        have yl := B4.lt
        have F4 := hide ((F3.out.alloc _).then f4)
        clear f4 B4 CU j0 j1 j2 j3
        go_wp2
        go_ret
        exact ⟨rfl, F4.out.alloc _⟩
end Go.Proofs.YtjhccghhinlmdabGreatDoor
/- What a terminal shows that a painter's bytes have gone to: plain facts. -/
namespace Go.Proofs.YtjhccghhinlmdabGreatDoor
open Go.RowKit

/-- the painter's bytes are bytes, and not many -/
theorem Pt.told_ok (m m' : Pt) (h : m'.v.Ok) (w1 : 1 ≤ m'.W) (w2 : m'.W ≤ 40) (h1 : 1 ≤ m'.H) (h2 : m'.H ≤ 20) : AreBytes (m.told m') ∧ (m.told m').length ≤ 20000 := by
  refine ⟨change_bytes w1 w2 h1 h2 _ _ (h.chars _ _) _ _ m'.cur_on, ?_⟩
  have a := change_len m'.W m'.H m.grid m'.grid m.cur m'.cur
  have b := others_le m.grid m'.grid (m'.W * m'.H).toNat
  have c := mul_bd w1 w2 h1 h2
  show (change _ _ _ _ _ _).length ≤ _
  omega
theorem Pt.whole_ok (m : Pt) (h : m.v.Ok) (w1 : 1 ≤ m.W) (w2 : m.W ≤ 40) (h1 : 1 ≤ m.H) (h2 : m.H ≤ 20) : AreBytes m.whole ∧ m.whole.length ≤ 20000 := by
  refine ⟨whole_bytes w1 w2 h1 h2 _ (h.chars _ _) _ m.cur_on, ?_⟩
  have a := whole_len m.W m.H m.grid m.cur
  have c := mul_bd w1 w2 h1 h2
  show (Proofs.YtjhccghhinlmdabGreatDoor.whole _ _ _ _).length ≤ _
  omega

/-- what a terminal shows is what its painter is to show -/
def Shown (t : T) (m : Pt) : Prop := Scr t m.W m.H m.grid m.cur
theorem shown_new (W H : Int) (w1 : 1 ≤ W) (w2 : W ≤ 40) (h1 : 1 ≤ H) (h2 : H ≤ 20) : Shown (T.new W H) ⟨W, H, [], 0, 0⟩ := by
  have on : Pt.on ⟨W, H, [], 0, 0⟩ = true := by simp [Pt.on]; omega
  have ec : Pt.cur ⟨W, H, [], 0, 0⟩ = ⟨0, 0, true⟩ := by simp [Pt.cur, on]
  have eg : Pt.grid ⟨W, H, [], 0, 0⟩ = List.replicate (W * H).toNat (32, 7) := grid_nil W H
  have hm := mul_bd w1 w2 h1 h2
  unfold Shown
  rw [ec, eg]
  exact ⟨rfl, rfl, w1, w2, h1, h2, rfl, by simp; omega, rfl, rfl, rfl, rfl, rfl, fun _ => ⟨rfl, rfl, rfl⟩⟩
theorem Shown.told {t : T} {m : Pt} (h : Shown t m) (m' : Pt) (eW : m'.W = m.W) (eH : m'.H = m.H) (ok : m'.v.Ok) : Shown (t.feed (m.told m')) m' := by
  have h' : Scr t m'.W m'.H m.grid m.cur := by rw [eW, eH]; exact h
  exact h'.change m'.grid (ok.chars _ _) (m'.v.grid_len h'.w1 h'.h1) m'.cur m'.cur_on
theorem Shown.whole {t : T} {m : Pt} (hc : t.Cln) (hW : t.W = m.W) (hH : t.H = m.H) (w1 : 1 ≤ m.W) (w2 : m.W ≤ 40) (h1 : 1 ≤ m.H) (h2 : m.H ≤ 20) (hl : (t.cells.length : Int) = m.W * m.H) (ok : m.v.Ok) : Shown (t.feed m.whole) m :=
  scr_whole t m.W m.H hc hW hH w1 w2 h1 h2 hl m.grid (ok.chars _ _) (m.v.grid_len w1 h1) m.cur m.cur_on
theorem Shown.cln {t : T} {m : Pt} (h : Shown t m) : t.Cln := fun _ => h.params
end Go.Proofs.YtjhccghhinlmdabGreatDoor
/- What a step of a script makes of a painter's view and of the document's terminal: plain facts. -/
namespace Go.Proofs.YtjhccghhinlmdabGreatDoor
open Go.RowKit

theorem toT_cln (r : R) : r.toT.Cln := by
  intro h
  by_cases h0 : r.begun.size = 0
  · exact (toT_stage0 h0).2
  · by_cases h1 : r.begun.size = 1
    · exact (toT_stage1 h1).2
    · exfalso
      apply h
      show (if r.begun.size = 0 then (0 : Int) else if r.begun.size = 1 then 1 else 2) = 2
      rw [if_neg h0, if_neg h1]
theorem Shown.desk {r : R} {m : Pt} (h : Shown r.toT m) : r.cells = m.v.grid m.W m.H ∧ (!r.hidden) = m.on ∧ (m.on = true → r.x = m.cx ∧ r.y = m.cy) := by
  refine ⟨h.cells, h.shown, fun on => ?_⟩
  have hs : m.cur.shown = true := on
  have := h.at' hs
  have e1 : m.cur.x = m.cx := by simp [Pt.cur, on]
  have e2 : m.cur.y = m.cy := by simp [Pt.cur, on]
  rw [e1, e2] at this
  exact ⟨this.1, this.2.1⟩

/-- what is held of a desk between two steps -/
structure DInv (m : Pt) (r : R) (z : Bool) : Prop where
  w : r.W = m.W
  h : r.H = m.H
  sh : z = false → Shown r.toT m
/-- what a step gives -/
structure StepOk (k : Int) (m m' : Pt) (r' : R) (bs : List Int) (er : Int) (z' : Bool) : Prop where
  bytes : AreBytes bs
  len : bs.length ≤ 20000
  inv : DInv m' (r'.feed bs) z'
  no : er ≠ 0 → bs = []
  part : er = 0 → (k = 7 ∨ k = 8) → m'.W = m.W ∧ m'.H = m.H ∧ bs.length ≤ 40 * others m.grid m'.grid (m'.W * m'.H).toNat + 60 ∧ (others m.grid m'.grid (m'.W * m'.H).toNat = 0 → m.cur = m'.cur → bs.length = 0)
  all : er = 0 → k ≠ 7 → k ≠ 8 → bs.length ≤ 40 * (m'.W * m'.H).toNat + 60
theorem feed_none (r : R) : r.feed [] = r := rfl
/-- nothing was said and nothing has changed -/
theorem StepOk.quiet {m : Pt} {r : R} {z : Bool} (k er : Int) (h : DInv m r z) (hk : er = 0 → k ≠ 7 ∧ k ≠ 8) : StepOk k m m r [] er z :=
  ⟨.nil, by simp, by rw [feed_none]; exact h, fun _ => rfl, fun he hk' => absurd hk' (by have := hk he; omega), fun _ _ _ => by simp⟩
theorem R.feed_WH (l : List Int) {r : R} (o : r.Ok) (hb : AreBytes l) : (r.feed l).W = r.W ∧ (r.feed l).H = r.H := by
  have e := toT_feed l o hb
  have h1 : (r.feed l).toT.W = (r.feed l).W := rfl
  have h2 : (r.feed l).toT.H = (r.feed l).H := rfl
  have := T.feed_WH l r.toT
  rw [← h1, ← h2, e]
  exact this
theorem StepOk.told {m : Pt} {r : R} {z : Bool} (k : Int) (h : DInv m r z) (o : r.Ok) (m' : Pt) (eW : m'.W = m.W) (eH : m'.H = m.H) (ok : m'.v.Ok) (hk : k = 7 ∨ k = 8) : StepOk k m m' r (m.told m') 0 z := by
  have w1 : 1 ≤ m'.W := by rw [eW, ← h.w]; exact o.w1
  have w2 : m'.W ≤ 40 := by rw [eW, ← h.w]; exact o.w2
  have h1 : 1 ≤ m'.H := by rw [eH, ← h.h]; exact o.h1
  have h2 : m'.H ≤ 20 := by rw [eH, ← h.h]; exact o.h2
  obtain ⟨b, l⟩ := Pt.told_ok m m' ok w1 w2 h1 h2
  obtain ⟨f1, f2⟩ := R.feed_WH (m.told m') o b
  refine ⟨b, l, ⟨by rw [f1, h.w, eW], by rw [f2, h.h, eH], fun hz => ?_⟩, fun he => absurd rfl he, fun _ _ => ⟨eW, eH, ?_, ?_⟩, fun _ k7 k8 => absurd hk (by omega)⟩
  · rw [toT_feed _ o b]
    exact (h.sh hz).told m' eW eH ok
  · have := change_len m'.W m'.H m.grid m'.grid m.cur m'.cur
    show (change _ _ _ _ _ _).length ≤ _
    omega
  · intro h0 hc
    show (change _ _ _ _ _ _).length = 0
    rw [hc, change_none _ _ _ _ _ h0]; rfl
theorem whole_of {m : Pt} {r : R} (o : r.Ok) (hW : r.W = m.W) (hH : r.H = m.H) (ok : m.v.Ok) : AreBytes m.whole ∧ m.whole.length ≤ 20000 ∧ m.whole.length ≤ 40 * (m.W * m.H).toNat + 60 ∧ DInv m (r.feed m.whole) false := by
  have w1 : 1 ≤ m.W := hW ▸ o.w1
  have w2 : m.W ≤ 40 := hW ▸ o.w2
  have h1 : 1 ≤ m.H := hH ▸ o.h1
  have h2 : m.H ≤ 20 := hH ▸ o.h2
  obtain ⟨b, l⟩ := Pt.whole_ok m ok w1 w2 h1 h2
  obtain ⟨f1, f2⟩ := R.feed_WH m.whole o b
  refine ⟨b, l, ?_, by rw [f1, hW], by rw [f2, hH], fun _ => ?_⟩
  · have := whole_len m.W m.H m.grid m.cur
    show (Proofs.YtjhccghhinlmdabGreatDoor.whole _ _ _ _).length ≤ _
    omega
  · rw [toT_feed _ o b]
    exact Shown.whole (toT_cln r) hW hH w1 w2 h1 h2 (by show (r.cells.length : Int) = _; rw [← hW, ← hH]; exact o.len) ok
theorem StepOk.redraw {m : Pt} {r : R} {z : Bool} (h : DInv m r z) (o : r.Ok) (ok : m.v.Ok) : StepOk 10 m m r m.whole 0 false := by
  obtain ⟨b, l, n, i⟩ := whole_of o h.w h.h ok
  exact ⟨b, l, i, fun he => absurd rfl he, fun _ hk => absurd hk (by decide), fun _ _ _ => n⟩
theorem StepOk.size {m : Pt} {r : R} (a c : Int) (o : r.Ok) (ok : m.v.Ok) (h1 : 1 ≤ a) (h2 : a ≤ 40) (h3 : 1 ≤ c) (h4 : c ≤ 20) : StepOk 9 m { m with W := a, H := c } (r.turn a c) (Pt.whole { m with W := a, H := c }) 0 false := by
  obtain ⟨b, l, n, i⟩ := whole_of (m := { m with W := a, H := c }) (R.turn_ok o h1 h2 h3 h4) rfl rfl ok
  exact ⟨b, l, i, fun he => absurd rfl he, fun _ hk => absurd hk (by decide), fun _ _ _ => n⟩
/-- the terminal has been fed something besides -/
theorem DInv.noise {m : Pt} {r : R} {z : Bool} (h : DInv m r z) (o : r.Ok) (l : List Int) (hb : AreBytes l) : DInv m (r.feed l) true := by
  obtain ⟨f1, f2⟩ := R.feed_WH l o hb
  exact ⟨by rw [f1, h.w], by rw [f2, h.h], fun hz => by cases hz⟩
theorem DInv.new (W H : Int) (w1 : 1 ≤ W) (w2 : W ≤ 40) (h1 : 1 ≤ H) (h2 : H ≤ 20) : DInv ⟨W, H, [], 0, 0⟩ (R.new W H) false :=
  ⟨rfl, rfl, fun _ => by rw [toT_new]; exact shown_new W H w1 w2 h1 h2⟩
end Go.Proofs.YtjhccghhinlmdabGreatDoor
/- What a step leaves of a desk. -/
namespace Go.Proofs.YtjhccghhinlmdabGreatDoor
open Go.RowKit

/-- the answer is true, and the three hold this; the desk's own block, and theirs, have turned, or are new -/
def DoesPost (d : Dg) (m' : Pt) (r' : R) (z : Bool) (bd : Nat) (w : World) (e : Ending) (w' : World) : Prop :=
  e = .returned (.bool true) ∧ ∃ gx gp gt, TM w (bd :: d.foot) w' { d with gx := gx, gp := gp, gt := gt } m' m' r' ∧ Blk w' bd (dkOf d z) 76
theorem DoesPost.of {d : Dg} {m' : Pt} {r' : R} {z : Bool} {bd : Nat} {w w3 w' : World} {gx : PGh} {gp : DGh} {gt : RGh} (f : Fr [] w w3) (_ : ∀ y ∈ d.foot, y < w.heap.size) (t : TM w3 (bd :: d.foot) w' { d with gx := gx, gp := gp, gt := gt } m' m' r') (hd : Blk w' bd (dkOf { d with gx := gx, gp := gp, gt := gt } z) 76) :
    ∃ gx gp gt, TM w (bd :: d.foot) w' { d with gx := gx, gp := gp, gt := gt } m' m' r' ∧ Blk w' bd (dkOf d z) 76 := by
  refine ⟨gx, gp, gt, ⟨t.at', f.of_nil.then t.f, fun y hy => ?_⟩, hd⟩
  rcases t.s y hy with k | k
  · exact .inl k
  · exact .inr (Nat.le_trans f.size k)
theorem TM.wide {w0 : World} {F0 : List Nat} {w : World} {d : Dg} {mx mp : Pt} {r : R} (h : TM w0 F0 w d mx mp r) (bd : Nat) : TM w0 (bd :: F0) w d mx mp r :=
  ⟨h.at', h.f.mono (fun _ hi => List.mem_cons_of_mem _ hi), fun y hy => (h.s y hy).elim (fun k => .inl (List.mem_cons_of_mem _ k)) .inr⟩
theorem TM.flag {w0 : World} {F0 : List Nat} {w : World} {d : Dg} {mx mp : Pt} {r : R} (h : TM w0 F0 w d mx mp r) (bd : Nat) (off : bd ∉ d.foot) (o : Nat) (v : Value) : TM w0 (bd :: F0) (w.setCell ⟨bd, o, none⟩ v) d mx mp r := by
  have f : Fr [bd] w (w.setCell ⟨bd, o, none⟩ v) := (Fr.refl _ _).setCell (.inl (by simp)) _
  have hw := h.wide bd
  exact ⟨h.at'.fr f (fun y hy hm => by simp at hm; subst hm; exact off hy), hw.f.trans f (fun _ hi => .inl hi) (by intro i hi; simp at hi; subst hi; exact .inl (by simp)), hw.s⟩
end Go.Proofs.YtjhccghhinlmdabGreatDoor
/- A step of a script on a painter of the program and on the document's: Scroll. -/
namespace Go.Proofs.YtjhccghhinlmdabGreatDoor
open Go.RowKit

set_option maxHeartbeats 4000000 in
set_option maxRecDepth 100000 in
theorem call_scroll_yes (n a c : Int) (s : ByteArray) (av : Option Addr) (lv cv : Nat) (w : World) (bd : Nat) (d : Dg) (m : Pt) (r : R) (z : Bool) (h : TriAt w d m m r) (hd : Blk w bd (dkOf d z) 76) (i : Nat) (hi : m.v.idx a = some i) (c1 : -500 ≤ c) (c2 : c ≤ 500) :
    Calls Tryz.prog 29 #[.pointer (some ⟨bd, 0, none⟩), .agg #[.int .i64 8, .int .i64 n, .int .i64 a, .int .i64 c, .string s, .slice av lv cv]] w (CallPost d { m with v := m.v.scroll i c } r (m.told { m with v := m.v.scroll i c }) 0 w) := by
  have H0 := hide (Held.box h hd (opOf 8 n a c s (.slice av lv cv)))
  have HI := hide hi
  clear hi
  obtain ⟨bs, hbs⟩ : ∃ l : List Int, l = (m.told { m with v := m.v.scroll i c }) := ⟨_, rfl⟩
  rw [← hbs]
  have HBS := hide hbs
  clear hbs
  have X1 : Hid (∀ w', Held w d.foot w' d m m r bd z w.heap.size (opOf 8 n a c s (.slice av lv cv)) → Calls Tryz.prog 49 #[.pointer (some ⟨d.bx, 0, none⟩), .int .i64 a, .int .i64 c] w' fun e w'' => e = .returned (.tuple #[.string (strOfNums bs), .int .i64 0]) ∧ (w''.cell? ⟨bd, 0, none⟩ = some (.pointer (some ⟨d.bx, 0, none⟩)) ∧ w''.cell? ⟨w.heap.size, 2, none⟩ = some (.int .i64 a) ∧ w''.cell? ⟨w.heap.size, 3, none⟩ = some (.int .i64 c)) ∧ ∃ gx, Held w d.foot w'' { d with gx := gx } { m with v := m.v.scroll i c } m r bd z w.heap.size (opOf 8 n a c s (.slice av lv cv))) := by
    intro w' h'
    refine (scroll_yes w' d.bx d.gx m h'.tm.at'.x a c i HI.out c1 c2).mono ?_
    rintro e w'' ⟨he, u⟩
    obtain ⟨gx, h2, _⟩ := h'.pnt u
    exact ⟨by rw [HBS.out]; exact he, ⟨h2.dk.cell 0, h2.op.cell 2, h2.op.cell 3⟩, gx, h2⟩
  have X2 : Hid (∀ w' gx, Held w d.foot w' { d with gx := gx } { m with v := m.v.scroll i c } m r bd z w.heap.size (opOf 8 n a c s (.slice av lv cv)) → Calls Tryz.prog 50 #[.pointer (some ⟨d.bp, 0, none⟩), .int .i64 a, .int .i64 c] w' fun e w'' => e = .returned (.int .i64 0) ∧ (w''.cell? ⟨bd, 1, none⟩ = some (.pointer (some ⟨d.bp, 0, none⟩)) ∧ w''.cell? ⟨w.heap.size, 2, none⟩ = some (.int .i64 a) ∧ w''.cell? ⟨w.heap.size, 3, none⟩ = some (.int .i64 c)) ∧ ∃ gp, Held w d.foot w'' { d with gx := gx, gp := gp } { m with v := m.v.scroll i c } { m with v := m.v.scroll i c } r bd z w.heap.size (opOf 8 n a c s (.slice av lv cv))) := by
    intro w' gx h'
    refine (dscroll_yes w' d.bp d.gp m h'.tm.at'.p a c i HI.out c1 c2).mono ?_
    rintro e w'' ⟨he, u⟩
    obtain ⟨gp, h2, _⟩ := h'.doc u
    exact ⟨he, ⟨h2.dk.cell 1, h2.op.cell 2, h2.op.cell 3⟩, gp, h2⟩
  have l1 := hd.lt
  clear h hd
  go_enter Tryz.func29, Tryz.ntmps29
  go_wp2
  generalize hwa : w.alloc (.cells #[.int .i64 8, .int .i64 n, .int .i64 a, .int .i64 c, .string s, .slice av lv cv] 32) = wa at *
  have H0' : Hid (Held w d.foot wa d m m r bd z w.heap.size (opOf 8 n a c s (.slice av lv cv))) := by show Held _ _ _ _ _ _ _ _ _ _ _; rw [← hwa]; exact H0.out
  clear hwa H0
  obtain ⟨k0, k1, k2, k3⟩ := H0'.out.dk.dk
  obtain ⟨j0, j1, j2, j3, j4, j5⟩ := H0'.out.op.op
  go_region_held (fun w' => w'.cell? ⟨bd, 0, none⟩ = some (.pointer (some ⟨d.bx, 0, none⟩)) ∧ w'.cell? ⟨w.heap.size, 2, none⟩ = some (.int .i64 a) ∧ w'.cell? ⟨w.heap.size, 3, none⟩ = some (.int .i64 c)) (go_keep) ((go_at_call 49; refine (X1.out _ ?hf).mono ?_; (case hf => exact H0'.out.fr0 (by repeat first | exact Fr.refl _ _ | apply Fr.drew | apply Fr.drewN)); rintro e w1 ⟨rfl, hS, hD⟩; have HS := hide hS; have HD := hide hD; obtain ⟨x0, x1, x2⟩ := hS; clear hD))
  obtain ⟨gx, H1⟩ := HD.out
  have H1' := hide H1
  clear HD HS H1 H0' X1 k0 k1 k2 k3 j0 j1 j2 j3 j4 j5 x0 x1 x2
  obtain ⟨k0, k1, k2, k3⟩ := H1'.out.dk.dk
  obtain ⟨j0, j1, j2, j3, j4, j5⟩ := H1'.out.op.op
  go_wp2
  go_region_held (fun w' => w'.cell? ⟨bd, 1, none⟩ = some (.pointer (some ⟨d.bp, 0, none⟩)) ∧ w'.cell? ⟨w.heap.size, 2, none⟩ = some (.int .i64 a) ∧ w'.cell? ⟨w.heap.size, 3, none⟩ = some (.int .i64 c)) (go_keep) ((go_at_call 50; refine (X2.out _ gx ?hf).mono ?_; (case hf => exact H1'.out.fr0 (by repeat first | exact Fr.refl _ _ | apply Fr.drew | apply Fr.drewN)); rintro e w2 ⟨rfl, hS, hD⟩; have HD2 := hide hD; obtain ⟨y0, y1, y2⟩ := hS; clear hD))
  obtain ⟨gp, H2⟩ := HD2.out
  have H2' := hide H2
  clear HD2 H2 H1' X2 k0 k1 k2 k3 j0 j1 j2 j3 j4 j5 y0 y1 y2
  go_wp2
  go_ret3
  exact ⟨rfl, gx, gp, d.gt, H2'.out.tm⟩

set_option maxHeartbeats 4000000 in
set_option maxRecDepth 100000 in
theorem call_scroll_none (n a c : Int) (s : ByteArray) (av : Option Addr) (lv cv : Nat) (w : World) (bd : Nat) (d : Dg) (m : Pt) (r : R) (z : Bool) (h : TriAt w d m m r) (hd : Blk w bd (dkOf d z) 76) (hi : m.v.idx a = none) :
    Calls Tryz.prog 29 #[.pointer (some ⟨bd, 0, none⟩), .agg #[.int .i64 8, .int .i64 n, .int .i64 a, .int .i64 c, .string s, .slice av lv cv]] w (CallPost d m r [] 4 w) := by
  have H0 := hide (Held.box h hd (opOf 8 n a c s (.slice av lv cv)))
  have HI := hide hi
  clear hi
  have X1 : Hid (∀ w', Held w d.foot w' d m m r bd z w.heap.size (opOf 8 n a c s (.slice av lv cv)) → Calls Tryz.prog 49 #[.pointer (some ⟨d.bx, 0, none⟩), .int .i64 a, .int .i64 c] w' fun e w'' => e = .returned (.tuple #[.string ByteArray.empty, .int .i64 4]) ∧ (w''.cell? ⟨bd, 0, none⟩ = some (.pointer (some ⟨d.bx, 0, none⟩)) ∧ w''.cell? ⟨w.heap.size, 2, none⟩ = some (.int .i64 a) ∧ w''.cell? ⟨w.heap.size, 3, none⟩ = some (.int .i64 c)) ∧ ∃ gx, Held w d.foot w'' { d with gx := gx } m m r bd z w.heap.size (opOf 8 n a c s (.slice av lv cv))) := by
    intro w' h'
    refine (scroll_none w' d.bx d.gx m h'.tm.at'.x a c HI.out).mono ?_
    rintro e w'' ⟨he, f⟩
    have h2 := h'.fr0 f
    exact ⟨he, ⟨h2.dk.cell 0, h2.op.cell 2, h2.op.cell 3⟩, d.gx, h2⟩
  have X2 : Hid (∀ w' gx, Held w d.foot w' { d with gx := gx } m m r bd z w.heap.size (opOf 8 n a c s (.slice av lv cv)) → Calls Tryz.prog 50 #[.pointer (some ⟨d.bp, 0, none⟩), .int .i64 a, .int .i64 c] w' fun e w'' => e = .returned (.int .i64 4) ∧ (w''.cell? ⟨bd, 1, none⟩ = some (.pointer (some ⟨d.bp, 0, none⟩)) ∧ w''.cell? ⟨w.heap.size, 2, none⟩ = some (.int .i64 a) ∧ w''.cell? ⟨w.heap.size, 3, none⟩ = some (.int .i64 c)) ∧ ∃ gp, Held w d.foot w'' { d with gx := gx, gp := gp } m m r bd z w.heap.size (opOf 8 n a c s (.slice av lv cv))) := by
    intro w' gx h'
    refine (dscroll_none w' d.bp d.gp m h'.tm.at'.p a c HI.out).mono ?_
    rintro e w'' ⟨he, rfl⟩
    exact ⟨he, ⟨h'.dk.cell 1, h'.op.cell 2, h'.op.cell 3⟩, d.gp, h'⟩
  have l1 := hd.lt
  clear h hd
  go_enter Tryz.func29, Tryz.ntmps29
  go_wp2
  generalize hwa : w.alloc (.cells #[.int .i64 8, .int .i64 n, .int .i64 a, .int .i64 c, .string s, .slice av lv cv] 32) = wa at *
  have H0' : Hid (Held w d.foot wa d m m r bd z w.heap.size (opOf 8 n a c s (.slice av lv cv))) := by show Held _ _ _ _ _ _ _ _ _ _ _; rw [← hwa]; exact H0.out
  clear hwa H0
  obtain ⟨k0, k1, k2, k3⟩ := H0'.out.dk.dk
  obtain ⟨j0, j1, j2, j3, j4, j5⟩ := H0'.out.op.op
  go_region_held (fun w' => w'.cell? ⟨bd, 0, none⟩ = some (.pointer (some ⟨d.bx, 0, none⟩)) ∧ w'.cell? ⟨w.heap.size, 2, none⟩ = some (.int .i64 a) ∧ w'.cell? ⟨w.heap.size, 3, none⟩ = some (.int .i64 c)) (go_keep) ((go_at_call 49; refine (X1.out _ ?hf).mono ?_; (case hf => exact H0'.out.fr0 (by repeat first | exact Fr.refl _ _ | apply Fr.drew | apply Fr.drewN)); rintro e w1 ⟨rfl, hS, hD⟩; have HS := hide hS; have HD := hide hD; obtain ⟨x0, x1, x2⟩ := hS; clear hD))
  obtain ⟨gx, H1⟩ := HD.out
  have H1' := hide H1
  clear HD HS H1 H0' X1 k0 k1 k2 k3 j0 j1 j2 j3 j4 j5 x0 x1 x2
  obtain ⟨k0, k1, k2, k3⟩ := H1'.out.dk.dk
  obtain ⟨j0, j1, j2, j3, j4, j5⟩ := H1'.out.op.op
  go_wp2
  go_region_held (fun w' => w'.cell? ⟨bd, 1, none⟩ = some (.pointer (some ⟨d.bp, 0, none⟩)) ∧ w'.cell? ⟨w.heap.size, 2, none⟩ = some (.int .i64 a) ∧ w'.cell? ⟨w.heap.size, 3, none⟩ = some (.int .i64 c)) (go_keep) ((go_at_call 50; refine (X2.out _ gx ?hf).mono ?_; (case hf => exact H1'.out.fr0 (by repeat first | exact Fr.refl _ _ | apply Fr.drew | apply Fr.drewN)); rintro e w2 ⟨rfl, hS, hD⟩; have HD2 := hide hD; obtain ⟨y0, y1, y2⟩ := hS; clear hD))
  obtain ⟨gp, H2⟩ := HD2.out
  have H2' := hide H2
  clear HD2 H2 H1' X2 k0 k1 k2 k3 j0 j1 j2 j3 j4 j5 y0 y1 y2
  go_wp2
  go_ret3
  exact ⟨rfl, gx, gp, d.gt, H2'.out.tm⟩

set_option maxHeartbeats 4000000 in
set_option maxRecDepth 100000 in
theorem call_scroll_far (n a c : Int) (s : ByteArray) (av : Option Addr) (lv cv : Nat) (w : World) (bd : Nat) (d : Dg) (m : Pt) (r : R) (z : Bool) (h : TriAt w d m m r) (hd : Blk w bd (dkOf d z) 76) (i : Nat) (hi : m.v.idx a = some i) (hf : c < -500 ∨ 500 < c) :
    Calls Tryz.prog 29 #[.pointer (some ⟨bd, 0, none⟩), .agg #[.int .i64 8, .int .i64 n, .int .i64 a, .int .i64 c, .string s, .slice av lv cv]] w (CallPost d m r [] 8 w) := by
  have H0 := hide (Held.box h hd (opOf 8 n a c s (.slice av lv cv)))
  have HI := hide hi
  have HF := hide hf
  clear hi hf
  have X1 : Hid (∀ w', Held w d.foot w' d m m r bd z w.heap.size (opOf 8 n a c s (.slice av lv cv)) → Calls Tryz.prog 49 #[.pointer (some ⟨d.bx, 0, none⟩), .int .i64 a, .int .i64 c] w' fun e w'' => e = .returned (.tuple #[.string ByteArray.empty, .int .i64 8]) ∧ (w''.cell? ⟨bd, 0, none⟩ = some (.pointer (some ⟨d.bx, 0, none⟩)) ∧ w''.cell? ⟨w.heap.size, 2, none⟩ = some (.int .i64 a) ∧ w''.cell? ⟨w.heap.size, 3, none⟩ = some (.int .i64 c)) ∧ ∃ gx, Held w d.foot w'' { d with gx := gx } m m r bd z w.heap.size (opOf 8 n a c s (.slice av lv cv))) := by
    intro w' h'
    refine (scroll_far w' d.bx d.gx m h'.tm.at'.x a c i HI.out HF.out).mono ?_
    rintro e w'' ⟨he, f⟩
    have h2 := h'.fr0 f
    exact ⟨he, ⟨h2.dk.cell 0, h2.op.cell 2, h2.op.cell 3⟩, d.gx, h2⟩
  have X2 : Hid (∀ w' gx, Held w d.foot w' { d with gx := gx } m m r bd z w.heap.size (opOf 8 n a c s (.slice av lv cv)) → Calls Tryz.prog 50 #[.pointer (some ⟨d.bp, 0, none⟩), .int .i64 a, .int .i64 c] w' fun e w'' => e = .returned (.int .i64 8) ∧ (w''.cell? ⟨bd, 1, none⟩ = some (.pointer (some ⟨d.bp, 0, none⟩)) ∧ w''.cell? ⟨w.heap.size, 2, none⟩ = some (.int .i64 a) ∧ w''.cell? ⟨w.heap.size, 3, none⟩ = some (.int .i64 c)) ∧ ∃ gp, Held w d.foot w'' { d with gx := gx, gp := gp } m m r bd z w.heap.size (opOf 8 n a c s (.slice av lv cv))) := by
    intro w' gx h'
    refine (dscroll_far w' d.bp d.gp m h'.tm.at'.p a c i HI.out HF.out).mono ?_
    rintro e w'' ⟨he, rfl⟩
    exact ⟨he, ⟨h'.dk.cell 1, h'.op.cell 2, h'.op.cell 3⟩, d.gp, h'⟩
  have l1 := hd.lt
  clear h hd
  go_enter Tryz.func29, Tryz.ntmps29
  go_wp2
  generalize hwa : w.alloc (.cells #[.int .i64 8, .int .i64 n, .int .i64 a, .int .i64 c, .string s, .slice av lv cv] 32) = wa at *
  have H0' : Hid (Held w d.foot wa d m m r bd z w.heap.size (opOf 8 n a c s (.slice av lv cv))) := by show Held _ _ _ _ _ _ _ _ _ _ _; rw [← hwa]; exact H0.out
  clear hwa H0
  obtain ⟨k0, k1, k2, k3⟩ := H0'.out.dk.dk
  obtain ⟨j0, j1, j2, j3, j4, j5⟩ := H0'.out.op.op
  go_region_held (fun w' => w'.cell? ⟨bd, 0, none⟩ = some (.pointer (some ⟨d.bx, 0, none⟩)) ∧ w'.cell? ⟨w.heap.size, 2, none⟩ = some (.int .i64 a) ∧ w'.cell? ⟨w.heap.size, 3, none⟩ = some (.int .i64 c)) (go_keep) ((go_at_call 49; refine (X1.out _ ?hf).mono ?_; (case hf => exact H0'.out.fr0 (by repeat first | exact Fr.refl _ _ | apply Fr.drew | apply Fr.drewN)); rintro e w1 ⟨rfl, hS, hD⟩; have HS := hide hS; have HD := hide hD; obtain ⟨x0, x1, x2⟩ := hS; clear hD))
  obtain ⟨gx, H1⟩ := HD.out
  have H1' := hide H1
  clear HD HS H1 H0' X1 k0 k1 k2 k3 j0 j1 j2 j3 j4 j5 x0 x1 x2
  obtain ⟨k0, k1, k2, k3⟩ := H1'.out.dk.dk
  obtain ⟨j0, j1, j2, j3, j4, j5⟩ := H1'.out.op.op
  go_wp2
  go_region_held (fun w' => w'.cell? ⟨bd, 1, none⟩ = some (.pointer (some ⟨d.bp, 0, none⟩)) ∧ w'.cell? ⟨w.heap.size, 2, none⟩ = some (.int .i64 a) ∧ w'.cell? ⟨w.heap.size, 3, none⟩ = some (.int .i64 c)) (go_keep) ((go_at_call 50; refine (X2.out _ gx ?hf).mono ?_; (case hf => exact H1'.out.fr0 (by repeat first | exact Fr.refl _ _ | apply Fr.drew | apply Fr.drewN)); rintro e w2 ⟨rfl, hS, hD⟩; have HD2 := hide hD; obtain ⟨y0, y1, y2⟩ := hS; clear hD))
  obtain ⟨gp, H2⟩ := HD2.out
  have H2' := hide H2
  clear HD2 H2 H1' X2 k0 k1 k2 k3 j0 j1 j2 j3 j4 j5 y0 y1 y2
  go_wp2
  go_ret3
  exact ⟨rfl, gx, gp, d.gt, H2'.out.tm⟩
end Go.Proofs.YtjhccghhinlmdabGreatDoor
/- A step of a script on a painter of the program and on the document's: Resize, Redraw, Row. -/
namespace Go.Proofs.YtjhccghhinlmdabGreatDoor
open Go.RowKit

set_option maxHeartbeats 4000000 in
set_option maxRecDepth 100000 in
theorem call_size_yes (n a c : Int) (s : ByteArray) (av : Option Addr) (lv cv : Nat) (w : World) (bd : Nat) (d : Dg) (m : Pt) (r : R) (z : Bool) (h : TriAt w d m m r) (hd : Blk w bd (dkOf d z) 76) (h1 : 1 ≤ a) (h2 : a ≤ 40) (h3 : 1 ≤ c) (h4 : c ≤ 20) :
    Calls Tryz.prog 29 #[.pointer (some ⟨bd, 0, none⟩), .agg #[.int .i64 9, .int .i64 n, .int .i64 a, .int .i64 c, .string s, .slice av lv cv]] w (CallPost d { m with W := a, H := c } (r.turn a c) (Pt.whole { m with W := a, H := c }) 0 w) := by
  have H0 := hide (Held.box h hd (opOf 9 n a c s (.slice av lv cv)))
  obtain ⟨bs, hbs⟩ : ∃ l : List Int, l = Pt.whole { m with W := a, H := c } := ⟨_, rfl⟩
  rw [← hbs]
  have HBS := hide hbs
  clear hbs
  have X1 : Hid (∀ w', Held w d.foot w' d m m r bd z w.heap.size (opOf 9 n a c s (.slice av lv cv)) → Calls Tryz.prog 51 #[.pointer (some ⟨d.bx, 0, none⟩), .int .i64 a, .int .i64 c] w' fun e w'' => e = .returned (.tuple #[.string (strOfNums bs), .int .i64 0]) ∧ (w''.cell? ⟨bd, 0, none⟩ = some (.pointer (some ⟨d.bx, 0, none⟩)) ∧ w''.cell? ⟨w.heap.size, 2, none⟩ = some (.int .i64 a) ∧ w''.cell? ⟨w.heap.size, 3, none⟩ = some (.int .i64 c)) ∧ ∃ gx, Held w d.foot w'' { d with gx := gx } { m with W := a, H := c } m r bd z w.heap.size (opOf 9 n a c s (.slice av lv cv))) := by
    intro w' h'
    refine (presize_yes w' d.bx d.gx m h'.tm.at'.x a c h1 h2 h3 h4).mono ?_
    rintro e w'' ⟨he, u⟩
    obtain ⟨gx, h2, _⟩ := h'.pnt u
    exact ⟨by rw [HBS.out]; exact he, ⟨h2.dk.cell 0, h2.op.cell 2, h2.op.cell 3⟩, gx, h2⟩
  have X2 : Hid (∀ w' gx, Held w d.foot w' { d with gx := gx } { m with W := a, H := c } m r bd z w.heap.size (opOf 9 n a c s (.slice av lv cv)) → Calls Tryz.prog 52 #[.pointer (some ⟨d.bp, 0, none⟩), .int .i64 a, .int .i64 c] w' fun e w'' => e = .returned (.int .i64 0) ∧ (w''.cell? ⟨bd, 1, none⟩ = some (.pointer (some ⟨d.bp, 0, none⟩)) ∧ w''.cell? ⟨w.heap.size, 2, none⟩ = some (.int .i64 a) ∧ w''.cell? ⟨w.heap.size, 3, none⟩ = some (.int .i64 c)) ∧ ∃ gp, Held w d.foot w'' { d with gx := gx, gp := gp } { m with W := a, H := c } { m with W := a, H := c } r bd z w.heap.size (opOf 9 n a c s (.slice av lv cv))) := by
    intro w' gx h'
    refine (dturn_yes w' d.bp d.gp m h'.tm.at'.p a c h1 h2 h3 h4).mono ?_
    rintro e w'' ⟨he, u⟩
    obtain ⟨gp, h2, _⟩ := h'.doc u
    exact ⟨he, ⟨h2.dk.cell 1, h2.op.cell 2, h2.op.cell 3⟩, gp, h2⟩
  have X3 : Hid (∀ w' gx gp, Held w d.foot w' { d with gx := gx, gp := gp } { m with W := a, H := c } { m with W := a, H := c } r bd z w.heap.size (opOf 9 n a c s (.slice av lv cv)) → Calls Tryz.prog 19 #[.pointer (some ⟨d.bt, 0, none⟩), .int .i64 a, .int .i64 c] w' fun e w'' => e = .returned (.int .i64 0) ∧ (w''.cell? ⟨bd, 2, none⟩ = some (.pointer (some ⟨d.bt, 0, none⟩)) ∧ w''.cell? ⟨w.heap.size, 2, none⟩ = some (.int .i64 a) ∧ w''.cell? ⟨w.heap.size, 3, none⟩ = some (.int .i64 c)) ∧ ∃ gt, Held w d.foot w'' { d with gx := gx, gp := gp, gt := gt } { m with W := a, H := c } { m with W := a, H := c } (r.turn a c) bd z w.heap.size (opOf 9 n a c s (.slice av lv cv))) := by
    intro w' gx gp h'
    refine (rturn_yes a c w' d.bt d.gt r h'.tm.at'.t h1 h2 h3 h4).mono ?_
    rintro e w'' ⟨he, u⟩
    obtain ⟨gt, h2, _⟩ := h'.ref u
    exact ⟨he, ⟨h2.dk.cell 2, h2.op.cell 2, h2.op.cell 3⟩, gt, h2⟩
  have l1 := hd.lt
  clear h hd
  go_enter Tryz.func29, Tryz.ntmps29
  go_wp2
  generalize hwa : w.alloc (.cells #[.int .i64 9, .int .i64 n, .int .i64 a, .int .i64 c, .string s, .slice av lv cv] 32) = wa at *
  have H0' : Hid (Held w d.foot wa d m m r bd z w.heap.size (opOf 9 n a c s (.slice av lv cv))) := by show Held _ _ _ _ _ _ _ _ _ _ _; rw [← hwa]; exact H0.out
  clear hwa H0
  obtain ⟨k0, k1, k2, k3⟩ := H0'.out.dk.dk
  obtain ⟨j0, j1, j2, j3, j4, j5⟩ := H0'.out.op.op
  go_region_held (fun w' => w'.cell? ⟨bd, 0, none⟩ = some (.pointer (some ⟨d.bx, 0, none⟩)) ∧ w'.cell? ⟨w.heap.size, 2, none⟩ = some (.int .i64 a) ∧ w'.cell? ⟨w.heap.size, 3, none⟩ = some (.int .i64 c)) (go_keep) ((go_at_call 51; refine (X1.out _ ?hf).mono ?_; (case hf => exact H0'.out.fr0 (by repeat first | exact Fr.refl _ _ | apply Fr.drew | apply Fr.drewN)); rintro e w1 ⟨rfl, hS, hD⟩; have HD := hide hD; obtain ⟨x0, x1, x2⟩ := hS; clear hD))
  obtain ⟨gx, H1⟩ := HD.out
  have HA := hide H1
  clear HD H1 H0' X1 k0 k1 k2 k3 j0 j1 j2 j3 j4 j5 x0 x1 x2
  obtain ⟨k0, k1, k2, k3⟩ := HA.out.dk.dk
  obtain ⟨j0, j1, j2, j3, j4, j5⟩ := HA.out.op.op
  go_wp2
  go_region_held (fun w' => w'.cell? ⟨bd, 1, none⟩ = some (.pointer (some ⟨d.bp, 0, none⟩)) ∧ w'.cell? ⟨w.heap.size, 2, none⟩ = some (.int .i64 a) ∧ w'.cell? ⟨w.heap.size, 3, none⟩ = some (.int .i64 c)) (go_keep) ((go_at_call 52; refine (X2.out _ gx ?hf).mono ?_; (case hf => exact HA.out.fr0 (by repeat first | exact Fr.refl _ _ | apply Fr.drew | apply Fr.drewN)); rintro e w2 ⟨rfl, hS, hD⟩; have HD := hide hD; obtain ⟨x0, x1, x2⟩ := hS; clear hD))
  obtain ⟨gp, H1⟩ := HD.out
  have HB := hide H1
  clear HD H1 HA X2 k0 k1 k2 k3 j0 j1 j2 j3 j4 j5 x0 x1 x2
  obtain ⟨k0, k1, k2, k3⟩ := HB.out.dk.dk
  obtain ⟨j0, j1, j2, j3, j4, j5⟩ := HB.out.op.op
  go_wp2
  go_region_held (fun w' => w'.cell? ⟨bd, 2, none⟩ = some (.pointer (some ⟨d.bt, 0, none⟩)) ∧ w'.cell? ⟨w.heap.size, 2, none⟩ = some (.int .i64 a) ∧ w'.cell? ⟨w.heap.size, 3, none⟩ = some (.int .i64 c)) (go_keep) ((go_at_call 19; refine (X3.out _ gx gp ?hf).mono ?_; (case hf => exact HB.out.fr0 (by repeat first | exact Fr.refl _ _ | apply Fr.drew | apply Fr.drewN)); rintro e w3 ⟨rfl, hS, hD⟩; have HD := hide hD; obtain ⟨x0, x1, x2⟩ := hS; clear hD))
  obtain ⟨gt, H1⟩ := HD.out
  have HC := hide H1
  clear HD H1 HB X3 k0 k1 k2 k3 j0 j1 j2 j3 j4 j5 x0 x1 x2
  obtain ⟨k0, k1, k2, k3⟩ := HC.out.dk.dk
  obtain ⟨j0, j1, j2, j3, j4, j5⟩ := HC.out.op.op
  go_wp2
  go_ret3
  exact ⟨rfl, gx, gp, gt, HC.out.tm⟩

set_option maxHeartbeats 4000000 in
set_option maxRecDepth 100000 in
theorem call_size_no (n a c : Int) (s : ByteArray) (av : Option Addr) (lv cv : Nat) (w : World) (bd : Nat) (d : Dg) (m : Pt) (r : R) (z : Bool) (h : TriAt w d m m r) (hd : Blk w bd (dkOf d z) 76) (hz : sizeB a c = false) :
    Calls Tryz.prog 29 #[.pointer (some ⟨bd, 0, none⟩), .agg #[.int .i64 9, .int .i64 n, .int .i64 a, .int .i64 c, .string s, .slice av lv cv]] w (CallPost d m r [] 2 w) := by
  have H0 := hide (Held.box h hd (opOf 9 n a c s (.slice av lv cv)))
  have HZ := hide hz
  clear hz
  have X1 : Hid (∀ w', Held w d.foot w' d m m r bd z w.heap.size (opOf 9 n a c s (.slice av lv cv)) → Calls Tryz.prog 51 #[.pointer (some ⟨d.bx, 0, none⟩), .int .i64 a, .int .i64 c] w' fun e w'' => e = .returned (.tuple #[.string ByteArray.empty, .int .i64 2]) ∧ (w''.cell? ⟨bd, 0, none⟩ = some (.pointer (some ⟨d.bx, 0, none⟩)) ∧ w''.cell? ⟨w.heap.size, 2, none⟩ = some (.int .i64 a) ∧ w''.cell? ⟨w.heap.size, 3, none⟩ = some (.int .i64 c)) ∧ Held w d.foot w'' d m m r bd z w.heap.size (opOf 9 n a c s (.slice av lv cv))) := by
    intro w' h'
    refine (presize_no w' _ a c HZ.out).mono ?_
    rintro e w'' ⟨he, rfl⟩
    exact ⟨he, ⟨h'.dk.cell 0, h'.op.cell 2, h'.op.cell 3⟩, h'⟩
  have X2 : Hid (∀ w', Held w d.foot w' d m m r bd z w.heap.size (opOf 9 n a c s (.slice av lv cv)) → Calls Tryz.prog 52 #[.pointer (some ⟨d.bp, 0, none⟩), .int .i64 a, .int .i64 c] w' fun e w'' => e = .returned (.int .i64 2) ∧ (w''.cell? ⟨bd, 1, none⟩ = some (.pointer (some ⟨d.bp, 0, none⟩)) ∧ w''.cell? ⟨w.heap.size, 2, none⟩ = some (.int .i64 a) ∧ w''.cell? ⟨w.heap.size, 3, none⟩ = some (.int .i64 c)) ∧ Held w d.foot w'' d m m r bd z w.heap.size (opOf 9 n a c s (.slice av lv cv))) := by
    intro w' h'
    refine (dturn_no w' _ a c HZ.out).mono ?_
    rintro e w'' ⟨he, rfl⟩
    exact ⟨he, ⟨h'.dk.cell 1, h'.op.cell 2, h'.op.cell 3⟩, h'⟩
  have l1 := hd.lt
  clear h hd
  go_enter Tryz.func29, Tryz.ntmps29
  go_wp2
  generalize hwa : w.alloc (.cells #[.int .i64 9, .int .i64 n, .int .i64 a, .int .i64 c, .string s, .slice av lv cv] 32) = wa at *
  have H0' : Hid (Held w d.foot wa d m m r bd z w.heap.size (opOf 9 n a c s (.slice av lv cv))) := by show Held _ _ _ _ _ _ _ _ _ _ _; rw [← hwa]; exact H0.out
  clear hwa H0
  obtain ⟨k0, k1, k2, k3⟩ := H0'.out.dk.dk
  obtain ⟨j0, j1, j2, j3, j4, j5⟩ := H0'.out.op.op
  go_region_held (fun w' => w'.cell? ⟨bd, 0, none⟩ = some (.pointer (some ⟨d.bx, 0, none⟩)) ∧ w'.cell? ⟨w.heap.size, 2, none⟩ = some (.int .i64 a) ∧ w'.cell? ⟨w.heap.size, 3, none⟩ = some (.int .i64 c)) (go_keep) ((go_at_call 51; refine (X1.out _ ?hf).mono ?_; (case hf => exact H0'.out.fr0 (by repeat first | exact Fr.refl _ _ | apply Fr.drew | apply Fr.drewN)); rintro e w1 ⟨rfl, hS, hD⟩; have HD := hide hD; obtain ⟨x0, x1, x2⟩ := hS; clear hD))
  have H1 := HD.out
  have HA := hide H1
  clear HD H1 H0' X1 k0 k1 k2 k3 j0 j1 j2 j3 j4 j5 x0 x1 x2
  obtain ⟨k0, k1, k2, k3⟩ := HA.out.dk.dk
  obtain ⟨j0, j1, j2, j3, j4, j5⟩ := HA.out.op.op
  go_wp2
  go_region_held (fun w' => w'.cell? ⟨bd, 1, none⟩ = some (.pointer (some ⟨d.bp, 0, none⟩)) ∧ w'.cell? ⟨w.heap.size, 2, none⟩ = some (.int .i64 a) ∧ w'.cell? ⟨w.heap.size, 3, none⟩ = some (.int .i64 c)) (go_keep) ((go_at_call 52; refine (X2.out _ ?hf).mono ?_; (case hf => exact HA.out.fr0 (by repeat first | exact Fr.refl _ _ | apply Fr.drew | apply Fr.drewN)); rintro e w2 ⟨rfl, hS, hD⟩; have HD := hide hD; obtain ⟨x0, x1, x2⟩ := hS; clear hD))
  have H1 := HD.out
  have HB := hide H1
  clear HD H1 HA X2 k0 k1 k2 k3 j0 j1 j2 j3 j4 j5 x0 x1 x2
  obtain ⟨k0, k1, k2, k3⟩ := HB.out.dk.dk
  obtain ⟨j0, j1, j2, j3, j4, j5⟩ := HB.out.op.op
  go_wp2
  go_ret3
  exact ⟨rfl, d.gx, d.gp, d.gt, HB.out.tm⟩

set_option maxHeartbeats 4000000 in
set_option maxRecDepth 100000 in
theorem call_look_yes (n a c : Int) (s : ByteArray) (av : Option Addr) (lv cv : Nat) (w : World) (bd : Nat) (d : Dg) (m : Pt) (r : R) (z : Bool) (h : TriAt w d m m r) (hd : Blk w bd (dkOf d z) 76) (hy : 0 ≤ a ∧ a < m.H) :
    Calls Tryz.prog 29 #[.pointer (some ⟨bd, 0, none⟩), .agg #[.int .i64 11, .int .i64 n, .int .i64 a, .int .i64 c, .string s, .slice av lv cv]] w (CallPost d m r [] 0 w) := by
  have H0 := hide (Held.box h hd (opOf 11 n a c s (.slice av lv cv)))
  have HY := hide hy
  clear hy
  obtain ⟨s1, hs1⟩ : ∃ q : ByteArray, q = strOfNums ((rowOf m.W a (m.v.grid m.W m.H)).map (·.1)) := ⟨_, rfl⟩
  obtain ⟨s2, hs2⟩ : ∃ q : ByteArray, q = strOfNums ((rowOf m.W a (m.v.grid m.W m.H)).map (·.2)) := ⟨_, rfl⟩
  have HS1 := hide hs1
  have HS2 := hide hs2
  clear hs1 hs2
  have X1 : Hid (∀ w', Held w d.foot w' d m m r bd z w.heap.size (opOf 11 n a c s (.slice av lv cv)) → Calls Tryz.prog 54 #[.pointer (some ⟨d.bx, 0, none⟩), .int .i64 a] w' fun e w'' => e = .returned (.tuple #[.string s1, .string s2, .int .i64 0]) ∧ (w''.cell? ⟨bd, 0, none⟩ = some (.pointer (some ⟨d.bx, 0, none⟩)) ∧ w''.cell? ⟨w.heap.size, 2, none⟩ = some (.int .i64 a)) ∧ Held w d.foot w'' d m m r bd z w.heap.size (opOf 11 n a c s (.slice av lv cv))) := by
    intro w' h'
    refine (prow_yes w' d.bx d.gx m h'.tm.at'.x a HY.out.1 HY.out.2).mono ?_
    rintro e w'' ⟨he, f⟩
    have h2 := h'.fr0 f
    exact ⟨by rw [HS1.out, HS2.out]; exact he, ⟨h2.dk.cell 0, h2.op.cell 2⟩, h2⟩
  have X2 : Hid (∀ w', Held w d.foot w' d m m r bd z w.heap.size (opOf 11 n a c s (.slice av lv cv)) → Calls Tryz.prog 55 #[.pointer (some ⟨d.bp, 0, none⟩), .int .i64 a] w' fun e w'' => e = .returned (.tuple #[.string s1, .string s2, .int .i64 0]) ∧ (w''.cell? ⟨bd, 1, none⟩ = some (.pointer (some ⟨d.bp, 0, none⟩)) ∧ w''.cell? ⟨w.heap.size, 2, none⟩ = some (.int .i64 a)) ∧ Held w d.foot w'' d m m r bd z w.heap.size (opOf 11 n a c s (.slice av lv cv))) := by
    intro w' h'
    refine (drow_yes w' d.bp d.gp m h'.tm.at'.p a HY.out.1 HY.out.2).mono ?_
    rintro e w'' ⟨he, f⟩
    have h2 := h'.fr0 f
    exact ⟨by rw [HS1.out, HS2.out]; exact he, ⟨h2.dk.cell 1, h2.op.cell 2⟩, h2⟩
  have l1 := hd.lt
  clear h hd
  go_enter Tryz.func29, Tryz.ntmps29
  go_wp2
  generalize hwa : w.alloc (.cells #[.int .i64 11, .int .i64 n, .int .i64 a, .int .i64 c, .string s, .slice av lv cv] 32) = wa at *
  have H0' : Hid (Held w d.foot wa d m m r bd z w.heap.size (opOf 11 n a c s (.slice av lv cv))) := by show Held _ _ _ _ _ _ _ _ _ _ _; rw [← hwa]; exact H0.out
  clear hwa H0
  obtain ⟨k0, k1, k2, k3⟩ := H0'.out.dk.dk
  obtain ⟨j0, j1, j2, j3, j4, j5⟩ := H0'.out.op.op
  go_region_held (fun w' => w'.cell? ⟨bd, 0, none⟩ = some (.pointer (some ⟨d.bx, 0, none⟩)) ∧ w'.cell? ⟨w.heap.size, 2, none⟩ = some (.int .i64 a)) (go_keep) ((go_at_call 54; refine (X1.out _ ?hf).mono ?_; (case hf => exact H0'.out.fr0 (by repeat first | exact Fr.refl _ _ | apply Fr.drew | apply Fr.drewN)); rintro e w1 ⟨rfl, hS, hD⟩; have HD := hide hD; obtain ⟨x0, x1⟩ := hS; clear hD))
  have H1 := HD.out
  have HA := hide H1
  clear HD H1 H0' X1 k0 k1 k2 k3 j0 j1 j2 j3 j4 j5 x0 x1
  obtain ⟨k0, k1, k2, k3⟩ := HA.out.dk.dk
  obtain ⟨j0, j1, j2, j3, j4, j5⟩ := HA.out.op.op
  go_wp2
  go_region_held (fun w' => w'.cell? ⟨bd, 1, none⟩ = some (.pointer (some ⟨d.bp, 0, none⟩)) ∧ w'.cell? ⟨w.heap.size, 2, none⟩ = some (.int .i64 a)) (go_keep) ((go_at_call 55; refine (X2.out _ ?hf).mono ?_; (case hf => exact HA.out.fr0 (by repeat first | exact Fr.refl _ _ | apply Fr.drew | apply Fr.drewN)); rintro e w2 ⟨rfl, hS, hD⟩; have HD := hide hD; obtain ⟨x0, x1⟩ := hS; clear hD))
  have H1 := HD.out
  have HB := hide H1
  clear HD H1 HA X2 k0 k1 k2 k3 j0 j1 j2 j3 j4 j5 x0 x1
  obtain ⟨k0, k1, k2, k3⟩ := HB.out.dk.dk
  obtain ⟨j0, j1, j2, j3, j4, j5⟩ := HB.out.op.op
  go_wp2
  go_ret3
  exact ⟨rfl, d.gx, d.gp, d.gt, HB.out.tm⟩

set_option maxHeartbeats 4000000 in
set_option maxRecDepth 100000 in
theorem call_look_no (n a c : Int) (s : ByteArray) (av : Option Addr) (lv cv : Nat) (w : World) (bd : Nat) (d : Dg) (m : Pt) (r : R) (z : Bool) (h : TriAt w d m m r) (hd : Blk w bd (dkOf d z) 76) (hy : a < 0 ∨ m.H ≤ a) :
    Calls Tryz.prog 29 #[.pointer (some ⟨bd, 0, none⟩), .agg #[.int .i64 11, .int .i64 n, .int .i64 a, .int .i64 c, .string s, .slice av lv cv]] w (CallPost d m r [] 8 w) := by
  have H0 := hide (Held.box h hd (opOf 11 n a c s (.slice av lv cv)))
  have HY := hide hy
  clear hy
  have X1 : Hid (∀ w', Held w d.foot w' d m m r bd z w.heap.size (opOf 11 n a c s (.slice av lv cv)) → Calls Tryz.prog 54 #[.pointer (some ⟨d.bx, 0, none⟩), .int .i64 a] w' fun e w'' => e = .returned (.tuple #[.string ByteArray.empty, .string ByteArray.empty, .int .i64 8]) ∧ (w''.cell? ⟨bd, 0, none⟩ = some (.pointer (some ⟨d.bx, 0, none⟩)) ∧ w''.cell? ⟨w.heap.size, 2, none⟩ = some (.int .i64 a)) ∧ Held w d.foot w'' d m m r bd z w.heap.size (opOf 11 n a c s (.slice av lv cv))) := by
    intro w' h'
    refine (prow_no w' d.bx d.gx m h'.tm.at'.x a HY.out).mono ?_
    rintro e w'' ⟨he, rfl⟩
    exact ⟨he, ⟨h'.dk.cell 0, h'.op.cell 2⟩, h'⟩
  have X2 : Hid (∀ w', Held w d.foot w' d m m r bd z w.heap.size (opOf 11 n a c s (.slice av lv cv)) → Calls Tryz.prog 55 #[.pointer (some ⟨d.bp, 0, none⟩), .int .i64 a] w' fun e w'' => e = .returned (.tuple #[.string ByteArray.empty, .string ByteArray.empty, .int .i64 8]) ∧ (w''.cell? ⟨bd, 1, none⟩ = some (.pointer (some ⟨d.bp, 0, none⟩)) ∧ w''.cell? ⟨w.heap.size, 2, none⟩ = some (.int .i64 a)) ∧ Held w d.foot w'' d m m r bd z w.heap.size (opOf 11 n a c s (.slice av lv cv))) := by
    intro w' h'
    refine (drow_no w' d.bp d.gp m h'.tm.at'.p a HY.out).mono ?_
    rintro e w'' ⟨he, rfl⟩
    exact ⟨he, ⟨h'.dk.cell 1, h'.op.cell 2⟩, h'⟩
  have l1 := hd.lt
  clear h hd
  go_enter Tryz.func29, Tryz.ntmps29
  go_wp2
  generalize hwa : w.alloc (.cells #[.int .i64 11, .int .i64 n, .int .i64 a, .int .i64 c, .string s, .slice av lv cv] 32) = wa at *
  have H0' : Hid (Held w d.foot wa d m m r bd z w.heap.size (opOf 11 n a c s (.slice av lv cv))) := by show Held _ _ _ _ _ _ _ _ _ _ _; rw [← hwa]; exact H0.out
  clear hwa H0
  obtain ⟨k0, k1, k2, k3⟩ := H0'.out.dk.dk
  obtain ⟨j0, j1, j2, j3, j4, j5⟩ := H0'.out.op.op
  go_region_held (fun w' => w'.cell? ⟨bd, 0, none⟩ = some (.pointer (some ⟨d.bx, 0, none⟩)) ∧ w'.cell? ⟨w.heap.size, 2, none⟩ = some (.int .i64 a)) (go_keep) ((go_at_call 54; refine (X1.out _ ?hf).mono ?_; (case hf => exact H0'.out.fr0 (by repeat first | exact Fr.refl _ _ | apply Fr.drew | apply Fr.drewN)); rintro e w1 ⟨rfl, hS, hD⟩; have HD := hide hD; obtain ⟨x0, x1⟩ := hS; clear hD))
  have H1 := HD.out
  have HA := hide H1
  clear HD H1 H0' X1 k0 k1 k2 k3 j0 j1 j2 j3 j4 j5 x0 x1
  obtain ⟨k0, k1, k2, k3⟩ := HA.out.dk.dk
  obtain ⟨j0, j1, j2, j3, j4, j5⟩ := HA.out.op.op
  go_wp2
  go_region_held (fun w' => w'.cell? ⟨bd, 1, none⟩ = some (.pointer (some ⟨d.bp, 0, none⟩)) ∧ w'.cell? ⟨w.heap.size, 2, none⟩ = some (.int .i64 a)) (go_keep) ((go_at_call 55; refine (X2.out _ ?hf).mono ?_; (case hf => exact HA.out.fr0 (by repeat first | exact Fr.refl _ _ | apply Fr.drew | apply Fr.drewN)); rintro e w2 ⟨rfl, hS, hD⟩; have HD := hide hD; obtain ⟨x0, x1⟩ := hS; clear hD))
  have H1 := HD.out
  have HB := hide H1
  clear HD H1 HA X2 k0 k1 k2 k3 j0 j1 j2 j3 j4 j5 x0 x1
  obtain ⟨k0, k1, k2, k3⟩ := HB.out.dk.dk
  obtain ⟨j0, j1, j2, j3, j4, j5⟩ := HB.out.op.op
  go_wp2
  go_ret3
  exact ⟨rfl, d.gx, d.gp, d.gt, HB.out.tm⟩

set_option maxHeartbeats 4000000 in
set_option maxRecDepth 100000 in
theorem call_redraw (n a c : Int) (s : ByteArray) (av : Option Addr) (lv cv : Nat) (w : World) (bd : Nat) (d : Dg) (m : Pt) (r : R) (z : Bool) (h : TriAt w d m m r) (hd : Blk w bd (dkOf d z) 76) :
    Calls Tryz.prog 29 #[.pointer (some ⟨bd, 0, none⟩), .agg #[.int .i64 10, .int .i64 n, .int .i64 a, .int .i64 c, .string s, .slice av lv cv]] w (CallPost d m r m.whole 0 w) := by
  have H0 := hide (Held.box h hd (opOf 10 n a c s (.slice av lv cv)))
  obtain ⟨bs, hbs⟩ : ∃ l : List Int, l = m.whole := ⟨_, rfl⟩
  rw [← hbs]
  have HBS := hide hbs
  clear hbs
  have l1 := hd.lt
  obtain ⟨q0, q1, q2, q3⟩ := hd.dk
  clear h hd
  go_enter Tryz.func29, Tryz.ntmps29
  go_wp2_with fail
  generalize hwa : w.alloc (.cells #[.int .i64 10, .int .i64 n, .int .i64 a, .int .i64 c, .string s, .slice av lv cv] 32) = wa at *
  have H0' : Hid (Held w d.foot wa d m m r bd z w.heap.size (opOf 10 n a c s (.slice av lv cv))) := by show Held _ _ _ _ _ _ _ _ _ _ _; rw [← hwa]; exact H0.out
  clear hwa H0
  obtain ⟨k0, k1, k2, k3⟩ := H0'.out.dk.dk
  obtain ⟨j0, j1, j2, j3, j4, j5⟩ := H0'.out.op.op
  have RD := hide (predraw_any wa d.bx d.gx m H0'.out.tm.at'.x)
  rw [← HBS.out] at RD
  refine RD.out.mono ?_
  rintro e w1 ⟨rfl, f1⟩
  have HA := hide (H0'.out.fr0 f1)
  clear f1 RD H0' q0 q1 q2 q3 k0 k1 k2 k3 j0 j1 j2 j3 j4 j5
  obtain ⟨k0, k1, k2, k3⟩ := HA.out.dk.dk
  go_wp2
  go_ret3
  exact ⟨rfl, d.gx, d.gp, d.gt, HA.out.tm⟩
end Go.Proofs.YtjhccghhinlmdabGreatDoor
