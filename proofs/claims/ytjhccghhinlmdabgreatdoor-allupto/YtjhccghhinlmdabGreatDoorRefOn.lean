/- The document's terminal: a byte of a sequence that has begun. -/
import Derived.Test.YtjhccghhinlmdabGreatDoorRefEnds
namespace Go.Proofs.YtjhccghhinlmdabGreatDoor
open Go.RowKit

theorem RefAt.beg {w : World} {b : Nat} {g : RGh} {r : R} (h : RefAt w b g r) (s : ByteArray) : RefAt (w.setCell ⟨b, 8, none⟩ (.string s)) b g { r with begun := s } :=
  h.write ((Fr.refl [b] w).setCell (p := ⟨b, 8, none⟩) (by simp) _) (h.st.set 8 (.string s)) rfl ⟨h.ok.w1, h.ok.w2, h.ok.h1, h.ok.h2, h.ok.len, h.ok.x0, h.ok.x1, h.ok.y0, h.ok.y1, h.ok.p0, h.ok.p1⟩

def R.goesOn (r : R) (c : Int) : R :=
  if c = 27 then { r with begun := ⟨#[27]⟩ }
  else if r.begun.size = 1 then { r with begun := if c = 91 then r.begun ++ ⟨#[91]⟩ else ⟨#[]⟩ }
  else if 32 ≤ c ∧ c ≤ 63 then { r with begun := r.begun ++ strOfNums [c] }
  else if 64 ≤ c ∧ c ≤ 126 then R.ends { r with begun := ⟨#[]⟩ } (nums (r.begun.extract 2 r.begun.size)) c
  else { r with begun := ⟨#[]⟩ }

set_option maxHeartbeats 8000000 in
set_option maxRecDepth 100000 in
theorem goesOn_any (c : Int) (w : World) (b : Nat) (g : RGh) (r : R) (h : RefAt w b g r) (hc0 : 0 ≤ c) (hc1 : c ≤ 255) (hs0 : 1 ≤ r.begun.size) (hs : r.begun.size ≤ 2305843009213693952) :
    Calls Tryz.prog 37 #[.pointer (some ⟨b, 0, none⟩), .int .u8 c] w fun e w' => e = .returned (.tuple #[]) ∧ RUpd b g (r.goesOn c) w w' := by
  obtain ⟨d0, d1, d2, d3, d4, d5, d6, d7, d8⟩ := h.cells
  have fz := h.st.frozen 8
  have blt := h.st.lt
  have HT := hide h
  clear h d0 d1 d2 d3 d4 d5 d6 d7
  by_cases c27 : c = 27
  · subst c27
    go_enter Tryz.func37, Tryz.ntmps37
    go_wp2
    exact bodyPost_ret (results_none rfl _ _ _) rfl ⟨rfl, RUpd.of1 (HT.out.beg _) ((Fr.refl [b] w).setCell (p := ⟨b, 8, none⟩) (by simp) _)⟩
  have b27 : (c == 27) = false := by simpa using c27
  by_cases s1 : r.begun.size = 1
  · have s1' : (r.begun.size : Int) = 1 := by omega
    by_cases c91 : c = 91
    · subst c91
      have E := hide (show r.goesOn 91 = { r with begun := r.begun ++ ⟨#[91]⟩ } by unfold R.goesOn; rw [if_neg c27, if_pos s1, if_pos rfl])
      clear c27
      go_enter Tryz.func37, Tryz.ntmps37
      go_wp2
      exact bodyPost_ret (results_none rfl _ _ _) rfl ⟨rfl, by rw [E.out]; exact RUpd.of1 (HT.out.beg _) ((Fr.refl [b] w).setCell (p := ⟨b, 8, none⟩) (by simp) _)⟩
    · have b91 : (c == 91) = false := by simpa using c91
      have E := hide (show r.goesOn c = { r with begun := ⟨#[]⟩ } by unfold R.goesOn; rw [if_neg c27, if_pos s1, if_neg c91])
      clear c27 c91
      go_enter Tryz.func37, Tryz.ntmps37
      go_wp2
      exact bodyPost_ret (results_none rfl _ _ _) rfl ⟨rfl, by rw [E.out]; exact RUpd.of1 (HT.out.beg _) ((Fr.refl [b] w).setCell (p := ⟨b, 8, none⟩) (by simp) _)⟩
  have s1' : ((r.begun.size : Int) == 1) = false := by
    rw [beq_eq_false_iff_ne]; omega
  by_cases cp : 32 ≤ c ∧ c ≤ 63
  · have E := hide (show r.goesOn c = { r with begun := r.begun ++ strOfNums [c] } by unfold R.goesOn; rw [if_neg c27, if_neg s1, if_pos cp])
    obtain ⟨cp1, cp2⟩ := cp
    have kc : (convert 52 9 (.slice (some ⟨w.heap.size, 0, none⟩) 1 1)).run Tryz.prog (w.alloc (.cells #[.int .u8 c] 5)).drew = .ok (.string (strOfNums [c])) (w.alloc (.cells #[.int .u8 c] 5)).drew := by
      have hb : Blk (w.alloc (.cells #[.int .u8 c] 5)).drew w.heap.size ([c].map (Value.int .u8)) 5 := new_blk w _ _ rfl
      exact blk_string (L := [c]) (cap := 1) hb
    have sz : (strOfNums [c]).size = 1 := by rw [strOfNums_size]; rfl
    clear c27
    go_enter Tryz.func37, Tryz.ntmps37
    go_wp2
    go_region
    all_goals go_wp2
    all_goals exact bodyPost_ret (results_none rfl _ _ _) rfl ⟨rfl, by rw [E.out]; exact RUpd.of1 ((HT.out.beg _).fr0 (((Fr.refl _ _).alloc _).drew)) ((((Fr.refl [b] w).setCell (p := ⟨b, 8, none⟩) (by simp) _).alloc _).drew)⟩
  have HE1 : Hid (¬ (32 ≤ c ∧ c ≤ 63)) := cp
  by_cases ce : 64 ≤ c ∧ c ≤ 126
  · have E := hide (show r.goesOn c = R.ends { r with begun := ⟨#[]⟩ } (nums (r.begun.extract 2 r.begun.size)) c by unfold R.goesOn; rw [if_neg c27, if_neg s1, if_neg cp, if_pos ce])
    obtain ⟨ce1, ce2⟩ := ce
    have RB := hide (HT.out.beg ⟨#[]⟩)
    clear c27 cp
    go_enter Tryz.func37, Tryz.ntmps37
    go_wp2_with (go_at_call 63; refine (ends_any _ _ b g _ RB.out _ ?hsz).mono ?_; (case hsz => rw [ByteArray.size_extract]; omega); rintro e w' ⟨rfl, k1⟩)
    go_end0
    refine ⟨rfl, ?_⟩
    rw [E.out]
    exact RUpd.via (((Fr.refl [b] w).setCell (p := ⟨b, 8, none⟩) (by simp) _).mono (by simp [rfoot])) (fun x hx => .inl hx) k1
  · have E := hide (show r.goesOn c = { r with begun := ⟨#[]⟩ } by unfold R.goesOn; rw [if_neg c27, if_neg s1, if_neg cp, if_neg ce])
    have RB := hide (HT.out.beg ⟨#[]⟩)
    by_cases c32 : c < 32
    · clear c27 cp ce
      go_enter Tryz.func37, Tryz.ntmps37
      go_wp2
      go_end0
      exact ⟨rfl, by rw [E.out]; exact RUpd.of1 RB.out ((Fr.refl [b] w).setCell (p := ⟨b, 8, none⟩) (by simp) _)⟩
    · have c126 : 126 < c := by omega
      clear c27 cp ce
      go_enter Tryz.func37, Tryz.ntmps37
      go_wp2
      go_end0
      exact ⟨rfl, by rw [E.out]; exact RUpd.of1 RB.out ((Fr.refl [b] w).setCell (p := ⟨b, 8, none⟩) (by simp) _)⟩
end Go.Proofs.YtjhccghhinlmdabGreatDoor
