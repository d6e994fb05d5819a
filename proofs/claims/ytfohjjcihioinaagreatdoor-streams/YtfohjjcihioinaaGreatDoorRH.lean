/- The document's repetitions. -/
import Derived.Test.YtfohjjcihioinaaGreatDoorRG
import Derived.Test.YtfohjjcihioinaaGreatDoorPG
namespace Go.Proofs.YtfohjjcihioinaaGreatDoor
open Go.RowKit

/-- what comes of a part of the document's reading -/
def ROut (g : Nat) (s : ByteArray) (lim : Nat) (o : Value) (w : World) : Res → World → Prop
  | .ok k2 out2, w' => ∃ o', Flo g s lim k2 o' out2 0 w' ∧ Step g o o' w w'
  | .err c, w' => (c = 5 ∨ c = 6) ∧ ∃ k2 o' out2, Flo g s lim k2 o' out2 c w' ∧ Step g o o' w w'
theorem lenSpan_le (x : Nat) (hx : x ≤ 28) : (lenSpan x).2 ≤ 5 ∧ (lenSpan x).1 ≤ 258 := by
  have : ∀ x, x < 29 → (lenSpan x).2 ≤ 5 ∧ (lenSpan x).1 ≤ 258 := by decide +kernel
  exact this x (by omega)
theorem distSpan_le (y : Nat) (hy : y ≤ 29) : (distSpan y).2 ≤ 13 ∧ 1 ≤ (distSpan y).1 ∧ (distSpan y).1 ≤ 32768 := by
  have : ∀ y, y < 30 → (distSpan y).2 ≤ 13 ∧ 1 ≤ (distSpan y).1 ∧ (distSpan y).1 ≤ 32768 := by decide +kernel
  exact this y (by omega)
section
variable {g : Nat} {s : ByteArray} {lim k : Nat} {o : Value} {out : List UInt8} {e : Nat}
theorem rsymbol_some {lens : List Nat} (hl : lens.length ≤ 400) (h15 : ∀ n ∈ lens, n ≤ 15) (hkr : kraft lens ≤ 32768) (v : Value) (w : World) (h : Flo g s lim k o out 0 w) (ht : CTab g v (ents lens) o w) {x k2 : Nat} (hD : dec lens s.data.toList k = some (x, k2)) :
    Calls Tryz.prog 124 #[.pointer (some ⟨g, 0, none⟩), v] w fun r w' => r = .returned (.int .i64 (x : Nat)) ∧ Flo g s lim k2 o out 0 w' ∧ Step g o o w w' := by
  refine (rsymbol_any lens hl h15 hkr v w h ht).mono ?_
  rintro r w' ⟨st, ⟨x', k', h1, h2, h3⟩ | ⟨h1, _⟩⟩
  · rw [hD] at h1; injection h1 with h1; injection h1 with h4 h5; subst h4; subst h5; exact ⟨h2, h3, st⟩
  · rw [hD] at h1; cases h1
theorem rsymbol_none {lens : List Nat} (hl : lens.length ≤ 400) (h15 : ∀ n ∈ lens, n ≤ 15) (hkr : kraft lens ≤ 32768) (v : Value) (w : World) (h : Flo g s lim k o out 0 w) (ht : CTab g v (ents lens) o w) (hD : dec lens s.data.toList k = none) :
    Calls Tryz.prog 124 #[.pointer (some ⟨g, 0, none⟩), v] w fun r w' => r = .returned (.int .i64 (-1)) ∧ ∃ k2, Flo g s lim k2 o out 5 w' ∧ Step g o o w w' := by
  refine (rsymbol_any lens hl h15 hkr v w h ht).mono ?_
  rintro r w' ⟨st, ⟨x', k', h1, h2, h3⟩ | ⟨h1, h2, k2, h3⟩⟩
  · rw [hD] at h1; cases h1
  · exact ⟨h2, k2, h3, st⟩
/-- a number whose bits are there, and one whose bits are not -/
theorem rnumber_ok (n : Nat) (hn : n ≤ 16) (w : World) (h : Flo g s lim k o out e w) (hh : k + n ≤ 8 * s.size) :
    Calls Tryz.prog 51 #[.pointer (some ⟨g, 0, none⟩), .int .i64 n] w fun r w' => r = .returned (.int .i64 (numAt s.data.toList k n)) ∧ Flo g s lim (k + n) o out e w' ∧ Step g o o w w' := by
  refine (rnumber_any n hn w h).mono ?_
  rintro r w' ⟨h1, h2, h3⟩
  rw [Nat.min_eq_left hh] at h2
  unfold errN at h2
  rw [if_pos hh] at h2
  exact ⟨h1, h2, h3⟩
theorem rnumber_end (n : Nat) (hn : n ≤ 16) (w : World) (h : Flo g s lim k o out e w) (hh : ¬ k + n ≤ 8 * s.size) :
    Calls Tryz.prog 51 #[.pointer (some ⟨g, 0, none⟩), .int .i64 n] w fun r w' => r = .returned (.int .i64 (numAt s.data.toList k n)) ∧ Flo g s lim (8 * s.size) o out (orBad e) w' ∧ Step g o o w w' := by
  refine (rnumber_any n hn w h).mono ?_
  rintro r w' ⟨h1, h2, h3⟩
  rw [Nat.min_eq_right (by omega)] at h2
  unfold errN at h2
  rw [if_neg hh] at h2
  exact ⟨h1, h2, h3⟩
set_option maxHeartbeats 1000000 in
set_option maxRecDepth 8000 in
theorem rmatch_any (dl : List Nat) (hl : dl.length ≤ 400) (h15 : ∀ n ∈ dl, n ≤ 15) (hkr : kraft dl ≤ 32768) (v : Value) (x : Nat) (hx : x ≤ 28) (w : World) (h : Flo g s lim k o out 0 w) (ht : CTab g v (ents dl) o w) :
    Calls Tryz.prog 125 #[.pointer (some ⟨g, 0, none⟩), .int .i64 (x : Int), v] w fun r w' => r = .returned (.tuple #[]) ∧ ROut g s lim o w (matchS dl s.data.toList lim x k out) w' := by
  obtain ⟨R, HR⟩ := hid_intro (matchS dl s.data.toList lim x k out)
  rw [← HR.out]
  have hss : s.data.toList.length = s.size := by simp
  have hsp := lenSpan_le x hx
  have HLe := (show Hid _ from fun w => rlength_any x hx w)
  have ln := numAt_lt s.data.toList k (lenSpan x).2
  have HR1 : Hid (R = if has s.data.toList k (lenSpan x).2 then
    match dec dl s.data.toList (k + (lenSpan x).2) with
    | none => .err 5
    | some (y, k2) =>
      if y > 29 then .err 5
      else if has s.data.toList k2 (distSpan y).2 then
        if (distSpan y).1 + numAt s.data.toList k2 (distSpan y).2 > out.length then .err 5
        else copyN lim ((distSpan y).1 + numAt s.data.toList k2 (distSpan y).2) (k2 + (distSpan y).2) ((lenSpan x).1 + numAt s.data.toList k (lenSpan x).2) out
      else .err 5
  else .err 5) := HR.out
  clear HR
  obtain ⟨la, HLA⟩ := hid_intro (lenSpan x).1
  obtain ⟨lb, HLB⟩ := hid_intro (lenSpan x).2
  rw [← HLA.out] at HR1 HLe hsp
  rw [← HLB.out] at HR1 HLe hsp ln
  have hln : numAt s.data.toList k lb < 32 := Nat.lt_of_lt_of_le ln (Nat.pow_le_pow_right (by omega) hsp.1)
  clear ln
  obtain ⟨N0, HN0⟩ := hid_intro (numAt s.data.toList k lb)
  rw [← HN0.out] at HR1 hln
  have h4 := h.c4
  have HF : Hid (Flo g s lim k o out 0 w) := h
  have HT : Hid (CTab g v (ents dl) o w) := ht
  have hbad : ∀ w0 (k0 e0 : Nat), Flo g s lim k0 o out e0 w0 → w0.cell? ⟨g, 4, none⟩ = some (.int .i64 (e0 : Int)) := fun w0 k0 e0 h0 => h0.c4
  clear h ht
  by_cases hk : k + lb ≤ 8 * s.size
  · rw [if_pos (show has s.data.toList k lb by unfold has; omega)] at HR1
    cases hD : dec dl s.data.toList (k + lb) with
    | none =>
      rw [hD] at HR1
      have HDD := (show Hid _ from hD)
      clear hD
      go_enter Tryz.func125, Tryz.ntmps125
      go_wp2_with (first
        | (go_at_call 180; refine (HLe.out _).mono ?_; rintro r w1 ⟨rfl, hw1⟩; rw [hw1]; clear hw1)
        | (go_at_call 51; refine (rnumber_ok lb (by omega) _ HF.out hk).mono ?_; rintro r w2 ⟨rfl, hf2, st2⟩; rw [← HN0.out])
        | (go_at_call 124; refine (rsymbol_none hl h15 hkr v _ hf2 (HT.out.step st2) HDD.out).mono ?_; rintro r w3 ⟨rfl, k3, hf3, st3⟩; have hc3 := hf3.c4))
      refine bodyPost_ret (results_none rfl _ _ _) rfl ⟨rfl, ?_⟩
      rw [HR1.out]
      exact ⟨.inl rfl, _, _, _, hf3, st2.trans st3⟩
    | some p =>
      obtain ⟨y, k2⟩ := p
      rw [hD] at HR1
      simp only [] at HR1
      have hy4 : y < 400 := by have := dec_lt hD; omega
      have hkk := dec_le hD
      have HDD := (show Hid _ from hD)
      clear hD
      by_cases hy : y > 29
      · rw [if_pos hy] at HR1
        go_enter Tryz.func125, Tryz.ntmps125
        go_wp2_with (first
          | (go_at_call 180; refine (HLe.out _).mono ?_; rintro r w1 ⟨rfl, hw1⟩; rw [hw1]; clear hw1)
          | (go_at_call 51; refine (rnumber_ok lb (by omega) _ HF.out hk).mono ?_; rintro r w2 ⟨rfl, hf2, st2⟩; rw [← HN0.out])
          | (go_at_call 124; refine (rsymbol_some hl h15 hkr v _ hf2 (HT.out.step st2) HDD.out).mono ?_; rintro r w3 ⟨rfl, hf3, st3⟩; have hc3 := hf3.c4)
          | (go_at_call 52; refine (wrong_any _ hf3).mono ?_; rintro r w4 ⟨rfl, hf4, st4⟩))
        refine bodyPost_ret (results_none rfl _ _ _) rfl ⟨rfl, ?_⟩
        rw [HR1.out]
        exact ⟨.inl rfl, _, _, _, hf4, (st2.trans st3).trans st4⟩
      · rw [if_neg hy] at HR1
        have hdp := distSpan_le y (by omega)
        have HDi := (show Hid _ from fun w => rdistance_any y (by omega) w)
        have dn := numAt_lt s.data.toList k2 (distSpan y).2
        obtain ⟨da, HDA⟩ := hid_intro (distSpan y).1
        obtain ⟨db, HDB⟩ := hid_intro (distSpan y).2
        rw [← HDA.out] at HR1 HDi hdp
        rw [← HDB.out] at HR1 HDi hdp dn
        have hdn : numAt s.data.toList k2 db < 8192 := Nat.lt_of_lt_of_le dn (Nat.pow_le_pow_right (by omega) hdp.1)
        clear dn
        obtain ⟨M0, HM0⟩ := hid_intro (numAt s.data.toList k2 db)
        rw [← HM0.out] at HR1 hdn
        have hol : out.length ≤ 20000 := by have := HF.out.ho; have := HF.out.hl; omega
        obtain ⟨ao, cap, rfl⟩ := own_shape HF.out.own
        by_cases hk2 : k2 + db ≤ 8 * s.size
        · rw [if_pos (show has s.data.toList k2 db by unfold has; omega)] at HR1
          by_cases hfar : da + M0 > out.length
          · rw [if_pos hfar] at HR1
            go_enter Tryz.func125, Tryz.ntmps125
            go_wp2_with (first
              | (go_at_call 180; refine (HLe.out _).mono ?_; rintro r w1 ⟨rfl, hw1⟩; rw [hw1]; clear hw1; have first1 : True := trivial)
              | (go_at_call 181; refine (HDi.out _).mono ?_; rintro r w1 ⟨rfl, hw1⟩; rw [hw1]; clear hw1)
              | (go_at_call 51; have := first1; refine (rnumber_ok lb (by omega) _ HF.out hk).mono ?_; rintro r w2 ⟨rfl, hf2, st2⟩; rw [← HN0.out]; clear first1)
              | (go_at_call 124; refine (rsymbol_some hl h15 hkr v _ hf2 (HT.out.step st2) HDD.out).mono ?_; rintro r w3 ⟨rfl, hf3, st3⟩; have hc3 := hf3.c4)
              | (go_at_call 51; refine (rnumber_ok db (by omega) _ hf3 hk2).mono ?_; rintro r w4 ⟨rfl, hf4, st4⟩; rw [← HM0.out]; have hc4 := hf4.c4; have ho4 := hf4.c2)
              | (go_at_call 52; refine (wrong_any _ hf4).mono ?_; rintro r w5 ⟨rfl, hf5, st5⟩; have hf5' := (show Flo g s lim (k2 + db) _ out 5 w5 from hf5); clear hf5; have hc5 := hf5'.c4))
            refine wp_loop_rounds 1 ?_
            rw [rounds_succ]
            by_cases hN : 0 < la + N0
            all_goals
              go_wp2
              refine bodyPost_end (results_none rfl _ _ _) rfl ⟨rfl, ?_⟩
              rw [HR1.out]
              exact ⟨.inl rfl, _, _, _, hf5', ((st2.trans st3).trans st4).trans st5⟩
          · rw [if_neg hfar] at HR1
            have hfb : decide ((out.length : Int) < (da : Int) + (M0 : Int)) = false := decide_eq_false (by omega)
            have hyb : decide ((29 : Int) < (y : Int)) = false := decide_eq_false (by omega)
            go_enter Tryz.func125, Tryz.ntmps125
            go_wp2_with (first
              | (go_at_call 180; refine (HLe.out _).mono ?_; rintro r w1 ⟨rfl, hw1⟩; rw [hw1]; clear hw1; have first1 : True := trivial)
              | (go_at_call 181; refine (HDi.out _).mono ?_; rintro r w1 ⟨rfl, hw1⟩; rw [hw1]; clear hw1)
              | (go_at_call 51; have := first1; refine (rnumber_ok lb (by omega) _ HF.out hk).mono ?_; rintro r w2 ⟨rfl, hf2, st2⟩; rw [← HN0.out]; clear first1)
              | (go_at_call 124; refine (rsymbol_some hl h15 hkr v _ hf2 (HT.out.step st2) HDD.out).mono ?_; rintro r w3 ⟨rfl, hf3, st3⟩; have hc3 := hf3.c4)
              | (go_at_call 51; refine (rnumber_ok db (by omega) _ hf3 hk2).mono ?_; rintro r w4 ⟨rfl, hf4, st4⟩; rw [← HM0.out]; have hc4 := hf4.c4; have ho4 := hf4.c2))
            have HS4 := (show Hid (Step g _ _ w w4) from (st2.trans st3).trans st4)
            have hD1 : 1 ≤ da + M0 := by omega
            have HDa := (show Hid _ from hdp)
            obtain ⟨D, HD⟩ := hid_intro (da + M0)
            have hDi : (da : Int) + (M0 : Int) = (D : Int) := by have := HD.out; omega
            rw [hDi]
            rw [← HD.out] at HR1 hfar hD1
            clear hDi hfb hyb
            clear hc4 ho4 hc3 hf3 hf2 st2 st3 st4 h4 hbad hdp HDi HLe HDD
            go_loopw [11] (fun vi wr => ∃ (i c : Nat) (o' : Value) (out' : List UInt8), i ≤ la + N0 ∧ vi = .int .i64 i ∧ ((c = 0 ∧ Hid (R = copyN lim D (k2 + db) (la + N0 - i) out') ∧ D ≤ out'.length) ∨ (c = 6 ∧ Hid (R = .err 6))) ∧ Flo g s lim (k2 + db) o' out' c wr ∧ Step g (Value.slice ao out.length cap) o' w wr) (fun vi _ => la + N0 - (intOf vi).toNat)
            case atStart => exact ⟨0, 0, _, out, by omega, rfl, .inl ⟨rfl, HR1, by omega⟩, hf4, HS4.out⟩
            case round =>
              clear hf4 HS4 HR1
              obtain ⟨i, c, o', out', hiN, rfl, hcase, hF, st⟩ := hrel
              have hc4 := hF.c4
              rcases hcase with ⟨rfl, HC2, hdo⟩ | ⟨rfl, HE⟩
              · by_cases hlt : i < la + N0
                · have HC3 : Hid (R = if out'.length ≥ lim then .err 6 else copyN lim D (k2 + db) (la + N0 - (i + 1)) (out' ++ [out'.getD (out'.length - D) 0])) := by
                    show R = _
                    rw [HC2.out, show la + N0 - i = la + N0 - (i + 1) + 1 by omega, copyN]
                  obtain ⟨b, cap', ho', hcap, hcell⟩ := byte_cell hF.own (out'.length - D) (by omega)
                  obtain ⟨yy, HY⟩ := hid_intro (out'.getD (out'.length - D) 0)
                  rw [← HY.out] at hcell HC3
                  have hc2 := hF.c2
                  rw [ho'] at hc2
                  have hlo := hF.ho
                  have hl2 := hF.hl
                  have hlti : (i : Int) < (la : Int) + (N0 : Int) := by omega
                  have hz0 : IntKind.i64.wrap ((out'.length : Int) - (D : Int)) = (out'.length : Int) - (D : Int) := by rw [IntKind.wrap_i64]; omega
                  have hz1 : (0 : Int) ≤ (out'.length : Int) - (D : Int) := by omega
                  have hz2 : (out'.length : Int) - (D : Int) < (out'.length : Int) := by omega
                  have hz3 : ((out'.length : Int) - (D : Int)).toNat = out'.length - D := by omega
                  by_cases hfull : out'.length ≥ lim
                  · rw [if_pos hfull] at HC3
                    go_wp2
                    refine region_mid 14 _ _ rfl rfl (by kernel_rfl) (by kernel_rfl) ?_
                    simp only [List.take_succ_cons, List.take_zero]
                    repeat still_step
                    refine wpStill_nil (fun K hK => ?_)
                    go_simp
                    refine (comes_full _ hF.drew hfull).mono ?_; rintro r w5 ⟨rfl, hf5, st5⟩
                    refine hK _ _ ?_
                    clear hK K
                    repeat still_step
                    refine wpStill_nil ?_
                    go_wp2
                    go_roundw
                    case rel => exact ⟨i + 1, 6, _, _, by omega, by go_num, .inr ⟨rfl, HC3⟩, hf5, st.drew.trans st5⟩
                    case measure => simp [intOf]; omega
                  · rw [if_neg hfull] at HC3
                    go_wp2
                    refine region_mid 14 _ _ rfl rfl (by kernel_rfl) (by kernel_rfl) ?_
                    simp only [List.take_succ_cons, List.take_zero]
                    repeat still_step
                    refine wpStill_nil (fun K hK => ?_)
                    go_simp
                    refine (comes_ok yy rfl _ hF.drew hfull).mono ?_; rintro r w5 ⟨rfl, o5, hf5, st5⟩
                    refine hK _ _ ?_
                    clear hK K
                    repeat still_step
                    refine wpStill_nil ?_
                    go_wp2
                    go_roundw
                    case rel => exact ⟨i + 1, 0, o5, _, by omega, by go_num, .inl ⟨rfl, HC3, by simp; omega⟩, hf5, st.drew.trans st5⟩
                    case measure => simp [intOf]; omega
                · have hlti : ¬ (i : Int) < (la : Int) + (N0 : Int) := by omega
                  obtain rfl : i = la + N0 := by omega
                  go_wp2
                  refine bodyPost_end (results_none rfl _ _ _) rfl ⟨rfl, ?_⟩
                  have e : R = .ok (k2 + db) out' := by rw [HC2.out, Nat.sub_self]; rfl
                  rw [e]
                  exact ⟨o', hF, st⟩
              · by_cases hlt : (i : Int) < (la : Int) + (N0 : Int)
                all_goals
                  go_wp2
                  refine bodyPost_end (results_none rfl _ _ _) rfl ⟨rfl, ?_⟩
                  rw [HE.out]
                  exact ⟨.inr rfl, _, _, _, hF, st⟩
        · rw [if_neg (show ¬ has s.data.toList k2 db by unfold has; omega)] at HR1
          by_cases hfar : da + M0 > out.length
          · go_enter Tryz.func125, Tryz.ntmps125
            go_wp2_with (first
              | (go_at_call 180; refine (HLe.out _).mono ?_; rintro r w1 ⟨rfl, hw1⟩; rw [hw1]; clear hw1; have first1 : True := trivial)
              | (go_at_call 181; refine (HDi.out _).mono ?_; rintro r w1 ⟨rfl, hw1⟩; rw [hw1]; clear hw1)
              | (go_at_call 51; have := first1; refine (rnumber_ok lb (by omega) _ HF.out hk).mono ?_; rintro r w2 ⟨rfl, hf2, st2⟩; rw [← HN0.out]; clear first1)
              | (go_at_call 124; refine (rsymbol_some hl h15 hkr v _ hf2 (HT.out.step st2) HDD.out).mono ?_; rintro r w3 ⟨rfl, hf3, st3⟩; have hc3 := hf3.c4)
              | (go_at_call 51; refine (rnumber_end db (by omega) _ hf3 hk2).mono ?_; rintro r w4 ⟨rfl, hf4, st4⟩; rw [← HM0.out]; have hf4' := (show Flo g s lim (8 * s.size) _ out 5 w4 from hf4); clear hf4; have hc4 := hf4'.c4; have ho4 := hf4'.c2)
              | (go_at_call 52; refine (wrong_any _ hf4').mono ?_; rintro r w5 ⟨rfl, hf5, st5⟩; have hf5' := (show Flo g s lim (8 * s.size) _ out 5 w5 from hf5); clear hf5; have hc5 := hf5'.c4))
            refine wp_loop_rounds 1 ?_
            rw [rounds_succ]
            by_cases hN : 0 < la + N0
            all_goals
              go_wp2
              refine bodyPost_end (results_none rfl _ _ _) rfl ⟨rfl, ?_⟩
              rw [HR1.out]
              exact ⟨.inl rfl, _, _, _, hf5', ((st2.trans st3).trans st4).trans st5⟩
          · go_enter Tryz.func125, Tryz.ntmps125
            go_wp2_with (first
              | (go_at_call 180; refine (HLe.out _).mono ?_; rintro r w1 ⟨rfl, hw1⟩; rw [hw1]; clear hw1; have first1 : True := trivial)
              | (go_at_call 181; refine (HDi.out _).mono ?_; rintro r w1 ⟨rfl, hw1⟩; rw [hw1]; clear hw1)
              | (go_at_call 51; have := first1; refine (rnumber_ok lb (by omega) _ HF.out hk).mono ?_; rintro r w2 ⟨rfl, hf2, st2⟩; rw [← HN0.out]; clear first1)
              | (go_at_call 124; refine (rsymbol_some hl h15 hkr v _ hf2 (HT.out.step st2) HDD.out).mono ?_; rintro r w3 ⟨rfl, hf3, st3⟩; have hc3 := hf3.c4)
              | (go_at_call 51; refine (rnumber_end db (by omega) _ hf3 hk2).mono ?_; rintro r w4 ⟨rfl, hf4, st4⟩; rw [← HM0.out]; have hf4' := (show Flo g s lim (8 * s.size) _ out 5 w4 from hf4); clear hf4; have hc4 := hf4'.c4; have ho4 := hf4'.c2))
            refine wp_loop_rounds 1 ?_
            rw [rounds_succ]
            by_cases hN : 0 < la + N0
            all_goals
              go_wp2
              refine bodyPost_end (results_none rfl _ _ _) rfl ⟨rfl, ?_⟩
              rw [HR1.out]
              exact ⟨.inl rfl, _, _, _, hf4', (st2.trans st3).trans st4⟩
  · rw [if_neg (show ¬ has s.data.toList k lb by unfold has; omega)] at HR1
    go_enter Tryz.func125, Tryz.ntmps125
    go_wp2_with (first
      | (go_at_call 180; refine (HLe.out _).mono ?_; rintro r w1 ⟨rfl, hw1⟩; rw [hw1]; clear hw1)
      | (go_at_call 51; refine (rnumber_end lb (by omega) _ HF.out hk).mono ?_; rintro r w2 ⟨rfl, hf2, st2⟩; rw [← HN0.out]; have hf2' := (show Flo g s lim (8 * s.size) o out 5 w2 from hf2); clear hf2)
      | (go_at_call 124; refine (rsymbol_bad v _ hf2' (by omega)).mono ?_; rintro r w3 ⟨rfl, hf3, st3⟩; have hc3 := hf3.c4))
    refine bodyPost_ret (results_none rfl _ _ _) rfl ⟨rfl, ?_⟩
    rw [HR1.out]
    exact ⟨.inl rfl, _, _, _, hf3, st2.trans st3⟩
end
end Go.Proofs.YtfohjjcihioinaaGreatDoor
