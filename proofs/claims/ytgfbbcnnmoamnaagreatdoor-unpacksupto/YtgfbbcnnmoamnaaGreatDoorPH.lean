/- The program's stored blocks. The program's counts and codes. -/
import Derived.Test.YtgfbbcnnmoamnaaGreatDoorPG
namespace Go.Proofs.YtgfbbcnnmoamnaaGreatDoor
open Go.RowKit

section
variable {er : Errs} {g : Nat} {s : ByteArray} {lim : Nat} {fx : List Value} {k : Nat} {o : Value} {out : List UInt8}
set_option maxHeartbeats 1000000 in
set_option maxRecDepth 8000 in
theorem stored_any (w : World) (hi : Inf er g s lim fx k o out w) :
    Calls Tryz.prog 218 #[.pointer (some ⟨g, 0, none⟩)] w (Outc er g s lim fx o w (storedS s.data.toList lim k out)) := by
  obtain ⟨R, HR⟩ := hid_intro (storedS s.data.toList lim k out)
  rw [← HR.out]
  have hss : s.data.toList.length = s.size := by simp
  obtain ⟨K, HK⟩ := hid_intro (8 * ((k + 7) / 8))
  have HR1 : Hid (R = if has s.data.toList K 32 then if numAt s.data.toList K 16 + numAt s.data.toList (K + 16) 16 = 65535 then rawGo s.data.toList lim (numAt s.data.toList K 16) (K + 32) out else .err 5 else .err 5) := by rw [HR.out, HK.out]; rfl
  by_cases ha : K + 16 ≤ 8 * s.size
  · by_cases hb : K + 16 + 16 ≤ 8 * s.size
    · rw [if_pos (show has s.data.toList K 32 by unfold has; omega)] at HR1
      have ln := numAt_lt s.data.toList K 16
      have lm := numAt_lt s.data.toList (K + 16) 16
      obtain ⟨n, HN⟩ := hid_intro (numAt s.data.toList K 16)
      obtain ⟨m, HM⟩ := hid_intro (numAt s.data.toList (K + 16) 16)
      rw [← HN.out] at HR1 ln
      rw [← HM.out] at HR1 lm
      have hxo := turned16 n ln
      by_cases ht : n + m = 65535
      · rw [if_pos ht] at HR1
        have ht2 : (m : Int) = ((65535 - n : Nat) : Int) := by omega
        go_enter Tryz.func218, Tryz.ntmps218
        go_wp2_with (first
          | (go_at_call 275; refine (passByte_any _ hi).mono ?_; rintro e w1 ⟨rfl, hi1, st1⟩; rw [← HK.out] at hi1; have first1 : True := trivial)
          | (go_at_call 161; have := first1; refine (number_ok 16 (by omega) w1 hi1 ha).mono ?_; rintro e w2 ⟨rfl, hi2, st2⟩; rw [← HN.out]; clear first1)
          | (go_at_call 161; refine (number_ok 16 (by omega) w2 hi2 hb).mono ?_; rintro e w3 ⟨rfl, hi3, st3⟩; rw [← HM.out]))
        have HS3 : Hid (Step g o o w w3) := (st1.trans st2).trans st3
        clear st1 st2 st3 hi1 hi2 hxo ht2
        go_loopw [39] (fun vi wr => ∃ (i k' : Nat) (o' : Value) (out' : List UInt8), i ≤ n ∧ vi = .int .i64 i ∧ Hid (R = rawGo s.data.toList lim (n - i) k' out') ∧ Inf er g s lim fx k' o' out' wr ∧ Step g o o' w wr) (fun vi _ => n - (intOf vi).toNat)
        case atStart => exact ⟨0, _, o, out, by omega, rfl, HR1, hi3, HS3.out⟩
        case round =>
          clear hi3 HS3 HR1
          obtain ⟨i, k', o', out', hin, rfl, HRi, hi, st⟩ := hrel
          by_cases hlt : i < n
          · have HRj : Hid (R = if has s.data.toList k' 8 then (if out'.length ≥ lim then .err 6 else rawGo s.data.toList lim (n - (i + 1)) (k' + 8) (out' ++ [UInt8.ofNat (numAt s.data.toList k' 8)])) else .err 5) := by
              show R = _
              rw [HRi.out, show n - i = n - (i + 1) + 1 by omega, rawGo]
            have lx := numAt_lt s.data.toList k' 8
            obtain ⟨x, HX⟩ := hid_intro (numAt s.data.toList k' 8)
            rw [← HX.out] at HRj lx
            have hxu : Hid ((x : Int) = ((UInt8.ofNat x).toNat : Int)) := by show (x : Int) = _; simp; omega
            by_cases h8 : k' + 8 ≤ 8 * s.size
            · rw [if_pos (show has s.data.toList k' 8 by unfold has; omega)] at HRj
              by_cases hfull : out'.length ≥ lim
              · rw [if_pos hfull] at HRj
                go_wp2_with (first
                  | (go_at_call 161; refine (number_ok 8 (by omega) wr hi h8).mono ?_; rintro e w4 ⟨rfl, hi4, st4⟩; rw [← HX.out])
                  | (go_at_call 276; refine (put_full_v (UInt8.ofNat x) hxu.out _ hi4 hfull).mono ?_; rintro e w5 ⟨rfl, hi5, st5⟩; unfold errV))
                go_ret
                rw [HRj.out]
                exact ⟨er.lim, _, _, _, rfl, .inl ⟨rfl, rfl⟩, hi5, (st.trans st4).trans st5⟩
              · rw [if_neg hfull] at HRj
                go_wp2_with (first
                  | (go_at_call 161; refine (number_ok 8 (by omega) wr hi h8).mono ?_; rintro e w4 ⟨rfl, hi4, st4⟩; rw [← HX.out])
                  | (go_at_call 276; refine (put_ok_v (UInt8.ofNat x) hxu.out _ hi4 hfull).mono ?_; rintro e w5 ⟨rfl, o5, hi5, st5⟩))
                go_roundw
                case rel => exact ⟨i + 1, _, o5, _, by omega, by go_num, HRj, hi5, (st.trans st4).trans st5⟩
                case measure => simp [intOf]; omega
            · rw [if_neg (show ¬ has s.data.toList k' 8 by unfold has; omega)] at HRj
              go_wp2_with (go_at_call 161; refine (number_end 8 (by omega) wr hi h8).mono ?_; rintro e w4 ⟨rfl, hi4, st4⟩; unfold errV)
              go_ret
              rw [HRj.out]
              exact ⟨er.short, _, _, _, rfl, .inr ⟨rfl, by simp [Errs.bad]⟩, hi4, st.trans st4⟩
          · obtain rfl : i = n := by omega
            go_wp2
            go_ret
            have e : R = .ok k' out' := by rw [HRi.out, Nat.sub_self]; rfl
            rw [e]
            exact ⟨rfl, o', hi, st⟩
      · rw [if_neg ht] at HR1
        have ht2 : (m : Int) ≠ ((65535 - n : Nat) : Int) := by omega
        go_enter Tryz.func218, Tryz.ntmps218
        go_wp2_with (first
          | (go_at_call 275; refine (passByte_any _ hi).mono ?_; rintro e w1 ⟨rfl, hi1, st1⟩; rw [← HK.out] at hi1; have first1 : True := trivial)
          | (go_at_call 161; have := first1; refine (number_ok 16 (by omega) w1 hi1 ha).mono ?_; rintro e w2 ⟨rfl, hi2, st2⟩; rw [← HN.out]; clear first1)
          | (go_at_call 161; refine (number_ok 16 (by omega) w2 hi2 hb).mono ?_; rintro e w3 ⟨rfl, hi3, st3⟩; rw [← HM.out]; have he := hi3.errs.turned))
        go_ret
        rw [HR1.out]
        exact ⟨er.turned, _, _, _, rfl, .inr ⟨rfl, by simp [Errs.bad]⟩, hi3, (st1.trans st2).trans st3⟩
    · rw [if_neg (show ¬ has s.data.toList K 32 by unfold has; omega)] at HR1
      go_enter Tryz.func218, Tryz.ntmps218
      go_wp2_with (first
        | (go_at_call 275; refine (passByte_any _ hi).mono ?_; rintro e w1 ⟨rfl, hi1, st1⟩; rw [← HK.out] at hi1; have first1 : True := trivial)
        | (go_at_call 161; have := first1; refine (number_ok 16 (by omega) w1 hi1 ha).mono ?_; rintro e w2 ⟨rfl, hi2, st2⟩; clear first1)
        | (go_at_call 161; refine (number_end 16 (by omega) w2 hi2 hb).mono ?_; rintro e w3 ⟨rfl, hi3, st3⟩; unfold errV))
      go_ret
      rw [HR1.out]
      exact ⟨er.short, _, _, _, rfl, .inr ⟨rfl, by simp [Errs.bad]⟩, hi3, (st1.trans st2).trans st3⟩
  · rw [if_neg (show ¬ has s.data.toList K 32 by unfold has; omega)] at HR1
    go_enter Tryz.func218, Tryz.ntmps218
    go_wp2_with (first
      | (go_at_call 275; refine (passByte_any _ hi).mono ?_; rintro e w1 ⟨rfl, hi1, st1⟩; rw [← HK.out] at hi1)
      | (go_at_call 161; refine (number_end 16 (by omega) w1 hi1 ha).mono ?_; rintro e w2 ⟨rfl, hi2, st2⟩; unfold errV))
    go_ret
    rw [HR1.out]
    exact ⟨er.short, _, _, _, rfl, .inr ⟨rfl, by simp [Errs.bad]⟩, hi2, st1.trans st2⟩
end
end Go.Proofs.YtgfbbcnnmoamnaaGreatDoor

namespace Go.Proofs.YtgfbbcnnmoamnaaGreatDoor
open Go.RowKit

/-- numbers that lie in a block from a place on -/
def IntsAt (w : World) (h off : Nat) (l : List Nat) : Prop := h < w.heap.size ∧ ∀ j, j < l.length → w.cell? ⟨h, off + j, none⟩ = some (.int .i64 ((l.getD j 0 : Nat) : Int))
theorem IntsAt.keep {w w' : World} {h off : Nat} {l : List Nat} (i : IntsAt w h off l) (hb : Below w.heap.size w w') : IntsAt w' h off l :=
  ⟨Nat.lt_of_lt_of_le i.1 hb.size, fun j hj => (hb.cell i.1).trans (i.2 j hj)⟩
theorem IntsAt.below {w w' : World} {h off B : Nat} {l : List Nat} (i : IntsAt w h off l) (hb : Below B w w') (hh : h < B) : IntsAt w' h off l :=
  ⟨Nat.lt_of_lt_of_le i.1 hb.size, fun j hj => (hb.cell hh).trans (i.2 j hj)⟩
theorem sizeCounts : (Tryz.prog.info? 181).map (·.size) = some 16 := by kernel_rfl
theorem rowi_one (l : List Nat) : (rowi l).all (·.oneCell') = true := by
  rw [Array.all_eq_true_iff_forall_mem]
  intro v hv
  simp [rowi] at hv
  obtain ⟨x, _, rfl⟩ := hv
  rfl
theorem getD_mem {l : List Nat} {i : Nat} (h : i < l.length) : l.getD i 0 ∈ l := by simp [h]
/-- counts of the first lengths, as they are reckoned: 0 counts too -/
def rawCnt (l : List Nat) : List Nat := (List.range 16).map fun n => l.count n
theorem rawCnt_len (l : List Nat) : (rawCnt l).length = 16 := by simp [rawCnt]
theorem rawCnt_get (l : List Nat) (n : Nat) (h : n < 16) : (rawCnt l).getD n 0 = l.count n := by simp [rawCnt, h]
theorem rawCnt_step (l : List Nat) (i : Nat) (hi : i < l.length) (hn : l.getD i 0 < 16) : (rawCnt (l.take i)).set (l.getD i 0) ((rawCnt (l.take i)).getD (l.getD i 0) 0 + 1) = rawCnt (l.take (i + 1)) := by
  have e : l.take (i + 1) = l.take i ++ [l.getD i 0] := by
    rw [List.take_succ_eq_append_getElem hi]; simp [hi]
  rw [rawCnt_get _ _ hn, e]
  apply List.ext_getElem?
  intro j
  rw [List.getElem?_set]
  by_cases hj : l.getD i 0 = j
  · subst hj
    rw [if_pos rfl, if_pos (by rw [rawCnt_len]; exact hn)]
    have hn' : l[i]?.getD 0 < 16 := hn
    simp [rawCnt, hn', List.count_append]
  · rw [if_neg hj]
    by_cases h16 : j < 16
    · have hj' : ¬ l[i]?.getD 0 = j := hj
      simp [rawCnt, h16, List.count_append, List.count_singleton, hj']
    · simp [rawCnt, h16]
theorem rawCnt_end (l : List Nat) : (rawCnt l).set 0 0 = cntsL l := by
  apply List.ext_getElem?
  intro j
  rw [List.getElem?_set]
  by_cases hj : 0 = j
  · subst hj; simp [rawCnt_len, cntsL, cnt]
  · rw [if_neg hj]
    have hj' : j ≠ 0 := fun e => hj e.symm
    by_cases h16 : j < 16
    · simp [rawCnt, cntsL, h16, cnt, hj']
    · simp [rawCnt, cntsL, h16]
set_option maxHeartbeats 1000000 in
set_option maxRecDepth 8000 in
theorem countsOf_any (lens : List Nat) (hl : lens.length ≤ 400) (h15 : ∀ n ∈ lens, n ≤ 15) (h off cap : Nat) (w : World) (hI : IntsAt w h off lens) :
    Calls Tryz.prog 112 #[.slice (some ⟨h, off, none⟩) lens.length cap] w fun e w' => e = .returned (.agg (rowi (cntsL lens))) ∧ Below w.heap.size w w' := by
  obtain ⟨N, HN⟩ := hid_intro lens.length
  rw [← HN.out] at hl ⊢
  have HI : Hid (IntsAt w h off lens) := hI
  have HZ : Hid (h < w.heap.size) := hI.1
  have H15 : Hid (∀ n ∈ lens, n ≤ 15) := h15
  clear hI h15
  go_enter Tryz.func112, Tryz.ntmps112
  go_wp2
  obtain ⟨W, HW⟩ : ∃ W, Hid (W = (w.alloc (.cells (rowi (List.replicate 16 0)) 181)).alloc (.cells (rowi (rawCnt [])) 181)) := ⟨_, rfl⟩
  have hW : ((w.alloc (.cells #[.int .i64 0, .int .i64 0, .int .i64 0, .int .i64 0, .int .i64 0, .int .i64 0, .int .i64 0, .int .i64 0, .int .i64 0, .int .i64 0, .int .i64 0, .int .i64 0, .int .i64 0, .int .i64 0, .int .i64 0, .int .i64 0] 181)).alloc (.cells #[.int .i64 0, .int .i64 0, .int .i64 0, .int .i64 0, .int .i64 0, .int .i64 0, .int .i64 0, .int .i64 0, .int .i64 0, .int .i64 0, .int .i64 0, .int .i64 0, .int .i64 0, .int .i64 0, .int .i64 0, .int .i64 0] 181)) = W := by rw [HW.out]; rfl
  rw [hW]
  have hb0 : Below w.heap.size w W := by rw [HW.out]; exact ((Below.refl _ _).alloc (Nat.le_refl _) _).alloc (by simp) _
  have h1 : W.heap[w.heap.size + 1]? = some (.cells (rowi (rawCnt [])) 181 (0, 0)) := by
    rw [HW.out]; have := heap_alloc_new (w.alloc (.cells (rowi (List.replicate 16 0)) 181)) (.cells (rowi (rawCnt [])) 181); simpa using this
  have h0 : W.heap[w.heap.size]? = some (.cells (rowi (List.replicate 16 0)) 181 (0, 0)) := by rw [HW.out]; exact alloc_keeps (heap_alloc_new w _)
  clear hW HW
  go_loopw [8] (fun vi wr => ∃ i : Nat, i ≤ N ∧ vi = .int .i64 i ∧ wr.heap[w.heap.size + 1]? = some (.cells (rowi (rawCnt (lens.take i))) 181 (0, 0)) ∧ wr.heap[w.heap.size]? = some (.cells (rowi (List.replicate 16 0)) 181 (0, 0)) ∧ Below w.heap.size w wr) (fun vi _ => N - (intOf vi).toNat)
  case atStart => exact ⟨0, by omega, rfl, by simpa using h1, h0, hb0⟩
  case round =>
    clear h1 h0 hb0
    obtain ⟨i, hi, rfl, h1, h0, hb⟩ := hrel
    by_cases hlt : i < N
    · obtain ⟨x, HX⟩ := hid_intro (lens.getD i 0)
      have hcx : wr.cell? ⟨h, off + i, none⟩ = some (.int .i64 (x : Int)) := (hb.cell HZ.out).trans (by rw [HX.out]; exact HI.out.2 i (by have := HN.out; omega))
      have hx15 : x ≤ 15 := by rw [HX.out]; exact H15.out _ (getD_mem (by have := HN.out; omega))
      have hcc := rowi_cell x h1 (by rw [rawCnt_len]; omega)
      have hff := frozen_of_row wr (w.heap.size + 1) x _ _ h1
      obtain ⟨c, HCc⟩ := hid_intro ((rawCnt (lens.take i)).getD x 0)
      rw [← HCc.out] at hcc
      have hcN : c ≤ 400 := by
        rw [HCc.out, rawCnt_get _ _ (by omega)]
        have := List.count_le_length (a := x) (l := lens.take i)
        simp at this; have := HN.out; omega
      have HS : Hid ((rawCnt (lens.take i)).set x (c + 1) = rawCnt (lens.take (i + 1))) := by
        rw [HCc.out, HX.out]; exact rawCnt_step lens i (by have := HN.out; omega) (by have := HX.out; omega)
      go_wp2
      go_roundw
      case rel => exact ⟨i + 1, by omega, by go_num, by rw [← HS.out]; exact rowi_step (c + 1) (by simp) h1, (heap_setCell_other wr _ _ _ (by simp)).trans h0, hb.setCell (by simp) _⟩
      case measure => simp [intOf]; omega
    · obtain rfl : i = N := by omega
      rw [List.take_of_length_le (by have := HN.out; omega)] at h1
      have hcc := rowi_cell 0 h1 (by rw [rawCnt_len]; omega)
      have hff := frozen_of_row wr (w.heap.size + 1) 0 _ _ h1
      have h2 : (wr.setCell ⟨w.heap.size + 1, 0, none⟩ (.int .i64 0)).heap[w.heap.size + 1]? = some (.cells (rowi (cntsL lens)) 181 (0, 0)) := by rw [← rawCnt_end]; exact rowi_step 0 (by simp) h1
      have h3 : (wr.setCell ⟨w.heap.size + 1, 0, none⟩ (.int .i64 0)).heap[w.heap.size]? = some (.cells (rowi (List.replicate 16 0)) 181 (0, 0)) := (heap_setCell_other wr _ _ _ (by simp)).trans h0
      go_wp2_with (first
        | (refine wpList_load_row rfl 181 (.tmp 3) rfl (w.heap.size + 1) rfl 181 (rowi (cntsL lens)) (0, 0) _ h2 Tryz.underlying181 rfl ?_ ?_; (rw [rowi_size, cntsL_len]; exact sizeCounts))
        | (refine wpList_store_row rfl 181 (.tmp 2) _ rfl w.heap.size (rowi (cntsL lens)) rfl rfl 181 _ h3 ?_ ?_ ?_ ?_; (rw [rowi_size, cntsL_len]; exact sizeCounts); (rw [rowi_size, rowi_size, cntsL_len]; rfl); exact rowi_one _))
      refine bodyPost_ret_by (v := .agg (rowi (cntsL lens))) (results_cell_row Tryz.results112 _ _ w.heap.size 181 _ (0, 0) _ rfl (setRow_heap _ _ _ _ _ _ h3) Tryz.underlying181 rfl (by rw [rowi_size, cntsL_len]; exact sizeCounts)) rfl ⟨rfl, ?_⟩
      exact below_row (hb.setCell (by simp) _) (Nat.le_refl _) _
end Go.Proofs.YtgfbbcnnmoamnaaGreatDoor
