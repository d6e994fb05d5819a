/- The program's codes, if lengths are right. -/
import Derived.Test.YtfohjjcihioinaaGreatDoorPK
import Derived.Test.YtfohjjcihioinaaGreatDoorSort
namespace Go.Proofs.YtfohjjcihioinaaGreatDoor
open Go.RowKit

/-- no code -/
def zeroCode : Array Value := #[.int .i64 0, .int .i64 0, .int .i64 0, .int .i64 0, .int .i64 0, .int .i64 0, .int .i64 0, .int .i64 0, .int .i64 0, .int .i64 0, .int .i64 0, .int .i64 0, .int .i64 0, .int .i64 0, .int .i64 0, .int .i64 0, .slice none 0 0]
theorem zeroCode_size : zeroCode.size = 17 := rfl
theorem zeroCode_one : zeroCode.all (·.oneCell') = true := by kernel_rfl
theorem rsum_csum (lens : List Nat) : ∀ i, i ≤ 16 → rsum (cntsL lens) i = csum (fun n => 2 ^ (15 - n)) lens i
  | 0, _ => rfl
  | i + 1, h => by simp only [rsum, csum]; rw [rsum_csum lens i (by omega), cntsL_get lens i (by omega)]
theorem right_iff (lens : List Nat) (h : ∀ n ∈ lens, n ≤ 15) : rsum (cntsL lens) 16 = kraft lens := by rw [rsum_csum lens 16 (by omega), csum_kraft lens h]
theorem cntsL_le (lens : List Nat) (hl : lens.length ≤ 400) : ∀ n ∈ cntsL lens, n ≤ 400 := by
  intro n hn
  simp only [cntsL, List.mem_map] at hn
  obtain ⟨m, _, rfl⟩ := hn
  exact Nat.le_trans (cnt_le lens m) hl
theorem results_row_tmp {P : Program} {fn : Func} {p t : Tmp} {ty : TypeId} (h : fn.results = #[.cell p ty, .tmp t]) (tmps : Array Value) (w : World) (g : Nat) (tt : TypeId) (cs : Array Value) (fr : Nat × Nat) (d : TypeDesc)
    (hp : tmps.getD p undef = .pointer (some ⟨g, 0, none⟩)) (hg : w.heap[g]? = some (.cells cs tt fr))
    (hu : P.underlying ty = some d) (hd : (match d with | .struct _ | .array _ _ => true | _ => false) = true) (hi : (P.info? ty).map (·.size) = some cs.size) :
    (results fn tmps).run P w = .ok (.tuple #[.agg cs, tmps.getD t undef]) w := by
  have hp' : tmps[p]?.getD undef = .pointer (some ⟨g, 0, none⟩) := by simpa using hp
  simp [results, h, hp', asAddr, run_loadVar_row w g tt ty cs fr d hg hu hd hi]
theorem CA_one (lens : List Nat) (b : Nat) : (CA lens b).all (·.oneCell') = true := by
  unfold CA; rw [Array.all_push, rowi_one]; rfl
set_option maxHeartbeats 1000000 in
set_option maxRecDepth 8000 in
theorem rightCode_any {er : Errs} (lens : List Nat) (hl : lens.length ≤ 400) (h15 : ∀ n ∈ lens, n ≤ 15) (h off cap : Nat) (w : World) (hI : IntsAt w h off lens) (hE : er.At w) :
    Calls Tryz.prog 263 #[.slice (some ⟨h, off, none⟩) lens.length cap] w fun e w' =>
      (kraft lens = 32768 ∧ ∃ b, e = .returned (.tuple #[.agg (CA lens b), .nilIface]) ∧ w.heap.size ≤ b ∧ w'.heap[b]? = some (.cells (rowi (codeSyms lens)) 3 (0, 0)) ∧ Below w.heap.size w w') ∨
      (kraft lens ≠ 32768 ∧ e = .returned (.tuple #[.agg zeroCode, errV er.lengths]) ∧ Below w.heap.size w w') := by
  obtain ⟨N, HN⟩ := hid_intro lens.length
  have hc := fun w hI => countsOf_any lens hl h15 h off cap w hI
  have hr := fun w => right_any (cntsL lens) (cntsL_len lens) (cntsL_le lens hl) w
  have hk := fun w hI => codeOf_any lens hl h15 h off cap w hI
  rw [right_iff lens h15] at hr
  rw [← HN.out] at hc hk ⊢
  obtain ⟨A, HA⟩ := hid_intro (rowi (cntsL lens))
  rw [← HA.out] at hc hr
  have HC : Hid _ := hc
  have HR : Hid _ := hr
  have HK : Hid _ := hk
  have HI : Hid (IntsAt w h off lens) := hI
  clear hI h15 hc hr hk
  by_cases hkr : kraft lens = 32768
  · rw [decide_eq_true hkr] at HR
    refine Calls.mono ?_ (fun e w' (x : ∃ b, e = .returned (.tuple #[.agg (CA lens b), .nilIface]) ∧ w.heap.size ≤ b ∧ w'.heap[b]? = some (.cells (rowi (codeSyms lens)) 3 (0, 0)) ∧ Below w.heap.size w w') => .inl ⟨hkr, x⟩)
    clear hkr hE
    go_enter Tryz.func263, Tryz.ntmps263
    go_wp2_with (first
      | (go_at_call 160; refine (HC.out _ (HI.out.keep ((Below.refl _ w).alloc (Nat.le_refl _) _))).mono ?_; rintro e w1 ⟨rfl, hb1⟩; have HB1 := (show Hid _ from hb1); clear hb1)
      | (go_at_call 299; refine (HR.out _).mono ?_; rintro e w2 ⟨rfl, hb2⟩; have HB2 := (show Hid _ from hb2); clear hb2)
      | (go_at_call 116; refine (HK.out _ (((HI.out.keep ((Below.refl _ w).alloc (Nat.le_refl _) _)).keep HB1.out).keep HB2.out)).mono ?_; rintro e w3 ⟨b, rfl, hb3, hcs3, hbl3⟩; have z1 := HB1.out.size; have z2 := HB2.out.size; simp only [World.size_alloc] at z1; have HR3 := (show Hid _ from ((hbl3.block w.heap.size (by omega)).trans ((HB2.out.block w.heap.size (by omega)).trans ((HB1.out.block w.heap.size (by simp)).trans (heap_alloc_new w _))))); have HB3 := (show Hid (Below w.heap.size w w3) from ((((Below.refl _ w).alloc (Nat.le_refl _) _).trans (HB1.out.mono (by simp))).trans (HB2.out.mono (by omega))).trans (hbl3.mono (by omega))); clear hbl3)
      | (refine wpList_store_row rfl 107 (.tmp 2) (.tmp 11) rfl w.heap.size (CA lens b) rfl rfl 107 _ HR3.out ?_ ?_ ?_ ?_; (rw [CA_size]; exact sizeCode); (rw [CA_size]; rfl); exact CA_one lens b))
    refine bodyPost_ret_by (v := .tuple #[.agg (CA lens b), .nilIface]) (results_row_tmp Tryz.results263 _ _ w.heap.size 107 (CA lens b) (0, 0) _ rfl (setRow_heap _ _ _ _ _ _ HR3.out) Tryz.underlying107 rfl (by rw [CA_size]; exact sizeCode)) rfl ⟨b, rfl, by omega, ?_, below_row HB3.out (Nat.le_refl _) _⟩
    exact (setRow_other _ _ _ _ (by omega)).trans hcs3
  · rw [decide_eq_false hkr] at HR
    refine Calls.mono ?_ (fun e w' (x : e = .returned (.tuple #[.agg zeroCode, errV er.lengths]) ∧ Below w.heap.size w w') => .inr ⟨hkr, x⟩)
    have HE : Hid (er.At w) := hE
    clear hkr hE
    go_enter Tryz.func263, Tryz.ntmps263
    go_wp2_with (first
      | (go_at_call 160; refine (HC.out _ (HI.out.keep ((Below.refl _ w).alloc (Nat.le_refl _) _))).mono ?_; rintro e w1 ⟨rfl, hb1⟩; have HB1 := (show Hid _ from hb1); clear hb1)
      | (go_at_call 299; refine (HR.out _).mono ?_; rintro e w2 ⟨rfl, hb2⟩; have HB2 := (show Hid _ from hb2); clear hb2; have z1 := HB1.out.size; simp only [World.size_alloc] at z1; have HB3 := (show Hid (Below w.heap.size w w2) from (((Below.refl _ w).alloc (Nat.le_refl _) _).trans (HB1.out.mono (by simp))).trans (HB2.out.mono (by omega))); have he := (HE.out.below HB3.out HE.out.size).lengths; have HR3 := (show Hid _ from (((HB2.out.block w.heap.size (by omega)).trans ((HB1.out.block w.heap.size (by simp)).trans (heap_alloc_new w _)))))))
    refine wp_region_still_lit (by kernel_rfl) (by kernel_rfl) ?_
    still_step
    still_step
    refine wpStill_step (fun K hK => ?_)
    refine still_store_row 107 (.tmp 2) (.tmp 8) rfl w.heap.size _ rfl rfl 107 HR3.out sizeCode (by kernel_rfl) (hK _ ?_)
    clear hK K
    repeat still_step
    refine wpStill_nil ?_
    go_wp2
    refine bodyPost_ret_by (results_row_tmp Tryz.results263 _ _ w.heap.size 107 _ (0, 0) _ rfl HR3.out Tryz.underlying107 rfl sizeCode) rfl ⟨rfl, HB3.out.drew⟩
set_option maxHeartbeats 1000000 in
set_option maxRecDepth 8000 in
theorem distanceCode_any {er : Errs} (lens : List Nat) (hl : lens.length ≤ 400) (h15 : ∀ n ∈ lens, n ≤ 15) (h off cap : Nat) (w : World) (hI : IntsAt w h off lens) (hE : er.At w) :
    Calls Tryz.prog 266 #[.slice (some ⟨h, off, none⟩) lens.length cap] w fun e w' =>
      (¬ (kraft lens ≠ 32768 ∧ lens.sum > 1) ∧ ∃ b, e = .returned (.tuple #[.agg (CA lens b), .nilIface]) ∧ w.heap.size ≤ b ∧ w'.heap[b]? = some (.cells (rowi (codeSyms lens)) 3 (0, 0)) ∧ Below w.heap.size w w') ∨
      ((kraft lens ≠ 32768 ∧ lens.sum > 1) ∧ e = .returned (.tuple #[.agg zeroCode, errV er.lengths]) ∧ Below w.heap.size w w') := by
  obtain ⟨N, HN⟩ := hid_intro lens.length
  have hc := fun w hI => countsOf_any lens hl h15 h off cap w hI
  have hr := fun w => right_any (cntsL lens) (cntsL_len lens) (cntsL_le lens hl) w
  have hm := fun w => most_any (cntsL lens) (cntsL_len lens) w
  have hk := fun w hI => codeOf_any lens hl h15 h off cap w hI
  have hmi := most_iff lens h15
  rw [right_iff lens h15] at hr
  rw [← HN.out] at hc hk ⊢
  have hsA : (rowi (cntsL lens)).size = 16 := by rw [rowi_size, cntsL_len]
  have h1A := rowi_one (cntsL lens)
  obtain ⟨A, HA⟩ := hid_intro (rowi (cntsL lens))
  rw [← HA.out] at hc hr hm hsA h1A
  have HC : Hid _ := hc
  have HR : Hid _ := hr
  have HM : Hid _ := hm
  have HK : Hid _ := hk
  have HI : Hid (IntsAt w h off lens) := hI
  have HE : Hid (er.At w) := hE
  clear hI h15 hc hr hk hm hE
  obtain ⟨k, HKr⟩ := hid_intro (decide (kraft lens = 32768))
  obtain ⟨m, HMo⟩ := hid_intro (decide (lens.sum ≤ 1))
  have HM2 : Hid (∀ w, Calls Tryz.prog 300 #[.agg A] w fun e w' => e = .returned (.bool m) ∧ Below w.heap.size w w') := by
    have e : decide (cntsL lens = List.replicate 16 0 ∨ cntsL lens = [0, 1, 0, 0, 0, 0, 0, 0, 0, 0, 0, 0, 0, 0, 0, 0]) = m := by rw [HMo.out]; exact decide_eq_decide.2 hmi
    intro w; have := HM.out w; rw [e] at this; exact this
  rw [← HKr.out] at HR
  have HP : Hid ((¬ (kraft lens ≠ 32768 ∧ lens.sum > 1)) ↔ (k || m) = true) := by
    show _ ↔ _
    rw [HKr.out, HMo.out, Bool.or_eq_true, decide_eq_true_iff, decide_eq_true_iff]
    constructor
    · intro h
      by_cases hk : kraft lens = 32768
      · exact .inl hk
      · exact .inr (by rcases Nat.lt_or_ge 1 lens.sum with h2 | h2
                       · exact absurd ⟨hk, h2⟩ h
                       · exact h2)
    · rintro (h | h) ⟨h1, h2⟩
      · exact h1 h
      · omega
  clear HM hmi HKr HMo
  obtain ⟨J, HJ⟩ := hid_intro (k || m)
  have HJ2 : Hid (if J = true then (∀ e w', (∃ b, e = .returned (.tuple #[.agg (CA lens b), .nilIface]) ∧ w.heap.size ≤ b ∧ w'.heap[b]? = some (.cells (rowi (codeSyms lens)) 3 (0, 0)) ∧ Below w.heap.size w w') → ((¬ (kraft lens ≠ 32768 ∧ lens.sum > 1) ∧ ∃ b, e = Ending.returned (.tuple #[.agg (CA lens b), .nilIface]) ∧ w.heap.size ≤ b ∧ w'.heap[b]? = some (.cells (rowi (codeSyms lens)) 3 (0, 0)) ∧ Below w.heap.size w w') ∨
      ((kraft lens ≠ 32768 ∧ lens.sum > 1) ∧ e = Ending.returned (.tuple #[.agg zeroCode, errV er.lengths]) ∧ Below w.heap.size w w')))
     else (∀ e w', (e = Ending.returned (.tuple #[.agg zeroCode, errV er.lengths]) ∧ Below w.heap.size w w') → ((¬ (kraft lens ≠ 32768 ∧ lens.sum > 1) ∧ ∃ b, e = Ending.returned (.tuple #[.agg (CA lens b), .nilIface]) ∧ w.heap.size ≤ b ∧ w'.heap[b]? = some (.cells (rowi (codeSyms lens)) 3 (0, 0)) ∧ Below w.heap.size w w') ∨
      ((kraft lens ≠ 32768 ∧ lens.sum > 1) ∧ e = Ending.returned (.tuple #[.agg zeroCode, errV er.lengths]) ∧ Below w.heap.size w w')))) := by
    show (if J = true then _ else _)
    split
    · rename_i hj; intro e w' x; exact .inl ⟨HP.out.2 (by rw [← HJ.out]; exact hj), x⟩
    · rename_i hj; intro e w' x
      refine .inr ⟨?_, x⟩
      by_cases hq : kraft lens ≠ 32768 ∧ lens.sum > 1
      · exact hq
      · exact absurd (HP.out.1 hq) (by rw [← HJ.out]; exact hj)
  have key : Calls Tryz.prog 266 #[.slice (some ⟨h, off, none⟩) N cap] w fun e w' => if J = true then (∃ b, e = .returned (.tuple #[.agg (CA lens b), .nilIface]) ∧ w.heap.size ≤ b ∧ w'.heap[b]? = some (.cells (rowi (codeSyms lens)) 3 (0, 0)) ∧ Below w.heap.size w w') else (e = .returned (.tuple #[.agg zeroCode, errV er.lengths]) ∧ Below w.heap.size w w') := by
    clear HJ2 HP
    cases k <;> cases m
    · have hJ : J = false := HJ.out
      subst hJ
      go_enter Tryz.func266, Tryz.ntmps266
      go_wp2_with (first
        | (go_at_call 160; refine (HC.out _ (HI.out.keep ((Below.refl _ w).alloc (Nat.le_refl _) _))).mono ?_; rintro e w1 ⟨rfl, hb1⟩; have HB1 := (show Hid _ from hb1); clear hb1; have z1 := HB1.out.size; simp only [World.size_alloc] at z1)
        | (refine wpList_store_row rfl 105 (.tmp 4) (.tmp 6) rfl w1.heap.size A rfl rfl 105 _ (heap_alloc_new w1 _) ?_ ?_ ?_ ?_; (rw [hsA]; exact sizeCounts); (rw [hsA]; rfl); exact h1A; (rw [World.setRow_alloc_new]; have hA1 := heap_alloc_new w1 (.cells A 105)))
        | (go_at_call 299; refine (HR.out _).mono ?_; rintro e w2 ⟨rfl, hb2⟩; have HB2 := (show Hid _ from hb2); clear hb2; have z2 := HB2.out.size; simp only [World.size_alloc] at z2; have hA2 := (HB2.out.block w1.heap.size (by simp)).trans hA1; clear hA1)
        | (refine wpList_load_row rfl 105 (.tmp 4) rfl w1.heap.size rfl 105 A (0, 0) _ hA1 Tryz.underlying105 rfl ?_ ?_; (rw [hsA]; exact sizeCounts))
        | (refine wpList_load_rowW ?_ 105 (.tmp 4) rfl w1.heap.size rfl 105 A (0, 0) _ hA2 Tryz.underlying105 rfl ?_ ?_; rfl; (rw [hsA]; exact sizeCounts))
        | (go_at_call 300; refine (HM2.out _).mono ?_; rintro e w3 ⟨rfl, hb3⟩; have HB3 := (show Hid _ from hb3); clear hb3; have z3 := HB3.out.size; have HBX := (show Hid (Below w.heap.size w w3) from (((((Below.refl _ w).alloc (Nat.le_refl _) _).trans (HB1.out.mono (by simp))).alloc (by omega) _).trans (HB2.out.mono (by simp; omega))).trans (HB3.out.mono (by omega))); have HRX := (show Hid _ from ((HB3.out.block w.heap.size (by omega)).trans ((HB2.out.block w.heap.size (by simp; omega)).trans (alloc_keeps ((HB1.out.block w.heap.size (by simp)).trans (heap_alloc_new w _))))))))
      have he := (HE.out.below HBX.out HE.out.size).lengths
      refine wp_region_still_lit (by kernel_rfl) (by kernel_rfl) ?_
      still_step
      still_step
      refine wpStill_step (fun K hK => ?_)
      refine still_store_row 107 (.tmp 2) (.tmp 15) rfl w.heap.size _ rfl rfl 107 HRX.out sizeCode (by kernel_rfl) (hK _ ?_)
      clear hK K
      repeat still_step
      refine wpStill_nil ?_
      go_wp2
      refine bodyPost_ret_by (results_row_tmp Tryz.results266 _ _ w.heap.size 107 _ (0, 0) _ rfl HRX.out Tryz.underlying107 rfl sizeCode) rfl ⟨rfl, HBX.out.drew⟩
    · have hJ : J = true := HJ.out
      subst hJ
      go_enter Tryz.func266, Tryz.ntmps266
      go_wp2_with (first
        | (go_at_call 160; refine (HC.out _ (HI.out.keep ((Below.refl _ w).alloc (Nat.le_refl _) _))).mono ?_; rintro e w1 ⟨rfl, hb1⟩; have HB1 := (show Hid _ from hb1); clear hb1; have z1 := HB1.out.size; simp only [World.size_alloc] at z1)
        | (refine wpList_store_row rfl 105 (.tmp 4) (.tmp 6) rfl w1.heap.size A rfl rfl 105 _ (heap_alloc_new w1 _) ?_ ?_ ?_ ?_; (rw [hsA]; exact sizeCounts); (rw [hsA]; rfl); exact h1A; (rw [World.setRow_alloc_new]; have hA1 := heap_alloc_new w1 (.cells A 105)))
        | (go_at_call 299; refine (HR.out _).mono ?_; rintro e w2 ⟨rfl, hb2⟩; have HB2 := (show Hid _ from hb2); clear hb2; have z2 := HB2.out.size; simp only [World.size_alloc] at z2; have hA2 := (HB2.out.block w1.heap.size (by simp)).trans hA1; clear hA1)
        | (refine wpList_load_row rfl 105 (.tmp 4) rfl w1.heap.size rfl 105 A (0, 0) _ hA1 Tryz.underlying105 rfl ?_ ?_; (rw [hsA]; exact sizeCounts))
        | (refine wpList_load_rowW ?_ 105 (.tmp 4) rfl w1.heap.size rfl 105 A (0, 0) _ hA2 Tryz.underlying105 rfl ?_ ?_; rfl; (rw [hsA]; exact sizeCounts))
        | (go_at_call 300; refine (HM2.out _).mono ?_; rintro e w3 ⟨rfl, hb3⟩; have HB3 := (show Hid _ from hb3); clear hb3; have z3 := HB3.out.size; have HBX := (show Hid (Below w.heap.size w w3) from (((((Below.refl _ w).alloc (Nat.le_refl _) _).trans (HB1.out.mono (by simp))).alloc (by omega) _).trans (HB2.out.mono (by simp; omega))).trans (HB3.out.mono (by omega))); have HRX := (show Hid _ from ((HB3.out.block w.heap.size (by omega)).trans ((HB2.out.block w.heap.size (by simp; omega)).trans (alloc_keeps ((HB1.out.block w.heap.size (by simp)).trans (heap_alloc_new w _)))))))
        | (go_at_call 116; refine (HK.out _ (HI.out.below HBX.out HI.out.1)).mono ?_; rintro e w4 ⟨b, rfl, hb4, hcs4, hbl4⟩; have HR4 := (show Hid _ from ((hbl4.block w.heap.size (by omega)).trans HRX.out)); have HB4 := (show Hid (Below w.heap.size w w4) from HBX.out.trans (hbl4.mono (by omega))); clear hbl4)
        | (refine wpList_store_row rfl 107 (.tmp 2) _ rfl w.heap.size (CA lens b) rfl rfl 107 _ HR4.out ?_ ?_ ?_ ?_; (rw [CA_size]; exact sizeCode); (rw [CA_size]; rfl); exact CA_one lens b))
      refine bodyPost_ret_by (v := .tuple #[.agg (CA lens b), .nilIface]) (results_row_tmp Tryz.results266 _ _ w.heap.size 107 (CA lens b) (0, 0) _ rfl (setRow_heap _ _ _ _ _ _ HR4.out) Tryz.underlying107 rfl (by rw [CA_size]; exact sizeCode)) rfl ⟨b, rfl, by omega, ?_, below_row HB4.out (Nat.le_refl _) _⟩
      exact (setRow_other _ _ _ _ (by omega)).trans hcs4
    · have hJ : J = true := HJ.out
      subst hJ
      go_enter Tryz.func266, Tryz.ntmps266
      go_wp2_with (first
        | (go_at_call 160; refine (HC.out _ (HI.out.keep ((Below.refl _ w).alloc (Nat.le_refl _) _))).mono ?_; rintro e w1 ⟨rfl, hb1⟩; have HB1 := (show Hid _ from hb1); clear hb1; have z1 := HB1.out.size; simp only [World.size_alloc] at z1)
        | (refine wpList_store_row rfl 105 (.tmp 4) (.tmp 6) rfl w1.heap.size A rfl rfl 105 _ (heap_alloc_new w1 _) ?_ ?_ ?_ ?_; (rw [hsA]; exact sizeCounts); (rw [hsA]; rfl); exact h1A; (rw [World.setRow_alloc_new]; have hA1 := heap_alloc_new w1 (.cells A 105)))
        | (go_at_call 299; refine (HR.out _).mono ?_; rintro e w2 ⟨rfl, hb2⟩; have HB2 := (show Hid _ from hb2); clear hb2; have z2 := HB2.out.size; simp only [World.size_alloc] at z2; have hA2 := (HB2.out.block w1.heap.size (by simp)).trans hA1; clear hA1; have HBX := (show Hid (Below w.heap.size w w2) from ((((Below.refl _ w).alloc (Nat.le_refl _) _).trans (HB1.out.mono (by simp))).alloc (by omega) _).trans (HB2.out.mono (by simp; omega))); have HRX := (show Hid _ from ((HB2.out.block w.heap.size (by simp; omega)).trans (alloc_keeps ((HB1.out.block w.heap.size (by simp)).trans (heap_alloc_new w _))))))
        | (refine wpList_load_row rfl 105 (.tmp 4) rfl w1.heap.size rfl 105 A (0, 0) _ hA1 Tryz.underlying105 rfl ?_ ?_; (rw [hsA]; exact sizeCounts))
        | (refine wpList_load_rowW ?_ 105 (.tmp 4) rfl w1.heap.size rfl 105 A (0, 0) _ hA2 Tryz.underlying105 rfl ?_ ?_; rfl; (rw [hsA]; exact sizeCounts))
        | (go_at_call 300; refine (HM2.out _).mono ?_; rintro e w3 ⟨rfl, hb3⟩; have HB3 := (show Hid _ from hb3); clear hb3; have z3 := HB3.out.size)
        | (go_at_call 116; refine (HK.out _ (HI.out.below HBX.out HI.out.1)).mono ?_; rintro e w4 ⟨b, rfl, hb4, hcs4, hbl4⟩; have HR4 := (show Hid _ from ((hbl4.block w.heap.size (by omega)).trans HRX.out)); have HB4 := (show Hid (Below w.heap.size w w4) from HBX.out.trans (hbl4.mono (by omega))); clear hbl4)
        | (refine wpList_store_row rfl 107 (.tmp 2) _ rfl w.heap.size (CA lens b) rfl rfl 107 _ HR4.out ?_ ?_ ?_ ?_; (rw [CA_size]; exact sizeCode); (rw [CA_size]; rfl); exact CA_one lens b))
      refine bodyPost_ret_by (v := .tuple #[.agg (CA lens b), .nilIface]) (results_row_tmp Tryz.results266 _ _ w.heap.size 107 (CA lens b) (0, 0) _ rfl (setRow_heap _ _ _ _ _ _ HR4.out) Tryz.underlying107 rfl (by rw [CA_size]; exact sizeCode)) rfl ⟨b, rfl, by omega, ?_, below_row HB4.out (Nat.le_refl _) _⟩
      exact (setRow_other _ _ _ _ (by omega)).trans hcs4
    · have hJ : J = true := HJ.out
      subst hJ
      go_enter Tryz.func266, Tryz.ntmps266
      go_wp2_with (first
        | (go_at_call 160; refine (HC.out _ (HI.out.keep ((Below.refl _ w).alloc (Nat.le_refl _) _))).mono ?_; rintro e w1 ⟨rfl, hb1⟩; have HB1 := (show Hid _ from hb1); clear hb1; have z1 := HB1.out.size; simp only [World.size_alloc] at z1)
        | (refine wpList_store_row rfl 105 (.tmp 4) (.tmp 6) rfl w1.heap.size A rfl rfl 105 _ (heap_alloc_new w1 _) ?_ ?_ ?_ ?_; (rw [hsA]; exact sizeCounts); (rw [hsA]; rfl); exact h1A; (rw [World.setRow_alloc_new]; have hA1 := heap_alloc_new w1 (.cells A 105)))
        | (go_at_call 299; refine (HR.out _).mono ?_; rintro e w2 ⟨rfl, hb2⟩; have HB2 := (show Hid _ from hb2); clear hb2; have z2 := HB2.out.size; simp only [World.size_alloc] at z2; have hA2 := (HB2.out.block w1.heap.size (by simp)).trans hA1; clear hA1; have HBX := (show Hid (Below w.heap.size w w2) from ((((Below.refl _ w).alloc (Nat.le_refl _) _).trans (HB1.out.mono (by simp))).alloc (by omega) _).trans (HB2.out.mono (by simp; omega))); have HRX := (show Hid _ from ((HB2.out.block w.heap.size (by simp; omega)).trans (alloc_keeps ((HB1.out.block w.heap.size (by simp)).trans (heap_alloc_new w _))))))
        | (refine wpList_load_row rfl 105 (.tmp 4) rfl w1.heap.size rfl 105 A (0, 0) _ hA1 Tryz.underlying105 rfl ?_ ?_; (rw [hsA]; exact sizeCounts))
        | (refine wpList_load_rowW ?_ 105 (.tmp 4) rfl w1.heap.size rfl 105 A (0, 0) _ hA2 Tryz.underlying105 rfl ?_ ?_; rfl; (rw [hsA]; exact sizeCounts))
        | (go_at_call 300; refine (HM2.out _).mono ?_; rintro e w3 ⟨rfl, hb3⟩; have HB3 := (show Hid _ from hb3); clear hb3; have z3 := HB3.out.size)
        | (go_at_call 116; refine (HK.out _ (HI.out.below HBX.out HI.out.1)).mono ?_; rintro e w4 ⟨b, rfl, hb4, hcs4, hbl4⟩; have HR4 := (show Hid _ from ((hbl4.block w.heap.size (by omega)).trans HRX.out)); have HB4 := (show Hid (Below w.heap.size w w4) from HBX.out.trans (hbl4.mono (by omega))); clear hbl4)
        | (refine wpList_store_row rfl 107 (.tmp 2) _ rfl w.heap.size (CA lens b) rfl rfl 107 _ HR4.out ?_ ?_ ?_ ?_; (rw [CA_size]; exact sizeCode); (rw [CA_size]; rfl); exact CA_one lens b))
      refine bodyPost_ret_by (v := .tuple #[.agg (CA lens b), .nilIface]) (results_row_tmp Tryz.results266 _ _ w.heap.size 107 (CA lens b) (0, 0) _ rfl (setRow_heap _ _ _ _ _ _ HR4.out) Tryz.underlying107 rfl (by rw [CA_size]; exact sizeCode)) rfl ⟨b, rfl, by omega, ?_, below_row HB4.out (Nat.le_refl _) _⟩
      exact (setRow_other _ _ _ _ (by omega)).trans hcs4
  refine key.mono fun e w' x => ?_
  have := HJ2.out
  cases J
  · exact this e w' x
  · exact this e w' x
end Go.Proofs.YtfohjjcihioinaaGreatDoor
