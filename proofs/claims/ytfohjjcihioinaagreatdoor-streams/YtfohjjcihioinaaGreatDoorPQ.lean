/- The program's own codes of a block. -/
import Derived.Test.YtfohjjcihioinaaGreatDoorPP
namespace Go.Proofs.YtfohjjcihioinaaGreatDoor
open Go.RowKit

theorem distanceCode_ok {er : Errs} (lens : List Nat) (hl : lens.length ≤ 400) (h15 : ∀ n ∈ lens, n ≤ 15) (h off cap : Nat) (w : World) (hI : IntsAt w h off lens) (hE : er.At w) (hk : ¬ (kraft lens ≠ 32768 ∧ lens.sum > 1)) :
    Calls Tryz.prog 266 #[.slice (some ⟨h, off, none⟩) lens.length cap] w fun e w' => ∃ b, e = .returned (.tuple #[.agg (CA lens b), .nilIface]) ∧ w.heap.size ≤ b ∧ w'.heap[b]? = some (.cells (rowi (codeSyms lens)) 3 (0, 0)) ∧ Below w.heap.size w w' := by
  refine (distanceCode_any lens hl h15 h off cap w hI hE).mono ?_
  rintro e w' (⟨_, x⟩ | ⟨x, _⟩)
  · exact x
  · exact absurd x hk
theorem distanceCode_bad {er : Errs} (lens : List Nat) (hl : lens.length ≤ 400) (h15 : ∀ n ∈ lens, n ≤ 15) (h off cap : Nat) (w : World) (hI : IntsAt w h off lens) (hE : er.At w) (hk : kraft lens ≠ 32768 ∧ lens.sum > 1) :
    Calls Tryz.prog 266 #[.slice (some ⟨h, off, none⟩) lens.length cap] w fun e w' => e = .returned (.tuple #[.agg zeroCode, errV er.lengths]) ∧ Below w.heap.size w w' := by
  refine (distanceCode_any lens hl h15 h off cap w hI hE).mono ?_
  rintro e w' (⟨x, _⟩ | ⟨_, x⟩)
  · exact absurd hk x
  · exact x
/-- no codes -/
def zeroCodes : Array Value := zeroCode ++ zeroCode
theorem zeroCodes_size : zeroCodes.size = 34 := rfl
theorem zeroCodes_one : zeroCodes.all (·.oneCell') = true := by kernel_rfl
/-- are the lengths of a block's codes right? -/
def okCodes (l d : List Nat) : Prop := ¬ (l.getD 256 0 = 0 ∨ kraft l ≠ 32768 ∨ (kraft d ≠ 32768 ∧ d.sum > 1))
set_option maxHeartbeats 1000000 in
set_option maxRecDepth 8000 in
theorem codesOf_any {er : Errs} (l d : List Nat) (hl : l.length ≤ 400) (hd : d.length ≤ 400) (hl2 : 257 ≤ l.length) (l15 : ∀ n ∈ l, n ≤ 15) (d15 : ∀ n ∈ d, n ≤ 15) (h cl cd : Nat) (w : World) (hI : IntsAt w h 0 l) (hJ : IntsAt w h l.length d) (hE : er.At w) :
    Calls Tryz.prog 224 #[.slice (some ⟨h, 0, none⟩) l.length cl, .slice (some ⟨h, l.length, none⟩) d.length cd] w fun e w' =>
      (okCodes l d ∧ ∃ b1 b2, e = .returned (.tuple #[.agg (CC l d b1 b2), .nilIface]) ∧ w.heap.size ≤ b1 ∧ w.heap.size ≤ b2 ∧ w'.heap[b1]? = some (.cells (rowi (codeSyms l)) 3 (0, 0)) ∧ w'.heap[b2]? = some (.cells (rowi (codeSyms d)) 3 (0, 0)) ∧ Below w.heap.size w w') ∨
      (¬ okCodes l d ∧ ∃ b, er.bad b ∧ e = .returned (.tuple #[.agg zeroCodes, errV b]) ∧ Below w.heap.size w w') := by
  have c256 := hI.2 256 (by omega)
  have ro := fun w hI hE hk => rightCode_ok (er := er) l hl l15 h 0 cl w hI hE hk
  have rb := fun w hI hE hk => rightCode_bad (er := er) l hl l15 h 0 cl w hI hE hk
  have dO := fun w hI hE hk => distanceCode_ok (er := er) d hd d15 h l.length cd w hI hE hk
  have dB := fun w hI hE hk => distanceCode_bad (er := er) d hd d15 h l.length cd w hI hE hk
  obtain ⟨x, Hx⟩ := hid_intro (l.getD 256 0)
  rw [← Hx.out, Nat.zero_add] at c256
  have c256' : ∀ ob, (w.alloc ob).cell? ⟨h, 256, none⟩ = some (.int .i64 (x : Int)) := fun ob => (World.cell?_of_block (w := w) (Below.heap_alloc w ob h hI.1)).trans c256
  clear c256
  obtain ⟨n, Hn⟩ := hid_intro l.length
  obtain ⟨m, Hm⟩ := hid_intro d.length
  rw [← Hn.out] at ro rb dO dB hl2 hl hJ ⊢
  rw [← Hm.out] at dO dB hd ⊢
  have RO : Hid _ := ro
  have RB : Hid _ := rb
  have DO : Hid _ := dO
  have DB : Hid _ := dB
  have HI : Hid (IntsAt w h 0 l) := hI
  have HJ : Hid (IntsAt w h n d) := hJ
  have HE : Hid (er.At w) := hE
  clear ro rb dO dB hI hJ hE l15 d15
  go_enter Tryz.func224, Tryz.ntmps224
  by_cases hx : x = 0
  · have HO : Hid (¬ okCodes l d) := fun ho => ho (.inl (by rw [← Hx.out]; exact hx))
    subst hx
    go_wp2
    obtain ⟨W, HW⟩ : ∃ W, Hid (W = w.alloc (.cells zeroCodes 109)) := ⟨_, rfl⟩
    have hWe : w.alloc (.cells #[.int .i64 0, .int .i64 0, .int .i64 0, .int .i64 0, .int .i64 0, .int .i64 0, .int .i64 0, .int .i64 0, .int .i64 0, .int .i64 0, .int .i64 0, .int .i64 0, .int .i64 0, .int .i64 0, .int .i64 0, .int .i64 0, .slice none 0 0, .int .i64 0, .int .i64 0, .int .i64 0, .int .i64 0, .int .i64 0, .int .i64 0, .int .i64 0, .int .i64 0, .int .i64 0, .int .i64 0, .int .i64 0, .int .i64 0, .int .i64 0, .int .i64 0, .int .i64 0, .int .i64 0, .slice none 0 0] 109) = W := by rw [HW.out]; rfl
    rw [hWe]
    have HBW : Hid (Below w.heap.size w W) := by rw [HW.out]; exact (Below.refl _ w).alloc (Nat.le_refl _) _
    have hee := (HE.out.below HBW.out HE.out.size).noEnd
    have HR0 : Hid (W.heap[w.heap.size]? = some (.cells zeroCodes 109 (0, 0))) := by rw [HW.out]; exact heap_alloc_new w _
    clear hWe
    refine wp_region_still_lit (by kernel_rfl) (by kernel_rfl) ?_
    still_step
    still_step
    refine wpStill_step (fun K hK => ?_)
    refine still_store_row 109 (.tmp 4) (.tmp 13) rfl w.heap.size zeroCodes rfl rfl 109 HR0.out sizeCodes zeroCodes_one (hK _ ?_)
    clear hK K
    repeat still_step
    refine wpStill_nil ?_
    go_wp2
    refine bodyPost_ret_by (v := .tuple #[.agg zeroCodes, errV er.noEnd]) (results_row_tmp Tryz.results224 _ _ w.heap.size 109 zeroCodes (0, 0) _ rfl HR0.out Tryz.underlying109 rfl sizeCodes) rfl (.inr ⟨HO.out, er.noEnd, by simp [Errs.bad], rfl, HBW.out.drew⟩)
  · by_cases hk : kraft l = 32768
    · by_cases hk2 : kraft d ≠ 32768 ∧ d.sum > 1
      · have HO : Hid (¬ okCodes l d) := fun ho => ho (.inr (.inr hk2))
        go_wp2_with (first
          | (go_at_call 263; refine (RO.out _ (HI.out.keep ((Below.refl _ w).alloc (Nat.le_refl _) _)) (HE.out.below ((Below.refl _ w).alloc (Nat.le_refl _) _) HE.out.size) hk).mono ?_; rintro e w1 ⟨b1, rfl, hb11, hb12, hb1⟩; have z1 := hb1.size; simp only [World.size_alloc] at z1 hb1; have HR1 := (show Hid _ from (hb1.block w.heap.size (by omega)).trans (heap_alloc_new w _)); have HB1 := (show Hid (Below w.heap.size w w1) from ((Below.refl _ w).alloc (Nat.le_refl _) _).trans (hb1.mono (by omega))); clear hb1)
          | (refine wpList_store_row rfl 107 (.tmp 6) _ rfl w1.heap.size (CA l b1) rfl rfl 107 _ (heap_alloc_new w1 _) ?_ ?_ ?_ ?_; (rw [CA_size]; exact sizeCode); (rw [CA_size]; rfl); exact CA_one l b1; rw [World.setRow_alloc_new])
          | (go_at_call 266; refine (DB.out _ ((HJ.out.below HB1.out HJ.out.1).keep ((Below.refl _ w1).alloc (Nat.le_refl _) _)) (HE.out.below (HB1.out.alloc (by omega) _) HE.out.size) hk2).mono ?_; rintro e w2 ⟨rfl, hb2⟩; have z2 := hb2.size; simp only [World.size_alloc] at z2 hb2; have HR2 := (show Hid _ from (hb2.block w.heap.size (by omega)).trans (alloc_keeps HR1.out)); have HB2 := (show Hid (Below w.heap.size w w2) from (HB1.out.alloc (by omega) _).trans (hb2.mono (by omega))); unfold errV; clear hb2)
          | (refine wpList_store_row rfl 107 _ _ rfl w2.heap.size zeroCode rfl rfl 107 _ (heap_alloc_new w2 _) sizeCode rfl zeroCode_one ?_; rw [World.setRow_alloc_new])
          | (refine wpList_store_row rfl 109 (.tmp 4) _ rfl w.heap.size zeroCodes rfl rfl 109 _ (alloc_keeps HR2.out) sizeCodes rfl zeroCodes_one ?_; rw [setRow_same (cs := zeroCodes) (alloc_keeps HR2.out)]))
        refine bodyPost_ret_by (v := .tuple #[.agg zeroCodes, errV er.lengths]) (results_row_tmp Tryz.results224 _ _ w.heap.size 109 zeroCodes (0, 0) _ rfl (alloc_keeps HR2.out) Tryz.underlying109 rfl sizeCodes) rfl (.inr ⟨HO.out, er.lengths, by simp [Errs.bad], rfl, HB2.out.alloc (by omega) _⟩)
      · have HO : Hid (okCodes l d) := fun ho => by
          rcases ho with ho | ho | ho
          · exact hx (by rw [Hx.out]; exact ho)
          · exact ho hk
          · exact hk2 ho
        go_wp2_with (first
          | (go_at_call 263; refine (RO.out _ (HI.out.keep ((Below.refl _ w).alloc (Nat.le_refl _) _)) (HE.out.below ((Below.refl _ w).alloc (Nat.le_refl _) _) HE.out.size) hk).mono ?_; rintro e w1 ⟨b1, rfl, hb11, hb12, hb1⟩; have z1 := hb1.size; simp only [World.size_alloc] at z1 hb1; have HR1 := (show Hid _ from (hb1.block w.heap.size (by omega)).trans (heap_alloc_new w _)); have HB1 := (show Hid (Below w.heap.size w w1) from ((Below.refl _ w).alloc (Nat.le_refl _) _).trans (hb1.mono (by omega))); clear hb1)
          | (refine wpList_store_row rfl 107 (.tmp 6) _ rfl w1.heap.size (CA l b1) rfl rfl 107 _ (heap_alloc_new w1 _) ?_ ?_ ?_ ?_; (rw [CA_size]; exact sizeCode); (rw [CA_size]; rfl); exact CA_one l b1; rw [World.setRow_alloc_new])
          | (go_at_call 266; refine (DO.out _ ((HJ.out.below HB1.out HJ.out.1).keep ((Below.refl _ w1).alloc (Nat.le_refl _) _)) (HE.out.below (HB1.out.alloc (by omega) _) HE.out.size) hk2).mono ?_; rintro e w2 ⟨b2, rfl, hb21, hb22, hb2⟩; have z2 := hb2.size; simp only [World.size_alloc] at z2 hb2; have HR2 := (show Hid _ from (hb2.block w.heap.size (by omega)).trans (alloc_keeps HR1.out)); have HB2 := (show Hid (Below w.heap.size w w2) from (HB1.out.alloc (by omega) _).trans (hb2.mono (by omega))); have HL2 := (show Hid _ from (hb2.block b1 (by have := lt_of_block hb12; omega)).trans (alloc_keeps hb12)); have HV2 := (show Hid _ from (hb2.block w1.heap.size (by omega)).trans (heap_alloc_new w1 _)); clear hb2)
          | (refine wpList_store_row rfl 107 _ _ rfl w2.heap.size (CA d b2) rfl rfl 107 _ (heap_alloc_new w2 _) ?_ ?_ ?_ ?_; (rw [CA_size]; exact sizeCode); (rw [CA_size]; rfl); exact CA_one d b2; rw [World.setRow_alloc_new])
          | (refine wpList_load_row rfl 107 (.tmp 6) rfl w1.heap.size rfl 107 (CA l b1) (0, 0) _ (alloc_keeps HV2.out) Tryz.underlying107 rfl ?_ ?_; (rw [CA_size]; exact sizeCode))
          | (refine wpList_load_row rfl 107 _ rfl w2.heap.size rfl 107 (CA d b2) (0, 0) _ (heap_alloc_new w2 _) Tryz.underlying107 rfl ?_ ?_; (rw [CA_size]; exact sizeCode))
          | (refine wpList_buildTo rfl 109 _ rfl _ rfl (CC l d b1 b2) ?_ ?_; (simp only [List.map_toArray, List.map_cons, List.map_nil]; exact CC_built l d b1 b2))
          | (refine wpList_store_row rfl 109 (.tmp 4) _ rfl w.heap.size (CC l d b1 b2) rfl rfl 109 _ (alloc_keeps HR2.out) ?_ ?_ ?_ ?_; (rw [CC_size]; exact sizeCodes); (rw [CC_size]; rfl); exact CC_one l d b1 b2))
        refine bodyPost_ret_by (v := .tuple #[.agg (CC l d b1 b2), .nilIface]) (results_row_tmp Tryz.results224 _ _ w.heap.size 109 (CC l d b1 b2) (0, 0) _ rfl (setRow_heap _ _ _ _ _ _ (alloc_keeps HR2.out)) Tryz.underlying109 rfl (by rw [CC_size]; exact sizeCodes)) rfl (.inl ⟨HO.out, b1, b2, rfl, by simp at hb11; omega, by simp at hb21; omega, ?_, ?_, below_row (HB2.out.alloc (by omega) _) (Nat.le_refl _) _⟩)
        · exact (setRow_other _ _ _ _ (by simp at hb11; omega)).trans (alloc_keeps HL2.out)
        · exact (setRow_other _ _ _ _ (by simp at hb21; omega)).trans (alloc_keeps hb22)
    · have HO : Hid (¬ okCodes l d) := fun ho => ho (.inr (.inl hk))
      go_wp2_with (first
      | (go_at_call 263; refine (RB.out _ (HI.out.keep ((Below.refl _ w).alloc (Nat.le_refl _) _)) (HE.out.below ((Below.refl _ w).alloc (Nat.le_refl _) _) HE.out.size) hk).mono ?_; rintro e w1 ⟨rfl, hb1⟩; have z1 := hb1.size; simp only [World.size_alloc] at z1 hb1; have HR1 := (show Hid _ from (hb1.block w.heap.size (by omega)).trans (heap_alloc_new w _)); have HB1 := (show Hid (Below w.heap.size w w1) from ((Below.refl _ w).alloc (Nat.le_refl _) _).trans (hb1.mono (by omega))); clear hb1; unfold errV)
        | (refine wpList_store_row rfl 107 (.tmp 6) _ rfl w1.heap.size zeroCode rfl rfl 107 _ (heap_alloc_new w1 _) sizeCode rfl zeroCode_one ?_; rw [World.setRow_alloc_new])
        | (refine wpList_store_row rfl 109 (.tmp 4) _ rfl w.heap.size zeroCodes rfl rfl 109 _ (alloc_keeps HR1.out) sizeCodes rfl zeroCodes_one ?_; rw [setRow_same (cs := zeroCodes) (alloc_keeps HR1.out)]))
      refine bodyPost_ret_by (v := .tuple #[.agg zeroCodes, errV er.lengths]) (results_row_tmp Tryz.results224 _ _ w.heap.size 109 zeroCodes (0, 0) _ rfl (alloc_keeps HR1.out) Tryz.underlying109 rfl sizeCodes) rfl (.inr ⟨HO.out, er.lengths, by simp [Errs.bad], rfl, HB1.out.alloc (by omega) _⟩)
end Go.Proofs.YtfohjjcihioinaaGreatDoor
