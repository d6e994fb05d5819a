/- The program's distance. -/
import Derived.Test.YtfohjjcihioinaaGreatDoorPD
import Derived.Deep.MidRow
import Derived.Test.YtfohjjcihioinaaGreatDoorMid
import Derived.Deep.RegionWith
namespace Go.Proofs.YtfohjjcihioinaaGreatDoor
open Go.RowKit

theorem sizeCode : (Tryz.prog.info? 107).map (·.size) = some 17 := by kernel_rfl
theorem sizeCodes : (Tryz.prog.info? 109).map (·.size) = some 34 := by kernel_rfl
def distS (dl : List Nat) (s : List UInt8) (k : Nat) : Option (Nat × Nat) :=
  match dec dl s k with
  | none => none
  | some (y, k2) => if y > 29 then none else if has s k2 (distSpan y).2 then some ((distSpan y).1 + numAt s k2 (distSpan y).2, k2 + (distSpan y).2) else none
theorem distSpan_small (y : Nat) (h : y ≤ 29) : (distSpan y).1 < 100000 ∧ (distSpan y).2 ≤ 16 := by
  have : ∀ y, y < 30 → (distSpan y).1 < 100000 ∧ (distSpan y).2 ≤ 16 := by decide
  exact this y (by omega)
theorem lenSpan_small (y : Nat) (h : y ≤ 28) : (lenSpan y).1 < 300 ∧ (lenSpan y).2 ≤ 16 := by
  have : ∀ y, y < 29 → (lenSpan y).1 < 300 ∧ (lenSpan y).2 ≤ 16 := by decide
  exact this y (by omega)
section
variable {er : Errs} {g : Nat} {s : ByteArray} {lim : Nat} {fx : List Value} {k : Nat} {o : Value} {out : List UInt8}
theorem read_some {lens : List Nat} (hl : lens.length ≤ 400) {h x k' : Nat} (w : World) (hi : Inf er g s lim fx k o out w) (ht : Tab g h (codeSyms lens) o w) (hd : dec lens s.data.toList k = some (x, k')) :
    Calls Tryz.prog 220 #[.agg (CA lens h), .pointer (some ⟨g, 0, none⟩)] w fun e w' => e = .returned (.tuple #[.int .i64 (x : Int), .nilIface]) ∧ Inf er g s lim fx k' o out w' ∧ Step g o o w w' := by
  refine (read_any lens hl h w hi ht).mono ?_
  rintro e w' (⟨x2, k2, h1, h2⟩ | ⟨h1, _⟩)
  · rw [hd] at h1; injection h1 with h1; injection h1 with h3 h4; subst h3; subst h4; exact h2
  · rw [hd] at h1; cases h1
theorem read_none {lens : List Nat} (hl : lens.length ≤ 400) {h : Nat} (w : World) (hi : Inf er g s lim fx k o out w) (ht : Tab g h (codeSyms lens) o w) (hd : dec lens s.data.toList k = none) :
    Calls Tryz.prog 220 #[.agg (CA lens h), .pointer (some ⟨g, 0, none⟩)] w fun e w' => ∃ b k', er.bad b ∧ e = .returned (.tuple #[.int .i64 0, errV b]) ∧ Inf er g s lim fx k' o out w' ∧ Step g o o w w' := by
  refine (read_any lens hl h w hi ht).mono ?_
  rintro e w' (⟨x2, k2, h1, h2⟩ | ⟨h1, h2⟩)
  · rw [hd] at h1; cases h1
  · exact h2
set_option maxHeartbeats 1000000 in
set_option maxRecDepth 8000 in
theorem distance_any (dl : List Nat) (hl : dl.length ≤ 400) (h : Nat) (w : World) (hi : Inf er g s lim fx k o out w) (ht : Tab g h (codeSyms dl) o w) :
    Calls Tryz.prog 262 #[.pointer (some ⟨g, 0, none⟩), .agg (CA dl h)] w fun e w' => (∃ x k', distS dl s.data.toList k = some (x, k') ∧ e = .returned (.tuple #[.int .i64 (x : Int), .nilIface]) ∧ Inf er g s lim fx k' o out w' ∧ Step g o o w w') ∨
      (distS dl s.data.toList k = none ∧ ∃ b k', er.bad b ∧ e = .returned (.tuple #[.int .i64 0, errV b]) ∧ Inf er g s lim fx k' o out w' ∧ Step g o o w w') := by
  obtain ⟨C, HC⟩ := hid_intro (CA dl h)
  have hsC : C.size = 17 := by rw [HC.out]; exact CA_size dl h
  have hrd := fun w hi ht x k' hd => read_some (er := er) (g := g) (s := s) (lim := lim) (fx := fx) (k := k) (o := o) (out := out) hl (h := h) (x := x) (k' := k') w hi ht hd
  have hrn := fun w hi ht hd => read_none (er := er) (g := g) (s := s) (lim := lim) (fx := fx) (k := k) (o := o) (out := out) hl (h := h) w hi ht hd
  rw [← HC.out] at hrd hrn ⊢
  have hi0 := hi.alloc (.cells C 107)
  have st0 : Step g o o w (w.alloc (.cells C 107)) := Step.alloc (Step.refl ..) _
  have ht0 := ht.step st0
  have hb0 : (w.alloc (.cells C 107)).heap[w.heap.size]? = some (.cells C 107 (0, 0)) := heap_alloc_new w _
  have HRD : Hid _ := hrd
  have HRN : Hid _ := hrn
  clear hi ht hrd hrn
  cases hD : dec dl s.data.toList k with
  | none =>
    have HD : Hid (distS dl s.data.toList k = none) := by show _ = _; simp [distS, hD]
    obtain ⟨R, HR⟩ := hid_intro (distS dl s.data.toList k)
    rw [← HR.out] at HD ⊢
    have HDD : Hid _ := hD
    clear hD
    go_enter Tryz.func262, Tryz.ntmps262
    go_wp2
    refine region_mid 4 _ _ rfl rfl (by kernel_rfl) (by kernel_rfl) ?_
    simp only [List.take_succ_cons, List.take_zero]
    refine wpStill_step (fun K hK => ?_)
    refine still_load_row 107 (.tmp 3) rfl w.heap.size rfl 107 C (0, 0) _ hb0 Tryz.underlying107 rfl (by rw [hsC]; exact sizeCode) (hK _ ?_)
    clear hK K
    repeat still_step
    refine wpStill_nil (fun K hK => ?_)
    go_simp
    refine (HRN.out _ hi0.drew ht0.drew HDD.out).mono ?_; rintro e w1 ⟨b, k', hb, rfl, hi1, st1⟩; unfold errV
    refine hK _ _ ?_
    clear hK K
    repeat still_step
    refine wpStill_nil ?_
    go_wp2
    go_ret2
    exact .inr ⟨HD.out, b, k', hb, rfl, hi1, st0.drew.trans st1⟩
  | some p =>
    obtain ⟨y, k2⟩ := p
    have hk2 := dec_le hD
    have hss : s.data.toList.length = s.size := by simp
    have HDD : Hid _ := hD
    by_cases hy : y > 29
    · have HD : Hid (distS dl s.data.toList k = none) := by show _ = _; simp only [distS, hD]; rw [if_pos hy]
      obtain ⟨R, HR⟩ := hid_intro (distS dl s.data.toList k)
      rw [← HR.out] at HD ⊢
      have hy2 : y < 400 := by have := dec_lt hD; omega
      clear hD
      go_enter Tryz.func262, Tryz.ntmps262
      go_wp2
      refine region_mid 4 _ _ rfl rfl (by kernel_rfl) (by kernel_rfl) ?_
      simp only [List.take_succ_cons, List.take_zero]
      refine wpStill_step (fun K hK => ?_)
      refine still_load_row 107 (.tmp 3) rfl w.heap.size rfl 107 C (0, 0) _ hb0 Tryz.underlying107 rfl (by rw [hsC]; exact sizeCode) (hK _ ?_)
      clear hK K
      repeat still_step
      refine wpStill_nil (fun K hK => ?_)
      go_simp
      refine (HRD.out _ hi0.drew ht0.drew y k2 HDD.out).mono ?_; rintro e w1 ⟨rfl, hi1, st1⟩; have he := hi1.errs.symbol
      refine hK _ _ ?_
      clear hK K
      repeat still_step
      refine wpStill_nil ?_
      go_wp2
      go_quiet (fail)
      go_wp2
      go_ret2
      exact .inr ⟨HD.out, er.symbol, k2, by simp [Errs.bad], rfl, hi1.drewN _, Step.drewN (st0.drew.trans st1) _⟩
    · have hsp := distSpan_small y (by omega)
      by_cases hh : has s.data.toList k2 (distSpan y).2
      · have HD : Hid (distS dl s.data.toList k = some ((distSpan y).1 + numAt s.data.toList k2 (distSpan y).2, k2 + (distSpan y).2)) := by show _ = _; simp only [distS, hD]; rw [if_neg hy, if_pos hh]
        have HH : Hid (k2 + (distSpan y).2 ≤ 8 * s.size) := by show k2 + (distSpan y).2 ≤ 8 * s.size; unfold has at hh; omega
        obtain ⟨R, HR⟩ := hid_intro (distS dl s.data.toList k)
        rw [← HR.out] at HD ⊢
        clear hD hh
        go_enter Tryz.func262, Tryz.ntmps262
        go_wp2
        refine region_mid 4 _ _ rfl rfl (by kernel_rfl) (by kernel_rfl) ?_
        simp only [List.take_succ_cons, List.take_zero]
        refine wpStill_step (fun K hK => ?_)
        refine still_load_row 107 (.tmp 3) rfl w.heap.size rfl 107 C (0, 0) _ hb0 Tryz.underlying107 rfl (by rw [hsC]; exact sizeCode) (hK _ ?_)
        clear hK K
        repeat still_step
        refine wpStill_nil (fun K hK => ?_)
        go_simp
        refine (HRD.out _ hi0.drew ht0.drew y k2 HDD.out).mono ?_; rintro e w1 ⟨rfl, hi1, st1⟩
        refine hK _ _ ?_
        clear hK K
        repeat still_step
        refine wpStill_nil ?_
        go_wp2
        go_region_with (first
          | (go_at_call 169; refine (distanceSpan_any y (by omega) _).mono ?_; rintro e w2 ⟨rfl, hb2⟩)
          | (go_at_call 261; refine (within_ok (distSpan y) hsp.1 hsp.2 _ (hi1.drew.below hb2) HH.out).mono ?_; rintro e w3 ⟨rfl, hi3, st3⟩))
        go_wp2
        go_ret2
        exact .inl ⟨_, _, HD.out, ret_pair (congrArg (Value.int .i64) (Int.natCast_add _ _).symm) rfl, hi3, (st0.drew.trans st1).drew.trans ((Step.of_below hb2).trans st3)⟩
      · have HD : Hid (distS dl s.data.toList k = none) := by show _ = _; simp only [distS, hD]; rw [if_neg hy, if_neg hh]
        have HH : Hid (¬ k2 + (distSpan y).2 ≤ 8 * s.size) := by show ¬ k2 + (distSpan y).2 ≤ 8 * s.size; unfold has at hh; omega
        obtain ⟨R, HR⟩ := hid_intro (distS dl s.data.toList k)
        rw [← HR.out] at HD ⊢
        clear hD hh
        go_enter Tryz.func262, Tryz.ntmps262
        go_wp2
        refine region_mid 4 _ _ rfl rfl (by kernel_rfl) (by kernel_rfl) ?_
        simp only [List.take_succ_cons, List.take_zero]
        refine wpStill_step (fun K hK => ?_)
        refine still_load_row 107 (.tmp 3) rfl w.heap.size rfl 107 C (0, 0) _ hb0 Tryz.underlying107 rfl (by rw [hsC]; exact sizeCode) (hK _ ?_)
        clear hK K
        repeat still_step
        refine wpStill_nil (fun K hK => ?_)
        go_simp
        refine (HRD.out _ hi0.drew ht0.drew y k2 HDD.out).mono ?_; rintro e w1 ⟨rfl, hi1, st1⟩
        refine hK _ _ ?_
        clear hK K
        repeat still_step
        refine wpStill_nil ?_
        go_wp2
        go_region_with (first
          | (go_at_call 169; refine (distanceSpan_any y (by omega) _).mono ?_; rintro e w2 ⟨rfl, hb2⟩)
          | (go_at_call 261; refine (within_end (distSpan y) hsp.2 _ (hi1.drew.below hb2) HH.out).mono ?_; rintro e w3 ⟨rfl, hi3, st3⟩; unfold errV))
        go_wp2
        go_ret2
        exact .inr ⟨HD.out, er.short, _, by simp [Errs.bad], rfl, hi3, (st0.drew.trans st1).drew.trans ((Step.of_below hb2).trans st3)⟩
end
end Go.Proofs.YtfohjjcihioinaaGreatDoor
