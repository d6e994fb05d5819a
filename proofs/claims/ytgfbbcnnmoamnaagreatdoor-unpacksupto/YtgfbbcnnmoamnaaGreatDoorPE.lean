/- The program's distance. The program's repetition. -/
import Derived.Test.YtgfbbcnnmoamnaaGreatDoorPC
import Derived.Deep.MidRow
import Derived.Test.YtgfbbcnnmoamnaaGreatDoorMid
import Derived.Deep.RegionWith
namespace Go.Proofs.YtgfbbcnnmoamnaaGreatDoor
open Go.RowKit

theorem sizeCode : (Tryz.prog.info? 183).map (·.size) = some 17 := by kernel_rfl
theorem sizeCodes : (Tryz.prog.info? 185).map (·.size) = some 34 := by kernel_rfl
def distS (dl : List Nat) (s : List UInt8) (k : Nat) : Option (Nat × Nat) :=
  match dec dl s k with
  | none => none
  | some (y, k2) => if y > 29 then none else if has s k2 (distSpan y).2 then some ((distSpan y).1 + numAt s k2 (distSpan y).2, k2 + (distSpan y).2) else none
theorem distSpan_small (y : Nat) (h : y ≤ 29) : (distSpan y).1 < 100000 ∧ (distSpan y).2 ≤ 16 := by
  have : ∀ y, y < 30 → (distSpan y).1 < 100000 ∧ (distSpan y).2 ≤ 16 := by decide
  exact this y (by omega)
theorem lenSpan_small (y : Nat) (h : y ≤ 28) : (lenSpan y).1 < 300 ∧ (lenSpan y).2 ≤ 16 := by
  have : ∀ y, y < 29 → (lenSpan y).1 < 300 ∧ (lenSpan y).2 ≤ 16 := by decide
  exact this y (by omega)
section
variable {er : Errs} {g : Nat} {s : ByteArray} {lim : Nat} {fx : List Value} {k : Nat} {o : Value} {out : List UInt8}
theorem read_some {lens : List Nat} (hl : lens.length ≤ 400) {h x k' : Nat} (w : World) (hi : Inf er g s lim fx k o out w) (ht : Tab g h (codeSyms lens) o w) (hd : dec lens s.data.toList k = some (x, k')) :
    Calls Tryz.prog 277 #[.agg (CA lens h), .pointer (some ⟨g, 0, none⟩)] w fun e w' => e = .returned (.tuple #[.int .i64 (x : Int), .nilIface]) ∧ Inf er g s lim fx k' o out w' ∧ Step g o o w w' := by
  refine (read_any lens hl h w hi ht).mono ?_
  rintro e w' (⟨x2, k2, h1, h2⟩ | ⟨h1, _⟩)
  · rw [hd] at h1; injection h1 with h1; injection h1 with h3 h4; subst h3; subst h4; exact h2
  · rw [hd] at h1; cases h1
theorem read_none {lens : List Nat} (hl : lens.length ≤ 400) {h : Nat} (w : World) (hi : Inf er g s lim fx k o out w) (ht : Tab g h (codeSyms lens) o w) (hd : dec lens s.data.toList k = none) :
    Calls Tryz.prog 277 #[.agg (CA lens h), .pointer (some ⟨g, 0, none⟩)] w fun e w' => ∃ b k', er.bad b ∧ e = .returned (.tuple #[.int .i64 0, errV b]) ∧ Inf er g s lim fx k' o out w' ∧ Step g o o w w' := by
  refine (read_any lens hl h w hi ht).mono ?_
  rintro e w' (⟨x2, k2, h1, h2⟩ | ⟨h1, h2⟩)
  · rw [hd] at h1; cases h1
  · exact h2
set_option maxHeartbeats 1000000 in
set_option maxRecDepth 8000 in
theorem distance_any (dl : List Nat) (hl : dl.length ≤ 400) (h : Nat) (w : World) (hi : Inf er g s lim fx k o out w) (ht : Tab g h (codeSyms dl) o w) :
    Calls Tryz.prog 320 #[.pointer (some ⟨g, 0, none⟩), .agg (CA dl h)] w fun e w' => (∃ x k', distS dl s.data.toList k = some (x, k') ∧ e = .returned (.tuple #[.int .i64 (x : Int), .nilIface]) ∧ Inf er g s lim fx k' o out w' ∧ Step g o o w w') ∨
      (distS dl s.data.toList k = none ∧ ∃ b k', er.bad b ∧ e = .returned (.tuple #[.int .i64 0, errV b]) ∧ Inf er g s lim fx k' o out w' ∧ Step g o o w w') := by
  obtain ⟨C, HC⟩ := hid_intro (CA dl h)
  have hsC : C.size = 17 := by rw [HC.out]; exact CA_size dl h
  have hrd := fun w hi ht x k' hd => read_some (er := er) (g := g) (s := s) (lim := lim) (fx := fx) (k := k) (o := o) (out := out) hl (h := h) (x := x) (k' := k') w hi ht hd
  have hrn := fun w hi ht hd => read_none (er := er) (g := g) (s := s) (lim := lim) (fx := fx) (k := k) (o := o) (out := out) hl (h := h) w hi ht hd
  rw [← HC.out] at hrd hrn ⊢
  have hi0 := hi.alloc (.cells C 183)
  have st0 : Step g o o w (w.alloc (.cells C 183)) := Step.alloc (Step.refl ..) _
  have ht0 := ht.step st0
  have hb0 : (w.alloc (.cells C 183)).heap[w.heap.size]? = some (.cells C 183 (0, 0)) := heap_alloc_new w _
  have HRD : Hid _ := hrd
  have HRN : Hid _ := hrn
  clear hi ht hrd hrn
  cases hD : dec dl s.data.toList k with
  | none =>
    have HD : Hid (distS dl s.data.toList k = none) := by show _ = _; simp [distS, hD]
    obtain ⟨R, HR⟩ := hid_intro (distS dl s.data.toList k)
    rw [← HR.out] at HD ⊢
    have HDD : Hid _ := hD
    clear hD
    go_enter Tryz.func320, Tryz.ntmps320
    go_wp2
    refine region_mid 4 _ _ rfl rfl (by kernel_rfl) (by kernel_rfl) ?_
    simp only [List.take_succ_cons, List.take_zero]
    refine wpStill_step (fun K hK => ?_)
    refine still_load_row 183 (.tmp 3) rfl w.heap.size rfl 183 C (0, 0) _ hb0 Tryz.underlying183 rfl (by rw [hsC]; exact sizeCode) (hK _ ?_)
    clear hK K
    repeat still_step
    refine wpStill_nil (fun K hK => ?_)
    go_simp
    refine (HRN.out _ hi0.drew ht0.drew HDD.out).mono ?_; rintro e w1 ⟨b, k', hb, rfl, hi1, st1⟩; unfold errV
    refine hK _ _ ?_
    clear hK K
    repeat still_step
    refine wpStill_nil ?_
    go_wp2
    go_ret2
    exact .inr ⟨HD.out, b, k', hb, rfl, hi1, st0.drew.trans st1⟩
  | some p =>
    obtain ⟨y, k2⟩ := p
    have hk2 := dec_le hD
    have hss : s.data.toList.length = s.size := by simp
    have HDD : Hid _ := hD
    by_cases hy : y > 29
    · have HD : Hid (distS dl s.data.toList k = none) := by show _ = _; simp only [distS, hD]; rw [if_pos hy]
      obtain ⟨R, HR⟩ := hid_intro (distS dl s.data.toList k)
      rw [← HR.out] at HD ⊢
      have hy2 : y < 400 := by have := dec_lt hD; omega
      clear hD
      go_enter Tryz.func320, Tryz.ntmps320
      go_wp2
      refine region_mid 4 _ _ rfl rfl (by kernel_rfl) (by kernel_rfl) ?_
      simp only [List.take_succ_cons, List.take_zero]
      refine wpStill_step (fun K hK => ?_)
      refine still_load_row 183 (.tmp 3) rfl w.heap.size rfl 183 C (0, 0) _ hb0 Tryz.underlying183 rfl (by rw [hsC]; exact sizeCode) (hK _ ?_)
      clear hK K
      repeat still_step
      refine wpStill_nil (fun K hK => ?_)
      go_simp
      refine (HRD.out _ hi0.drew ht0.drew y k2 HDD.out).mono ?_; rintro e w1 ⟨rfl, hi1, st1⟩; have he := hi1.errs.symbol
      refine hK _ _ ?_
      clear hK K
      repeat still_step
      refine wpStill_nil ?_
      go_wp2
      go_quiet (fail)
      go_wp2
      go_ret2
      exact .inr ⟨HD.out, er.symbol, k2, by simp [Errs.bad], rfl, hi1.drewN _, Step.drewN (st0.drew.trans st1) _⟩
    · have hsp := distSpan_small y (by omega)
      by_cases hh : has s.data.toList k2 (distSpan y).2
      · have HD : Hid (distS dl s.data.toList k = some ((distSpan y).1 + numAt s.data.toList k2 (distSpan y).2, k2 + (distSpan y).2)) := by show _ = _; simp only [distS, hD]; rw [if_neg hy, if_pos hh]
        have HH : Hid (k2 + (distSpan y).2 ≤ 8 * s.size) := by show k2 + (distSpan y).2 ≤ 8 * s.size; unfold has at hh; omega
        obtain ⟨R, HR⟩ := hid_intro (distS dl s.data.toList k)
        rw [← HR.out] at HD ⊢
        clear hD hh
        go_enter Tryz.func320, Tryz.ntmps320
        go_wp2
        refine region_mid 4 _ _ rfl rfl (by kernel_rfl) (by kernel_rfl) ?_
        simp only [List.take_succ_cons, List.take_zero]
        refine wpStill_step (fun K hK => ?_)
        refine still_load_row 183 (.tmp 3) rfl w.heap.size rfl 183 C (0, 0) _ hb0 Tryz.underlying183 rfl (by rw [hsC]; exact sizeCode) (hK _ ?_)
        clear hK K
        repeat still_step
        refine wpStill_nil (fun K hK => ?_)
        go_simp
        refine (HRD.out _ hi0.drew ht0.drew y k2 HDD.out).mono ?_; rintro e w1 ⟨rfl, hi1, st1⟩
        refine hK _ _ ?_
        clear hK K
        repeat still_step
        refine wpStill_nil ?_
        go_wp2
        go_region_with (first
          | (go_at_call 121; refine (distanceSpan_any y (by omega) _).mono ?_; rintro e w2 ⟨rfl, hb2⟩)
          | (go_at_call 319; refine (within_ok (distSpan y) hsp.1 hsp.2 _ (hi1.drew.below hb2) HH.out).mono ?_; rintro e w3 ⟨rfl, hi3, st3⟩))
        go_wp2
        go_ret2
        exact .inl ⟨_, _, HD.out, ret_pair (congrArg (Value.int .i64) (Int.natCast_add _ _).symm) rfl, hi3, (st0.drew.trans st1).drew.trans ((Step.of_below hb2).trans st3)⟩
      · have HD : Hid (distS dl s.data.toList k = none) := by show _ = _; simp only [distS, hD]; rw [if_neg hy, if_neg hh]
        have HH : Hid (¬ k2 + (distSpan y).2 ≤ 8 * s.size) := by show ¬ k2 + (distSpan y).2 ≤ 8 * s.size; unfold has at hh; omega
        obtain ⟨R, HR⟩ := hid_intro (distS dl s.data.toList k)
        rw [← HR.out] at HD ⊢
        clear hD hh
        go_enter Tryz.func320, Tryz.ntmps320
        go_wp2
        refine region_mid 4 _ _ rfl rfl (by kernel_rfl) (by kernel_rfl) ?_
        simp only [List.take_succ_cons, List.take_zero]
        refine wpStill_step (fun K hK => ?_)
        refine still_load_row 183 (.tmp 3) rfl w.heap.size rfl 183 C (0, 0) _ hb0 Tryz.underlying183 rfl (by rw [hsC]; exact sizeCode) (hK _ ?_)
        clear hK K
        repeat still_step
        refine wpStill_nil (fun K hK => ?_)
        go_simp
        refine (HRD.out _ hi0.drew ht0.drew y k2 HDD.out).mono ?_; rintro e w1 ⟨rfl, hi1, st1⟩
        refine hK _ _ ?_
        clear hK K
        repeat still_step
        refine wpStill_nil ?_
        go_wp2
        go_region_with (first
          | (go_at_call 121; refine (distanceSpan_any y (by omega) _).mono ?_; rintro e w2 ⟨rfl, hb2⟩)
          | (go_at_call 319; refine (within_end (distSpan y) hsp.2 _ (hi1.drew.below hb2) HH.out).mono ?_; rintro e w3 ⟨rfl, hi3, st3⟩; unfold errV))
        go_wp2
        go_ret2
        exact .inr ⟨HD.out, er.short, _, by simp [Errs.bad], rfl, hi3, (st0.drew.trans st1).drew.trans ((Step.of_below hb2).trans st3)⟩
end
end Go.Proofs.YtgfbbcnnmoamnaaGreatDoor

namespace Go.Proofs.YtgfbbcnnmoamnaaGreatDoor
open Go.RowKit

theorem sizeInfl : (Tryz.prog.info? 188).map (·.size) = some 38 := by kernel_rfl
/-- what a part of the reading leaves -/
def Outc (er : Errs) (g : Nat) (s : ByteArray) (lim : Nat) (fx : List Value) (o : Value) (w : World) (r : Res) (e : Ending) (w' : World) : Prop :=
  match r with
  | .ok k' out' => e = .returned .nilIface ∧ ∃ o', Inf er g s lim fx k' o' out' w' ∧ Step g o o' w w'
  | .err c => ∃ b k' o' out', e = .returned (errV b) ∧ ((c = 6 ∧ b = er.lim) ∨ (c = 5 ∧ er.bad b)) ∧ Inf er g s lim fx k' o' out' w' ∧ Step g o o' w w'
theorem byte_cell {w : World} {base : Nat} {v : Value} {l : List UInt8} {t : TypeId} (h : w.ownsRow base t 1 v l.length (Lib.byteCells l)) (j : Nat) (hj : j < l.length) :
    ∃ b cap, v = .slice (some ⟨b, 0, none⟩) l.length cap ∧ l.length ≤ cap ∧ w.cell? ⟨b, j, none⟩ = some (.int .u8 ((l.getD j 0).toNat : Int)) := by
  rcases h.2 with ⟨_, h0⟩ | ⟨b, cap, cur, rfl, h1, hg, h2, h3, h4, h5⟩
  · omega
  · refine ⟨b, cap, rfl, h2, ?_⟩
    have e2 : cur.toList[j]? = (cur.toList.take (l.length * 1))[j]? := by rw [List.getElem?_take_of_lt (by omega)]
    rw [cell_of_row _ _ _ _ _ _ hg, ← Array.getElem?_toList, e2, h5]
    simp [Lib.byteCells, hj]
theorem matchS_dist (dl : List Nat) (s : List UInt8) (limit x k : Nat) (out : List UInt8) : matchS dl s limit x k out =
    if has s k (lenSpan x).2 then
      match distS dl s (k + (lenSpan x).2) with
      | none => .err 5
      | some (d, k2) => if d > out.length then .err 5 else copyN limit d k2 ((lenSpan x).1 + numAt s k (lenSpan x).2) out
    else .err 5 := by
  unfold matchS distS
  split
  · cases dec dl s (k + (lenSpan x).2) with
    | none => rfl
    | some p =>
      obtain ⟨y, k2⟩ := p
      simp only []
      split
      · rfl
      · split <;> rfl
  · rfl
theorem distS_pos {dl : List Nat} {s : List UInt8} {k d k2 : Nat} (h : distS dl s k = some (d, k2)) : 1 ≤ d := by
  unfold distS at h
  cases hd : dec dl s k with
  | none => rw [hd] at h; cases h
  | some p =>
    obtain ⟨y, k3⟩ := p
    rw [hd] at h
    simp only [] at h
    split at h
    · cases h
    · split at h
      · injection h with h; injection h with h1 _
        have : 1 ≤ (distSpan y).1 := by unfold distSpan; split <;> simp
        omega
      · cases h
/-- a length's symbol, of whatever number -/
def repS (dl : List Nat) (s : List UInt8) (limit x k : Nat) (out : List UInt8) : Res := if x > 285 then .err 5 else matchS dl s limit (x - 257) k out
section
variable {er : Errs} {g : Nat} {s : ByteArray} {lim : Nat} {fx : List Value} {k : Nat} {o : Value} {out : List UInt8}
theorem distance_some {dl : List Nat} (hl : dl.length ≤ 400) {h x k' : Nat} (w : World) (hi : Inf er g s lim fx k o out w) (ht : Tab g h (codeSyms dl) o w) (hd : distS dl s.data.toList k = some (x, k')) :
    Calls Tryz.prog 320 #[.pointer (some ⟨g, 0, none⟩), .agg (CA dl h)] w fun e w' => e = .returned (.tuple #[.int .i64 (x : Int), .nilIface]) ∧ Inf er g s lim fx k' o out w' ∧ Step g o o w w' := by
  refine (distance_any dl hl h w hi ht).mono ?_
  rintro e w' (⟨x2, k2, h1, h2⟩ | ⟨h1, _⟩)
  · rw [hd] at h1; injection h1 with h1; injection h1 with h3 h4; subst h3; subst h4; exact h2
  · rw [hd] at h1; cases h1
theorem distance_none {dl : List Nat} (hl : dl.length ≤ 400) {h : Nat} (w : World) (hi : Inf er g s lim fx k o out w) (ht : Tab g h (codeSyms dl) o w) (hd : distS dl s.data.toList k = none) :
    Calls Tryz.prog 320 #[.pointer (some ⟨g, 0, none⟩), .agg (CA dl h)] w fun e w' => ∃ b k', er.bad b ∧ e = .returned (.tuple #[.int .i64 0, errV b]) ∧ Inf er g s lim fx k' o out w' ∧ Step g o o w w' := by
  refine (distance_any dl hl h w hi ht).mono ?_
  rintro e w' (⟨x2, k2, h1, h2⟩ | ⟨h1, h2⟩)
  · rw [hd] at h1; cases h1
  · exact h2
set_option maxHeartbeats 1000000 in
set_option maxRecDepth 8000 in
theorem repeat_any (dl : List Nat) (hl : dl.length ≤ 400) (h x : Nat) (hx : 257 ≤ x) (hx2 : x < 400) (w : World) (hi : Inf er g s lim fx k o out w) (ht : Tab g h (codeSyms dl) o w) :
    Calls Tryz.prog 278 #[.pointer (some ⟨g, 0, none⟩), .int .i64 (x : Int), .agg (CA dl h)] w (Outc er g s lim fx o w (repS dl s.data.toList lim x k out)) := by
  obtain ⟨C, HC⟩ := hid_intro (CA dl h)
  have hsC : C.size = 17 := by rw [HC.out]; exact CA_size dl h
  have hrd := fun k w hi ht x k' hd => distance_some (er := er) (g := g) (s := s) (lim := lim) (fx := fx) (k := k) (o := o) (out := out) hl (h := h) (x := x) (k' := k') w hi ht hd
  have hrn := fun k w hi ht hd => distance_none (er := er) (g := g) (s := s) (lim := lim) (fx := fx) (k := k) (o := o) (out := out) hl (h := h) w hi ht hd
  rw [← HC.out] at hrd hrn ⊢
  have hi0 := hi.alloc (.cells C 183)
  have st0 : Step g o o w (w.alloc (.cells C 183)) := Step.alloc (Step.refl ..) _
  have ht0 := ht.step st0
  have hb0 : (w.alloc (.cells C 183)).heap[w.heap.size]? = some (.cells C 183 (0, 0)) := heap_alloc_new w _
  have HRD : Hid _ := hrd
  have HRN : Hid _ := hrn
  have HN : Hid (w.heap.size ≠ g ∧ o.ownBlock ≠ some w.heap.size) := ⟨by have := hi.lt; omega, fun e => by have := (hi.own.lt _ e).2; omega⟩
  have hss : s.data.toList.length = s.size := by simp
  clear hi ht hrd hrn
  obtain ⟨R, HR⟩ := hid_intro (repS dl s.data.toList lim x k out)
  rw [← HR.out]
  by_cases h285 : x > 285
  · have HE : Hid (R = .err 5) := by rw [HR.out]; show _ = _; unfold repS; rw [if_pos h285]
    have he := hi0.errs.symbol
    go_enter Tryz.func278, Tryz.ntmps278
    go_wp2
    go_ret
    rw [HE.out]
    exact ⟨er.symbol, _, _, _, rfl, .inr ⟨rfl, by simp [Errs.bad]⟩, hi0, st0⟩
  · have hsp := lenSpan_small (x - 257) (by omega)
    by_cases hh : has s.data.toList k (lenSpan (x - 257)).2
    · have HH : Hid (k + (lenSpan (x - 257)).2 ≤ 8 * s.size) := by show k + (lenSpan (x - 257)).2 ≤ 8 * s.size; unfold has at hh; omega
      cases hD : distS dl s.data.toList (k + (lenSpan (x - 257)).2) with
      | none =>
        have HE : Hid (R = .err 5) := by rw [HR.out]; show _ = _; unfold repS; rw [if_neg h285, matchS_dist, if_pos hh, hD]
        have HDD : Hid _ := hD
        clear hD hh
        go_enter Tryz.func278, Tryz.ntmps278
        go_wp2
        go_region_with (first
          | (go_at_call 119; refine (lengthSpan_any x hx (by omega) _).mono ?_; rintro e w2 ⟨rfl, hb2⟩)
          | (go_at_call 319; refine (within_ok (lenSpan (x - 257)) (by omega) hsp.2 _ (hi0.drew.below hb2) HH.out).mono ?_; rintro e w3 ⟨rfl, hi3, st3⟩))
        have HB3 : Hid (Step g o o (w.alloc (.cells C 183)) w3) := (Step.drew (Step.refl ..)).trans ((Step.of_below hb2).trans st3)
        have hb3 := (HB3.out.block w.heap.size (by simp) HN.out.1 HN.out.2).trans hb0
        have ht3 := ht0.step HB3.out
        clear st3 hb2
        go_wp2_with (first
          | (refine wpList_load_row rfl 183 (.tmp 5) rfl w.heap.size rfl 183 C (0, 0) _ hb3 Tryz.underlying183 rfl ?_ ?_; (rw [hsC]; exact sizeCode))
          | (go_at_call 320; refine (HRN.out _ w3 hi3 ht3 HDD.out).mono ?_; rintro e w4 ⟨b, k', hb, rfl, hi4, st4⟩; unfold errV))
        go_ret
        rw [HE.out]
        exact ⟨b, _, _, _, rfl, .inr ⟨rfl, hb⟩, hi4, (st0.trans HB3.out).trans st4⟩
      | some p =>
        obtain ⟨d, k2⟩ := p
        obtain ⟨N, HNL⟩ := hid_intro ((lenSpan (x - 257)).1 + numAt s.data.toList k (lenSpan (x - 257)).2)
        have HNI : Hid (((lenSpan (x - 257)).1 : Int) + (numAt s.data.toList k (lenSpan (x - 257)).2 : Int) = (N : Int)) := by show _ = _; rw [HNL.out]; simp
        have hN : N < 70000 := by
          have a := numAt_lt s.data.toList k (lenSpan (x - 257)).2
          have b : (2:Nat) ^ (lenSpan (x - 257)).2 ≤ 2 ^ 16 := Nat.pow_le_pow_right (by omega) hsp.2
          have := HNL.out; omega
        have HDD : Hid _ := hD
        have HE0 : Hid (R = if d > out.length then .err 5 else copyN lim d k2 N out) := by rw [HR.out]; show _ = _; unfold repS; rw [if_neg h285, matchS_dist, if_pos hh, hD, HNL.out]
        clear hD hh
        go_enter Tryz.func278, Tryz.ntmps278
        go_wp2
        go_region_with (first
          | (go_at_call 119; refine (lengthSpan_any x hx (by omega) _).mono ?_; rintro e w2 ⟨rfl, hb2⟩)
          | (go_at_call 319; refine (within_ok (lenSpan (x - 257)) (by omega) hsp.2 _ (hi0.drew.below hb2) HH.out).mono ?_; rintro e w3 ⟨rfl, hi3, st3⟩; rw [← HNL.out]))
        have HB3 : Hid (Step g o o (w.alloc (.cells C 183)) w3) := (Step.drew (Step.refl ..)).trans ((Step.of_below hb2).trans st3)
        have hb3 := (HB3.out.block w.heap.size (by simp) HN.out.1 HN.out.2).trans hb0
        have ht3 := ht0.step HB3.out
        clear st3 hb2
        have ho3 := hi3.ho
        have hl3 := hi3.hl
        obtain ⟨ao, cap, hoe⟩ := own_shape hi3.own
        by_cases hd : d > out.length
        · go_wp2_with (first
            | (refine wpList_load_row rfl 183 (.tmp 5) rfl w.heap.size rfl 183 C (0, 0) _ hb3 Tryz.underlying183 rfl ?_ ?_; (rw [hsC]; exact sizeCode))
            | (go_at_call 320; refine (HRD.out _ w3 hi3 ht3 d k2 HDD.out).mono ?_; rintro e w4 ⟨rfl, hi4, st4⟩; have c4 := hi4.c2; rw [hoe] at c4; have he4 := hi4.errs.far))
          go_ret
          rw [HE0.out, if_pos hd]
          exact ⟨er.far, _, _, _, rfl, .inr ⟨rfl, by simp [Errs.bad]⟩, hi4, (st0.trans HB3.out).trans st4⟩
        · go_wp2_with (first
            | (refine wpList_load_row rfl 183 (.tmp 5) rfl w.heap.size rfl 183 C (0, 0) _ hb3 Tryz.underlying183 rfl ?_ ?_; (rw [hsC]; exact sizeCode))
            | (go_at_call 320; refine (HRD.out _ w3 hi3 ht3 d k2 HDD.out).mono ?_; rintro e w4 ⟨rfl, hi4, st4⟩; have c4 := hi4.c2; rw [hoe] at c4))
          have HR4 : Hid (R = copyN lim d k2 N out) := by show R = _; rw [HE0.out, if_neg hd]
          have hdp : 1 ≤ d := distS_pos HDD.out
          have HS4 : Hid (Step g o o w w4) := (st0.trans HB3.out).trans st4
          clear hi0 st0 ht0 hb0 hi3 hb3 ht3 HB3 c4 st4 ho3 hl3 HRD HRN HDD HE0 HH hsp HNI
          go_loopw [44] (fun vi wr => ∃ (i : Nat) (o' : Value) (out' : List UInt8), i ≤ N ∧ vi = .int .i64 i ∧ Hid (R = copyN lim d k2 (N - i) out') ∧ d ≤ out'.length ∧ Inf er g s lim fx k2 o' out' wr ∧ Step g o o' w wr) (fun vi _ => N - (intOf vi).toNat)
          case atStart => exact ⟨0, o, out, by omega, rfl, HR4, by omega, hi4, HS4.out⟩
          case round =>
            clear hi4 HS4 HR4 hoe
            obtain ⟨i, o', out', hiN, rfl, HC2, hdo, hi, st⟩ := hrel
            by_cases hlt : i < N
            · have HC3 : Hid (R = if out'.length ≥ lim then .err 6 else copyN lim d k2 (N - (i + 1)) (out' ++ [out'.getD (out'.length - d) 0])) := by
                show R = _
                rw [HC2.out, show N - i = N - (i + 1) + 1 by omega, copyN]
              obtain ⟨b, cap', ho', hcap, hcell⟩ := byte_cell hi.own (out'.length - d) (by omega)
              obtain ⟨y, HY⟩ := hid_intro (out'.getD (out'.length - d) 0)
              rw [← HY.out] at hcell HC3
              have hc2 := hi.c2
              rw [ho'] at hc2
              have hlo := hi.ho
              have hl2 := hi.hl
              have hz0 : IntKind.i64.wrap ((out'.length : Int) - (d : Int)) = (out'.length : Int) - (d : Int) := by rw [IntKind.wrap_i64]; omega
              have hz1 : (0 : Int) ≤ (out'.length : Int) - (d : Int) := by omega
              have hz2 : (out'.length : Int) - (d : Int) < (out'.length : Int) := by omega
              have hz3 : ((out'.length : Int) - (d : Int)).toNat = out'.length - d := by omega
              by_cases hfull : out'.length ≥ lim
              · rw [if_pos hfull] at HC3
                go_wp2
                refine region_mid 14 _ _ rfl rfl (by kernel_rfl) (by kernel_rfl) ?_
                simp only [List.take_succ_cons, List.take_zero]
                repeat still_step
                refine wpStill_nil (fun K hK => ?_)
                go_simp
                refine (put_full y _ hi.drew hfull).mono ?_; rintro e w5 ⟨rfl, hi5, st5⟩; unfold errV
                refine hK _ _ ?_
                clear hK K
                repeat still_step
                refine wpStill_nil ?_
                go_wp2
                go_ret
                rw [HC3.out]
                exact ⟨er.lim, _, _, _, rfl, .inl ⟨rfl, rfl⟩, hi5, st.drew.trans st5⟩
              · rw [if_neg hfull] at HC3
                go_wp2
                refine region_mid 14 _ _ rfl rfl (by kernel_rfl) (by kernel_rfl) ?_
                simp only [List.take_succ_cons, List.take_zero]
                repeat still_step
                refine wpStill_nil (fun K hK => ?_)
                go_simp
                refine (put_ok y _ hi.drew hfull).mono ?_; rintro e w5 ⟨rfl, o5, hi5, st5⟩
                refine hK _ _ ?_
                clear hK K
                repeat still_step
                refine wpStill_nil ?_
                go_wp2
                go_roundw
                case rel => exact ⟨i + 1, o5, _, by omega, by go_num, HC3, by simp; omega, hi5, st.drew.trans st5⟩
                case measure => simp [intOf]; omega
            · obtain rfl : i = N := by omega
              go_wp2
              go_ret
              have e : R = .ok k2 out' := by rw [HC2.out, Nat.sub_self]; rfl
              rw [e]
              exact ⟨rfl, o', hi, st⟩
    · have HE : Hid (R = .err 5) := by rw [HR.out]; show _ = _; unfold repS; rw [if_neg h285, matchS_dist, if_neg hh]
      have HH : Hid (¬ k + (lenSpan (x - 257)).2 ≤ 8 * s.size) := by show ¬ k + (lenSpan (x - 257)).2 ≤ 8 * s.size; unfold has at hh; omega
      clear hh
      go_enter Tryz.func278, Tryz.ntmps278
      go_wp2
      go_region_with (first
        | (go_at_call 119; refine (lengthSpan_any x hx (by omega) _).mono ?_; rintro e w2 ⟨rfl, hb2⟩)
        | (go_at_call 319; refine (within_end (lenSpan (x - 257)) hsp.2 _ (hi0.drew.below hb2) HH.out).mono ?_; rintro e w3 ⟨rfl, hi3, st3⟩; unfold errV))
      go_wp2
      go_ret
      rw [HE.out]
      exact ⟨er.short, _, _, _, rfl, .inr ⟨rfl, by simp [Errs.bad]⟩, hi3, st0.drew.trans ((Step.of_below hb2).trans st3)⟩
end
end Go.Proofs.YtgfbbcnnmoamnaaGreatDoor
