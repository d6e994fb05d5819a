/- The program's own codes of a block, read. -/
import Derived.Test.YtgfbbcnnmoamnaaGreatDoorPP
import Derived.Test.YtgfbbcnnmoamnaaGreatDoorMid
namespace Go.Proofs.YtgfbbcnnmoamnaaGreatDoor
open Go.RowKit

theorem cut_to (b M cap j : Nat) (i : Int) (hi : i = j) (h1 : j ≤ cap) (w : World) : (Instr.slice 87 (.slice (some ⟨b, 0, none⟩) M cap) none (some (.int .i64 i)) none).run Tryz.prog w = .ok (.slice (some ⟨b, 0, none⟩) j cap) w := by
  subst hi
  have u := Tryz.underlying87
  have h2 : (j : Int) ≤ (cap : Int) := by omega
  go_simp
theorem cut_from (b M cap j : Nat) (i : Int) (hi : i = j) (h1 : j < M) (hM : M ≤ cap) (w : World) : (Instr.slice 87 (.slice (some ⟨b, 0, none⟩) M cap) (some (.int .i64 i)) none none).run Tryz.prog w = .ok (.slice (some ⟨b, j, none⟩) (M - j) (cap - j)) w := by
  subst hi
  have u := Tryz.underlying87
  have h2 : (j : Int) ≤ (M : Int) := by omega
  go_simp
  omega
theorem IntsAt.of_own {w : World} {base b cap n : Nat} {r : List Nat} (h : w.ownsRow base 3 1 (.slice (some ⟨b, 0, none⟩) n cap) r.length (ivals r)) (_hr : 0 < r.length) (off _m : Nat) (l : List Nat) (hl : ∀ j, j < l.length → off + j < r.length ∧ l.getD j 0 = r.getD (off + j) 0) : IntsAt w b off l := by
  refine ⟨(h.lt b rfl).2, fun j hj => ?_⟩
  obtain ⟨h1, h2⟩ := hl j hj
  obtain ⟨b', cap', hv, _, hc⟩ := int_cell h (off + j) h1
  injection hv with hv1 hv2 hv3
  injection hv1 with hv1
  injection hv1 with hv1
  subst hv1
  rw [hc, h2]
instance (l d : List Nat) : Decidable (okCodes l d) := by unfold okCodes; infer_instance
/-- a block's own codes, in the order in which the program reads them -/
def ownP (s : List UInt8) (k : Nat) : Option (Nat × List Nat × List Nat) :=
  if has s k 10 then
    if numAt s k 5 > 29 ∨ numAt s (k + 5) 5 > 29 then none
    else match lenS s (k + 10) with
      | none => none
      | some (k2, first) =>
        match rowGo first s (numAt s k 5 + 257 + (numAt s (k + 5) 5 + 1)) 400 k2 [] with
        | none => none
        | some (k3, row) => if okCodes (row.take (numAt s k 5 + 257)) (row.drop (numAt s k 5 + 257)) then some (k3, row.take (numAt s k 5 + 257), row.drop (numAt s k 5 + 257)) else none
  else none
theorem ownS_P (s : List UInt8) (k : Nat) : ownS s k = ownP s k := by
  unfold ownS ownP lenS
  by_cases h10 : has s k 10
  · rw [if_pos h10]
    by_cases hb : numAt s k 5 > 29 ∨ numAt s (k + 5) 5 > 29
    · rw [if_pos hb]; split <;> rfl
    · rw [if_neg hb]
      by_cases h14 : has s k 14
      · have h4 : has s (k + 10) 4 := by unfold has at *; omega
        rw [if_pos h14, if_neg hb, if_pos h4, show k + 10 + 4 = k + 14 by omega]
        split
        · split
          · simp only []
            cases rowGo (firstL s (k + 14) (numAt s (k + 10) 4 + 4)) s (numAt s k 5 + 257 + (numAt s (k + 5) 5 + 1)) 400 (k + 14 + 3 * (numAt s (k + 10) 4 + 4)) [] with
            | none => rfl
            | some p =>
              obtain ⟨k3, row⟩ := p
              simp only []
              split
              · rename_i hc; rw [if_neg (show ¬ okCodes (row.take (numAt s k 5 + 257)) (row.drop (numAt s k 5 + 257)) from fun h => h hc)]
              · rename_i hc; rw [if_pos (show okCodes (row.take (numAt s k 5 + 257)) (row.drop (numAt s k 5 + 257)) from hc)]
          · rfl
        · rfl
      · have h4 : ¬ has s (k + 10) 4 := by unfold has at *; omega
        rw [if_neg h14, if_neg h4]; split <;> rfl
  · have h14 : ¬ has s k 14 := by unfold has at *; omega
    rw [if_neg h10, if_neg h14]
section
variable {er : Errs} {g : Nat} {s : ByteArray} {lim : Nat} {fx : List Value} {k : Nat} {o : Value} {out : List UInt8}
theorem lengthsCode_ok {k' : Nat} {l : List Nat} (w : World) (hi : Inf er g s lim fx k o out w) (hL : lenS s.data.toList k = some (k', l)) :
    Calls Tryz.prog 279 #[.pointer (some ⟨g, 0, none⟩)] w fun e w' => ∃ b, e = .returned (.tuple #[.agg (CA l b), .nilIface]) ∧ Tab g b (codeSyms l) o w' ∧ Inf er g s lim fx k' o out w' ∧ Step g o o w w' := by
  refine (lengthsCode_any w hi).mono ?_
  rintro e w' (⟨k2, l2, b, h1, h2⟩ | ⟨h1, _⟩)
  · rw [hL] at h1; injection h1 with h1; injection h1 with h3 h4; subst h3; subst h4; exact ⟨b, h2⟩
  · rw [hL] at h1; cases h1
theorem lengthsCode_bad (w : World) (hi : Inf er g s lim fx k o out w) (hL : lenS s.data.toList k = none) :
    Calls Tryz.prog 279 #[.pointer (some ⟨g, 0, none⟩)] w fun e w' => ∃ b k', er.bad b ∧ e = .returned (.tuple #[.agg zeroCode, errV b]) ∧ Inf er g s lim fx k' o out w' ∧ Step g o o w w' := by
  refine (lengthsCode_any w hi).mono ?_
  rintro e w' (⟨k2, l2, b, h1, h2⟩ | ⟨_, h1⟩)
  · rw [hL] at h1; cases h1
  · exact h1
theorem row_ok {l : List Nat} (hl50 : l.length ≤ 50) {h many k' : Nat} {r : List Nat} (hm : many ≤ 320) (w : World) (hi : Inf er g s lim fx k o out w) (ht : Tab g h (codeSyms l) o w) (hR : rowGo l s.data.toList many 400 k [] = some (k', r)) :
    Calls Tryz.prog 280 #[.pointer (some ⟨g, 0, none⟩), .agg (CA l h), .int .i64 many] w fun e w' => ∃ v, e = .returned (.tuple #[v, .nilIface]) ∧ w'.ownsRow w.heap.size 3 1 v r.length (ivals r) ∧ Inf er g s lim fx k' o out w' ∧ Step g o o w w' := by
  refine (row_any l hl50 h many hm w hi ht).mono ?_
  rintro e w' (⟨k2, r2, v, h1, h2⟩ | ⟨h1, _⟩)
  · rw [hR] at h1; injection h1 with h1; injection h1 with h3 h4; subst h3; subst h4; exact ⟨v, h2⟩
  · rw [hR] at h1; cases h1
theorem row_bad {l : List Nat} (hl50 : l.length ≤ 50) {h many : Nat} (hm : many ≤ 320) (w : World) (hi : Inf er g s lim fx k o out w) (ht : Tab g h (codeSyms l) o w) (hR : rowGo l s.data.toList many 400 k [] = none) :
    Calls Tryz.prog 280 #[.pointer (some ⟨g, 0, none⟩), .agg (CA l h), .int .i64 many] w fun e w' => ∃ b k', er.bad b ∧ e = .returned (.tuple #[.slice none 0 0, errV b]) ∧ Inf er g s lim fx k' o out w' ∧ Step g o o w w' := by
  refine (row_any l hl50 h many hm w hi ht).mono ?_
  rintro e w' (⟨k2, r2, v, h1, h2⟩ | ⟨_, h1⟩)
  · rw [hR] at h1; cases h1
  · exact h1
set_option maxHeartbeats 1000000 in
set_option maxRecDepth 8000 in
theorem ownCodes_any (w : World) (hi : Inf er g s lim fx k o out w) :
    Calls Tryz.prog 220 #[.pointer (some ⟨g, 0, none⟩)] w fun e w' => (∃ k' l d b1 b2, ownS s.data.toList k = some (k', l, d) ∧ l.length ≤ 400 ∧ d.length ≤ 400 ∧ e = .returned (.tuple #[.agg (CC l d b1 b2), .nilIface]) ∧ Tab g b1 (codeSyms l) o w' ∧ Tab g b2 (codeSyms d) o w' ∧ Inf er g s lim fx k' o out w' ∧ Step g o o w w') ∨
      (ownS s.data.toList k = none ∧ ∃ b k', er.bad b ∧ e = .returned (.tuple #[.agg zeroCodes, errV b]) ∧ Inf er g s lim fx k' o out w' ∧ Step g o o w w') := by
  rw [ownS_P]
  obtain ⟨R, HR⟩ := hid_intro (ownP s.data.toList k)
  rw [← HR.out]
  have hss : s.data.toList.length = s.size := by simp
  have HN : Hid (w.heap.size ≠ g ∧ o.ownBlock ≠ some w.heap.size) := ⟨by have := hi.lt; omega, fun e => by have := (hi.own.lt _ e).2; omega⟩
  by_cases h5 : k + 5 ≤ 8 * s.size
  · have first0 : True := trivial
    have lp := numAt_lt s.data.toList k 5
    have lq := numAt_lt s.data.toList (k + 5) 5
    obtain ⟨p, Hp⟩ := hid_intro (numAt s.data.toList k 5)
    obtain ⟨q, Hq⟩ := hid_intro (numAt s.data.toList (k + 5) 5)
    rw [← Hp.out] at lp
    rw [← Hq.out] at lq
    by_cases h10 : k + 5 + 5 ≤ 8 * s.size
    · have HR0 : Hid (R = if p > 29 ∨ q > 29 then none else match lenS s.data.toList (k + 10) with
        | none => none
        | some (k2, first) => match rowGo first s.data.toList (p + 257 + (q + 1)) 400 k2 [] with
          | none => none
          | some (k3, row) => if okCodes (row.take (p + 257)) (row.drop (p + 257)) then some (k3, row.take (p + 257), row.drop (p + 257)) else none) := by
        rw [HR.out, Hp.out, Hq.out]; show _ = _; unfold ownP; rw [if_pos (show has s.data.toList k 10 by unfold has; omega)]
      by_cases hb : p > 29 ∨ q > 29
      · rw [if_pos hb] at HR0
        have key : ∀ (c : Prop), (p > 29 → c) → (¬ p > 29 → q > 29 → c) → c := fun c h1 h2 => by
          rcases (by omega : p > 29 ∨ ¬ p > 29) with h | h
          · exact h1 h
          · exact h2 h (by omega)
        refine key _ (fun hp => ?_) (fun hp hq => ?_)
        all_goals
          clear key hb
          go_enter Tryz.func220, Tryz.ntmps220
          go_wp2_with (first
            | (go_at_call 161; have := first0; refine (number_ok 5 (by omega) _ (hi.alloc _) h5).mono ?_; rintro e w1 ⟨rfl, hi1, st1⟩; rw [← Hp.out]; have HR1 := (show Hid _ from (st1.block w.heap.size (by simp) HN.out.1 HN.out.2).trans (heap_alloc_new w _)); clear first0; have first1 : True := trivial)
            | (go_at_call 161; have := first1; refine (number_ok 5 (by omega) _ hi1 h10).mono ?_; rintro e w2 ⟨rfl, hi2, st2⟩; rw [← Hq.out]; have HR2 := (show Hid _ from (st2.block w.heap.size (lt_of_block HR1.out) HN.out.1 HN.out.2).trans HR1.out); have HS2 := (show Hid (Step g o o w w2) from ((Step.alloc (Step.refl ..) _).trans st1).trans st2); clear first1 st1 st2 hi1 HR1; have he := hi2.errs.counts))
          refine wp_region_still_lit (by kernel_rfl) (by kernel_rfl) ?_
          still_step
          still_step
          refine wpStill_step (fun K hK => ?_)
          refine still_store_row 185 (.tmp 2) _ rfl w.heap.size zeroCodes rfl rfl 185 HR2.out sizeCodes zeroCodes_one (hK _ ?_)
          clear hK K
          repeat still_step
          refine wpStill_nil ?_
          go_wp2
          refine bodyPost_ret_by (v := .tuple #[.agg zeroCodes, errV er.counts]) (results_row_tmp Tryz.results220 _ _ w.heap.size 185 zeroCodes (0, 0) _ rfl HR2.out Tryz.underlying185 rfl sizeCodes) rfl (.inr ⟨HR0.out, er.counts, _, by simp [Errs.bad], rfl, hi2.drew, HS2.out.drew⟩)
      · rw [if_neg hb] at HR0
        cases hL : lenS s.data.toList (k + 10) with
        | none =>
          rw [hL] at HR0
          have HLL : Hid _ := hL
          clear hL
          go_enter Tryz.func220, Tryz.ntmps220
          go_wp2_with (first
            | (go_at_call 161; have := first0; refine (number_ok 5 (by omega) _ (hi.alloc _) h5).mono ?_; rintro e w1 ⟨rfl, hi1, st1⟩; rw [← Hp.out]; have HR1 := (show Hid _ from (st1.block w.heap.size (by simp) HN.out.1 HN.out.2).trans (heap_alloc_new w _)); clear first0; have first1 : True := trivial)
            | (go_at_call 161; have := first1; refine (number_ok 5 (by omega) _ hi1 h10).mono ?_; rintro e w2 ⟨rfl, hi2, st2⟩; rw [← Hq.out]; have HR2 := (show Hid _ from (st2.block w.heap.size (lt_of_block HR1.out) HN.out.1 HN.out.2).trans HR1.out); have HS2 := (show Hid (Step g o o w w2) from ((Step.alloc (Step.refl ..) _).trans st1).trans st2); clear first1 st1 st2 hi1 HR1; skip)
            | (go_at_call 279; refine (lengthsCode_bad _ hi2 HLL.out).mono ?_; rintro e w3 ⟨b, k3, hb3, rfl, hi3, st3⟩; unfold errV; have HR3 := (show Hid _ from (st3.block w.heap.size (lt_of_block HR2.out) HN.out.1 HN.out.2).trans HR2.out))
            | (refine wpList_store_row rfl 183 (.tmp 7) _ rfl w3.heap.size zeroCode rfl rfl 183 _ (heap_alloc_new w3 _) sizeCode rfl zeroCode_one ?_; rw [World.setRow_alloc_new])
            | (refine wpList_store_row rfl 185 (.tmp 2) _ rfl w.heap.size zeroCodes rfl rfl 185 _ (alloc_keeps HR3.out) sizeCodes rfl zeroCodes_one ?_; rw [setRow_same (cs := zeroCodes) (alloc_keeps HR3.out)]))
          refine bodyPost_ret_by (v := .tuple #[.agg zeroCodes, errV b]) (results_row_tmp Tryz.results220 _ _ w.heap.size 185 zeroCodes (0, 0) _ rfl (alloc_keeps HR3.out) Tryz.underlying185 rfl sizeCodes) rfl (.inr ⟨HR0.out, b, _, hb3, rfl, hi3.alloc _, (HS2.out.trans st3).alloc _⟩)
        | some p2 =>
          obtain ⟨k2, first⟩ := p2
          rw [hL] at HR0
          simp only [] at HR0
          have HLL : Hid _ := hL
          have hfl : first.length = 19 := by
            have := hL; unfold lenS at this
            split at this
            · split at this
              · split at this
                · injection this with this; injection this with h1 h2; rw [← h2, firstL_len]
                · cases this
              · cases this
            · cases this
          clear hL
          obtain ⟨M, HM⟩ := hid_intro (p + 257 + (q + 1))
          rw [← HM.out] at HR0
          have hMl : M ≤ 320 := by have := HM.out; omega
          have hMI : ((p : Int) + 257 + (q : Int) + 1) = (M : Int) := by have := HM.out; omega
          cases hRw : rowGo first s.data.toList M 400 k2 [] with
          | none =>
            rw [hRw] at HR0
            have HRW : Hid _ := hRw
            clear hRw
            go_enter Tryz.func220, Tryz.ntmps220
            go_wp2_with (first
              | (go_at_call 161; have := first0; refine (number_ok 5 (by omega) _ (hi.alloc _) h5).mono ?_; rintro e w1 ⟨rfl, hi1, st1⟩; rw [← Hp.out]; have HR1 := (show Hid _ from (st1.block w.heap.size (by simp) HN.out.1 HN.out.2).trans (heap_alloc_new w _)); clear first0; have first1 : True := trivial)
              | (go_at_call 161; have := first1; refine (number_ok 5 (by omega) _ hi1 h10).mono ?_; rintro e w2 ⟨rfl, hi2, st2⟩; rw [← Hq.out]; have HR2 := (show Hid _ from (st2.block w.heap.size (lt_of_block HR1.out) HN.out.1 HN.out.2).trans HR1.out); have HS2 := (show Hid (Step g o o w w2) from ((Step.alloc (Step.refl ..) _).trans st1).trans st2); clear first1 st1 st2 hi1 HR1; skip)
              | (go_at_call 279; refine (lengthsCode_ok _ hi2 HLL.out).mono ?_; rintro e w3 ⟨b, rfl, ht3, hi3, st3⟩; have HR3 := (show Hid _ from (st3.block w.heap.size (lt_of_block HR2.out) HN.out.1 HN.out.2).trans HR2.out))
              | (refine wpList_store_row rfl 183 (.tmp 7) _ rfl w3.heap.size (CA first b) rfl rfl 183 _ (heap_alloc_new w3 _) ?_ ?_ ?_ ?_; (rw [CA_size]; exact sizeCode); (rw [CA_size]; rfl); exact CA_one first b; rw [World.setRow_alloc_new])
              | (refine wpList_load_row rfl 183 (.tmp 7) rfl w3.heap.size rfl 183 (CA first b) (0, 0) _ (heap_alloc_new w3 _) Tryz.underlying183 rfl ?_ ?_; (rw [CA_size]; exact sizeCode))
              | (go_at_call 280; refine (row_bad (by omega) hMl _ (hi3.alloc _) (ht3.step (Step.alloc (Step.refl ..) _)) HRW.out).mono ?_; rintro e w4 ⟨b4, k4, hb4, rfl, hi4, st4⟩; unfold errV; have HR4 := (show Hid _ from (st4.block w.heap.size (by have := lt_of_block HR3.out; simp; omega) HN.out.1 HN.out.2).trans (alloc_keeps HR3.out)))
              | (refine wpList_store_row rfl 185 (.tmp 2) _ rfl w.heap.size zeroCodes rfl rfl 185 _ HR4.out sizeCodes rfl zeroCodes_one ?_; rw [setRow_same (cs := zeroCodes) HR4.out]))
            refine bodyPost_ret_by (v := .tuple #[.agg zeroCodes, errV b4]) (results_row_tmp Tryz.results220 _ _ w.heap.size 185 zeroCodes (0, 0) _ rfl HR4.out Tryz.underlying185 rfl sizeCodes) rfl (.inr ⟨HR0.out, b4, _, hb4, rfl, hi4, ((HS2.out.trans st3).alloc _).trans st4⟩)
          | some p3 =>
            obtain ⟨k3, r⟩ := p3
            rw [hRw] at HR0
            simp only [] at HR0
            obtain ⟨hr15, hrlen⟩ := rowGo_le _ _ _ _ _ _ _ _ (by intro x hx; simp at hx) hRw
            have HRW : Hid _ := hRw
            clear hRw
            go_enter Tryz.func220, Tryz.ntmps220
            go_wp2_with (first
              | (go_at_call 161; have := first0; refine (number_ok 5 (by omega) _ (hi.alloc _) h5).mono ?_; rintro e w1 ⟨rfl, hi1, st1⟩; rw [← Hp.out]; have HR1 := (show Hid _ from (st1.block w.heap.size (by simp) HN.out.1 HN.out.2).trans (heap_alloc_new w _)); clear first0; have first1 : True := trivial)
              | (go_at_call 161; have := first1; refine (number_ok 5 (by omega) _ hi1 h10).mono ?_; rintro e w2 ⟨rfl, hi2, st2⟩; rw [← Hq.out]; have HR2 := (show Hid _ from (st2.block w.heap.size (lt_of_block HR1.out) HN.out.1 HN.out.2).trans HR1.out); have HS2 := (show Hid (Step g o o w w2) from ((Step.alloc (Step.refl ..) _).trans st1).trans st2); clear first1 st1 st2 hi1 HR1; skip)
              | (go_at_call 279; refine (lengthsCode_ok _ hi2 HLL.out).mono ?_; rintro e w3 ⟨b, rfl, ht3, hi3, st3⟩; have HR3 := (show Hid _ from (st3.block w.heap.size (lt_of_block HR2.out) HN.out.1 HN.out.2).trans HR2.out))
              | (refine wpList_store_row rfl 183 (.tmp 7) _ rfl w3.heap.size (CA first b) rfl rfl 183 _ (heap_alloc_new w3 _) ?_ ?_ ?_ ?_; (rw [CA_size]; exact sizeCode); (rw [CA_size]; rfl); exact CA_one first b; rw [World.setRow_alloc_new])
              | (refine wpList_load_row rfl 183 (.tmp 7) rfl w3.heap.size rfl 183 (CA first b) (0, 0) _ (heap_alloc_new w3 _) Tryz.underlying183 rfl ?_ ?_; (rw [CA_size]; exact sizeCode))
              | (go_at_call 280; refine (row_ok (by omega) hMl _ (hi3.alloc _) (ht3.step (Step.alloc (Step.refl ..) _)) HRW.out).mono ?_; rintro e w4 ⟨v, rfl, hown4, hi4, st4⟩; have HR4 := (show Hid _ from (st4.block w.heap.size (by have := lt_of_block HR3.out; simp; omega) HN.out.1 HN.out.2).trans (alloc_keeps HR3.out))))
            have hM0 : 0 < r.length := by have := HM.out; omega
            obtain ⟨bR, capR, hvR, hcapR, _⟩ := int_cell hown4 0 hM0
            have hlR : r.length = M := hrlen
            have HOW : Hid (w4.ownsRow (w3.heap.size + 1) 3 1 (.slice (some ⟨bR, 0, none⟩) M capR) r.length (ivals r)) := by
              show World.ownsRow ..
              have := hown4; rw [hvR, hlR] at this; rw [hlR]; simpa using this
            rw [hvR, hlR]
            rw [hlR] at hcapR
            clear hown4 hvR
            have hpM : p + 257 ≤ M := by have := HM.out; omega
            have q1 := fun w => cut_to bR M capR (p + 257) ((p : Int) + 257) (by omega) (by omega) w
            have q2 := fun w => cut_from bR M capR (p + 257) ((p : Int) + 257) (by omega) (by have := HM.out; omega) hcapR w
            rw [show M - (p + 257) = q + 1 by have := HM.out; omega] at q2
            have hll : (r.take (p + 257)).length = p + 257 := by simp; omega
            have hdl : (r.drop (p + 257)).length = q + 1 := by simp; have := HM.out; omega
            have hI1 : IntsAt w4.drew bR 0 (r.take (p + 257)) := IntsAt.of_own (w := w4.drew) HOW.out hM0 0 0 _ (fun j hj => ⟨by omega, by
              rw [Nat.zero_add, List.getD_eq_getElem?_getD, List.getD_eq_getElem?_getD, List.getElem?_take_of_lt (by omega)]⟩)
            have hI2 : IntsAt w4.drew bR (r.take (p + 257)).length (r.drop (p + 257)) := by
              rw [hll]
              exact IntsAt.of_own (w := w4.drew) HOW.out hM0 (p + 257) 0 _ (fun j hj => ⟨by omega, by
                rw [List.getD_eq_getElem?_getD, List.getD_eq_getElem?_getD, List.getElem?_drop]⟩)
            have hco := codesOf_any (er := er) (r.take (p + 257)) (r.drop (p + 257)) (by omega) (by omega) (by omega) (fun n hn => hr15 n (List.mem_of_mem_take hn)) (fun n hn => hr15 n (List.mem_of_mem_drop hn)) bR capR (capR - (p + 257)) w4.drew hI1 hI2 hi4.drew.errs
            rw [hll, hdl] at hco
            have hll4 : (r.take (p + 257)).length ≤ 400 := by omega
            have hdl4 : (r.drop (p + 257)).length ≤ 400 := by omega
            obtain ⟨L, HLx⟩ := hid_intro (r.take (p + 257))
            obtain ⟨D, HDx⟩ := hid_intro (r.drop (p + 257))
            rw [← HLx.out, ← HDx.out] at hco HR0
            rw [← HLx.out] at hll4
            rw [← HDx.out] at hdl4
            have HCO : Hid _ := hco
            clear hco hI1 hI2 hll hdl hr15
            have HWg : Hid (g < w.heap.size ∧ 24 ≤ w.heap.size ∧ ∀ b, o.ownBlock = some b → b < w.heap.size) := ⟨hi.lt, hi.errs.size, fun b e => (hi.own.lt b e).2⟩
            have HS4 : Hid (Step g o o w w4) := ((HS2.out.trans st3).alloc _).trans st4
            go_wp2
            refine region_mid2' 6 9 _ rfl rfl (by kernel_rfl) (by kernel_rfl) ?_
            simp only [List.take_succ_cons, List.take_zero, List.drop_succ_cons, List.drop_zero]
            repeat still_step
            refine wpStill_nil (fun K hK => ?_)
            go_simp
            refine Calls.mono HCO.out ?_
            rintro e w5 (⟨hok, b1, b2, rfl, hb1, hb2, hr1, hr2, hbl⟩ | ⟨hok, b5, hb5, rfl, hbl⟩)
            · have HR5 := (show Hid _ from (hbl.block w.heap.size (lt_of_block HR4.out)).trans HR4.out)
              have HBL := (show Hid _ from hbl)
              rw [if_pos hok] at HR0
              clear hbl
              refine hK _ _ ?_
              clear hK K
              repeat still_step
              refine wpStill_nil ?_
              go_wp2_with (refine wpList_store_row rfl 185 (.tmp 2) _ rfl w.heap.size (CC L D b1 b2) rfl rfl 185 _ HR5.out ?_ ?_ ?_ ?_; (rw [CC_size]; exact sizeCodes); (rw [CC_size]; rfl); exact CC_one L D b1 b2)
              have hz4 : w.heap.size < w4.heap.size := lt_of_block HR4.out
              have hnb : ∀ b, w4.heap.size ≤ b → b ≠ g ∧ o.ownBlock ≠ some b ∧ b ≠ w.heap.size := fun b hb => ⟨by have := HWg.out.1; omega, fun e => by have := HWg.out.2.2 b e; omega, by omega⟩
              have n1 := hnb b1 hb1
              have n2 := hnb b2 hb2
              refine bodyPost_ret_by (v := .tuple #[.agg (CC L D b1 b2), .nilIface]) (results_row_tmp Tryz.results220 _ _ w.heap.size 185 (CC L D b1 b2) (0, 0) _ rfl (setRow_heap _ _ _ _ _ _ HR5.out) Tryz.underlying185 rfl (by rw [CC_size]; exact sizeCodes)) rfl (.inl ⟨k3, L, D, b1, b2, HR0.out, hll4, hdl4, rfl, ⟨(setRow_other _ _ _ _ n1.2.2).trans hr1, n1.1, n1.2.1⟩, ⟨(setRow_other _ _ _ _ n2.2.2).trans hr2, n2.1, n2.2.1⟩, (hi4.drew.below HBL.out).other w.heap.size HN.out.1 HN.out.2 HWg.out.2.1 (by simp) (fun j hj => setRow_other _ _ _ _ hj), (HS4.out.drew.trans (Step.of_below HBL.out)).setRow (Nat.le_refl _) _⟩)
            · have HR5 := (show Hid _ from (hbl.block w.heap.size (lt_of_block HR4.out)).trans HR4.out)
              have HBL := (show Hid _ from hbl)
              rw [if_neg hok] at HR0
              clear hbl
              unfold errV
              refine hK _ _ ?_
              clear hK K
              repeat still_step
              refine wpStill_nil ?_
              go_wp2_with (refine wpList_store_row rfl 185 (.tmp 2) _ rfl w.heap.size zeroCodes rfl rfl 185 _ HR5.out sizeCodes rfl zeroCodes_one ?_; rw [setRow_same (cs := zeroCodes) HR5.out])
              refine bodyPost_ret_by (v := .tuple #[.agg zeroCodes, errV b5]) (results_row_tmp Tryz.results220 _ _ w.heap.size 185 zeroCodes (0, 0) _ rfl HR5.out Tryz.underlying185 rfl sizeCodes) rfl (.inr ⟨HR0.out, b5, _, hb5, rfl, hi4.drew.below HBL.out, HS4.out.drew.trans (Step.of_below HBL.out)⟩)
    · have HE : Hid (R = none) := by rw [HR.out]; show _ = _; unfold ownP; rw [if_neg (show ¬ has s.data.toList k 10 by unfold has; omega)]
      go_enter Tryz.func220, Tryz.ntmps220
      go_wp2_with (first
        | (go_at_call 161; have := first0; refine (number_ok 5 (by omega) _ (hi.alloc _) h5).mono ?_; rintro e w1 ⟨rfl, hi1, st1⟩; rw [← Hp.out]; have HR1 := (show Hid _ from (st1.block w.heap.size (by simp) HN.out.1 HN.out.2).trans (heap_alloc_new w _)); clear first0)
        | (go_at_call 161; refine (number_end 5 (by omega) _ hi1 h10).mono ?_; rintro e w2 ⟨rfl, hi2, st2⟩; unfold errV; have HR2 := (show Hid _ from (st2.block w.heap.size (lt_of_block HR1.out) HN.out.1 HN.out.2).trans HR1.out))
        | (refine wpList_store_row rfl 185 (.tmp 2) _ rfl w.heap.size zeroCodes rfl rfl 185 _ HR2.out sizeCodes rfl zeroCodes_one ?_; rw [setRow_same (cs := zeroCodes) HR2.out]))
      refine bodyPost_ret_by (v := .tuple #[.agg zeroCodes, errV er.short]) (results_row_tmp Tryz.results220 _ _ w.heap.size 185 zeroCodes (0, 0) _ rfl HR2.out Tryz.underlying185 rfl sizeCodes) rfl (.inr ⟨HE.out, er.short, _, by simp [Errs.bad], rfl, hi2, ((Step.alloc (Step.refl ..) _).trans st1).trans st2⟩)
  · have HE : Hid (R = none) := by rw [HR.out]; show _ = _; unfold ownP; rw [if_neg (show ¬ has s.data.toList k 10 by unfold has; omega)]
    go_enter Tryz.func220, Tryz.ntmps220
    go_wp2_with (first
      | (go_at_call 161; refine (number_end 5 (by omega) _ (hi.alloc _) h5).mono ?_; rintro e w1 ⟨rfl, hi1, st1⟩; unfold errV; have HR1 := (show Hid _ from (st1.block w.heap.size (by simp) HN.out.1 HN.out.2).trans (heap_alloc_new w _)))
      | (refine wpList_store_row rfl 185 (.tmp 2) _ rfl w.heap.size zeroCodes rfl rfl 185 _ HR1.out sizeCodes rfl zeroCodes_one ?_; rw [setRow_same (cs := zeroCodes) HR1.out]))
    refine bodyPost_ret_by (v := .tuple #[.agg zeroCodes, errV er.short]) (results_row_tmp Tryz.results220 _ _ w.heap.size 185 zeroCodes (0, 0) _ rfl HR1.out Tryz.underlying185 rfl sizeCodes) rfl (.inr ⟨HE.out, er.short, _, by simp [Errs.bad], rfl, hi1, (Step.alloc (Step.refl ..) _).trans st1⟩)
end
end Go.Proofs.YtgfbbcnnmoamnaaGreatDoor
