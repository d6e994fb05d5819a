/- The program's reading of a block's symbols. -/
import Derived.Test.YtgfbbcnnmoamnaaGreatDoorPE
namespace Go.Proofs.YtgfbbcnnmoamnaaGreatDoor
open Go.RowKit

/-- where the reading stands -/
def posOf (g : Nat) (w : World) : Nat := match w.cell? ⟨g, 1, none⟩ with | some (.int _ q) => q.toNat | _ => 0
section
variable {ll dl : List Nat} {s : List UInt8} {limit f k x k2 : Nat} {out : List UInt8}
theorem symsGo_none (h : dec ll s k = none) : symsGo ll dl s limit (f + 1) k out = .err 5 := by rw [symsGo, symStep, h]
theorem symsGo_lit (h : dec ll s k = some (x, k2)) (hx : x < 256) : symsGo ll dl s limit (f + 1) k out = if out.length ≥ limit then .err 6 else symsGo ll dl s limit f k2 (out ++ [UInt8.ofNat x]) := by
  rw [symsGo, symStep, h]; simp only []; rw [if_pos hx]
theorem symsGo_end (h : dec ll s k = some (256, k2)) : symsGo ll dl s limit (f + 1) k out = .ok k2 out := by
  rw [symsGo, symStep, h]; rfl
theorem symsGo_bad (h : dec ll s k = some (x, k2)) (hx : 256 < x) {e : Nat} (hr : repS dl s limit x k2 out = .err e) : symsGo ll dl s limit (f + 1) k out = .err e := by
  rw [symsGo, symStep, h]; simp only []; rw [if_neg (by omega), if_neg (by omega)]
  unfold repS at hr
  split
  · rename_i h2; rw [if_pos h2] at hr; exact hr
  · rename_i h2; rw [if_neg h2] at hr; rw [hr]
theorem symsGo_rep (h : dec ll s k = some (x, k2)) (hx : 256 < x) {k3 : Nat} {out3 : List UInt8} (hr : repS dl s limit x k2 out = .ok k3 out3) : symsGo ll dl s limit (f + 1) k out = symsGo ll dl s limit f k3 out3 := by
  rw [symsGo, symStep, h]; simp only []; rw [if_neg (by omega), if_neg (by omega)]
  unfold repS at hr
  split
  · rename_i h2; rw [if_pos h2] at hr; cases hr
  · rename_i h2; rw [if_neg h2] at hr; rw [hr]
end
theorem copyN_le (limit back k : Nat) : ∀ (n : Nat) (out : List UInt8) (k' : Nat) (out' : List UInt8), copyN limit back k n out = .ok k' out' → k' = k
  | 0, out, k', out', h => by injection h with h1; exact h1.symm
  | n + 1, out, k', out', h => by
    rw [copyN] at h
    split at h
    · cases h
    · exact copyN_le limit back k n _ _ _ h
theorem distS_le {dl : List Nat} {s : List UInt8} {k d k2 : Nat} (h : distS dl s k = some (d, k2)) : k < k2 := by
  unfold distS at h
  cases hd : dec dl s k with
  | none => rw [hd] at h; cases h
  | some p =>
    obtain ⟨y, k3⟩ := p
    have := dec_le hd
    rw [hd] at h
    simp only [] at h
    split at h
    · cases h
    · split at h
      · injection h with h; injection h with h1 h2; omega
      · cases h
theorem repS_le {dl : List Nat} {s : List UInt8} {limit x k k' : Nat} {out out' : List UInt8} (h : repS dl s limit x k out = .ok k' out') : k < k' := by
  unfold repS at h
  split at h
  · cases h
  · rw [matchS_dist] at h
    split at h
    · cases hd : distS dl s (k + (lenSpan (x - 257)).2) with
      | none => rw [hd] at h; cases h
      | some p =>
        obtain ⟨d, k2⟩ := p
        have := distS_le hd
        rw [hd] at h
        simp only [] at h
        split at h
        · cases h
        · have := copyN_le _ _ _ _ _ _ _ h; omega
    · cases h
/-- the cells of a block's two codes -/
def CC (ll dl : List Nat) (hl hd : Nat) : Array Value := CA ll hl ++ CA dl hd
section
variable {er : Errs} {g : Nat} {s : ByteArray} {lim : Nat} {fx : List Value} {k : Nat} {o : Value} {out : List UInt8}
theorem Inf.pos {w : World} (h : Inf er g s lim fx k o out w) : posOf g w = k := by unfold posOf; rw [h.c1]; simp
theorem put_full_v {v : Int} (x : UInt8) (hv : v = (x.toNat : Int)) (w : World) (h : Inf er g s lim fx k o out w) (hl : out.length ≥ lim) :
    Calls Tryz.prog 276 #[.pointer (some ⟨g, 0, none⟩), .int .u8 v] w fun e w' => e = .returned (errV er.lim) ∧ Inf er g s lim fx k o out w' ∧ Step g o o w w' := by
  subst hv; exact put_full x w h hl
theorem put_ok_v {v : Int} (x : UInt8) (hv : v = (x.toNat : Int)) (w : World) (h : Inf er g s lim fx k o out w) (hl : ¬ out.length ≥ lim) :
    Calls Tryz.prog 276 #[.pointer (some ⟨g, 0, none⟩), .int .u8 v] w fun e w' => e = .returned .nilIface ∧ ∃ o', Inf er g s lim fx k o' (out ++ [x]) w' ∧ Step g o o' w w' := by
  subst hv; exact put_ok x w h hl
set_option maxHeartbeats 1000000 in
set_option maxRecDepth 8000 in
theorem symbols_any (ll dl : List Nat) (h1 : ll.length ≤ 400) (h2 : dl.length ≤ 400) (hl hd : Nat) (w : World) (hi : Inf er g s lim fx k o out w) (htl : Tab g hl (codeSyms ll) o w) (htd : Tab g hd (codeSyms dl) o w) :
    Calls Tryz.prog 219 #[.pointer (some ⟨g, 0, none⟩), .agg (CC ll dl hl hd)] w (Outc er g s lim fx o w (symsGo ll dl s.data.toList lim (8 * s.size + 1) k out)) := by
  obtain ⟨C, HC⟩ := hid_intro (CC ll dl hl hd)
  rw [← HC.out]
  obtain ⟨R, HR⟩ := hid_intro (symsGo ll dl s.data.toList lim (8 * s.size + 1) k out)
  rw [← HR.out]
  have hi0 := hi.alloc (.cells C 185)
  have st0 : Step g o o w (w.alloc (.cells C 185)) := Step.alloc (Step.refl ..) _
  have htl0 := htl.step st0
  have htd0 := htd.step st0
  have hb0 : (w.alloc (.cells C 185)).heap[w.heap.size]? = some (.cells C 185 (0, 0)) := heap_alloc_new w _
  have HN : Hid (w.heap.size ≠ g ∧ o.ownBlock ≠ some w.heap.size) := ⟨by have := hi.lt; omega, fun e => by have := (hi.own.lt _ e).2; omega⟩
  clear hi htl htd
  go_enter Tryz.func219, Tryz.ntmps219
  go_wp2
  go_loopw [] (fun wr => ∃ (f k' : Nat) (o' : Value) (out' : List UInt8), 8 * s.size + 1 ≤ f + k' ∧ Hid (R = symsGo ll dl s.data.toList lim f k' out') ∧ Inf er g s lim fx k' o' out' wr ∧ Step g o o' (w.alloc (.cells C 185)) wr) (fun wr => 8 * s.size - posOf g wr)
  case atStart => exact ⟨_, k, o, out, by omega, HR, hi0, Step.refl ..⟩
  case round =>
    obtain ⟨f, k', o', out', hf, HRf, hi, st⟩ := hrel
    have hb := (st.block w.heap.size (by simp) HN.out.1 HN.out.2).trans hb0
    have htl := htl0.step st
    have htd := htd0.step st
    have hr1 : wr.drew.rangeAt w.heap.size 0 (CA ll hl).toList := by
      have h : wr.drew.heap[w.heap.size]? = some (.cells (#[] ++ CA ll hl ++ CA dl hd) 185 (0, 0)) := by rw [show (#[] ++ CA ll hl ++ CA dl hd : Array Value) = C by rw [HC.out]; simp [CC]]; exact hb
      exact range_of_block h
    obtain ⟨f, rfl⟩ : ∃ f', f = f' + 1 := ⟨f - 1, by have := hi.hk; omega⟩
    have HC1 : Hid _ := CA_size ll hl
    obtain ⟨C1, HC1'⟩ := hid_intro (CA ll hl)
    have hpos := hi.pos
    rw [← HC1'.out] at hr1
    cases hD : dec ll s.data.toList k' with
    | none =>
      have HE : Hid (R = .err 5) := by rw [HRf.out]; exact symsGo_none hD
      have HDD : Hid _ := hD
      clear hD
      go_wp2
      refine region_mid 5 _ _ rfl rfl (by kernel_rfl) (by kernel_rfl) ?_
      simp only [List.take_succ_cons, List.take_zero]
      still_step
      refine wpStill_step (fun K hK => ?_)
      refine still_load_mid 183 (.tmp 8) rfl w.heap.size 0 rfl C1 _ hr1 Tryz.underlying183 rfl (by rw [HC1'.out, HC1.out]; exact sizeCode) (hK _ ?_)
      clear hK K
      repeat still_step
      refine wpStill_nil (fun K hK => ?_)
      go_simp
      rw [HC1'.out]; refine (read_none h1 _ hi.drew htl.drew HDD.out).mono ?_; rintro e w1 ⟨b, k3, hb, rfl, hi1, st1⟩; unfold errV
      refine hK _ _ ?_
      clear hK K
      repeat still_step
      refine wpStill_nil ?_
      go_wp2
      go_ret
      rw [HE.out]
      exact ⟨b, _, _, _, rfl, .inr ⟨rfl, hb⟩, hi1, (st0.trans st).drew.trans st1⟩
    | some p =>
      obtain ⟨x, k2⟩ := p
      have hx4 : x < 400 := by have := dec_lt hD; omega
      have hkk := dec_le hD
      have hss : s.data.toList.length = s.size := by simp
      have HDD : Hid _ := hD
      by_cases hx : x < 256
      · have HE : Hid (R = if out'.length ≥ lim then .err 6 else symsGo ll dl s.data.toList lim f k2 (out' ++ [UInt8.ofNat x])) := by rw [HRf.out]; exact symsGo_lit hD hx
        have hxu : Hid ((x : Int) = ((UInt8.ofNat x).toNat : Int)) := by show (x : Int) = _; simp; omega
        clear hD
        by_cases hfull : out'.length ≥ lim
        · rw [if_pos hfull] at HE
          go_wp2
          refine region_mid 5 _ _ rfl rfl (by kernel_rfl) (by kernel_rfl) ?_
          simp only [List.take_succ_cons, List.take_zero]
          still_step
          refine wpStill_step (fun K hK => ?_)
          refine still_load_mid 183 (.tmp 8) rfl w.heap.size 0 rfl C1 _ hr1 Tryz.underlying183 rfl (by rw [HC1'.out, HC1.out]; exact sizeCode) (hK _ ?_)
          clear hK K
          repeat still_step
          refine wpStill_nil (fun K hK => ?_)
          go_simp
          rw [HC1'.out]; refine (read_some h1 _ hi.drew htl.drew HDD.out).mono ?_; rintro e w1 ⟨rfl, hi1, st1⟩
          refine hK _ _ ?_
          clear hK K
          repeat still_step
          refine wpStill_nil ?_
          go_wp2_with (go_at_call 276; refine (put_full_v (UInt8.ofNat x) hxu.out _ hi1 hfull).mono ?_; rintro e w2 ⟨rfl, hi2, st2⟩; unfold errV)
          go_ret
          rw [HE.out]
          exact ⟨er.lim, _, _, _, rfl, .inl ⟨rfl, rfl⟩, hi2, ((st0.trans st).drew.trans st1).trans st2⟩
        · rw [if_neg hfull] at HE
          go_wp2
          refine region_mid 5 _ _ rfl rfl (by kernel_rfl) (by kernel_rfl) ?_
          simp only [List.take_succ_cons, List.take_zero]
          still_step
          refine wpStill_step (fun K hK => ?_)
          refine still_load_mid 183 (.tmp 8) rfl w.heap.size 0 rfl C1 _ hr1 Tryz.underlying183 rfl (by rw [HC1'.out, HC1.out]; exact sizeCode) (hK _ ?_)
          clear hK K
          repeat still_step
          refine wpStill_nil (fun K hK => ?_)
          go_simp
          rw [HC1'.out]; refine (read_some h1 _ hi.drew htl.drew HDD.out).mono ?_; rintro e w1 ⟨rfl, hi1, st1⟩
          refine hK _ _ ?_
          clear hK K
          repeat still_step
          refine wpStill_nil ?_
          go_wp2_with (go_at_call 276; refine (put_ok_v (UInt8.ofNat x) hxu.out _ hi1 hfull).mono ?_; rintro e w2 ⟨rfl, o2, hi2, st2⟩)
          go_roundw
          case rel => exact ⟨f, k2, o2, _, by omega, HE, hi2, (st.drew.trans st1).trans st2⟩
          case measure => rw [hi2.pos, hpos]; omega
      · by_cases hxe : x = 256
        · subst hxe
          have HE : Hid (R = .ok k2 out') := by rw [HRf.out]; exact symsGo_end hD
          clear hD
          go_wp2
          refine region_mid 5 _ _ rfl rfl (by kernel_rfl) (by kernel_rfl) ?_
          simp only [List.take_succ_cons, List.take_zero]
          still_step
          refine wpStill_step (fun K hK => ?_)
          refine still_load_mid 183 (.tmp 8) rfl w.heap.size 0 rfl C1 _ hr1 Tryz.underlying183 rfl (by rw [HC1'.out, HC1.out]; exact sizeCode) (hK _ ?_)
          clear hK K
          repeat still_step
          refine wpStill_nil (fun K hK => ?_)
          go_simp
          rw [HC1'.out]; refine (read_some h1 _ hi.drew htl.drew HDD.out).mono ?_; rintro e w1 ⟨rfl, hi1, st1⟩
          refine hK _ _ ?_
          clear hK K
          repeat still_step
          refine wpStill_nil ?_
          go_wp2
          go_ret
          rw [HE.out]
          exact ⟨rfl, o', hi1, (st0.trans st).drew.trans st1⟩
        · have hr2 : ∀ w1, Step g o' o' wr w1 → w1.rangeAt w.heap.size 17 (CA dl hd).toList := fun w1 st1 => by
            have e : w1.heap[w.heap.size]? = wr.heap[w.heap.size]? := st1.block w.heap.size (lt_of_block hb) HN.out.1 (fun e => by
              rcases st.moved _ e with e2 | e2
              · exact HN.out.2 e2
              · simp at e2; omega)
            have h : w1.heap[w.heap.size]? = some (.cells (CA ll hl ++ CA dl hd ++ #[]) 185 (0, 0)) := by rw [show (CA ll hl ++ CA dl hd ++ #[] : Array Value) = C by rw [HC.out]; simp [CC], e]; exact hb
            have h3 := range_of_block h
            rw [CA_size] at h3
            exact h3
          have HC2 : Hid _ := CA_size dl hd
          have hrp := fun w1 hi1 ht1 => repeat_any (er := er) (g := g) (s := s) (lim := lim) (fx := fx) (k := k2) (o := o') (out := out') dl h2 hd x (by omega) hx4 w1 hi1 ht1
          obtain ⟨C2, HC2'⟩ := hid_intro (CA dl hd)
          rw [← HC2'.out] at hr2 HC2 hrp
          have HRP : Hid _ := hrp
          have HR2 : Hid _ := hr2
          clear hrp hr2
          cases hQ : repS dl s.data.toList lim x k2 out' with
          | err c =>
            have HE : Hid (R = .err c) := by rw [HRf.out]; exact symsGo_bad hD (by omega) hQ
            rw [hQ] at HRP
            clear hD hQ
            go_wp2
            refine region_mid 5 _ _ rfl rfl (by kernel_rfl) (by kernel_rfl) ?_
            simp only [List.take_succ_cons, List.take_zero]
            still_step
            refine wpStill_step (fun K hK => ?_)
            refine still_load_mid 183 (.tmp 8) rfl w.heap.size 0 rfl C1 _ hr1 Tryz.underlying183 rfl (by rw [HC1'.out, HC1.out]; exact sizeCode) (hK _ ?_)
            clear hK K
            repeat still_step
            refine wpStill_nil (fun K hK => ?_)
            go_simp
            rw [HC1'.out]; refine (read_some h1 _ hi.drew htl.drew HDD.out).mono ?_; rintro e w1 ⟨rfl, hi1, st1⟩
            refine hK _ _ ?_
            clear hK K
            repeat still_step
            refine wpStill_nil ?_
            have hr3 := HR2.out w1 ((Step.drew (Step.refl ..)).trans st1)
            go_wp2_with (first
              | (refine wpList_load_part rfl 183 _ rfl w.heap.size 17 rfl C2 _ hr3 Tryz.underlying183 rfl ?_ ?_; (rw [HC2.out]; exact sizeCode))
              | (go_at_call 278; refine (HRP.out w1 hi1 (htd.drew.step st1)).mono ?_; rintro e w2 ⟨b, k4, o4, out4, rfl, hb4, hi2, st2⟩; unfold errV))
            go_ret
            rw [HE.out]
            exact ⟨b, _, _, _, rfl, hb4, hi2, ((st0.trans st).drew.trans st1).trans st2⟩
          | ok k3 out3 =>
            have HE : Hid (R = symsGo ll dl s.data.toList lim f k3 out3) := by rw [HRf.out]; exact symsGo_rep hD (by omega) hQ
            have hk3 := repS_le hQ
            rw [hQ] at HRP
            clear hD hQ
            go_wp2
            refine region_mid 5 _ _ rfl rfl (by kernel_rfl) (by kernel_rfl) ?_
            simp only [List.take_succ_cons, List.take_zero]
            still_step
            refine wpStill_step (fun K hK => ?_)
            refine still_load_mid 183 (.tmp 8) rfl w.heap.size 0 rfl C1 _ hr1 Tryz.underlying183 rfl (by rw [HC1'.out, HC1.out]; exact sizeCode) (hK _ ?_)
            clear hK K
            repeat still_step
            refine wpStill_nil (fun K hK => ?_)
            go_simp
            rw [HC1'.out]; refine (read_some h1 _ hi.drew htl.drew HDD.out).mono ?_; rintro e w1 ⟨rfl, hi1, st1⟩
            refine hK _ _ ?_
            clear hK K
            repeat still_step
            refine wpStill_nil ?_
            have hr3 := HR2.out w1 ((Step.drew (Step.refl ..)).trans st1)
            go_wp2_with (first
              | (refine wpList_load_part rfl 183 _ rfl w.heap.size 17 rfl C2 _ hr3 Tryz.underlying183 rfl ?_ ?_; (rw [HC2.out]; exact sizeCode))
              | (go_at_call 278; refine (HRP.out w1 hi1 (htd.drew.step st1)).mono ?_; rintro e w2 ⟨rfl, o4, hi2, st2⟩))
            go_roundw
            case rel => exact ⟨f, k3, o4, _, by omega, HE, hi2, (st.drew.trans st1).trans st2⟩
            case measure => have := hi2.hk; rw [hi2.pos, hpos]; omega
end
end Go.Proofs.YtgfbbcnnmoamnaaGreatDoor
