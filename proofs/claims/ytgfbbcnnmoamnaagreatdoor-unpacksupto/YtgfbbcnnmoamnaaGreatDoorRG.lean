/- The document's next symbol, read. The document's repetitions. The document's symbols, up to the end of a block. -/
import Derived.Test.YtgfbbcnnmoamnaaGreatDoorRD
import Derived.Test.YtgfbbcnnmoamnaaGreatDoorPG
namespace Go.Proofs.YtgfbbcnnmoamnaaGreatDoor
open Go.RowKit

theorem snoc_zero (l : List UInt8) : (⟨l.toArray⟩ : ByteArray) ++ (⟨#[48, 49]⟩ : ByteArray).extract 0 1 = ⟨(l ++ [dig 0]).toArray⟩ := by
  apply ByteArray.ext
  simp [dig]
theorem snoc_one (l : List UInt8) : (⟨l.toArray⟩ : ByteArray) ++ (⟨#[48, 49]⟩ : ByteArray).extract 1 2 = ⟨(l ++ [dig 1]).toArray⟩ := by
  apply ByteArray.ext
  simp [dig]
theorem str_eq_true {a b : ByteArray} (h : a = b) : (a.toList == b.toList) = true := by rw [h]; simp
theorem str_eq_false {a b : ByteArray} (h : a ≠ b) : (a.toList == b.toList) = false := by
  rw [beq_eq_false_iff_ne]
  intro e
  rw [ByteArray.toList_eq, ByteArray.toList_eq] at e
  exact h (ByteArray.ext (Array.toList_inj.1 e))
theorem decGo_end (lens : List Nat) (s : List UInt8) (f n got k : Nat) (h : ¬ has s k 1) : decGo lens s f n got k = none := by
  cases f with
  | zero => rfl
  | succ f => rw [decGo, if_neg h]
section
variable {g : Nat} {s : ByteArray} {lim k : Nat} {o : Value} {out : List UInt8} {e : Nat}
theorem CTab.at {a : Option Addr} {len cap : Nat} {l : List Ent} {w : World} (t : CTab g (.slice a len cap) l o w) (j : Nat) (en : Ent) (h : l[j]? = some en) : ∃ b, a = some ⟨b, 0, none⟩ ∧ w.cell? ⟨b, 2 * j, none⟩ = some (.int .i64 (en.sym : Int)) ∧ w.cell? ⟨b, 2 * j + 1, none⟩ = some (.string ⟨(digs en.val en.len).toArray⟩) := by
  obtain ⟨a', cap', hv, hc⟩ := t
  obtain ⟨b, ha, _, _, _, h1, h2⟩ := hc j en h
  injection hv with hv1
  exact ⟨b, hv1.trans ha, h1, h2⟩
set_option maxHeartbeats 1000000 in
set_option maxRecDepth 8000 in
theorem rsymbol_any (lens : List Nat) (hl : lens.length ≤ 400) (h15 : ∀ n ∈ lens, n ≤ 15) (hkr : kraft lens ≤ 32768) (v : Value) (w : World) (h : Flo g s lim k o out 0 w) (ht : CTab g v (ents lens) o w) :
    Calls Tryz.prog 244 #[.pointer (some ⟨g, 0, none⟩), v] w fun r w' => Step g o o w w' ∧ ((∃ x k2, dec lens s.data.toList k = some (x, k2) ∧ r = .returned (.int .i64 (x : Nat)) ∧ Flo g s lim k2 o out 0 w') ∨ (dec lens s.data.toList k = none ∧ r = .returned (.int .i64 (-1)) ∧ ∃ k2, Flo g s lim k2 o out 5 w')) := by
  obtain ⟨R, HR⟩ := hid_intro (dec lens s.data.toList k)
  rw [← HR.out]
  obtain ⟨va, vcap, rfl, hcells⟩ := ht
  have HT : Hid (CTab g (.slice va (ents lens).length vcap) (ents lens) o w) := ⟨va, vcap, rfl, hcells⟩
  have hss : s.data.toList.length = s.size := by simp
  have hNe : (ents lens).length ≤ 7000 := by have := psd_cap lens hl 16; unfold ents; rw [entsB_len]; omega
  have HM := (show Hid _ from ents_match lens h15 hkr)
  have HFd := (show Hid _ from ents_found lens)
  obtain ⟨NE, HNE⟩ := hid_intro (ents lens).length
  rw [← HNE.out] at hNe HT ⊢
  clear hcells h15 hkr
  go_enter Tryz.func244, Tryz.ntmps244
  go_wp2
  go_loopw [5, 6] (fun vs vn wr => ∃ n got c : Nat, n ≤ 15 ∧ got < 2 ^ n ∧ vs = .string ⟨(digs got n).toArray⟩ ∧ vn = .int .i64 n ∧ Step g o o w wr ∧ ((c = 0 ∧ Hid (R = decGo lens s.data.toList (15 - n) n got (k + n)) ∧ fst lens n + cnt lens n ≤ got ∧ Flo g s lim (k + n) o out 0 wr) ∨ (c = 1 ∧ Hid (R = none) ∧ ∃ k2, Flo g s lim k2 o out 5 wr))) (fun _ vn _ => 15 - (intOf vn).toNat)
  case atStart => exact ⟨0, 0, 0, by omega, by simp, rfl, rfl, Step.refl .., .inl ⟨rfl, HR, by simp [fst, cnt], h⟩⟩
  case round =>
    clear h
    obtain ⟨n, got, c, hn15, hgot, rfl, rfl, st, hcase⟩ := hrel
    have HLn := (show Hid _ from digs_len got n)
    rcases hcase with ⟨rfl, HD, hfc, hF⟩ | ⟨rfl, HD, k2, hF⟩
    · have h4 := hF.c4
      by_cases hn : n < 15
      · by_cases hk : k + n < 8 * s.size
        · have lb := bitAt_lt s.data.toList (k + n)
          obtain ⟨B, HB⟩ := hid_intro (bitAt s.data.toList (k + n))
          rw [← HB.out] at lb
          have hg2 : 2 * got + B < 2 ^ (n + 1) := by rw [Nat.pow_succ]; omega
          have HS := (show Hid _ from digs_snoc got B n lb hgot)
          have HD1 : Hid (R = if 2 * got + B - fst lens (n + 1) < cnt lens (n + 1) then some ((symsOf lens (n + 1)).getD (2 * got + B - fst lens (n + 1)) 0, k + n + 1) else decGo lens s.data.toList (15 - (n + 1)) (n + 1) (2 * got + B) (k + n + 1)) := by
            show _ = _
            rw [HD.out, show 15 - n = 15 - (n + 1) + 1 by omega, decGo, if_pos (show has s.data.toList (k + n) 1 by unfold has; omega), ← HB.out]
          have hfn : fst lens (n + 1) ≤ 2 * got + B := by rw [fst]; omega
          have HM1 := (show Hid _ from fun q en hq hd => HM.out (n + 1) (2 * got + B) q (by omega) hg2 en hq hd)
          have HF1 := (show Hid _ from HFd.out (n + 1) (2 * got + B) (by omega) hfn)
          have hll := HLn.out
          obtain ⟨L, HL⟩ := hid_intro (digs got n)
          rw [← HL.out] at HS hll ⊢
          have HG : Hid _ := hg2
          clear hg2 hgot HLn HM HFd HD
          rcases (by omega : B = 0 ∨ B = 1) with rfl | rfl
          all_goals
            go_wp2_with (go_at_call 243; refine (rbit_ok _ hF hk).mono ?_; rintro r w1 ⟨rfl, hf1, st1⟩; rw [← HB.out])
            first | rw [snoc_zero L, ← HS.out] | rw [snoc_one L, ← HS.out]
            obtain ⟨S, HSS⟩ := hid_intro (digs (2 * got + _) (n + 1))
            rw [← HSS.out] at HM1 HF1 ⊢
            obtain ⟨SB, HSB⟩ := hid_intro (⟨S.toArray⟩ : ByteArray)
            rw [← HSB.out]
            have HLL2 := (show Hid _ from hll)
            clear hll
            have HT1 := (show Hid _ from HT.out.step (st.trans st1))
            have hc4 := hf1.c4
            go_loopw [8] (fun vi wq => ∃ i : Nat, i ≤ NE ∧ vi = .int .i64 i ∧ wq = w1 ∧ Hid (∀ j en, j < i → (ents lens)[j]? = some en → digs en.val en.len ≠ S)) (fun vi _ => NE - (intOf vi).toNat)
            case atStart => exact ⟨0, by omega, rfl, rfl, fun j en hj => by omega⟩
            case round =>
              obtain ⟨i, hi, rfl, hw, HNO⟩ := hrel
              rw [hw]; clear hw
              by_cases hlt : i < NE
              · have hil : i < (ents lens).length := by rw [← HNE.out]; exact hlt
                obtain ⟨en, hen⟩ : ∃ en, (ents lens)[i]? = some en := ⟨_, List.getElem?_eq_getElem hil⟩
                obtain ⟨b, rfl, hs1, hs2⟩ := CTab.at (show CTab g (.slice va NE vcap) (ents lens) o w1 from HT1.out) i en hen
                obtain ⟨EB, HEB⟩ := hid_intro (⟨(digs en.val en.len).toArray⟩ : ByteArray)
                rw [← HEB.out] at hs2
                have hs1' : w1.cell? ⟨b, i * 2, none⟩ = some (.int .i64 (en.sym : Int)) := by rw [Nat.mul_comm]; exact hs1
                have hs2' : w1.cell? ⟨b, i * 2 + 1, none⟩ = some (.string EB) := by rw [Nat.mul_comm]; exact hs2
                have HEN := (show Hid _ from hen)
                have HF2 := (show Hid _ from hf1)
                have HST := (show Hid _ from st.trans st1)
                obtain ⟨sy, HSY⟩ := hid_intro en.sym
                rw [← HSY.out] at hs1 hs1'
                by_cases hm : EB = SB
                · have HM2 := (show Hid _ from hm)
                  clear hen HT HT1 hil hf1 st st1 h4 hF hfn hfc
                  have hd1 := str_eq_true hm
                  clear hm
                  go_wp2
                  have hm : digs en.val en.len = S := by
                    have h1 := HM2.out
                    rw [HEB.out, HSB.out] at h1
                    have h2 := congrArg (fun x : ByteArray => x.data.toList) h1
                    simpa using h2
                  obtain ⟨_, h2, h3⟩ := HM1.out i en HEN.out hm
                  rw [if_pos h2] at HD1
                  go_ret
                  exact ⟨HST.out, .inl ⟨_, _, HD1.out, ret_int (by rw [HSY.out, h3]), HF2.out⟩⟩
                · have HM2 := (show Hid _ from hm)
                  clear hen HT HT1 hil hf1 st st1 h4 hF hfn hfc
                  have hd1 := str_eq_false hm
                  clear hm
                  go_wp2
                  refine ⟨⟨i + 1, by omega, by go_num, trivial, fun j en' hj hen' he => ?_⟩, by simp [intOf]; omega⟩
                  by_cases hji : j < i
                  · exact HNO.out j en' hji hen' he
                  · obtain rfl : j = i := by omega
                    have h1 := HEN.out
                    rw [hen'] at h1
                    injection h1 with h1
                    subst h1
                    exact HM2.out (by rw [HEB.out, HSB.out, he])
              · have hno : ¬ (2 * got + _ - fst lens (n + 1) < cnt lens (n + 1)) := fun hh => by
                  obtain ⟨q, en, hq, hd⟩ := HF1.out hh
                  exact HNO.out q en (by have := (List.getElem?_eq_some_iff.1 hq).1; have := HNE.out; omega) hq hd
                rw [if_neg hno] at HD1
                go_wp2
                go_roundw
                case rel => exact ⟨n + 1, _, 0, by omega, HG.out, by rw [HSB.out, HSS.out], by go_num, st.trans st1, .inl ⟨rfl, HD1, by omega, hf1⟩⟩
                case measure => simp [intOf]; omega
        · have HE : Hid (R = none) := by rw [HD.out]; exact decGo_end _ _ _ _ _ _ (by unfold has; omega)
          have HS : Hid (digs (2 * got + 0) (n + 1) = digs got n ++ [dig 0]) := digs_snoc got 0 n (by omega) hgot
          have hg2 : 2 * got + 0 < 2 ^ (n + 1) := by rw [Nat.pow_succ]; omega
          have hll := HLn.out
          obtain ⟨L, HL⟩ := hid_intro (digs got n)
          rw [← HL.out] at HS hll ⊢
          have HG : Hid _ := hg2
          clear hg2 hgot HLn
          go_wp2_with (go_at_call 243; refine (rbit_end _ hF (by have := hF.hk; omega)).mono ?_; rintro r w1 ⟨rfl, hf1, st1⟩; have hf2 := (show Flo g s lim (k + n) o out 5 w1 from hf1); have hc4 := hf2.c4; clear hf1)
          refine wp_loop_rounds 1 ?_
          rw [rounds_succ]
          by_cases hNE : 0 < NE
          all_goals
            go_wp2
            go_roundw
            case rel => exact ⟨n + 1, 2 * got + 0, 1, by omega, HG.out, by rw [HS.out]; exact congrArg Value.string (snoc_zero L), by go_num, st.trans st1, .inr ⟨rfl, HE, _, hf2⟩⟩
            case measure => simp [intOf]; omega
      · have HE : Hid (R = none) := by rw [HD.out, show 15 - n = 0 by omega]; rfl
        go_wp2_with (go_at_call 195; refine (wrong_any _ hF).mono ?_; rintro r w1 ⟨rfl, hf1, st1⟩)
        go_ret
        exact ⟨st.trans st1, .inr ⟨HE.out, rfl, _, hf1⟩⟩
    · have h4 := hF.c4
      by_cases hn : n < 15
      · go_wp2_with (go_at_call 195; refine (wrong_any _ hF).mono ?_; rintro r w1 ⟨rfl, hf1, st1⟩)
        go_ret
        exact ⟨st.trans st1, .inr ⟨HD.out, rfl, _, hf1⟩⟩
      · go_wp2_with (go_at_call 195; refine (wrong_any _ hF).mono ?_; rintro r w1 ⟨rfl, hf1, st1⟩)
        go_ret
        exact ⟨st.trans st1, .inr ⟨HD.out, rfl, _, hf1⟩⟩
end
end Go.Proofs.YtgfbbcnnmoamnaaGreatDoor

namespace Go.Proofs.YtgfbbcnnmoamnaaGreatDoor
open Go.RowKit

/-- what comes of a part of the document's reading -/
def ROut (g : Nat) (s : ByteArray) (lim : Nat) (o : Value) (w : World) : Res → World → Prop
  | .ok k2 out2, w' => ∃ o', Flo g s lim k2 o' out2 0 w' ∧ Step g o o' w w'
  | .err c, w' => (c = 5 ∨ c = 6) ∧ ∃ k2 o' out2, Flo g s lim k2 o' out2 c w' ∧ Step g o o' w w'
theorem lenSpan_le (x : Nat) (hx : x ≤ 28) : (lenSpan x).2 ≤ 5 ∧ (lenSpan x).1 ≤ 258 := by
  have : ∀ x, x < 29 → (lenSpan x).2 ≤ 5 ∧ (lenSpan x).1 ≤ 258 := by decide +kernel
  exact this x (by omega)
theorem distSpan_le (y : Nat) (hy : y ≤ 29) : (distSpan y).2 ≤ 13 ∧ 1 ≤ (distSpan y).1 ∧ (distSpan y).1 ≤ 32768 := by
  have : ∀ y, y < 30 → (distSpan y).2 ≤ 13 ∧ 1 ≤ (distSpan y).1 ∧ (distSpan y).1 ≤ 32768 := by decide +kernel
  exact this y (by omega)
section
variable {g : Nat} {s : ByteArray} {lim k : Nat} {o : Value} {out : List UInt8} {e : Nat}
theorem rsymbol_some {lens : List Nat} (hl : lens.length ≤ 400) (h15 : ∀ n ∈ lens, n ≤ 15) (hkr : kraft lens ≤ 32768) (v : Value) (w : World) (h : Flo g s lim k o out 0 w) (ht : CTab g v (ents lens) o w) {x k2 : Nat} (hD : dec lens s.data.toList k = some (x, k2)) :
    Calls Tryz.prog 244 #[.pointer (some ⟨g, 0, none⟩), v] w fun r w' => r = .returned (.int .i64 (x : Nat)) ∧ Flo g s lim k2 o out 0 w' ∧ Step g o o w w' := by
  refine (rsymbol_any lens hl h15 hkr v w h ht).mono ?_
  rintro r w' ⟨st, ⟨x', k', h1, h2, h3⟩ | ⟨h1, _⟩⟩
  · rw [hD] at h1; injection h1 with h1; injection h1 with h4 h5; subst h4; subst h5; exact ⟨h2, h3, st⟩
  · rw [hD] at h1; cases h1
theorem rsymbol_none {lens : List Nat} (hl : lens.length ≤ 400) (h15 : ∀ n ∈ lens, n ≤ 15) (hkr : kraft lens ≤ 32768) (v : Value) (w : World) (h : Flo g s lim k o out 0 w) (ht : CTab g v (ents lens) o w) (hD : dec lens s.data.toList k = none) :
    Calls Tryz.prog 244 #[.pointer (some ⟨g, 0, none⟩), v] w fun r w' => r = .returned (.int .i64 (-1)) ∧ ∃ k2, Flo g s lim k2 o out 5 w' ∧ Step g o o w w' := by
  refine (rsymbol_any lens hl h15 hkr v w h ht).mono ?_
  rintro r w' ⟨st, ⟨x', k', h1, h2, h3⟩ | ⟨h1, h2, k2, h3⟩⟩
  · rw [hD] at h1; cases h1
  · exact ⟨h2, k2, h3, st⟩
/-- a number whose bits are there, and one whose bits are not -/
theorem rnumber_ok (n : Nat) (hn : n ≤ 16) (w : World) (h : Flo g s lim k o out e w) (hh : k + n ≤ 8 * s.size) :
    Calls Tryz.prog 194 #[.pointer (some ⟨g, 0, none⟩), .int .i64 n] w fun r w' => r = .returned (.int .i64 (numAt s.data.toList k n)) ∧ Flo g s lim (k + n) o out e w' ∧ Step g o o w w' := by
  refine (rnumber_any n hn w h).mono ?_
  rintro r w' ⟨h1, h2, h3⟩
  rw [Nat.min_eq_left hh] at h2
  unfold errN at h2
  rw [if_pos hh] at h2
  exact ⟨h1, h2, h3⟩
theorem rnumber_end (n : Nat) (hn : n ≤ 16) (w : World) (h : Flo g s lim k o out e w) (hh : ¬ k + n ≤ 8 * s.size) :
    Calls Tryz.prog 194 #[.pointer (some ⟨g, 0, none⟩), .int .i64 n] w fun r w' => r = .returned (.int .i64 (numAt s.data.toList k n)) ∧ Flo g s lim (8 * s.size) o out (orBad e) w' ∧ Step g o o w w' := by
  refine (rnumber_any n hn w h).mono ?_
  rintro r w' ⟨h1, h2, h3⟩
  rw [Nat.min_eq_right (by omega)] at h2
  unfold errN at h2
  rw [if_neg hh] at h2
  exact ⟨h1, h2, h3⟩
set_option maxHeartbeats 1000000 in
set_option maxRecDepth 8000 in
theorem rmatch_any (dl : List Nat) (hl : dl.length ≤ 400) (h15 : ∀ n ∈ dl, n ≤ 15) (hkr : kraft dl ≤ 32768) (v : Value) (x : Nat) (hx : x ≤ 28) (w : World) (h : Flo g s lim k o out 0 w) (ht : CTab g v (ents dl) o w) :
    Calls Tryz.prog 245 #[.pointer (some ⟨g, 0, none⟩), .int .i64 (x : Int), v] w fun r w' => r = .returned (.tuple #[]) ∧ ROut g s lim o w (matchS dl s.data.toList lim x k out) w' := by
  obtain ⟨R, HR⟩ := hid_intro (matchS dl s.data.toList lim x k out)
  rw [← HR.out]
  have hss : s.data.toList.length = s.size := by simp
  have hsp := lenSpan_le x hx
  have HLe := (show Hid _ from fun w => rlength_any x hx w)
  have ln := numAt_lt s.data.toList k (lenSpan x).2
  have HR1 : Hid (R = if has s.data.toList k (lenSpan x).2 then
    match dec dl s.data.toList (k + (lenSpan x).2) with
    | none => .err 5
    | some (y, k2) =>
      if y > 29 then .err 5
      else if has s.data.toList k2 (distSpan y).2 then
        if (distSpan y).1 + numAt s.data.toList k2 (distSpan y).2 > out.length then .err 5
        else copyN lim ((distSpan y).1 + numAt s.data.toList k2 (distSpan y).2) (k2 + (distSpan y).2) ((lenSpan x).1 + numAt s.data.toList k (lenSpan x).2) out
      else .err 5
  else .err 5) := HR.out
  clear HR
  obtain ⟨la, HLA⟩ := hid_intro (lenSpan x).1
  obtain ⟨lb, HLB⟩ := hid_intro (lenSpan x).2
  rw [← HLA.out] at HR1 HLe hsp
  rw [← HLB.out] at HR1 HLe hsp ln
  have hln : numAt s.data.toList k lb < 32 := Nat.lt_of_lt_of_le ln (Nat.pow_le_pow_right (by omega) hsp.1)
  clear ln
  obtain ⟨N0, HN0⟩ := hid_intro (numAt s.data.toList k lb)
  rw [← HN0.out] at HR1 hln
  have h4 := h.c4
  have HF : Hid (Flo g s lim k o out 0 w) := h
  have HT : Hid (CTab g v (ents dl) o w) := ht
  have hbad : ∀ w0 (k0 e0 : Nat), Flo g s lim k0 o out e0 w0 → w0.cell? ⟨g, 4, none⟩ = some (.int .i64 (e0 : Int)) := fun w0 k0 e0 h0 => h0.c4
  clear h ht
  by_cases hk : k + lb ≤ 8 * s.size
  · rw [if_pos (show has s.data.toList k lb by unfold has; omega)] at HR1
    cases hD : dec dl s.data.toList (k + lb) with
    | none =>
      rw [hD] at HR1
      have HDD := (show Hid _ from hD)
      clear hD
      go_enter Tryz.func245, Tryz.ntmps245
      go_wp2_with (first
        | (go_at_call 298; refine (HLe.out _).mono ?_; rintro r w1 ⟨rfl, hw1⟩; rw [hw1]; clear hw1)
        | (go_at_call 194; refine (rnumber_ok lb (by omega) _ HF.out hk).mono ?_; rintro r w2 ⟨rfl, hf2, st2⟩; rw [← HN0.out])
        | (go_at_call 244; refine (rsymbol_none hl h15 hkr v _ hf2 (HT.out.step st2) HDD.out).mono ?_; rintro r w3 ⟨rfl, k3, hf3, st3⟩; have hc3 := hf3.c4))
      refine bodyPost_ret (results_none rfl _ _ _) rfl ⟨rfl, ?_⟩
      rw [HR1.out]
      exact ⟨.inl rfl, _, _, _, hf3, st2.trans st3⟩
    | some p =>
      obtain ⟨y, k2⟩ := p
      rw [hD] at HR1
      simp only [] at HR1
      have hy4 : y < 400 := by have := dec_lt hD; omega
      have hkk := dec_le hD
      have HDD := (show Hid _ from hD)
      clear hD
      by_cases hy : y > 29
      · rw [if_pos hy] at HR1
        go_enter Tryz.func245, Tryz.ntmps245
        go_wp2_with (first
          | (go_at_call 298; refine (HLe.out _).mono ?_; rintro r w1 ⟨rfl, hw1⟩; rw [hw1]; clear hw1)
          | (go_at_call 194; refine (rnumber_ok lb (by omega) _ HF.out hk).mono ?_; rintro r w2 ⟨rfl, hf2, st2⟩; rw [← HN0.out])
          | (go_at_call 244; refine (rsymbol_some hl h15 hkr v _ hf2 (HT.out.step st2) HDD.out).mono ?_; rintro r w3 ⟨rfl, hf3, st3⟩; have hc3 := hf3.c4)
          | (go_at_call 195; refine (wrong_any _ hf3).mono ?_; rintro r w4 ⟨rfl, hf4, st4⟩))
        refine bodyPost_ret (results_none rfl _ _ _) rfl ⟨rfl, ?_⟩
        rw [HR1.out]
        exact ⟨.inl rfl, _, _, _, hf4, (st2.trans st3).trans st4⟩
      · rw [if_neg hy] at HR1
        have hdp := distSpan_le y (by omega)
        have HDi := (show Hid _ from fun w => rdistance_any y (by omega) w)
        have dn := numAt_lt s.data.toList k2 (distSpan y).2
        obtain ⟨da, HDA⟩ := hid_intro (distSpan y).1
        obtain ⟨db, HDB⟩ := hid_intro (distSpan y).2
        rw [← HDA.out] at HR1 HDi hdp
        rw [← HDB.out] at HR1 HDi hdp dn
        have hdn : numAt s.data.toList k2 db < 8192 := Nat.lt_of_lt_of_le dn (Nat.pow_le_pow_right (by omega) hdp.1)
        clear dn
        obtain ⟨M0, HM0⟩ := hid_intro (numAt s.data.toList k2 db)
        rw [← HM0.out] at HR1 hdn
        have hol : out.length ≤ 20000 := by have := HF.out.ho; have := HF.out.hl; omega
        obtain ⟨ao, cap, rfl⟩ := own_shape HF.out.own
        by_cases hk2 : k2 + db ≤ 8 * s.size
        · rw [if_pos (show has s.data.toList k2 db by unfold has; omega)] at HR1
          by_cases hfar : da + M0 > out.length
          · rw [if_pos hfar] at HR1
            go_enter Tryz.func245, Tryz.ntmps245
            go_wp2_with (first
              | (go_at_call 298; refine (HLe.out _).mono ?_; rintro r w1 ⟨rfl, hw1⟩; rw [hw1]; clear hw1; have first1 : True := trivial)
              | (go_at_call 299; refine (HDi.out _).mono ?_; rintro r w1 ⟨rfl, hw1⟩; rw [hw1]; clear hw1)
              | (go_at_call 194; have := first1; refine (rnumber_ok lb (by omega) _ HF.out hk).mono ?_; rintro r w2 ⟨rfl, hf2, st2⟩; rw [← HN0.out]; clear first1)
              | (go_at_call 244; refine (rsymbol_some hl h15 hkr v _ hf2 (HT.out.step st2) HDD.out).mono ?_; rintro r w3 ⟨rfl, hf3, st3⟩; have hc3 := hf3.c4)
              | (go_at_call 194; refine (rnumber_ok db (by omega) _ hf3 hk2).mono ?_; rintro r w4 ⟨rfl, hf4, st4⟩; rw [← HM0.out]; have hc4 := hf4.c4; have ho4 := hf4.c2)
              | (go_at_call 195; refine (wrong_any _ hf4).mono ?_; rintro r w5 ⟨rfl, hf5, st5⟩; have hf5' := (show Flo g s lim (k2 + db) _ out 5 w5 from hf5); clear hf5; have hc5 := hf5'.c4))
            refine wp_loop_rounds 1 ?_
            rw [rounds_succ]
            by_cases hN : 0 < la + N0
            all_goals
              go_wp2
              refine bodyPost_end (results_none rfl _ _ _) rfl ⟨rfl, ?_⟩
              rw [HR1.out]
              exact ⟨.inl rfl, _, _, _, hf5', ((st2.trans st3).trans st4).trans st5⟩
          · rw [if_neg hfar] at HR1
            have hfb : decide ((out.length : Int) < (da : Int) + (M0 : Int)) = false := decide_eq_false (by omega)
            have hyb : decide ((29 : Int) < (y : Int)) = false := decide_eq_false (by omega)
            go_enter Tryz.func245, Tryz.ntmps245
            go_wp2_with (first
              | (go_at_call 298; refine (HLe.out _).mono ?_; rintro r w1 ⟨rfl, hw1⟩; rw [hw1]; clear hw1; have first1 : True := trivial)
              | (go_at_call 299; refine (HDi.out _).mono ?_; rintro r w1 ⟨rfl, hw1⟩; rw [hw1]; clear hw1)
              | (go_at_call 194; have := first1; refine (rnumber_ok lb (by omega) _ HF.out hk).mono ?_; rintro r w2 ⟨rfl, hf2, st2⟩; rw [← HN0.out]; clear first1)
              | (go_at_call 244; refine (rsymbol_some hl h15 hkr v _ hf2 (HT.out.step st2) HDD.out).mono ?_; rintro r w3 ⟨rfl, hf3, st3⟩; have hc3 := hf3.c4)
              | (go_at_call 194; refine (rnumber_ok db (by omega) _ hf3 hk2).mono ?_; rintro r w4 ⟨rfl, hf4, st4⟩; rw [← HM0.out]; have hc4 := hf4.c4; have ho4 := hf4.c2))
            have HS4 := (show Hid (Step g _ _ w w4) from (st2.trans st3).trans st4)
            have hD1 : 1 ≤ da + M0 := by omega
            have HDa := (show Hid _ from hdp)
            obtain ⟨D, HD⟩ := hid_intro (da + M0)
            have hDi : (da : Int) + (M0 : Int) = (D : Int) := by have := HD.out; omega
            rw [hDi]
            rw [← HD.out] at HR1 hfar hD1
            clear hDi hfb hyb
            clear hc4 ho4 hc3 hf3 hf2 st2 st3 st4 h4 hbad hdp HDi HLe HDD
            go_loopw [11] (fun vi wr => ∃ (i c : Nat) (o' : Value) (out' : List UInt8), i ≤ la + N0 ∧ vi = .int .i64 i ∧ ((c = 0 ∧ Hid (R = copyN lim D (k2 + db) (la + N0 - i) out') ∧ D ≤ out'.length) ∨ (c = 6 ∧ Hid (R = .err 6))) ∧ Flo g s lim (k2 + db) o' out' c wr ∧ Step g (Value.slice ao out.length cap) o' w wr) (fun vi _ => la + N0 - (intOf vi).toNat)
            case atStart => exact ⟨0, 0, _, out, by omega, rfl, .inl ⟨rfl, HR1, by omega⟩, hf4, HS4.out⟩
            case round =>
              clear hf4 HS4 HR1
              obtain ⟨i, c, o', out', hiN, rfl, hcase, hF, st⟩ := hrel
              have hc4 := hF.c4
              rcases hcase with ⟨rfl, HC2, hdo⟩ | ⟨rfl, HE⟩
              · by_cases hlt : i < la + N0
                · have HC3 : Hid (R = if out'.length ≥ lim then .err 6 else copyN lim D (k2 + db) (la + N0 - (i + 1)) (out' ++ [out'.getD (out'.length - D) 0])) := by
                    show R = _
                    rw [HC2.out, show la + N0 - i = la + N0 - (i + 1) + 1 by omega, copyN]
                  obtain ⟨b, cap', ho', hcap, hcell⟩ := byte_cell hF.own (out'.length - D) (by omega)
                  obtain ⟨yy, HY⟩ := hid_intro (out'.getD (out'.length - D) 0)
                  rw [← HY.out] at hcell HC3
                  have hc2 := hF.c2
                  rw [ho'] at hc2
                  have hlo := hF.ho
                  have hl2 := hF.hl
                  have hlti : (i : Int) < (la : Int) + (N0 : Int) := by omega
                  have hz0 : IntKind.i64.wrap ((out'.length : Int) - (D : Int)) = (out'.length : Int) - (D : Int) := by rw [IntKind.wrap_i64]; omega
                  have hz1 : (0 : Int) ≤ (out'.length : Int) - (D : Int) := by omega
                  have hz2 : (out'.length : Int) - (D : Int) < (out'.length : Int) := by omega
                  have hz3 : ((out'.length : Int) - (D : Int)).toNat = out'.length - D := by omega
                  by_cases hfull : out'.length ≥ lim
                  · rw [if_pos hfull] at HC3
                    go_wp2
                    refine region_mid 14 _ _ rfl rfl (by kernel_rfl) (by kernel_rfl) ?_
                    simp only [List.take_succ_cons, List.take_zero]
                    repeat still_step
                    refine wpStill_nil (fun K hK => ?_)
                    go_simp
                    refine (comes_full _ hF.drew hfull).mono ?_; rintro r w5 ⟨rfl, hf5, st5⟩
                    refine hK _ _ ?_
                    clear hK K
                    repeat still_step
                    refine wpStill_nil ?_
                    go_wp2
                    go_roundw
                    case rel => exact ⟨i + 1, 6, _, _, by omega, by go_num, .inr ⟨rfl, HC3⟩, hf5, st.drew.trans st5⟩
                    case measure => simp [intOf]; omega
                  · rw [if_neg hfull] at HC3
                    go_wp2
                    refine region_mid 14 _ _ rfl rfl (by kernel_rfl) (by kernel_rfl) ?_
                    simp only [List.take_succ_cons, List.take_zero]
                    repeat still_step
                    refine wpStill_nil (fun K hK => ?_)
                    go_simp
                    refine (comes_ok yy rfl _ hF.drew hfull).mono ?_; rintro r w5 ⟨rfl, o5, hf5, st5⟩
                    refine hK _ _ ?_
                    clear hK K
                    repeat still_step
                    refine wpStill_nil ?_
                    go_wp2
                    go_roundw
                    case rel => exact ⟨i + 1, 0, o5, _, by omega, by go_num, .inl ⟨rfl, HC3, by simp; omega⟩, hf5, st.drew.trans st5⟩
                    case measure => simp [intOf]; omega
                · have hlti : ¬ (i : Int) < (la : Int) + (N0 : Int) := by omega
                  obtain rfl : i = la + N0 := by omega
                  go_wp2
                  refine bodyPost_end (results_none rfl _ _ _) rfl ⟨rfl, ?_⟩
                  have e : R = .ok (k2 + db) out' := by rw [HC2.out, Nat.sub_self]; rfl
                  rw [e]
                  exact ⟨o', hF, st⟩
              · by_cases hlt : (i : Int) < (la : Int) + (N0 : Int)
                all_goals
                  go_wp2
                  refine bodyPost_end (results_none rfl _ _ _) rfl ⟨rfl, ?_⟩
                  rw [HE.out]
                  exact ⟨.inr rfl, _, _, _, hF, st⟩
        · rw [if_neg (show ¬ has s.data.toList k2 db by unfold has; omega)] at HR1
          by_cases hfar : da + M0 > out.length
          · go_enter Tryz.func245, Tryz.ntmps245
            go_wp2_with (first
              | (go_at_call 298; refine (HLe.out _).mono ?_; rintro r w1 ⟨rfl, hw1⟩; rw [hw1]; clear hw1; have first1 : True := trivial)
              | (go_at_call 299; refine (HDi.out _).mono ?_; rintro r w1 ⟨rfl, hw1⟩; rw [hw1]; clear hw1)
              | (go_at_call 194; have := first1; refine (rnumber_ok lb (by omega) _ HF.out hk).mono ?_; rintro r w2 ⟨rfl, hf2, st2⟩; rw [← HN0.out]; clear first1)
              | (go_at_call 244; refine (rsymbol_some hl h15 hkr v _ hf2 (HT.out.step st2) HDD.out).mono ?_; rintro r w3 ⟨rfl, hf3, st3⟩; have hc3 := hf3.c4)
              | (go_at_call 194; refine (rnumber_end db (by omega) _ hf3 hk2).mono ?_; rintro r w4 ⟨rfl, hf4, st4⟩; rw [← HM0.out]; have hf4' := (show Flo g s lim (8 * s.size) _ out 5 w4 from hf4); clear hf4; have hc4 := hf4'.c4; have ho4 := hf4'.c2)
              | (go_at_call 195; refine (wrong_any _ hf4').mono ?_; rintro r w5 ⟨rfl, hf5, st5⟩; have hf5' := (show Flo g s lim (8 * s.size) _ out 5 w5 from hf5); clear hf5; have hc5 := hf5'.c4))
            refine wp_loop_rounds 1 ?_
            rw [rounds_succ]
            by_cases hN : 0 < la + N0
            all_goals
              go_wp2
              refine bodyPost_end (results_none rfl _ _ _) rfl ⟨rfl, ?_⟩
              rw [HR1.out]
              exact ⟨.inl rfl, _, _, _, hf5', ((st2.trans st3).trans st4).trans st5⟩
          · go_enter Tryz.func245, Tryz.ntmps245
            go_wp2_with (first
              | (go_at_call 298; refine (HLe.out _).mono ?_; rintro r w1 ⟨rfl, hw1⟩; rw [hw1]; clear hw1; have first1 : True := trivial)
              | (go_at_call 299; refine (HDi.out _).mono ?_; rintro r w1 ⟨rfl, hw1⟩; rw [hw1]; clear hw1)
              | (go_at_call 194; have := first1; refine (rnumber_ok lb (by omega) _ HF.out hk).mono ?_; rintro r w2 ⟨rfl, hf2, st2⟩; rw [← HN0.out]; clear first1)
              | (go_at_call 244; refine (rsymbol_some hl h15 hkr v _ hf2 (HT.out.step st2) HDD.out).mono ?_; rintro r w3 ⟨rfl, hf3, st3⟩; have hc3 := hf3.c4)
              | (go_at_call 194; refine (rnumber_end db (by omega) _ hf3 hk2).mono ?_; rintro r w4 ⟨rfl, hf4, st4⟩; rw [← HM0.out]; have hf4' := (show Flo g s lim (8 * s.size) _ out 5 w4 from hf4); clear hf4; have hc4 := hf4'.c4; have ho4 := hf4'.c2))
            refine wp_loop_rounds 1 ?_
            rw [rounds_succ]
            by_cases hN : 0 < la + N0
            all_goals
              go_wp2
              refine bodyPost_end (results_none rfl _ _ _) rfl ⟨rfl, ?_⟩
              rw [HR1.out]
              exact ⟨.inl rfl, _, _, _, hf4', (st2.trans st3).trans st4⟩
  · rw [if_neg (show ¬ has s.data.toList k lb by unfold has; omega)] at HR1
    go_enter Tryz.func245, Tryz.ntmps245
    go_wp2_with (first
      | (go_at_call 298; refine (HLe.out _).mono ?_; rintro r w1 ⟨rfl, hw1⟩; rw [hw1]; clear hw1)
      | (go_at_call 194; refine (rnumber_end lb (by omega) _ HF.out hk).mono ?_; rintro r w2 ⟨rfl, hf2, st2⟩; rw [← HN0.out]; have hf2' := (show Flo g s lim (8 * s.size) o out 5 w2 from hf2); clear hf2)
      | (go_at_call 244; refine (rsymbol_bad v _ hf2' (by omega)).mono ?_; rintro r w3 ⟨rfl, hf3, st3⟩; have hc3 := hf3.c4))
    refine bodyPost_ret (results_none rfl _ _ _) rfl ⟨rfl, ?_⟩
    rw [HR1.out]
    exact ⟨.inl rfl, _, _, _, hf3, st2.trans st3⟩
end
end Go.Proofs.YtgfbbcnnmoamnaaGreatDoor

namespace Go.Proofs.YtgfbbcnnmoamnaaGreatDoor
open Go.RowKit

section
variable {g : Nat} {s : ByteArray} {lim k : Nat} {o : Value} {out : List UInt8} {e : Nat}
theorem Flo.pos {w : World} (h : Flo g s lim k o out e w) : posOf g w = k := by unfold posOf; rw [h.c1]; simp
/-- how much may still come -/
def leftOf (g n : Nat) (w : World) : Nat := match w.cell? ⟨g, 4, none⟩ with | some (.int _ x) => if x = 0 then n + 1 - posOf g w else 0 | _ => 0
theorem Flo.left {w : World} (h : Flo g s lim k o out e w) (n : Nat) : leftOf g n w = if e = 0 then n + 1 - k else 0 := by
  unfold leftOf; rw [h.c4, h.pos]; simp
theorem rmatch_v (dl : List Nat) (hl : dl.length ≤ 400) (h15 : ∀ n ∈ dl, n ≤ 15) (hkr : kraft dl ≤ 32768) (v : Value) (x : Nat) (hx : x ≤ 28) {u : Int} (hu : u = (x : Int)) (w : World) (h : Flo g s lim k o out 0 w) (ht : CTab g v (ents dl) o w) :
    Calls Tryz.prog 245 #[.pointer (some ⟨g, 0, none⟩), .int .i64 u, v] w fun r w' => r = .returned (.tuple #[]) ∧ ROut g s lim o w (matchS dl s.data.toList lim x k out) w' := by
  subst hu; exact rmatch_any dl hl h15 hkr v x hx w h ht
set_option maxHeartbeats 1000000 in
set_option maxRecDepth 8000 in
theorem rpacked_any (ll dl : List Nat) (hl : ll.length ≤ 400) (h15 : ∀ n ∈ ll, n ≤ 15) (hkr : kraft ll ≤ 32768) (hl2 : dl.length ≤ 400) (h152 : ∀ n ∈ dl, n ≤ 15) (hkr2 : kraft dl ≤ 32768) (vl vd : Value) (w : World) (h : Flo g s lim k o out 0 w) (tl : CTab g vl (ents ll) o w) (td : CTab g vd (ents dl) o w) :
    Calls Tryz.prog 198 #[.pointer (some ⟨g, 0, none⟩), vl, vd] w fun r w' => r = .returned (.tuple #[]) ∧ ROut g s lim o w (symsGo ll dl s.data.toList lim (8 * s.size + 1) k out) w' := by
  obtain ⟨R, HR⟩ := hid_intro (symsGo ll dl s.data.toList lim (8 * s.size + 1) k out)
  rw [← HR.out]
  have hss : s.data.toList.length = s.size := by simp
  have HTL : Hid (CTab g vl (ents ll) o w) := tl
  have HTD : Hid (CTab g vd (ents dl) o w) := td
  have H15 := (show Hid (∀ n ∈ ll, n ≤ 15) from h15)
  have H152 := (show Hid (∀ n ∈ dl, n ≤ 15) from h152)
  have HKR := (show Hid (kraft ll ≤ 32768) from hkr)
  have HKR2 := (show Hid (kraft dl ≤ 32768) from hkr2)
  clear tl td h15 h152 hkr hkr2
  go_enter Tryz.func198, Tryz.ntmps198
  go_wp2
  go_loopw [] (fun wr => ∃ (f k' c : Nat) (o' : Value) (out' : List UInt8), ((c = 0 ∧ 8 * s.size + 1 ≤ f + k' ∧ Hid (R = symsGo ll dl s.data.toList lim f k' out')) ∨ ((c = 5 ∨ c = 6) ∧ Hid (R = .err c))) ∧ Flo g s lim k' o' out' c wr ∧ Step g o o' w wr) (fun wr => leftOf g (8 * s.size) wr)
  case atStart => exact ⟨_, k, 0, o, out, .inl ⟨rfl, by omega, HR⟩, h, Step.refl ..⟩
  case round =>
    clear h
    obtain ⟨f, k', c, o', out', hcase, hF, st⟩ := hrel
    have h4 := hF.c4
    have hlf := hF.left (8 * s.size)
    have hk' := hF.hk
    have HLF := (show Hid _ from hlf)
    clear hlf
    rcases hcase with ⟨rfl, hf, HRf⟩ | ⟨hc, HE⟩
    · obtain ⟨f, rfl⟩ : ∃ f', f = f' + 1 := ⟨f - 1, by omega⟩
      cases hD : dec ll s.data.toList k' with
      | none =>
        have HE : Hid (R = .err 5) := by rw [HRf.out]; exact symsGo_none hD
        have HDD : Hid _ := hD
        clear hD
        go_wp2_with (go_at_call 244; refine (rsymbol_none hl H15.out HKR.out vl _ hF (HTL.out.step st) HDD.out).mono ?_; rintro r w1 ⟨rfl, k3, hf3, st3⟩; have hc3 := hf3.c4)
        refine bodyPost_ret (results_none rfl _ _ _) rfl ⟨rfl, ?_⟩
        rw [HE.out]
        exact ⟨.inl rfl, _, _, _, hf3, st.trans st3⟩
      | some p =>
        obtain ⟨x, k2⟩ := p
        have hx4 : x < 400 := by have := dec_lt hD; omega
        have hkk := dec_le hD
        have HDD : Hid _ := hD
        by_cases hx : x < 256
        · have HE : Hid (R = if out'.length ≥ lim then .err 6 else symsGo ll dl s.data.toList lim f k2 (out' ++ [UInt8.ofNat x])) := by rw [HRf.out]; exact symsGo_lit hD hx
          have hxu : Hid ((x : Int) = ((UInt8.ofNat x).toNat : Int)) := by show (x : Int) = _; simp; omega
          clear hD
          by_cases hfull : out'.length ≥ lim
          · rw [if_pos hfull] at HE
            go_wp2_with (first
              | (go_at_call 244; refine (rsymbol_some hl H15.out HKR.out vl _ hF (HTL.out.step st) HDD.out).mono ?_; rintro r w1 ⟨rfl, hf1, st1⟩; have hc1 := hf1.c4)
              | (go_at_call 196; refine (comes_full _ hf1 hfull).mono ?_; rintro r w2 ⟨rfl, hf2, st2⟩))
            go_roundw
            case rel => exact ⟨0, k2, 6, o', out', .inr ⟨.inr rfl, HE⟩, hf2, (st.trans st1).trans st2⟩
            case measure => rw [HLF.out, hf2.left, if_neg (by omega)]; simp; omega
          · rw [if_neg hfull] at HE
            go_wp2_with (first
              | (go_at_call 244; refine (rsymbol_some hl H15.out HKR.out vl _ hF (HTL.out.step st) HDD.out).mono ?_; rintro r w1 ⟨rfl, hf1, st1⟩; have hc1 := hf1.c4)
              | (go_at_call 196; refine (comes_ok (UInt8.ofNat x) hxu.out _ hf1 hfull).mono ?_; rintro r w2 ⟨rfl, o2, hf2, st2⟩))
            go_roundw
            case rel => exact ⟨f, k2, 0, o2, _, .inl ⟨rfl, by omega, HE⟩, hf2, (st.trans st1).trans st2⟩
            case measure => have := hf2.hk; rw [HLF.out, hf2.left, if_pos rfl]; simp; omega
        · by_cases hxe : x = 256
          · subst hxe
            have HE : Hid (R = .ok k2 out') := by rw [HRf.out]; exact symsGo_end hD
            clear hD
            go_wp2_with (go_at_call 244; refine (rsymbol_some hl H15.out HKR.out vl _ hF (HTL.out.step st) HDD.out).mono ?_; rintro r w1 ⟨rfl, hf1, st1⟩; have hc1 := hf1.c4)
            refine bodyPost_ret (results_none rfl _ _ _) rfl ⟨rfl, ?_⟩
            rw [HE.out]
            exact ⟨_, hf1, st.trans st1⟩
          · by_cases hxb : x > 285
            · have HE : Hid (R = .err 5) := by rw [HRf.out]; exact symsGo_bad hD (by omega) (by unfold repS; rw [if_pos hxb])
              clear hD
              go_wp2_with (first
                | (go_at_call 244; refine (rsymbol_some hl H15.out HKR.out vl _ hF (HTL.out.step st) HDD.out).mono ?_; rintro r w1 ⟨rfl, hf1, st1⟩; have hc1 := hf1.c4)
                | (go_at_call 195; refine (wrong_any _ hf1).mono ?_; rintro r w2 ⟨rfl, hf2, st2⟩; have hf2' := (show Flo g s lim _ _ _ 5 w2 from hf2); clear hf2))
              go_roundw
              case rel => exact ⟨0, k2, 5, o', out', .inr ⟨.inl rfl, HE⟩, hf2', (st.trans st1).trans st2⟩
              case measure => rw [HLF.out, hf2'.left, if_neg (by omega)]; simp; omega
            · have hmt := fun w1 (hf1 : Flo g s lim k2 o' out' 0 w1) (ht1 : CTab g vd (ents dl) o' w1) => rmatch_v dl hl2 H152.out HKR2.out vd (x - 257) (by omega) (u := (x : Int) - 257) (by omega) w1 hf1 ht1
              have HMT : Hid _ := hmt
              clear hmt
              cases hQ : matchS dl s.data.toList lim (x - 257) k2 out' with
              | err c =>
                have HE : Hid (R = .err c) := by rw [HRf.out]; exact symsGo_bad hD (by omega) (by unfold repS; rw [if_neg hxb]; exact hQ)
                rw [hQ] at HMT
                clear hD hQ
                go_wp2_with (first
                  | (go_at_call 244; refine (rsymbol_some hl H15.out HKR.out vl _ hF (HTL.out.step st) HDD.out).mono ?_; rintro r w1 ⟨rfl, hf1, st1⟩; have hc1 := hf1.c4)
                  | (go_at_call 245; refine (HMT.out _ hf1 (HTD.out.step (st.trans st1))).mono ?_; rintro r w2 ⟨rfl, hcc, k3, o3, out3, hf2, st2⟩))
                go_roundw
                case rel => exact ⟨0, k3, c, o3, out3, .inr ⟨hcc, HE⟩, hf2, (st.trans st1).trans st2⟩
                case measure => rw [HLF.out, hf2.left, if_neg (by omega)]; simp; omega
              | ok k3 out3 =>
                have hk3 := repS_le (dl := dl) (s := s.data.toList) (limit := lim) (x := x) (k := k2) (out := out') (by unfold repS; rw [if_neg hxb]; exact hQ)
                have HE : Hid (R = symsGo ll dl s.data.toList lim f k3 out3) := by rw [HRf.out]; exact symsGo_rep hD (by omega) (by unfold repS; rw [if_neg hxb]; exact hQ)
                rw [hQ] at HMT
                clear hD hQ
                go_wp2_with (first
                  | (go_at_call 244; refine (rsymbol_some hl H15.out HKR.out vl _ hF (HTL.out.step st) HDD.out).mono ?_; rintro r w1 ⟨rfl, hf1, st1⟩; have hc1 := hf1.c4)
                  | (go_at_call 245; refine (HMT.out _ hf1 (HTD.out.step (st.trans st1))).mono ?_; rintro r w2 ⟨rfl, o3, hf2, st2⟩))
                go_roundw
                case rel => exact ⟨f, k3, 0, o3, out3, .inl ⟨rfl, by omega, HE⟩, hf2, (st.trans st1).trans st2⟩
                case measure => have := hf2.hk; rw [HLF.out, hf2.left, if_pos rfl]; simp; omega
    · have he' : ((c : Int) == 0) = false := by simp; omega
      go_wp2
      refine bodyPost_end (results_none rfl _ _ _) rfl ⟨rfl, ?_⟩
      rw [HE.out]
      exact ⟨hc, _, _, _, hF, st⟩
end
end Go.Proofs.YtgfbbcnnmoamnaaGreatDoor
