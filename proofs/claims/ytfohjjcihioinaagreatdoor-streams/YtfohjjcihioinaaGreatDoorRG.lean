/- The document's next symbol, read. -/
import Derived.Test.YtfohjjcihioinaaGreatDoorRD
namespace Go.Proofs.YtfohjjcihioinaaGreatDoor
open Go.RowKit

theorem snoc_zero (l : List UInt8) : (⟨l.toArray⟩ : ByteArray) ++ (⟨#[48, 49]⟩ : ByteArray).extract 0 1 = ⟨(l ++ [dig 0]).toArray⟩ := by
  apply ByteArray.ext
  simp [dig]
theorem snoc_one (l : List UInt8) : (⟨l.toArray⟩ : ByteArray) ++ (⟨#[48, 49]⟩ : ByteArray).extract 1 2 = ⟨(l ++ [dig 1]).toArray⟩ := by
  apply ByteArray.ext
  simp [dig]
theorem str_eq_true {a b : ByteArray} (h : a = b) : (a.toList == b.toList) = true := by rw [h]; simp
theorem str_eq_false {a b : ByteArray} (h : a ≠ b) : (a.toList == b.toList) = false := by
  rw [beq_eq_false_iff_ne]
  intro e
  rw [ByteArray.toList_eq, ByteArray.toList_eq] at e
  exact h (ByteArray.ext (Array.toList_inj.1 e))
theorem decGo_end (lens : List Nat) (s : List UInt8) (f n got k : Nat) (h : ¬ has s k 1) : decGo lens s f n got k = none := by
  cases f with
  | zero => rfl
  | succ f => rw [decGo, if_neg h]
section
variable {g : Nat} {s : ByteArray} {lim k : Nat} {o : Value} {out : List UInt8} {e : Nat}
theorem CTab.at {a : Option Addr} {len cap : Nat} {l : List Ent} {w : World} (t : CTab g (.slice a len cap) l o w) (j : Nat) (en : Ent) (h : l[j]? = some en) : ∃ b, a = some ⟨b, 0, none⟩ ∧ w.cell? ⟨b, 2 * j, none⟩ = some (.int .i64 (en.sym : Int)) ∧ w.cell? ⟨b, 2 * j + 1, none⟩ = some (.string ⟨(digs en.val en.len).toArray⟩) := by
  obtain ⟨a', cap', hv, hc⟩ := t
  obtain ⟨b, ha, _, _, _, h1, h2⟩ := hc j en h
  injection hv with hv1
  exact ⟨b, hv1.trans ha, h1, h2⟩
set_option maxHeartbeats 1000000 in
set_option maxRecDepth 8000 in
theorem rsymbol_any (lens : List Nat) (hl : lens.length ≤ 400) (h15 : ∀ n ∈ lens, n ≤ 15) (hkr : kraft lens ≤ 32768) (v : Value) (w : World) (h : Flo g s lim k o out 0 w) (ht : CTab g v (ents lens) o w) :
    Calls Tryz.prog 124 #[.pointer (some ⟨g, 0, none⟩), v] w fun r w' => Step g o o w w' ∧ ((∃ x k2, dec lens s.data.toList k = some (x, k2) ∧ r = .returned (.int .i64 (x : Nat)) ∧ Flo g s lim k2 o out 0 w') ∨ (dec lens s.data.toList k = none ∧ r = .returned (.int .i64 (-1)) ∧ ∃ k2, Flo g s lim k2 o out 5 w')) := by
  obtain ⟨R, HR⟩ := hid_intro (dec lens s.data.toList k)
  rw [← HR.out]
  obtain ⟨va, vcap, rfl, hcells⟩ := ht
  have HT : Hid (CTab g (.slice va (ents lens).length vcap) (ents lens) o w) := ⟨va, vcap, rfl, hcells⟩
  have hss : s.data.toList.length = s.size := by simp
  have hNe : (ents lens).length ≤ 7000 := by have := psd_cap lens hl 16; unfold ents; rw [entsB_len]; omega
  have HM := (show Hid _ from ents_match lens h15 hkr)
  have HFd := (show Hid _ from ents_found lens)
  obtain ⟨NE, HNE⟩ := hid_intro (ents lens).length
  rw [← HNE.out] at hNe HT ⊢
  clear hcells h15 hkr
  go_enter Tryz.func124, Tryz.ntmps124
  go_wp2
  go_loopw [5, 6] (fun vs vn wr => ∃ n got c : Nat, n ≤ 15 ∧ got < 2 ^ n ∧ vs = .string ⟨(digs got n).toArray⟩ ∧ vn = .int .i64 n ∧ Step g o o w wr ∧ ((c = 0 ∧ Hid (R = decGo lens s.data.toList (15 - n) n got (k + n)) ∧ fst lens n + cnt lens n ≤ got ∧ Flo g s lim (k + n) o out 0 wr) ∨ (c = 1 ∧ Hid (R = none) ∧ ∃ k2, Flo g s lim k2 o out 5 wr))) (fun _ vn _ => 15 - (intOf vn).toNat)
  case atStart => exact ⟨0, 0, 0, by omega, by simp, rfl, rfl, Step.refl .., .inl ⟨rfl, HR, by simp [fst, cnt], h⟩⟩
  case round =>
    clear h
    obtain ⟨n, got, c, hn15, hgot, rfl, rfl, st, hcase⟩ := hrel
    have HLn := (show Hid _ from digs_len got n)
    rcases hcase with ⟨rfl, HD, hfc, hF⟩ | ⟨rfl, HD, k2, hF⟩
    · have h4 := hF.c4
      by_cases hn : n < 15
      · by_cases hk : k + n < 8 * s.size
        · have lb := bitAt_lt s.data.toList (k + n)
          obtain ⟨B, HB⟩ := hid_intro (bitAt s.data.toList (k + n))
          rw [← HB.out] at lb
          have hg2 : 2 * got + B < 2 ^ (n + 1) := by rw [Nat.pow_succ]; omega
          have HS := (show Hid _ from digs_snoc got B n lb hgot)
          have HD1 : Hid (R = if 2 * got + B - fst lens (n + 1) < cnt lens (n + 1) then some ((symsOf lens (n + 1)).getD (2 * got + B - fst lens (n + 1)) 0, k + n + 1) else decGo lens s.data.toList (15 - (n + 1)) (n + 1) (2 * got + B) (k + n + 1)) := by
            show _ = _
            rw [HD.out, show 15 - n = 15 - (n + 1) + 1 by omega, decGo, if_pos (show has s.data.toList (k + n) 1 by unfold has; omega), ← HB.out]
          have hfn : fst lens (n + 1) ≤ 2 * got + B := by rw [fst]; omega
          have HM1 := (show Hid _ from fun q en hq hd => HM.out (n + 1) (2 * got + B) q (by omega) hg2 en hq hd)
          have HF1 := (show Hid _ from HFd.out (n + 1) (2 * got + B) (by omega) hfn)
          have hll := HLn.out
          obtain ⟨L, HL⟩ := hid_intro (digs got n)
          rw [← HL.out] at HS hll ⊢
          have HG : Hid _ := hg2
          clear hg2 hgot HLn HM HFd HD
          rcases (by omega : B = 0 ∨ B = 1) with rfl | rfl
          all_goals
            go_wp2_with (go_at_call 123; refine (rbit_ok _ hF hk).mono ?_; rintro r w1 ⟨rfl, hf1, st1⟩; rw [← HB.out])
            first | rw [snoc_zero L, ← HS.out] | rw [snoc_one L, ← HS.out]
            obtain ⟨S, HSS⟩ := hid_intro (digs (2 * got + _) (n + 1))
            rw [← HSS.out] at HM1 HF1 ⊢
            obtain ⟨SB, HSB⟩ := hid_intro (⟨S.toArray⟩ : ByteArray)
            rw [← HSB.out]
            have HLL2 := (show Hid _ from hll)
            clear hll
            have HT1 := (show Hid _ from HT.out.step (st.trans st1))
            have hc4 := hf1.c4
            go_loopw [8] (fun vi wq => ∃ i : Nat, i ≤ NE ∧ vi = .int .i64 i ∧ wq = w1 ∧ Hid (∀ j en, j < i → (ents lens)[j]? = some en → digs en.val en.len ≠ S)) (fun vi _ => NE - (intOf vi).toNat)
            case atStart => exact ⟨0, by omega, rfl, rfl, fun j en hj => by omega⟩
            case round =>
              obtain ⟨i, hi, rfl, hw, HNO⟩ := hrel
              rw [hw]; clear hw
              by_cases hlt : i < NE
              · have hil : i < (ents lens).length := by rw [← HNE.out]; exact hlt
                obtain ⟨en, hen⟩ : ∃ en, (ents lens)[i]? = some en := ⟨_, List.getElem?_eq_getElem hil⟩
                obtain ⟨b, rfl, hs1, hs2⟩ := CTab.at (show CTab g (.slice va NE vcap) (ents lens) o w1 from HT1.out) i en hen
                obtain ⟨EB, HEB⟩ := hid_intro (⟨(digs en.val en.len).toArray⟩ : ByteArray)
                rw [← HEB.out] at hs2
                have hs1' : w1.cell? ⟨b, i * 2, none⟩ = some (.int .i64 (en.sym : Int)) := by rw [Nat.mul_comm]; exact hs1
                have hs2' : w1.cell? ⟨b, i * 2 + 1, none⟩ = some (.string EB) := by rw [Nat.mul_comm]; exact hs2
                have HEN := (show Hid _ from hen)
                have HF2 := (show Hid _ from hf1)
                have HST := (show Hid _ from st.trans st1)
                obtain ⟨sy, HSY⟩ := hid_intro en.sym
                rw [← HSY.out] at hs1 hs1'
                by_cases hm : EB = SB
                · have HM2 := (show Hid _ from hm)
                  clear hen HT HT1 hil hf1 st st1 h4 hF hfn hfc
                  have hd1 := str_eq_true hm
                  clear hm
                  go_wp2
                  have hm : digs en.val en.len = S := by
                    have h1 := HM2.out
                    rw [HEB.out, HSB.out] at h1
                    have h2 := congrArg (fun x : ByteArray => x.data.toList) h1
                    simpa using h2
                  obtain ⟨_, h2, h3⟩ := HM1.out i en HEN.out hm
                  rw [if_pos h2] at HD1
                  go_ret
                  exact ⟨HST.out, .inl ⟨_, _, HD1.out, ret_int (by rw [HSY.out, h3]), HF2.out⟩⟩
                · have HM2 := (show Hid _ from hm)
                  clear hen HT HT1 hil hf1 st st1 h4 hF hfn hfc
                  have hd1 := str_eq_false hm
                  clear hm
                  go_wp2
                  refine ⟨⟨i + 1, by omega, by go_num, trivial, fun j en' hj hen' he => ?_⟩, by simp [intOf]; omega⟩
                  by_cases hji : j < i
                  · exact HNO.out j en' hji hen' he
                  · obtain rfl : j = i := by omega
                    have h1 := HEN.out
                    rw [hen'] at h1
                    injection h1 with h1
                    subst h1
                    exact HM2.out (by rw [HEB.out, HSB.out, he])
              · have hno : ¬ (2 * got + _ - fst lens (n + 1) < cnt lens (n + 1)) := fun hh => by
                  obtain ⟨q, en, hq, hd⟩ := HF1.out hh
                  exact HNO.out q en (by have := (List.getElem?_eq_some_iff.1 hq).1; have := HNE.out; omega) hq hd
                rw [if_neg hno] at HD1
                go_wp2
                go_roundw
                case rel => exact ⟨n + 1, _, 0, by omega, HG.out, by rw [HSB.out, HSS.out], by go_num, st.trans st1, .inl ⟨rfl, HD1, by omega, hf1⟩⟩
                case measure => simp [intOf]; omega
        · have HE : Hid (R = none) := by rw [HD.out]; exact decGo_end _ _ _ _ _ _ (by unfold has; omega)
          have HS : Hid (digs (2 * got + 0) (n + 1) = digs got n ++ [dig 0]) := digs_snoc got 0 n (by omega) hgot
          have hg2 : 2 * got + 0 < 2 ^ (n + 1) := by rw [Nat.pow_succ]; omega
          have hll := HLn.out
          obtain ⟨L, HL⟩ := hid_intro (digs got n)
          rw [← HL.out] at HS hll ⊢
          have HG : Hid _ := hg2
          clear hg2 hgot HLn
          go_wp2_with (go_at_call 123; refine (rbit_end _ hF (by have := hF.hk; omega)).mono ?_; rintro r w1 ⟨rfl, hf1, st1⟩; have hf2 := (show Flo g s lim (k + n) o out 5 w1 from hf1); have hc4 := hf2.c4; clear hf1)
          refine wp_loop_rounds 1 ?_
          rw [rounds_succ]
          by_cases hNE : 0 < NE
          all_goals
            go_wp2
            go_roundw
            case rel => exact ⟨n + 1, 2 * got + 0, 1, by omega, HG.out, by rw [HS.out]; exact congrArg Value.string (snoc_zero L), by go_num, st.trans st1, .inr ⟨rfl, HE, _, hf2⟩⟩
            case measure => simp [intOf]; omega
      · have HE : Hid (R = none) := by rw [HD.out, show 15 - n = 0 by omega]; rfl
        go_wp2_with (go_at_call 52; refine (wrong_any _ hF).mono ?_; rintro r w1 ⟨rfl, hf1, st1⟩)
        go_ret
        exact ⟨st.trans st1, .inr ⟨HE.out, rfl, _, hf1⟩⟩
    · have h4 := hF.c4
      by_cases hn : n < 15
      · go_wp2_with (go_at_call 52; refine (wrong_any _ hF).mono ?_; rintro r w1 ⟨rfl, hf1, st1⟩)
        go_ret
        exact ⟨st.trans st1, .inr ⟨HD.out, rfl, _, hf1⟩⟩
      · go_wp2_with (go_at_call 52; refine (wrong_any _ hF).mono ?_; rintro r w1 ⟨rfl, hf1, st1⟩)
        go_ret
        exact ⟨st.trans st1, .inr ⟨HD.out, rfl, _, hf1⟩⟩
end
end Go.Proofs.YtfohjjcihioinaaGreatDoor
