/- Where a path is: the document's look. The first path that was there before: the program's look, by a map. The first entry without its directory: the program's look, by a map. What is wrong with a list: the program's check. -/
import Derived.Test.YtgfbbcnnmoamnaaGreatDoorTrPure
import Derived.Maps.OwnOps
import Derived.Maps.OwnSet
import Derived.Maps.Views
import Derived.StringKeys
import Derived.DeepKeys4
namespace Go.Proofs.YtgfbbcnnmoamnaaGreatDoor.Tr
open Go.RowKit Go.Proofs.YtgfbbcnnmoamnaaGreatDoor Go.Proofs.YtgfbbcnnmoamnaaGreatDoor.Lk

theorem toHid {p : Prop} (h : p) : Hid p := h
theorem total_most {l : List E} (h : FitE l) (i : Nat) : total (l.take i) ≤ i * 1048576 := by
  induction i with
  | zero => simp [total]
  | succ i ih =>
    by_cases hi : i < l.length
    · have := total_step hi
      have := (h.at hi).2
      omega
    · have h1 : l.take (i + 1) = l.take i := by rw [List.take_of_length_le (by omega), List.take_of_length_le (by omega)]
      rw [h1]; exact Nat.le_trans ih (Nat.mul_le_mul_right _ (by omega))
theorem wrong_path {l : List E} {most bytes : Nat} (h : ¬(l.length > most ∨ total l > bytes)) (i : Nat) (hi : i < l.length) (h1 : badE (getE l i) = true) (h2 : ∀ j, j < i → badE (getE l j) = false) : wrongE l most bytes = (2, i) := by
  rw [wrongE, if_neg h, firstN_at (p := fun i => badE (getE l i)) hi h1 h2, if_pos hi]
theorem wrong_twice {l : List E} {most bytes : Nat} (h : ¬(l.length > most ∨ total l > bytes)) (h1 : ∀ j, j < l.length → badE (getE l j) = false) (i : Nat) (hi : i < l.length) (h2 : twiceE l i = true) (h3 : ∀ j, j < i → twiceE l j = false) : wrongE l most bytes = (3, i) := by
  rw [wrongE, if_neg h, firstN_none (p := fun i => badE (getE l i)) h1, if_neg (Nat.lt_irrefl _), firstN_at (p := twiceE l) hi h2 h3, if_pos hi]
theorem wrong_alone {l : List E} {most bytes : Nat} (h : ¬(l.length > most ∨ total l > bytes)) (h1 : ∀ j, j < l.length → badE (getE l j) = false) (h2 : ∀ j, j < l.length → twiceE l j = false) (i : Nat) (hi : i < l.length) (h3 : aloneE l i = true) (h4 : ∀ j, j < i → aloneE l j = false) : wrongE l most bytes = (4, i) := by
  rw [wrongE, if_neg h, firstN_none (p := fun i => badE (getE l i)) h1, if_neg (Nat.lt_irrefl _), firstN_none (p := twiceE l) h2, if_neg (Nat.lt_irrefl _), firstN_at (p := aloneE l) hi h3 h4, if_pos hi]
theorem wrong_none {l : List E} {most bytes : Nat} (h : ¬(l.length > most ∨ total l > bytes)) (h1 : ∀ j, j < l.length → badE (getE l j) = false) (h2 : ∀ j, j < l.length → twiceE l j = false) (h3 : ∀ j, j < l.length → aloneE l j = false) : wrongE l most bytes = (0, 0) := by
  rw [wrongE, if_neg h, firstN_none (p := fun i => badE (getE l i)) h1, if_neg (Nat.lt_irrefl _), firstN_none (p := twiceE l) h2, if_neg (Nat.lt_irrefl _), firstN_none (p := aloneE l) h3, if_neg (Nat.lt_irrefl _)]
theorem atI_le {l : List E} {i : Nat} (hi : i < l.length) : atI l (getE l i).p ≤ i := by
  rcases firstN_cases (fun j => (getE l j).p == (getE l i).p) l.length with ⟨_, h⟩ | ⟨h1, h2, h3⟩
  · have := h i hi; simp at this
  · refine Nat.le_of_not_lt fun hc => ?_
    have := h3 i hc; simp at this
theorem LiesE.cells {w : World} {g o : Nat} {l : List E} (h : LiesE w (some ⟨g, o, none⟩) l) {i : Nat} (hi : i < l.length) : w.cell? ⟨g, o + i * 3, none⟩ = some (.string ⟨(getE l i).p.toArray⟩) ∧ w.cell? ⟨g, o + i * 3 + 1, none⟩ = some (.bool (getE l i).dir) ∧ w.cell? ⟨g, o + i * 3 + 2, none⟩ = some (.string ⟨(getE l i).b.toArray⟩) := by
  obtain ⟨g', o', h1, h2⟩ := h.at hi
  injection h1 with h1
  injection h1 with h3 h4
  subst h3; subst h4
  exact h2
/-- the answer of at -/
def atV (l : List E) (p : List UInt8) : Int := if atI l p < l.length then (atI l p : Int) else -1
set_option maxRecDepth 8000 in
set_option maxHeartbeats 1000000 in
theorem rAt_any (l : List E) (hl : l.length ≤ 1048576) (p : List UInt8) (ao : Option Addr) (cap : Nat) (w : World) (hat : LiesE w ao l) :
    Calls Tryz.prog 133 #[.slice ao l.length cap, .string ⟨p.toArray⟩] w fun r w' => r = .returned (.int .i64 (atV l p)) ∧ w' = w := by
  have HAT : Hid (LiesE w ao l) := hat
  clear hat
  have hat2 := fun (i : Nat) (h1 : i < l.length) (h2 : ((getE l i).p == p) = true) (h3 : ∀ j, j < i → ((getE l j).p == p) = false) => (show atV l p = (i : Int) by rw [atV, atI, firstN_at (p := fun i => (getE l i).p == p) h1 h2 h3, if_pos h1])
  have hno2 := fun (h : ∀ j, j < l.length → ((getE l j).p == p) = false) => (show atV l p = -1 by rw [atV, atI, firstN_none (p := fun i => (getE l i).p == p) h, if_neg (Nat.lt_irrefl _)])
  obtain ⟨R, HR⟩ := hid_intro (atV l p)
  rw [← HR.out] at hat2 hno2 ⊢
  have HA2 := (show Hid _ from hat2)
  have HN2 := (show Hid _ from hno2)
  clear hat2 hno2
  obtain ⟨n, HN⟩ := hid_intro l.length
  rw [← HN.out] at hl HA2 HN2 ⊢
  go_enter Tryz.func133, Tryz.ntmps133
  go_wp2
  go_loopw [5] (fun vi wr => ∃ i : Nat, i ≤ n ∧ vi = .int .i64 i ∧ Hid (∀ j, j < i → ((getE l j).p == p) = false) ∧ wr = w) (fun vi _ => n - (intOf vi).toNat)
  case atStart => exact ⟨0, by omega, rfl, fun j hj => by omega, rfl⟩
  case round =>
    obtain ⟨i, hi, rfl, HG, hw⟩ := hrel
    rw [hw]; clear hw
    by_cases hlt : i < n
    · obtain ⟨g, o, rfl, c1, c2, c3⟩ := HAT.out.at (i := i) (by rw [← HN.out]; exact hlt)
      have HBAD : Hid (((getE l i).p == p) = true → R = i) := fun h => HA2.out i hlt h HG.out
      have HGOOD : Hid (((getE l i).p == p) = false → ∀ j, j < i + 1 → ((getE l j).p == p) = false) := fun h j hj => by
        by_cases e : j = i
        · rw [e]; exact h
        · exact HG.out j (by omega)
      obtain ⟨e, HE⟩ := hid_intro (getE l i)
      rw [← HE.out] at c1 c2 c3 HBAD HGOOD
      clear HG
      cases hp : (e.p == p) with
      | true =>
        have HF := (show Hid _ from HBAD.out hp)
        clear HBAD HGOOD
        go_wp2
        go_ret
        exact ⟨ret_int HF.out.symm, rfl⟩
      | false =>
        have HF := (show Hid _ from HGOOD.out hp)
        clear HBAD HGOOD
        go_wp2
        go_roundw
        case rel => exact ⟨i + 1, by omega, by go_num, HF, by first | rfl | trivial⟩
        case measure => simp [intOf]; omega
    · obtain rfl : i = n := by omega
      have HF : Hid (R = -1) := HN2.out HG.out
      clear HG
      go_wp2
      go_ret
      exact ⟨ret_int HF.out.symm, rfl⟩

set_option maxRecDepth 8000 in
set_option maxHeartbeats 2000000 in
theorem rWrong_any (l : List E) (hl : l.length ≤ 1048576) (most bytes : Nat) (_hm : most ≤ 1048576) (_hby : bytes ≤ 1048576) (hft : FitE l) (ao : Option Addr) (cap : Nat) (w : World) (hat : LiesE w ao l) :
    Calls Tryz.prog 76 #[.slice ao l.length cap, .int .i64 most, .int .i64 bytes] w fun r w' => r = .returned (.tuple #[.int .i64 ((wrongE l most bytes).1 : Int), .int .i64 ((wrongE l most bytes).2 : Int)]) ∧ Below w.heap.size w w' := by
  have HAT : Hid (LiesE w ao l) := hat
  have HFT : Hid (FitE l) := hft
  clear hat hft
  have hw2 := @wrong_path l most bytes
  have hw3 := @wrong_twice l most bytes
  have hw4 := @wrong_alone l most bytes
  have hw5 := @wrong_none l most bytes
  have hw1 := fun (h : l.length > most ∨ total l > bytes) => (show wrongE l most bytes = (1, 0) by rw [wrongE, if_pos h])
  obtain ⟨R, HR⟩ := hid_intro (wrongE l most bytes)
  rw [← HR.out] at hw1 hw2 hw3 hw4 hw5 ⊢
  obtain ⟨n, HN⟩ := hid_intro l.length
  rw [← HN.out] at hl hw1 hw2 hw3 hw4 hw5 ⊢
  have HW1 := (show Hid _ from hw1)
  have HW2 := (show Hid _ from hw2)
  have HW3 := (show Hid _ from hw3)
  have HW4 := (show Hid _ from hw4)
  have HW5 := (show Hid _ from hw5)
  clear hw1 hw2 hw3 hw4 hw5
  go_enter Tryz.func76, Tryz.ntmps76
  go_wp2
  go_loopw [8, 9] (fun vs vi wr => ∃ i : Nat, i ≤ n ∧ vs = .int .i64 (total (l.take i) : Int) ∧ vi = .int .i64 i ∧ wr = w) (fun _ vi _ => n - (intOf vi).toNat)
  case atStart => exact ⟨0, by omega, by simp [total], rfl, rfl⟩
  case round =>
    obtain ⟨i, hi, rfl, rfl, hw⟩ := hrel
    rw [hw]; clear hw
    by_cases hlt : i < n
    · obtain ⟨g, o, rfl, c1, c2, c3⟩ := HAT.out.at (i := i) (by rw [← HN.out]; exact hlt)
      obtain ⟨_, hbl⟩ := HFT.out.at (i := i) (by rw [← HN.out]; exact hlt)
      have hst := total_step (l := l) (i := i) (by rw [← HN.out]; exact hlt)
      have htm := total_most HFT.out i
      obtain ⟨e, HE⟩ := hid_intro (getE l i)
      rw [← HE.out] at c1 c2 c3 hst hbl
      have hz := size_of e.b
      obtain ⟨T, HTT⟩ := hid_intro (total (l.take i))
      rw [← HTT.out] at hst htm ⊢
      have hT : T ≤ 1099511627776 := Nat.le_trans htm (Nat.le_trans (Nat.mul_le_mul_right _ (Nat.le_trans hi hl)) (by decide))
      have HST := (show Hid _ from hst)
      clear hst htm
      have hw : IntKind.i64.wrap ((T : Int) + (e.b.length : Int)) = (T : Int) + (e.b.length : Int) := by rw [IntKind.wrap_i64]; omega
      go_wp2
      go_roundw
      case rel => exact ⟨i + 1, by omega, by rw [HST.out]; go_num, by go_num, by first | rfl | trivial⟩
      case measure => simp [intOf]; omega
    · obtain rfl : i = n := by omega
      have htl : l.take i = l := by rw [HN.out, List.take_length]
      rw [htl]
      have htm := total_most HFT.out i
      rw [htl] at htm
      obtain ⟨T, HTT⟩ := hid_intro (total l)
      rw [← HTT.out] at HW1 HW2 HW3 HW4 HW5 htm ⊢
      have hT : T ≤ 1099511627776 := Nat.le_trans htm (Nat.le_trans (Nat.mul_le_mul_right _ hl) (by decide))
      clear htl htm
      by_cases hmost : i > most
      · have HF : Hid (R = (1, 0)) := HW1.out (.inl hmost)
        go_wp2
        go_ret2
        exact ⟨by rw [HF.out]; rfl, Below.refl _ _⟩
      · by_cases hbyt : T > bytes
        · have HF : Hid (R = (1, 0)) := HW1.out (.inr hbyt)
          go_wp2
          go_ret2
          exact ⟨by rw [HF.out]; rfl, Below.refl _ _⟩
        · have HX : Hid (¬(i > most ∨ T > bytes)) := by show ¬ _; omega
          have HW2' := (show Hid _ from HW2.out HX.out)
          have HW3' := (show Hid _ from HW3.out HX.out)
          have HW4' := (show Hid _ from HW4.out HX.out)
          have HW5' := (show Hid _ from HW5.out HX.out)
          clear HW1 HW2 HW3 HW4 HW5 HX
          go_wp2
          clear hi hlt hmost hbyt hT HTT HR
          go_loopw [10] (fun vi wr => ∃ k : Nat, k ≤ i ∧ vi = .int .i64 k ∧ Hid (∀ j, j < k → badE (getE l j) = false) ∧ Below w.heap.size w wr) (fun vi _ => i - (intOf vi).toNat)
          case atStart => exact ⟨0, by omega, rfl, fun j hj => by omega, Below.refl _ _⟩
          case round =>
            obtain ⟨k, hk, rfl, HG, hb⟩ := hrel
            have hbs := hb.size
            by_cases hlt : k < i
            · obtain ⟨g, o, rfl, c1, c2, c3⟩ := (HAT.out.below hb).at (i := k) (by rw [← HN.out]; exact hlt)
              obtain ⟨hpl, hbl⟩ := HFT.out.at (i := k) (by rw [← HN.out]; exact hlt)
              have HBAD : Hid (badE (getE l k) = true → R = (2, k)) := fun h => HW2'.out k hlt h HG.out
              have HGOOD : Hid (badE (getE l k) = false → ∀ j, j < k + 1 → badE (getE l j) = false) := fun h j hj => by
                by_cases e : j = k
                · rw [e]; exact h
                · exact HG.out j (by omega)
              have hdef : badE (getE l k) = (!(pathB (getE l k).p) || ((getE l k).dir && !((getE l k).b == []))) := rfl
              obtain ⟨e, HE⟩ := hid_intro (getE l k)
              rw [← HE.out] at c1 c2 c3 hpl hbl HBAD HGOOD hdef
              have HDEF := (show Hid _ from hdef)
              clear hdef HG HW2' HW3' HW4' HW5'
              have hz := size_of e.p
              have HP := (show Hid _ from rPath_any ⟨e.p.toArray⟩ (by rw [hz]; omega))
              have HC1 := (show Hid _ from c1)
              have HC2 := (show Hid _ from c2)
              have HC3 := (show Hid _ from c3)
              cases hp : pathB e.p with
              | false =>
                have HF : Hid (R = (2, k)) := HBAD.out (by rw [HDEF.out, hp]; rfl)
                rw [show pathB (ByteArray.mk e.p.toArray).data.toList = false from hp] at HP
                clear HBAD HGOOD HDEF hp
                go_wp2_with (go_at_call 132; refine (HP.out _).mono ?_; clear HP; rintro e w1 ⟨rfl, hb1⟩; have HB1 := (show Hid (Below _ _ w1) from hb1); clear hb1)
                go_ret2
                exact ⟨by rw [HF.out]; rfl, hb.trans (HB1.out.mono hbs)⟩
              | true =>
                rw [show pathB (ByteArray.mk e.p.toArray).data.toList = true from hp] at HP
                cases hd : e.dir with
                | false =>
                  have HF := (show Hid _ from HGOOD.out (by rw [HDEF.out, hp, hd]; rfl))
                  clear HBAD HGOOD HDEF hp
                  go_wp2_with (go_at_call 132; refine (HP.out _).mono ?_; clear HP; rintro e w1 ⟨rfl, hb1⟩; have HB1 := (show Hid (Below _ _ w1) from hb1); obtain ⟨q1, q2, q3⟩ := (HAT.out.below (hb.trans (hb1.mono hbs))).cells (i := k) (by rw [← HN.out]; exact hlt); rw [← HE.out] at q1 q2 q3; (first | rw [hd] at q2 | skip); (first | rw [hbn] at q3 | skip); clear hb1)
                  go_roundw
                  case rel => exact ⟨k + 1, by omega, by go_num, HF, hb.trans (HB1.out.mono hbs)⟩
                  case measure => simp [intOf]; omega
                | true =>
                  by_cases hbn : e.b = []
                  · have HF := (show Hid _ from HGOOD.out (by rw [HDEF.out, hp, hd, hbn]; rfl))
                    clear HBAD HGOOD HDEF hp
                    go_wp2_with (go_at_call 132; refine (HP.out _).mono ?_; clear HP; rintro e w1 ⟨rfl, hb1⟩; have HB1 := (show Hid (Below _ _ w1) from hb1); obtain ⟨q1, q2, q3⟩ := (HAT.out.below (hb.trans (hb1.mono hbs))).cells (i := k) (by rw [← HN.out]; exact hlt); rw [← HE.out] at q1 q2 q3; (first | rw [hd] at q2 | skip); (first | rw [hbn] at q3 | skip); clear hb1)
                    go_roundw
                    case rel => exact ⟨k + 1, by omega, by go_num, HF, hb.trans (HB1.out.mono hbs)⟩
                    case measure => simp [intOf]; omega
                  · have HF : Hid (R = (2, k)) := HBAD.out (by rw [HDEF.out, hp, hd, str_ne hbn]; rfl)
                    have hne := str_ne hbn
                    clear HBAD HGOOD HDEF hp
                    go_wp2_with (go_at_call 132; refine (HP.out _).mono ?_; clear HP; rintro e w1 ⟨rfl, hb1⟩; have HB1 := (show Hid (Below _ _ w1) from hb1); obtain ⟨q1, q2, q3⟩ := (HAT.out.below (hb.trans (hb1.mono hbs))).cells (i := k) (by rw [← HN.out]; exact hlt); rw [← HE.out] at q1 q2 q3; (first | rw [hd] at q2 | skip); (first | rw [hbn] at q3 | skip); clear hb1)
                    go_ret2
                    exact ⟨by rw [HF.out]; rfl, hb.trans (HB1.out.mono hbs)⟩
            · obtain rfl : k = i := by omega
              have HW3 := (show Hid _ from HW3'.out HG.out)
              have HW4 := (show Hid _ from HW4'.out HG.out)
              have HW5 := (show Hid _ from HW5'.out HG.out)
              clear HG HW2' HW3' HW4' HW5'
              go_wp2
              clear hk hlt
              obtain ⟨wq, rfl⟩ : ∃ x, x = wr := ⟨_, rfl⟩
              have HBW := (show Hid (Below w.heap.size w _) from hb)
              have HATW := (show Hid (LiesE _ ao l) from HAT.out.below hb)
              go_loopw [12] (fun vi wr => ∃ i : Nat, i ≤ k ∧ vi = .int .i64 i ∧ Hid (∀ j, j < i → twiceE l j = false) ∧ wr = wq) (fun vi _ => k - (intOf vi).toNat)
              case atStart => exact ⟨0, by omega, rfl, fun j hj => by omega, rfl⟩
              case round =>
                obtain ⟨i, hi, rfl, HG, hw⟩ := hrel
                rw [hw]; clear hw
                by_cases hlt : i < k
                · obtain ⟨g, o, rfl, c1, c2, c3⟩ := HATW.out.at (i := i) (by rw [← HN.out]; exact hlt)
                  have HBAD : Hid (twiceE l i = true → R = (3, i)) := fun h => HW3.out i hlt h HG.out
                  have HGOOD : Hid (twiceE l i = false → ∀ j, j < i + 1 → twiceE l j = false) := fun h j hj => by
                    by_cases e : j = i
                    · rw [e]; exact h
                    · exact HG.out j (by omega)
                  have hle := atI_le (l := l) (i := i) (by rw [← HN.out]; exact hlt)
                  have hdef : twiceE l i = decide (atI l (getE l i).p < i) := rfl
                  have HP := toHid (rAt_any l (by rw [← HN.out]; exact hl) (getE l i).p (some ⟨g, o, none⟩) cap wq HATW.out)
                  have hV : atV l (getE l i).p = (atI l (getE l i).p : Int) := by rw [atV, if_pos (by rw [← HN.out]; omega)]
                  rw [hV, ← HN.out] at HP
                  obtain ⟨e, HE⟩ := hid_intro (getE l i)
                  rw [← HE.out] at c1 c2 c3 hle hdef HP
                  obtain ⟨v, HV⟩ := hid_intro (atI l e.p)
                  rw [← HV.out] at hle hdef HP
                  clear hV HG HW3 HW4 HW5
                  by_cases hv : v < i
                  · have HF := (show Hid _ from HBAD.out (by rw [hdef]; exact decide_eq_true hv))
                    clear hdef HBAD HGOOD
                    go_wp2_with (go_at_call 133; refine HP.out.mono ?_; clear HP; rintro e w1 ⟨rfl, hw1⟩; rw [hw1]; clear hw1)
                    go_ret2
                    exact ⟨by rw [HF.out]; rfl, HBW.out⟩
                  · have HF := (show Hid _ from HGOOD.out (by rw [hdef]; exact decide_eq_false hv))
                    clear hdef HBAD HGOOD
                    go_wp2_with (go_at_call 133; refine HP.out.mono ?_; clear HP; rintro e w1 ⟨rfl, hw1⟩; rw [hw1]; clear hw1)
                    go_roundw
                    case rel => exact ⟨i + 1, by omega, by go_num, HF, by first | rfl | trivial⟩
                    case measure => simp [intOf]; omega
                · obtain rfl : i = k := by omega
                  have HW4' := (show Hid _ from HW4.out HG.out)
                  have HW5' := (show Hid _ from HW5.out HG.out)
                  clear HG HW3 HW4 HW5
                  go_wp2
                  clear hi hlt
                  go_loopw [13] (fun vi wr => ∃ k : Nat, k ≤ i ∧ vi = .int .i64 k ∧ Hid (∀ j, j < k → aloneE l j = false) ∧ wr = wq) (fun vi _ => i - (intOf vi).toNat)
                  case atStart => exact ⟨0, by omega, rfl, fun j hj => by omega, rfl⟩
                  case round =>
                    obtain ⟨k, hk, rfl, HG, hw⟩ := hrel
                    rw [hw]; clear hw
                    by_cases hlt : k < i
                    · obtain ⟨g, o, rfl, c1, c2, c3⟩ := HATW.out.at (i := k) (by rw [← HN.out]; exact hlt)
                      obtain ⟨hpl, _⟩ := HFT.out.at (i := k) (by rw [← HN.out]; exact hlt)
                      have HBAD : Hid (aloneE l k = true → R = (4, k)) := fun h => HW4'.out k hlt h HG.out
                      have HGOOD : Hid (aloneE l k = false → ∀ j, j < k + 1 → aloneE l j = false) := fun h j hj => by
                        by_cases e : j = k
                        · rw [e]; exact h
                        · exact HG.out j (by omega)
                      have hdef : aloneE l k = (!(parentB (getE l k).p == []) && !(decide (atI l (parentB (getE l k).p) < l.length) && (getE l (atI l (parentB (getE l k).p))).dir)) := rfl
                      have HQ := toHid (rParent_any ⟨(getE l k).p.toArray⟩ (by rw [size_of]; omega) wq)
                      have HP := toHid (rAt_any l (by rw [← HN.out]; exact hl) (parentB (getE l k).p) (some ⟨g, o, none⟩) cap wq HATW.out)
                      obtain ⟨e, HE⟩ := hid_intro (getE l k)
                      rw [← HE.out] at c1 c2 c3 hpl hdef HP HQ
                      rw [show parentB (ByteArray.mk e.p.toArray).data.toList = parentB e.p from rfl] at HQ
                      obtain ⟨q, HQQ⟩ := hid_intro (parentB e.p)
                      rw [← HQQ.out] at hdef HP HQ
                      have hVV : atV l q = if atI l q < l.length then (atI l q : Int) else -1 := rfl
                      clear HG HW4' HW5'
                      by_cases hin : atI l q < l.length
                      · rw [if_pos hin] at hVV
                        rw [decide_eq_true hin, Bool.true_and] at hdef
                        obtain ⟨d1, d2, d3⟩ := HATW.out.cells hin
                        rw [hVV, ← HN.out] at HP
                        rw [← HN.out] at hin
                        clear hVV
                        obtain ⟨v, HV⟩ := hid_intro (atI l q)
                        rw [← HV.out] at hdef HP d1 d2 d3 hin
                        obtain ⟨f, HFF⟩ := hid_intro (getE l v)
                        rw [← HFF.out] at hdef d1 d2 d3
                        have HDEF := (show Hid _ from hdef)
                        clear hdef
                        by_cases hq : q = []
                        · have HF := (show Hid _ from HGOOD.out (by rw [HDEF.out, hq]; rfl))
                          rw [hq] at HP HQ
                          clear HBAD HGOOD HDEF
                          go_wp2_with (first | (go_at_call 134; refine HQ.out.mono ?_; clear HQ; rintro e w1 ⟨rfl, hw1⟩; rw [hw1]; clear hw1) | (go_at_call 133; refine HP.out.mono ?_; clear HP; rintro e w1 ⟨rfl, hw1⟩; rw [hw1]; clear hw1))
                          go_roundw
                          case rel => exact ⟨k + 1, by omega, by go_num, HF, by first | rfl | trivial⟩
                          case measure => simp [intOf]; omega
                        · have hne := str_ne hq
                          have hnq : q.isEmpty = false := by cases q with | nil => exact absurd rfl hq | cons => rfl
                          cases hd : f.dir with
                          | true =>
                            have HF := (show Hid _ from HGOOD.out (by rw [HDEF.out, hd, Bool.not_true, Bool.and_false]))
                            rw [hd] at d2
                            clear HBAD HGOOD HDEF
                            go_wp2_with (first | (go_at_call 134; refine HQ.out.mono ?_; clear HQ; rintro e w1 ⟨rfl, hw1⟩; rw [hw1]; clear hw1) | (go_at_call 133; refine HP.out.mono ?_; clear HP; rintro e w1 ⟨rfl, hw1⟩; rw [hw1]; clear hw1))
                            go_roundw
                            case rel => exact ⟨k + 1, by omega, by go_num, HF, by first | rfl | trivial⟩
                            case measure => simp [intOf]; omega
                          | false =>
                            have HF := (show Hid _ from HBAD.out (by rw [HDEF.out, hd, hne]; rfl))
                            rw [hd] at d2
                            clear HBAD HGOOD HDEF
                            go_wp2_with (first | (go_at_call 134; refine HQ.out.mono ?_; clear HQ; rintro e w1 ⟨rfl, hw1⟩; rw [hw1]; clear hw1) | (go_at_call 133; refine HP.out.mono ?_; clear HP; rintro e w1 ⟨rfl, hw1⟩; rw [hw1]; clear hw1))
                            go_ret2
                            exact ⟨by rw [HF.out]; rfl, HBW.out⟩
                      · rw [if_neg hin] at hVV
                        rw [decide_eq_false hin, Bool.false_and] at hdef
                        rw [hVV, ← HN.out] at HP
                        clear hVV hin
                        have HDEF := (show Hid _ from hdef)
                        clear hdef
                        by_cases hq : q = []
                        · have HF := (show Hid _ from HGOOD.out (by rw [HDEF.out, hq]; rfl))
                          rw [hq] at HP HQ
                          clear HBAD HGOOD HDEF
                          go_wp2_with (first | (go_at_call 134; refine HQ.out.mono ?_; clear HQ; rintro e w1 ⟨rfl, hw1⟩; rw [hw1]; clear hw1) | (go_at_call 133; refine HP.out.mono ?_; clear HP; rintro e w1 ⟨rfl, hw1⟩; rw [hw1]; clear hw1))
                          go_roundw
                          case rel => exact ⟨k + 1, by omega, by go_num, HF, by first | rfl | trivial⟩
                          case measure => simp [intOf]; omega
                        · have hne := str_ne hq
                          have hnq : q.isEmpty = false := by cases q with | nil => exact absurd rfl hq | cons => rfl
                          have HF := (show Hid _ from HBAD.out (by rw [HDEF.out, hne]; rfl))
                          clear HBAD HGOOD HDEF
                          go_wp2_with (first | (go_at_call 134; refine HQ.out.mono ?_; clear HQ; rintro e w1 ⟨rfl, hw1⟩; rw [hw1]; clear hw1) | (go_at_call 133; refine HP.out.mono ?_; clear HP; rintro e w1 ⟨rfl, hw1⟩; rw [hw1]; clear hw1))
                          go_ret2
                          exact ⟨by rw [HF.out]; rfl, HBW.out⟩
                    · obtain rfl : k = i := by omega
                      have HF := (show Hid _ from HW5'.out HG.out)
                      clear HG HW4' HW5'
                      go_wp2
                      go_ret2
                      exact ⟨by rw [HF.out]; rfl, HBW.out⟩
end Go.Proofs.YtgfbbcnnmoamnaaGreatDoor.Tr

namespace Go.Proofs.YtgfbbcnnmoamnaaGreatDoor.Tr
open Go.RowKit Go.Maps Go.Proofs.YtgfbbcnnmoamnaaGreatDoor Go.Proofs.YtgfbbcnnmoamnaaGreatDoor.Lk

theorem strKeys : Keyed Tryz.prog 9 := string_keyed Tryz.underlying9
theorem zeroI (w : World) : (zeroValue 3).run Tryz.prog w = .ok (.int .i64 0) w := by kernel_rfl
theorem wf_small (i : Nat) (hi : i ≤ 1048576) : (Lit.int .i64 (i : Int)).wf = true := WalkArith.wf_i64 (by omega)
theorem key_str (p : List UInt8) (h : p.length ≤ 1048576) : keyOf Tryz.prog 9 (.string ⟨p.toArray⟩) = some (.string p) :=
  WideMaps.keyOf_string_mk Tryz.underlying9 (by rw [size_of]; unfold maxLen; omega)
/-- a map has the texts of which something holds -/
def HasP (w : World) (M n : Nat) (p : List UInt8 → Bool) : Prop := ∃ D : DataW Unit, IsMap D ∧ w.ownsMap Tryz.prog 9 (plainElem Tryz.prog 3) M n D ∧ ∀ s, Go.Maps.has D (.string s) = p s
theorem HasP.made (w : World) : HasP (w.alloc (.map #[] 0)) w.heap.size 0 (fun _ => false) := ⟨.map [], isMap_empty, World.ownsMap_made w Tryz.prog 9 _, fun _ => rfl⟩
theorem HasP.put {w' : World} {M n : Nat} {p q : List UInt8 → Bool} {D : DataW Unit} (hI : IsMap D) (hD : ∀ s, Go.Maps.has D (.string s) = p s) {x : List UInt8} {d : DataW Unit} (ho : w'.ownsMap Tryz.prog 9 (plainElem Tryz.prog 3) M n (D.put (.string x) d)) (hq : ∀ s, q s = (p s || s == x)) : HasP w' M n q :=
  ⟨_, hI.put _ _, ho, fun s => by
    rw [hq s]
    by_cases e : s = x
    · subst e; rw [has_put_same hI (by simp [WideAt.IsKeyLit])]; simp
    · rw [has_put_other (fun h => e (by injection h)), hD s]; simp [e]⟩
theorem HasP.same {w : World} {M n : Nat} {p q : List UInt8 → Bool} (h : HasP w M n p) (hq : ∀ s, q s = p s) : HasP w M n q := by
  obtain ⟨D, h1, h2, h3⟩ := h
  exact ⟨D, h1, h2, fun s => by rw [hq, h3]⟩
theorem HasP.alloc {w : World} {M n : Nat} {p : List UInt8 → Bool} (h : HasP w M n p) (o : Obj) : HasP (w.alloc o) M n p := by
  obtain ⟨D, h1, h2, h3⟩ := h
  exact ⟨D, h1, h2.alloc o, h3⟩
theorem HasP.more {w : World} {M n m : Nat} {p : List UInt8 → Bool} (h : HasP w M n p) (hm : n ≤ m) : HasP w M m p := by
  obtain ⟨D, h1, h2, h3⟩ := h
  exact ⟨D, h1, h2.mono hm, h3⟩
theorem atI_spec (l : List E) (s : List UInt8) (i : Nat) (hi : i < l.length) : decide (atI l s < i + 1) = (decide (atI l s < i) || s == (getE l i).p) := by
  rcases firstN_cases (fun j => (getE l j).p == s) l.length with ⟨h0, h⟩ | ⟨h1, h2, h3⟩
  · have e : atI l s = l.length := h0
    have hx := h i hi
    have hne : s ≠ (getE l i).p := fun e => by rw [← e] at hx; simp at hx
    rw [e, decide_eq_false (by omega), decide_eq_false (by omega)]
    simp [hne]
  · have e : firstN (fun j => (getE l j).p == s) l.length = atI l s := rfl
    rw [e] at h1 h2 h3
    by_cases hs : s = (getE l i).p
    · have : atI l s ≤ i := by rw [hs]; exact atI_le hi
      rw [decide_eq_true (by omega)]
      simp [hs]
    · have hne : atI l s ≠ i := fun e => by rw [e] at h2; simp at h2; exact hs h2.symm
      simp only [beq_eq_false_iff_ne.2 hs, Bool.or_false]
      exact decide_eq_decide.2 (by omega)
set_option maxRecDepth 8000 in
set_option maxHeartbeats 1000000 in
theorem firstTwice_any (l : List E) (hl : l.length ≤ 1048576) (hft : FitE l) (ao : Option Addr) (cap : Nat) (w : World) (hat : LiesE w ao l) :
    Calls Tryz.prog 42 #[.slice ao l.length cap] w fun r w' => r = .returned (.int .i64 (firstN (twiceE l) l.length : Int)) ∧ Below w.heap.size w w' := by
  have hmm := @run_makeMap Tryz.prog
  have HAT : Hid (LiesE w ao l) := hat
  have HFT : Hid (FitE l) := hft
  clear hat hft
  have hat2 := fun (i : Nat) (h1 : i < l.length) (h2 : twiceE l i = true) (h3 : ∀ j, j < i → twiceE l j = false) => firstN_at (p := twiceE l) h1 h2 h3
  have hno2 := fun (h : ∀ j, j < l.length → twiceE l j = false) => firstN_none (p := twiceE l) h
  have HSP := toHid (atI_spec l)
  obtain ⟨R, HR⟩ := hid_intro (firstN (twiceE l) l.length)
  rw [← HR.out] at hat2 hno2 ⊢
  have HA2 := (show Hid _ from hat2)
  have HN2 := (show Hid _ from hno2)
  clear hat2 hno2
  obtain ⟨n, HN⟩ := hid_intro l.length
  rw [← HN.out] at hl HA2 HN2 HSP ⊢
  go_enter Tryz.func42, Tryz.ntmps42
  go_wp2
  go_loopw [11] (fun vi wr => ∃ i : Nat, i ≤ n ∧ vi = .int .i64 i ∧ Hid (∀ j, j < i → twiceE l j = false) ∧ Hid (HasP wr w.heap.size i (fun s => decide (atI l s < i))) ∧ Below w.heap.size w wr) (fun vi _ => n - (intOf vi).toNat)
  case atStart => exact ⟨0, by omega, rfl, fun j hj => by omega, (HasP.made w).same (fun s => by simp), (Below.refl _ _).alloc (Nat.le_refl _) _⟩
  case round =>
    obtain ⟨i, hi, rfl, HG, HM, hb⟩ := hrel
    have hbs := hb.size
    by_cases hlt : i < n
    · obtain ⟨g, o, rfl, c1, c2, c3⟩ := (HAT.out.below hb).at (i := i) (by rw [← HN.out]; exact hlt)
      obtain ⟨hpl, hbl⟩ := HFT.out.at (i := i) (by rw [← HN.out]; exact hlt)
      have HBAD : Hid (twiceE l i = true → R = i) := fun h => HA2.out i hlt h HG.out
      have HGOOD : Hid (twiceE l i = false → ∀ j, j < i + 1 → twiceE l j = false) := fun h j hj => by
        by_cases e : j = i
        · rw [e]; exact h
        · exact HG.out j (by omega)
      have hdef : twiceE l i = decide (atI l (getE l i).p < i) := rfl
      have hsp := fun s => HSP.out s i hlt
      obtain ⟨D, hI, ho, hD⟩ := HM.out
      obtain ⟨e, HE⟩ := hid_intro (getE l i)
      rw [← HE.out] at c1 c2 c3 hpl hbl hdef
      have hsp' : ∀ s, decide (atI l s < i + 1) = (decide (atI l s < i) || s == e.p) := fun s => by rw [hsp s, ← HE.out]
      have HSP2 := toHid hsp'
      have hkt := key_str e.p hpl
      have hwf := wf_small i (by omega)
      have HO := toHid (ho.alloc (.cells #[.string ⟨e.p.toArray⟩, .bool e.dir, .string ⟨e.b.toArray⟩] 47 (0, 0)))
      have HD := toHid hD
      have hDe0 := hD e.p
      have hDe : Go.Maps.has D (.string e.p) = twiceE l i := by rw [hDe0, hdef]
      clear hDe0 hsp hsp' ho hD hdef HG HM
      cases ht : twiceE l i with
      | true =>
        have HF := (show Hid _ from HBAD.out ht)
        rw [ht] at hDe
        clear HBAD HGOOD
        go_wp2_with (first | (at_lookup; refine wpList_lookup_own_ok_int _ rfl _ _ 195 rfl 9 3 .i64 strKeys Tryz.underlying195 Tryz.underlying3 (zeroI _) w.heap.size i D rfl HO.out _ (.string e.p) rfl hkt ?_; intro c hatc hwc) | (at_mapUpdate; refine wpList_mapUpdate_own _ rfl _ _ _ 195 rfl 9 3 strKeys Tryz.underlying195 _ w.heap.size i D rfl HO.out (by unfold maxLen; omega) _ _ (.string e.p) rfl rfl hkt _ [] (plainElem_int Tryz.underlying3 hwf) ?_; intro w5 hown5 hg5))
        go_ret
        exact ⟨by rw [HF.out]; rfl, hb.alloc hbs _⟩
      | false =>
        have HF := (show Hid _ from HGOOD.out ht)
        rw [ht] at hDe
        clear HBAD HGOOD
        go_wp2_with (first | (at_lookup; refine wpList_lookup_own_ok_int _ rfl _ _ 195 rfl 9 3 .i64 strKeys Tryz.underlying195 Tryz.underlying3 (zeroI _) w.heap.size i D rfl HO.out _ (.string e.p) rfl hkt ?_; intro c hatc hwc) | (at_mapUpdate; refine wpList_mapUpdate_own _ rfl _ _ _ 195 rfl 9 3 strKeys Tryz.underlying195 _ w.heap.size i D rfl HO.out (by unfold maxLen; omega) _ _ (.string e.p) rfl rfl hkt _ [] (plainElem_int Tryz.underlying3 hwf) ?_; intro w5 hown5 hg5))
        go_roundw
        case rel => exact ⟨i + 1, by omega, by go_num, HF, HasP.put hI HD.out hown5 HSP2.out, (hb.alloc hbs _).grown hg5 (by simp; omega) (fun k hk => by injection hk with hk; omega)⟩
        case measure => simp [intOf]; omega
    · obtain rfl : i = n := by omega
      have HF : Hid (R = i) := HN2.out HG.out
      clear HG
      go_wp2
      go_ret
      exact ⟨by rw [HF.out]; rfl, hb⟩
end Go.Proofs.YtgfbbcnnmoamnaaGreatDoor.Tr

namespace Go.Proofs.YtgfbbcnnmoamnaaGreatDoor.Tr
open Go.RowKit Go.Maps Go.Proofs.YtgfbbcnnmoamnaaGreatDoor Go.Proofs.YtgfbbcnnmoamnaaGreatDoor.Lk

/-- is a path that of a directory ahead of a place? -/
def hasDir (l : List E) (s : List UInt8) : Nat → Bool
  | 0 => false
  | i + 1 => hasDir l s i || ((getE l i).dir && s == (getE l i).p)
theorem hasDir_iff (l : List E) (s : List UInt8) : ∀ i, hasDir l s i = true ↔ ∃ j, j < i ∧ (getE l j).dir = true ∧ (getE l j).p = s
  | 0 => ⟨fun h => by rw [hasDir] at h; exact absurd h Bool.false_ne_true, fun ⟨j, h, _⟩ => absurd h (Nat.not_lt_zero j)⟩
  | i + 1 => by
    rw [hasDir, Bool.or_eq_true, hasDir_iff l s i, Bool.and_eq_true]
    constructor
    · rintro (⟨j, h1, h2⟩ | ⟨h1, h2⟩)
      · exact ⟨j, by omega, h2⟩
      · exact ⟨i, by omega, h1, (eq_of_beq h2).symm⟩
    · rintro ⟨j, h1, h2, h3⟩
      by_cases e : j = i
      · subst e; exact .inr ⟨h2, by rw [h3]; exact beq_self_eq_true _⟩
      · exact .inl ⟨j, by omega, h2, h3⟩
theorem once {l : List E} (h : ∀ j, j < l.length → twiceE l j = false) {j : Nat} (hj : j < l.length) : atI l (getE l j).p = j := by
  have h1 := h j hj
  have h2 := atI_le hj
  have h3 : ¬ atI l (getE l j).p < j := of_decide_eq_false h1
  omega
theorem hasDir_all {l : List E} (h : ∀ j, j < l.length → twiceE l j = false) (s : List UInt8) : hasDir l s l.length = (decide (atI l s < l.length) && (getE l (atI l s)).dir) := by
  rw [Bool.eq_iff_iff, hasDir_iff, Bool.and_eq_true, decide_eq_true_eq]
  constructor
  · rintro ⟨j, h1, h2, h3⟩
    have := once h h1
    rw [h3] at this
    rw [this]
    exact ⟨h1, h2⟩
  · rintro ⟨h1, h2⟩
    refine ⟨_, h1, h2, ?_⟩
    rcases firstN_cases (fun j => (getE l j).p == s) l.length with ⟨h0, _⟩ | ⟨_, h4, _⟩
    · have : atI l s = l.length := h0
      omega
    · exact eq_of_beq h4
theorem parent_le (l : List UInt8) : (parentB l).length ≤ l.length := by
  unfold parentB
  split
  · simp
  · simp; omega
theorem own_drewN {w : World} {k : TypeId} {R : Value → Option (DataW Unit × List MemPlace)} {b n : Nat} {D : DataW Unit} (h : w.ownsMap Tryz.prog k R b n D) (m : Nat) : (w.drewN m).ownsMap Tryz.prog k R b n D := by
  obtain ⟨es, clock, hb, hr⟩ := h
  exact ⟨es, clock, hb, hr⟩
theorem HasP.drewN {w : World} {M n : Nat} {p : List UInt8 → Bool} (h : HasP w M n p) (m : Nat) : HasP (w.drewN m) M n p := by
  obtain ⟨D, h1, h2, h3⟩ := h
  exact ⟨D, h1, own_drewN h2 m, h3⟩
theorem alone_of {l : List E} (h : ∀ j, j < l.length → twiceE l j = false) (i : Nat) : aloneE l i = (!(parentB (getE l i).p == []) && !(hasDir l (parentB (getE l i).p) l.length)) := by rw [aloneE, hasDir_all h]
set_option maxRecDepth 8000 in
set_option maxHeartbeats 1000000 in
theorem firstAlone_any (l : List E) (hl : l.length ≤ 1048576) (hft : FitE l) (htw : ∀ j, j < l.length → twiceE l j = false) (ao : Option Addr) (cap : Nat) (w : World) (hat : LiesE w ao l) :
    Calls Tryz.prog 43 #[.slice ao l.length cap] w fun r w' => r = .returned (.int .i64 (firstN (aloneE l) l.length : Int)) ∧ Below w.heap.size w w' := by
  have hmm := @run_makeMap Tryz.prog
  have HAT : Hid (LiesE w ao l) := hat
  have HFT : Hid (FitE l) := hft
  have HAL := toHid (fun i => alone_of htw i)
  clear hat hft htw
  have hat2 := fun (i : Nat) (h1 : i < l.length) (h2 : aloneE l i = true) (h3 : ∀ j, j < i → aloneE l j = false) => firstN_at (p := aloneE l) h1 h2 h3
  have hno2 := fun (h : ∀ j, j < l.length → aloneE l j = false) => firstN_none (p := aloneE l) h
  obtain ⟨R, HR⟩ := hid_intro (firstN (aloneE l) l.length)
  rw [← HR.out] at hat2 hno2 ⊢
  have HA2 := (show Hid _ from hat2)
  have HN2 := (show Hid _ from hno2)
  clear hat2 hno2
  obtain ⟨n, HN⟩ := hid_intro l.length
  rw [← HN.out] at hl HA2 HN2 HAL ⊢
  go_enter Tryz.func43, Tryz.ntmps43
  go_wp2
  go_loopw [15] (fun vi wr => ∃ i : Nat, i ≤ n ∧ vi = .int .i64 i ∧ Hid (HasP wr w.heap.size i (fun s => hasDir l s i)) ∧ Below w.heap.size w wr) (fun vi _ => n - (intOf vi).toNat)
  case atStart => exact ⟨0, by omega, rfl, (HasP.made w).same (fun s => by rw [hasDir]), (Below.refl _ _).alloc (Nat.le_refl _) _⟩
  case round =>
    obtain ⟨i, hi, rfl, HM, hb⟩ := hrel
    have hbs := hb.size
    by_cases hlt : i < n
    · obtain ⟨g, o, rfl, c1, c2, c3⟩ := (HAT.out.below hb).at (i := i) (by rw [← HN.out]; exact hlt)
      obtain ⟨hpl, hbl⟩ := HFT.out.at (i := i) (by rw [← HN.out]; exact hlt)
      have hsp : ∀ s, hasDir l s (i + 1) = (hasDir l s i || ((getE l i).dir && s == (getE l i).p)) := fun s => by rw [hasDir]
      obtain ⟨e, HE⟩ := hid_intro (getE l i)
      rw [← HE.out] at c1 c2 c3 hpl hbl
      have hsp' : ∀ s, hasDir l s (i + 1) = (hasDir l s i || (e.dir && s == e.p)) := fun s => by rw [hsp s, ← HE.out]
      clear hsp
      have hkt := key_str e.p hpl
      have hwf := wf_small i (by omega)
      cases hd : e.dir with
      | false =>
        rw [hd] at c2
        have HSP : Hid (∀ s, hasDir l s (i + 1) = hasDir l s i) := fun s => by rw [hsp' s, hd]; simp
        clear hsp'
        go_wp2
        go_roundw
        case rel => exact ⟨i + 1, by omega, by go_num, ((HM.out.same HSP.out).alloc _).more (Nat.le_succ _), hb.alloc hbs _⟩
        case measure => simp [intOf]; omega
      | true =>
        rw [hd] at c2
        have HSP : Hid (∀ s, hasDir l s (i + 1) = (hasDir l s i || s == e.p)) := fun s => by rw [hsp' s, hd]; simp
        obtain ⟨D, hI, ho, hD⟩ := HM.out
        have HO := toHid (ho.alloc (.cells #[.string ⟨e.p.toArray⟩, .bool true, .string ⟨e.b.toArray⟩] 47 (0, 0)))
        have HD := toHid hD
        clear hsp' ho hD HM
        go_wp2_with (at_mapUpdate; refine wpList_mapUpdate_own _ rfl _ _ _ 195 rfl 9 3 strKeys Tryz.underlying195 _ w.heap.size i D rfl HO.out (by unfold maxLen; omega) _ _ (.string e.p) rfl rfl hkt _ [] (plainElem_int Tryz.underlying3 hwf) ?_; intro w5 hown5 hg5)
        go_roundw
        case rel => exact ⟨i + 1, by omega, by go_num, HasP.put hI HD.out hown5 HSP.out, (hb.alloc hbs _).grown hg5 (by simp; omega) (fun k hk => by injection hk with hk; omega)⟩
        case measure => simp [intOf]; omega
    · obtain rfl : i = n := by omega
      clear hi hlt
      go_wp2
      go_loopw [29] (fun vi wr => ∃ k : Nat, k ≤ i ∧ vi = .int .i64 k ∧ Hid (∀ j, j < k → aloneE l j = false) ∧ Hid (HasP wr w.heap.size i (fun s => hasDir l s i)) ∧ Below w.heap.size w wr) (fun vi _ => i - (intOf vi).toNat)
      case atStart => exact ⟨0, by omega, rfl, fun j hj => by omega, HM, hb⟩
      case round =>
        clear HM hb hbs
        obtain ⟨k, hk, rfl, HG, HM, hb⟩ := hrel
        have hbs := hb.size
        by_cases hlt : k < i
        · obtain ⟨g, o, rfl, c1, c2, c3⟩ := (HAT.out.below hb).at (i := k) (by rw [← HN.out]; exact hlt)
          obtain ⟨hpl, hbl⟩ := HFT.out.at (i := k) (by rw [← HN.out]; exact hlt)
          have HBAD : Hid (aloneE l k = true → R = k) := fun h => HA2.out k hlt h HG.out
          have HGOOD : Hid (aloneE l k = false → ∀ j, j < k + 1 → aloneE l j = false) := fun h j hj => by
            by_cases e : j = k
            · rw [e]; exact h
            · exact HG.out j (by omega)
          have hdef := HAL.out k
          obtain ⟨e, HE⟩ := hid_intro (getE l k)
          rw [← HE.out] at c1 c2 c3 hpl hbl hdef
          have HQ := (show Hid _ from tCut_any ⟨e.p.toArray⟩ (by rw [size_of]; omega))
          rw [show parentB (ByteArray.mk e.p.toArray).data.toList = parentB e.p from rfl] at HQ
          have hql := parent_le e.p
          obtain ⟨q, HQQ⟩ := hid_intro (parentB e.p)
          rw [← HQQ.out] at hdef HQ hql
          have hkt := key_str q (by omega)
          have HM2 := toHid (HM.out.alloc (.cells #[.string ⟨e.p.toArray⟩, .bool e.dir, .string ⟨e.b.toArray⟩] 47 (0, 0)))
          obtain ⟨D, hI, ho, hD⟩ := HM2.out
          have HO := toHid ho
          have hDe0 := hD q
          have hDe : Go.Maps.has D (.string q) = hasDir l q i := hDe0
          obtain ⟨d, HDD⟩ := hid_intro (hasDir l q i)
          rw [← HDD.out] at hdef hDe
          clear hDe0 ho hD HG HM
          by_cases hq : q = []
          · have HF := (show Hid _ from HGOOD.out (by rw [hdef, hq]; rfl))
            clear HBAD HGOOD hdef
            rw [hq] at HQ hkt hDe
            cases hd : d with
            | true =>
              rw [hd] at hDe
              go_wp2_with (first | (go_at_call 44; refine (HQ.out _).mono ?_; clear HQ; rintro e w1 ⟨rfl, m, hw1⟩; rw [hw1]; clear hw1) | (at_lookup; refine wpList_lookup_own_ok_int _ rfl _ _ 195 rfl 9 3 .i64 strKeys Tryz.underlying195 Tryz.underlying3 (zeroI _) w.heap.size i D rfl (own_drewN HO.out _) _ _ rfl hkt ?_; intro c hatc hwc))
              go_roundw
              case rel => exact ⟨k + 1, by omega, by go_num, HF, HM2.out.drewN _, below_drewN (hb.alloc hbs _) _⟩
              case measure => simp [intOf]; omega
            | false =>
              rw [hd] at hDe
              go_wp2_with (first | (go_at_call 44; refine (HQ.out _).mono ?_; clear HQ; rintro e w1 ⟨rfl, m, hw1⟩; rw [hw1]; clear hw1) | (at_lookup; refine wpList_lookup_own_ok_int _ rfl _ _ 195 rfl 9 3 .i64 strKeys Tryz.underlying195 Tryz.underlying3 (zeroI _) w.heap.size i D rfl (own_drewN HO.out _) _ _ rfl hkt ?_; intro c hatc hwc))
              go_roundw
              case rel => exact ⟨k + 1, by omega, by go_num, HF, HM2.out.drewN _, below_drewN (hb.alloc hbs _) _⟩
              case measure => simp [intOf]; omega
          · have hne := str_ne hq
            have hnq : q.isEmpty = false := by cases q with | nil => exact absurd rfl hq | cons => rfl
            cases hd : d with
            | true =>
              have HF := (show Hid _ from HGOOD.out (by rw [hdef, hd, Bool.not_true, Bool.and_false]))
              rw [hd] at hDe
              clear HBAD HGOOD hdef
              go_wp2_with (first | (go_at_call 44; refine (HQ.out _).mono ?_; clear HQ; rintro e w1 ⟨rfl, m, hw1⟩; rw [hw1]; clear hw1) | (at_lookup; refine wpList_lookup_own_ok_int _ rfl _ _ 195 rfl 9 3 .i64 strKeys Tryz.underlying195 Tryz.underlying3 (zeroI _) w.heap.size i D rfl (own_drewN HO.out _) _ _ rfl hkt ?_; intro c hatc hwc))
              go_roundw
              case rel => exact ⟨k + 1, by omega, by go_num, HF, HM2.out.drewN _, below_drewN (hb.alloc hbs _) _⟩
              case measure => simp [intOf]; omega
            | false =>
              have HF := (show Hid _ from HBAD.out (by rw [hdef, hd, hne]; rfl))
              rw [hd] at hDe
              clear HBAD HGOOD hdef
              go_wp2_with (first | (go_at_call 44; refine (HQ.out _).mono ?_; clear HQ; rintro e w1 ⟨rfl, m, hw1⟩; rw [hw1]; clear hw1) | (at_lookup; refine wpList_lookup_own_ok_int _ rfl _ _ 195 rfl 9 3 .i64 strKeys Tryz.underlying195 Tryz.underlying3 (zeroI _) w.heap.size i D rfl (own_drewN HO.out _) _ _ rfl hkt ?_; intro c hatc hwc))
              go_ret
              exact ⟨by rw [HF.out]; rfl, below_drewN (hb.alloc hbs _) _⟩
        · obtain rfl : k = i := by omega
          have HF : Hid (R = k) := HN2.out HG.out
          clear HG
          go_wp2
          go_ret
          exact ⟨by rw [HF.out]; rfl, hb⟩
end Go.Proofs.YtgfbbcnnmoamnaaGreatDoor.Tr

namespace Go.Proofs.YtgfbbcnnmoamnaaGreatDoor.Tr
open Go.RowKit Go.Proofs.YtgfbbcnnmoamnaaGreatDoor Go.Proofs.YtgfbbcnnmoamnaaGreatDoor.Lk

set_option maxRecDepth 8000 in
set_option maxHeartbeats 1000000 in
theorem tCheck_any (l : List E) (hl : l.length ≤ 1048576) (most bytes : Nat) (hm : most ≤ 1048576) (hby : bytes ≤ 1048576) (hft : FitE l) (ao : Option Addr) (cap : Nat) (w : World) (hat : LiesE w ao l) :
    Calls Tryz.prog 16 #[.slice ao l.length cap, .agg #[.int .i64 most, .int .i64 bytes]] w fun r w' => r = .returned (.tuple #[.int .i64 ((wrongE l most bytes).1 : Int), .int .i64 ((wrongE l most bytes).2 : Int)]) ∧ Below w.heap.size w w' := by
  have HAT : Hid (LiesE w ao l) := hat
  have HB0 : Hid (Below w.heap.size w (w.alloc (.cells #[.int .i64 most, .int .i64 bytes] 64 (0, 0)))) := (Below.refl _ w).alloc (Nat.le_refl _) _
  have HC1 : Hid (∀ w1, LiesE w1 ao l → Calls Tryz.prog 40 #[.slice ao l.length cap, .agg #[.int .i64 most, .int .i64 bytes]] w1 fun r w' => r = .returned (.bool (decide (l.length > most ∨ total l > bytes))) ∧ Below w1.heap.size w1 w') := fun w1 h => tooMany_any l hl most bytes hm hby hft ao cap w1 h
  have HC2 : Hid (∀ w1, LiesE w1 ao l → Calls Tryz.prog 41 #[.slice ao l.length cap] w1 fun r w' => r = .returned (.int .i64 (firstN (fun i => badE (getE l i)) l.length : Int)) ∧ Below w1.heap.size w1 w') := fun w1 h => firstWrong_any l hl hft ao cap w1 h
  have HC3 : Hid (∀ w1, LiesE w1 ao l → Calls Tryz.prog 42 #[.slice ao l.length cap] w1 fun r w' => r = .returned (.int .i64 (firstN (twiceE l) l.length : Int)) ∧ Below w1.heap.size w1 w') := fun w1 h => firstTwice_any l hl hft ao cap w1 h
  have HC4 : Hid ((∀ j, j < l.length → twiceE l j = false) → ∀ w1, LiesE w1 ao l → Calls Tryz.prog 43 #[.slice ao l.length cap] w1 fun r w' => r = .returned (.int .i64 (firstN (aloneE l) l.length : Int)) ∧ Below w1.heap.size w1 w') := fun h0 w1 h => firstAlone_any l hl hft h0 ao cap w1 h
  have hw : wrongE l most bytes = if l.length > most ∨ total l > bytes then (1, 0) else if firstN (fun i => badE (getE l i)) l.length < l.length then (2, firstN (fun i => badE (getE l i)) l.length) else if firstN (twiceE l) l.length < l.length then (3, firstN (twiceE l) l.length) else if firstN (aloneE l) l.length < l.length then (4, firstN (aloneE l) l.length) else (0, 0) := rfl
  have hc2 := firstN_cases (fun i => badE (getE l i)) l.length
  have hc3 := firstN_cases (twiceE l) l.length
  have hc4 := firstN_cases (aloneE l) l.length
  obtain ⟨x2, H2⟩ := hid_intro (firstN (fun i => badE (getE l i)) l.length)
  obtain ⟨x3, H3⟩ := hid_intro (firstN (twiceE l) l.length)
  obtain ⟨x4, H4⟩ := hid_intro (firstN (aloneE l) l.length)
  rw [← H2.out] at HC2 hw hc2
  rw [← H3.out] at HC3 hw hc3
  rw [← H4.out] at HC4 hw hc4
  obtain ⟨n, HN⟩ := hid_intro l.length
  rw [← HN.out] at hl HC1 HC2 HC3 HC4 hw hc2 hc3 hc4 ⊢
  have HW := (show Hid _ from hw)
  have HK2 : Hid (x2 ≤ n) := by show _ ≤ _; omega
  have HK3 : Hid (x3 ≤ n) := by show _ ≤ _; omega
  have HK4 : Hid (x4 ≤ n) := by show _ ≤ _; omega
  have HNO : Hid (x3 = n → ∀ j, j < n → twiceE l j = false) := fun h => by
    rcases hc3 with h1 | h1
    · exact h1.2
    · omega
  clear hw hc2 hc3 hc4 hft hat
  obtain ⟨R, HR⟩ := hid_intro (wrongE l most bytes)
  rw [← HR.out] at HW ⊢
  clear HR
  by_cases h1 : n > most ∨ total l > bytes
  · have HF : Hid (R = (1, 0)) := by show _ = _; rw [HW.out, if_pos h1]
    rw [decide_eq_true h1] at HC1
    clear HW
    go_enter Tryz.func16, Tryz.ntmps16
    go_wp2_with (go_at_call 40; refine (HC1.out _ (HAT.out.below HB0.out)).mono ?_; clear HC1; rintro e w1 ⟨rfl, hb1⟩; have HB1 := (show Hid (Below _ _ w1) from hb1); clear hb1)
    go_ret2
    exact ⟨by rw [HF.out]; rfl, HB0.out.trans (HB1.out.mono (by simp))⟩
  · have HW1 : Hid (R = if x2 < n then (2, x2) else if x3 < n then (3, x3) else if x4 < n then (4, x4) else (0, 0)) := by show _ = _; rw [HW.out, if_neg h1]
    rw [decide_eq_false h1] at HC1
    clear HW h1
    have hk2 := HK2.out
    have hk3 := HK3.out
    have hk4 := HK4.out
    by_cases h2 : x2 < n
    · have HF : Hid (R = (2, x2)) := by show _ = _; rw [HW1.out, if_pos h2]
      clear HW1
      go_enter Tryz.func16, Tryz.ntmps16
      go_wp2_with (first | (go_at_call 40; refine (HC1.out _ (HAT.out.below HB0.out)).mono ?_; clear HC1; rintro e w1 ⟨rfl, hb1⟩; have HB1 : Hid (Below w.heap.size w w1) := HB0.out.trans (hb1.mono (by simp)); clear hb1) | (go_at_call 41; refine (HC2.out _ (HAT.out.below HB1.out)).mono ?_; clear HC2; rintro e w2 ⟨rfl, hb2⟩; have HB2 : Hid (Below w.heap.size w w2) := HB1.out.trans (hb2.mono HB1.out.size); clear hb2))
      go_ret2
      exact ⟨by rw [HF.out]; rfl, HB2.out⟩
    · have HW2 : Hid (R = if x3 < n then (3, x3) else if x4 < n then (4, x4) else (0, 0)) := by show _ = _; rw [HW1.out, if_neg h2]
      clear HW1
      by_cases h3 : x3 < n
      · have HF : Hid (R = (3, x3)) := by show _ = _; rw [HW2.out, if_pos h3]
        clear HW2
        go_enter Tryz.func16, Tryz.ntmps16
        go_wp2_with (first | (go_at_call 40; refine (HC1.out _ (HAT.out.below HB0.out)).mono ?_; clear HC1; rintro e w1 ⟨rfl, hb1⟩; have HB1 : Hid (Below w.heap.size w w1) := HB0.out.trans (hb1.mono (by simp)); clear hb1) | (go_at_call 41; refine (HC2.out _ (HAT.out.below HB1.out)).mono ?_; clear HC2; rintro e w2 ⟨rfl, hb2⟩; have HB2 : Hid (Below w.heap.size w w2) := HB1.out.trans (hb2.mono HB1.out.size); clear hb2) | (go_at_call 42; refine (HC3.out _ (HAT.out.below HB2.out)).mono ?_; clear HC3; rintro e w3 ⟨rfl, hb3⟩; have HB3 : Hid (Below w.heap.size w w3) := HB2.out.trans (hb3.mono HB2.out.size); clear hb3))
        go_ret2
        exact ⟨by rw [HF.out]; rfl, HB3.out⟩
      · have HW3 : Hid (R = if x4 < n then (4, x4) else (0, 0)) := by show _ = _; rw [HW2.out, if_neg h3]
        clear HW2
        have HC5 := (show Hid _ from HC4.out (HNO.out (by omega)))
        clear HC4
        by_cases h4 : x4 < n
        · have HF : Hid (R = (4, x4)) := by show _ = _; rw [HW3.out, if_pos h4]
          clear HW3
          go_enter Tryz.func16, Tryz.ntmps16
          go_wp2_with (first | (go_at_call 40; refine (HC1.out _ (HAT.out.below HB0.out)).mono ?_; clear HC1; rintro e w1 ⟨rfl, hb1⟩; have HB1 : Hid (Below w.heap.size w w1) := HB0.out.trans (hb1.mono (by simp)); clear hb1) | (go_at_call 41; refine (HC2.out _ (HAT.out.below HB1.out)).mono ?_; clear HC2; rintro e w2 ⟨rfl, hb2⟩; have HB2 : Hid (Below w.heap.size w w2) := HB1.out.trans (hb2.mono HB1.out.size); clear hb2) | (go_at_call 42; refine (HC3.out _ (HAT.out.below HB2.out)).mono ?_; clear HC3; rintro e w3 ⟨rfl, hb3⟩; have HB3 : Hid (Below w.heap.size w w3) := HB2.out.trans (hb3.mono HB2.out.size); clear hb3) | (go_at_call 43; refine (HC5.out _ (HAT.out.below HB3.out)).mono ?_; clear HC5; rintro e w4 ⟨rfl, hb4⟩; have HB4 : Hid (Below w.heap.size w w4) := HB3.out.trans (hb4.mono HB3.out.size); clear hb4))
          go_ret2
          exact ⟨by rw [HF.out]; rfl, HB4.out⟩
        · have HF : Hid (R = (0, 0)) := by show _ = _; rw [HW3.out, if_neg h4]
          clear HW3
          go_enter Tryz.func16, Tryz.ntmps16
          go_wp2_with (first | (go_at_call 40; refine (HC1.out _ (HAT.out.below HB0.out)).mono ?_; clear HC1; rintro e w1 ⟨rfl, hb1⟩; have HB1 : Hid (Below w.heap.size w w1) := HB0.out.trans (hb1.mono (by simp)); clear hb1) | (go_at_call 41; refine (HC2.out _ (HAT.out.below HB1.out)).mono ?_; clear HC2; rintro e w2 ⟨rfl, hb2⟩; have HB2 : Hid (Below w.heap.size w w2) := HB1.out.trans (hb2.mono HB1.out.size); clear hb2) | (go_at_call 42; refine (HC3.out _ (HAT.out.below HB2.out)).mono ?_; clear HC3; rintro e w3 ⟨rfl, hb3⟩; have HB3 : Hid (Below w.heap.size w w3) := HB2.out.trans (hb3.mono HB2.out.size); clear hb3) | (go_at_call 43; refine (HC5.out _ (HAT.out.below HB3.out)).mono ?_; clear HC5; rintro e w4 ⟨rfl, hb4⟩; have HB4 : Hid (Below w.heap.size w w4) := HB3.out.trans (hb4.mono HB3.out.size); clear hb4))
          go_ret2
          exact ⟨by rw [HF.out]; rfl, HB4.out⟩
end Go.Proofs.YtgfbbcnnmoamnaaGreatDoor.Tr
