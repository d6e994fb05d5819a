/- What is written is read again: bits, numbers, words of the fixed codes. Bits that are written into bytes. Where the bytes of a text came before; what one byte many times costs. -/
import Derived.Test.YtgfbbcnnmoamnaaGreatDoorBase
namespace Go.Proofs.YtgfbbcnnmoamnaaGreatDoor
open Go.RowKit

/-- these bits stand in the text from k on -/
def BitsAt (t : List UInt8) (k : Nat) (b : List Nat) : Prop := k + b.length ≤ 8 * t.length ∧ ∀ i, i < b.length → bitAt t (k + i) = b.getD i 0
theorem BitsAt.left {t : List UInt8} {k : Nat} {a b : List Nat} (h : BitsAt t k (a ++ b)) : BitsAt t k a := by
  refine ⟨by have := h.1; simp at this; omega, fun i hi => ?_⟩
  rw [h.2 i (by simp; omega)]
  simp [List.getElem?_append_left hi]
theorem BitsAt.right {t : List UInt8} {k : Nat} {a b : List Nat} (h : BitsAt t k (a ++ b)) : BitsAt t (k + a.length) b := by
  refine ⟨by have := h.1; simp at this; omega, fun i hi => ?_⟩
  have := h.2 (a.length + i) (by simp; omega)
  rw [← Nat.add_assoc] at this
  rw [this]
  simp [List.getElem?_append_right]
/-- n bits of a number, the lowest first -/
def numBits (v n : Nat) : List Nat := (List.range n).map fun i => v / 2 ^ i % 2
/-- the bits of a word, the highest first -/
def wordBits (c n : Nat) : List Nat := (List.range n).map fun i => c / 2 ^ (n - 1 - i) % 2
theorem numBits_len (v n : Nat) : (numBits v n).length = n := by simp [numBits]
theorem wordBits_len (v n : Nat) : (wordBits v n).length = n := by simp [wordBits]
theorem numBits_get (v n i : Nat) (h : i < n) : (numBits v n).getD i 0 = v / 2 ^ i % 2 := by simp [numBits, h]
theorem wordBits_get (v n i : Nat) (h : i < n) : (wordBits v n).getD i 0 = v / 2 ^ (n - 1 - i) % 2 := by simp [wordBits, h]
theorem numAt_bits (t : List UInt8) (k v : Nat) : ∀ n, (∀ i, i < n → bitAt t (k + i) = v / 2 ^ i % 2) → numAt t k n = v % 2 ^ n
  | 0, _ => by simp [numAt, Nat.mod_one]
  | n + 1, h => by
    rw [numAt, numAt_bits t k v n (fun i hi => h i (by omega)), h n (by omega), Nat.pow_succ, Nat.mod_mul]
theorem num_back {t : List UInt8} {k v n : Nat} (h : BitsAt t k (numBits v n)) (hv : v < 2 ^ n) : has t k n ∧ numAt t k n = v := by
  have hl := numBits_len v n
  refine ⟨by have := h.1; rw [hl] at this; exact this, ?_⟩
  rw [numAt_bits t k v n (fun i hi => by rw [h.2 i (by omega), numBits_get v n i hi]), Nat.mod_eq_of_lt hv]
/-- reading a word of n bits -/
theorem decGo_word (lens : List Nat) (t : List UInt8) (c n : Nat) (hc : c < 2 ^ n) (hn : n ≤ 15) (h1 : fst lens n ≤ c) (h2 : c - fst lens n < cnt lens n) (h3 : ∀ m, m < n → cnt lens m ≤ c / 2 ^ (n - m) - fst lens m) :
    ∀ (f m k : Nat), f + m = n → 1 ≤ f → has t k f → (∀ i, i < f → bitAt t (k + i) = c / 2 ^ (f - 1 - i) % 2) → decGo lens t (15 - m) m (c / 2 ^ f) k = some ((symsOf lens n).getD (c - fst lens n) 0, k + f)
  | 0, m, k, hfm, hf, _, _ => by omega
  | f + 1, m, k, hfm, hf, hh, hb => by
    have e0 : c / 2 ^ (f + 1) * 2 + c / 2 ^ f % 2 = c / 2 ^ f := by
      rw [Nat.pow_succ, ← Nat.div_div_eq_div_mul]; omega
    have hb0 := hb 0 (by omega)
    simp only [Nat.add_zero, Nat.sub_zero, Nat.add_sub_cancel] at hb0
    rw [show 15 - m = 15 - (m + 1) + 1 by omega, decGo, if_pos (show has t k 1 by unfold has at hh ⊢; omega), hb0, show 2 * (c / 2 ^ (f + 1)) + c / 2 ^ f % 2 = c / 2 ^ f by omega]
    by_cases hf0 : f = 0
    · subst hf0
      obtain rfl : m + 1 = n := by omega
      simp only [Nat.pow_zero, Nat.div_one]
      rw [if_pos h2]
    · have h3m := h3 (m + 1) (by omega)
      rw [show n - (m + 1) = f by omega] at h3m
      rw [if_neg (by omega)]
      have ih := decGo_word lens t c n hc hn h1 h2 h3 f (m + 1) (k + 1) (by omega) (by omega) (by unfold has at hh ⊢; omega) (fun i hi => by
        have := hb (i + 1) (by omega)
        rw [show k + 1 + i = k + (i + 1) by omega, this, show f + 1 - 1 - (i + 1) = f - 1 - i by omega])
      rw [ih, show k + 1 + f = k + (f + 1) by omega]
theorem dec_word (lens : List Nat) (t : List UInt8) (c n k : Nat) (hc : c < 2 ^ n) (hn1 : 1 ≤ n) (hn : n ≤ 15) (h1 : fst lens n ≤ c) (h2 : c - fst lens n < cnt lens n) (h3 : ∀ m, m < n → cnt lens m ≤ c / 2 ^ (n - m) - fst lens m) (h : BitsAt t k (wordBits c n)) :
    dec lens t k = some ((symsOf lens n).getD (c - fst lens n) 0, k + n) := by
  have hl := wordBits_len c n
  have hd := decGo_word lens t c n hc hn h1 h2 h3 n 0 k (by omega) hn1 (by have := h.1; rw [hl] at this; exact this) (fun i hi => by rw [h.2 i (by omega), wordBits_get c n i hi])
  rw [Nat.div_eq_of_lt hc] at hd
  exact hd
/-- the words of the fixed codes -/
def fixWord (x : Nat) : Nat × Nat := if x ≤ 143 then (48 + x, 8) else if x ≤ 255 then (400 + (x - 144), 9) else if x ≤ 279 then (x - 256, 7) else (192 + (x - 280), 8)
def fixCnt (m : Nat) : Nat := if m = 7 then 24 else if m = 8 then 152 else if m = 9 then 112 else 0
def fixFst (m : Nat) : Nat := if m ≤ 7 then 0 else if m = 8 then 48 else 400 * 2 ^ (m - 9) + (if m = 9 then 0 else 112 * 2 ^ (m - 9))
theorem fix_cnt : ∀ m, m < 16 → cnt fixedL m = fixCnt m := by decide +kernel
theorem fix_fst : ∀ m, m < 10 → fst fixedL m = fixFst m := by decide +kernel
theorem fix_ok : ∀ x, x < 288 → (fixWord x).1 < 2 ^ (fixWord x).2 ∧ 1 ≤ (fixWord x).2 ∧ (fixWord x).2 ≤ 9 ∧ fixFst (fixWord x).2 ≤ (fixWord x).1 ∧ (fixWord x).1 - fixFst (fixWord x).2 < fixCnt (fixWord x).2 ∧ ∀ m, m < (fixWord x).2 → fixCnt m ≤ (fixWord x).1 / 2 ^ ((fixWord x).2 - m) - fixFst m := by decide +kernel
theorem fix_syms : symsOf fixedL 7 = List.range' 256 24 ∧ symsOf fixedL 8 = List.range' 0 144 ++ List.range' 280 8 ∧ symsOf fixedL 9 = List.range' 144 112 := by decide +kernel
theorem fix_sym : ∀ x, x < 288 → (if (fixWord x).2 = 7 then List.range' 256 24 else if (fixWord x).2 = 8 then List.range' 0 144 ++ List.range' 280 8 else List.range' 144 112).getD ((fixWord x).1 - fixFst (fixWord x).2) 0 = x := by decide +kernel
theorem fix_dec (t : List UInt8) (k x : Nat) (hx : x < 288) (h : BitsAt t k (wordBits (fixWord x).1 (fixWord x).2)) : dec fixedL t k = some (x, k + (fixWord x).2) := by
  obtain ⟨h1, h2, h3, h4, h5, h6⟩ := fix_ok x hx
  rw [dec_word fixedL t (fixWord x).1 (fixWord x).2 k h1 h2 (by omega) (by rw [fix_fst _ (by omega)]; exact h4) (by rw [fix_fst _ (by omega), fix_cnt _ (by omega)]; exact h5) (fun m hm => by rw [fix_fst _ (by omega), fix_cnt _ (by omega)]; exact h6 m hm) h]
  congr 2
  rw [fix_fst _ (by omega)]
  have hs := fix_sym x hx
  have hw : (fixWord x).2 = 7 ∨ (fixWord x).2 = 8 ∨ (fixWord x).2 = 9 := by unfold fixWord; split; exact .inr (.inl rfl); split; exact .inr (.inr rfl); split; exact .inl rfl; exact .inr (.inl rfl)
  obtain ⟨s7, s8, s9⟩ := fix_syms
  rcases hw with e | e | e
  · rw [e] at hs ⊢; rw [s7]; simpa using hs
  · rw [e] at hs ⊢; rw [s8]; simpa using hs
  · rw [e] at hs ⊢; rw [s9]; simpa using hs
theorem fixd_cnt : ∀ m, m < 16 → cnt fixedD m = if m = 5 then 32 else 0 := by decide +kernel
theorem fixd_fst : ∀ m, m < 6 → fst fixedD m = 0 := by decide +kernel
theorem fixd_syms : symsOf fixedD 5 = List.range 32 := by decide +kernel
theorem fixd_dec (t : List UInt8) (k y : Nat) (hy : y < 32) (h : BitsAt t k (wordBits y 5)) : dec fixedD t k = some (y, k + 5) := by
  rw [dec_word fixedD t y 5 k (by omega) (by omega) (by omega) (by rw [fixd_fst _ (by omega)]; omega) (by rw [fixd_fst _ (by omega), fixd_cnt _ (by omega)]; simpa using hy) (fun m hm => by rw [fixd_cnt _ (by omega), if_neg (by omega)]; omega) h]
  congr 2
  rw [fixd_fst _ (by omega), fixd_syms]; simp [hy]
/-- the symbol whose span begins nearest below -/
def nearest (sp : Nat → Nat × Nat) (v : Nat) : Nat → Nat
  | 0 => 0
  | i + 1 => if (sp (i + 1)).1 ≤ v then i + 1 else nearest sp v i
theorem nearest_ok (sp : Nat → Nat × Nat) (v : Nat) (h0 : (sp 0).1 ≤ v) : ∀ m, (∀ i, i < m → (sp (i + 1)).1 ≤ (sp i).1 + 2 ^ (sp i).2) → v < (sp m).1 + 2 ^ (sp m).2 →
    nearest sp v m ≤ m ∧ (sp (nearest sp v m)).1 ≤ v ∧ v - (sp (nearest sp v m)).1 < 2 ^ (sp (nearest sp v m)).2
  | 0, _, h => ⟨Nat.le_refl _, h0, by rw [nearest]; omega⟩
  | m + 1, hc, h => by
    rw [nearest]
    by_cases hv : (sp (m + 1)).1 ≤ v
    · rw [if_pos hv]; exact ⟨Nat.le_refl _, hv, by omega⟩
    · rw [if_neg hv]
      have := nearest_ok sp v h0 m (fun i hi => hc i (by omega)) (by have := hc m (by omega); omega)
      exact ⟨by omega, this.2⟩
def lenSym (l : Nat) : Nat := nearest lenSpan l 28
def distSym (b : Nat) : Nat := nearest distSpan b 29
theorem lenSym_ok (l : Nat) (h1 : 3 ≤ l) (h2 : l ≤ 258) : lenSym l ≤ 28 ∧ (lenSpan (lenSym l)).1 ≤ l ∧ l - (lenSpan (lenSym l)).1 < 2 ^ (lenSpan (lenSym l)).2 :=
  nearest_ok lenSpan l h1 28 (by decide +kernel) (by rw [show lenSpan 28 = (258, 0) from rfl]; simp only [Nat.pow_zero]; omega)
theorem distSym_ok (b : Nat) (h1 : 1 ≤ b) (h2 : b ≤ 32768) : distSym b ≤ 29 ∧ (distSpan (distSym b)).1 ≤ b ∧ b - (distSpan (distSym b)).1 < 2 ^ (distSpan (distSym b)).2 :=
  nearest_ok distSpan b h1 29 (by decide +kernel) (by simp [distSpan]; omega)
/-- the bits of a byte and of a repetition -/
def litBits (c : Nat) : List Nat := wordBits (fixWord c).1 (fixWord c).2
def repBits (l b : Nat) : List Nat := litBits (257 + lenSym l) ++ (numBits (l - (lenSpan (lenSym l)).1) (lenSpan (lenSym l)).2 ++ (wordBits (distSym b) 5 ++ numBits (b - (distSpan (distSym b)).1) (distSpan (distSym b)).2))
/-- these bits bring forth that -/
def Brings (b : List Nat) (out : List UInt8) : Prop := ∀ t k lim, BitsAt t k b → out.length ≤ lim → ∃ c, c ≤ b.length ∧ ∀ f, symsGo fixedL fixedD t lim (f + c) k [] = symsGo fixedL fixedD t lim f (k + b.length) out
theorem Brings.nil : Brings [] [] := fun t k lim _ _ => ⟨0, by simp, fun f => rfl⟩
theorem litBits_pos (x : Nat) (hx : x < 288) : 1 ≤ (litBits x).length ∧ (litBits x).length ≤ 9 := by
  have := fix_ok x hx; unfold litBits; rw [wordBits_len]; omega
theorem Brings.lit {b : List Nat} {out : List UInt8} (h : Brings b out) (c : UInt8) : Brings (b ++ litBits c.toNat) (out ++ [c]) := by
  intro t k lim hb hl
  have hc := c.toNat_lt
  obtain ⟨n, hn, hf⟩ := h t k lim hb.left (by simp at hl; omega)
  have hd := fix_dec t (k + b.length) c.toNat (by omega) hb.right
  have hp := litBits_pos c.toNat (by omega)
  refine ⟨n + 1, by rw [List.length_append]; omega, fun f => ?_⟩
  rw [show f + (n + 1) = f + 1 + n by omega, hf, symsGo, symStep, hd]
  simp only []
  rw [if_pos (by omega), if_neg (by simp at hl; omega), List.length_append, ← Nat.add_assoc]
  unfold litBits
  rw [wordBits_len]
  simp
theorem copyN_take (s : List UInt8) (lim back k at' : Nat) (hb : 1 ≤ back) (hba : back ≤ at') : ∀ (n m : Nat), at' + m + n ≤ s.length → at' + m + n ≤ lim → (∀ i, i < m + n → s.getD (at' - back + i) 0 = s.getD (at' + i) 0) → copyN lim back k n (s.take (at' + m)) = .ok k (s.take (at' + m + n))
  | 0, m, _, _, _ => by rw [copyN]; rfl
  | n + 1, m, h, hl, hs => by
    have hlen : (s.take (at' + m)).length = at' + m := by simp; omega
    rw [copyN, if_neg (by rw [hlen]; omega), hlen]
    have e : s.take (at' + m) ++ [(s.take (at' + m)).getD (at' + m - back) 0] = s.take (at' + (m + 1)) := by
      have h1 : (s.take (at' + m)).getD (at' + m - back) 0 = s.getD (at' - back + m) 0 := by
        rw [show at' + m - back = at' - back + m by omega]
        simp only [List.getD_eq_getElem?_getD]
        rw [List.getElem?_take_of_lt (by omega)]
      rw [h1, hs m (by omega), ← Nat.add_assoc, List.take_succ_eq_append_getElem (by omega)]
      congr 2
      simp only [List.getD_eq_getElem?_getD]
      rw [List.getElem?_eq_getElem (by omega)]; rfl
    rw [e, copyN_take s lim back k at' hb hba n (m + 1) (by omega) (by omega) (fun i hi => hs i (by omega))]
    congr 2; omega
theorem Brings.rep {b : List Nat} {s : List UInt8} {at' len back : Nat} (h : Brings b (s.take at')) (h1 : 3 ≤ len) (h2 : len ≤ 258) (h3 : 1 ≤ back) (h4 : back ≤ at') (h5 : back ≤ 32768) (h6 : at' + len ≤ s.length)
    (hs : ∀ i, i < len → s.getD (at' - back + i) 0 = s.getD (at' + i) 0) : Brings (b ++ repBits len back) (s.take (at' + len)) := by
  intro t k lim hb hl
  obtain ⟨l1, l2, l3⟩ := lenSym_ok len h1 h2
  obtain ⟨d1, d2, d3⟩ := distSym_ok back h3 h5
  have hlen : (s.take at').length = at' := by simp; omega
  have hlen2 : (s.take (at' + len)).length = at' + len := by simp; omega
  rw [hlen2] at hl
  obtain ⟨n, hn, hf⟩ := h t k lim hb.left (by omega)
  have hr := hb.right
  unfold repBits at hr
  have hd := fix_dec t (k + b.length) (257 + lenSym len) (by omega) hr.left
  have hp := litBits_pos (257 + lenSym len) (by omega)
  have hw : (litBits (257 + lenSym len)).length = (fixWord (257 + lenSym len)).2 := wordBits_len ..
  have hr2 := hr.right
  rw [hw] at hr2
  obtain ⟨hn1, hn2⟩ := num_back hr2.left l3
  have hr3 := hr2.right
  rw [numBits_len] at hr3
  have hd2 := fixd_dec t _ (distSym back) (by omega) hr3.left
  have hr4 := hr3.right
  rw [wordBits_len] at hr4
  obtain ⟨hm1, hm2⟩ := num_back hr4 d3
  have htl : (b ++ repBits len back).length = b.length + ((fixWord (257 + lenSym len)).2 + (lenSpan (lenSym len)).2 + 5 + (distSpan (distSym back)).2) := by
    unfold repBits; simp only [List.length_append, numBits_len, wordBits_len, hw]; omega
  refine ⟨n + 1, by rw [htl]; omega, fun f => ?_⟩
  rw [show f + (n + 1) = f + 1 + n by omega, hf, symsGo, symStep, hd]
  simp only []
  rw [if_neg (by omega), if_neg (by omega), if_neg (by omega), Nat.add_sub_cancel_left, matchS, if_pos hn1, hd2]
  simp only []
  rw [if_neg (by omega), if_pos hm1, hm2, hn2, hlen, Nat.add_sub_cancel' d2, Nat.add_sub_cancel' l2, if_neg (by omega)]
  have hcopy : copyN lim back (k + b.length + (fixWord (257 + lenSym len)).2 + (lenSpan (lenSym len)).2 + 5 + (distSpan (distSym back)).2) len (s.take at') = .ok (k + b.length + (fixWord (257 + lenSym len)).2 + (lenSpan (lenSym len)).2 + 5 + (distSpan (distSym back)).2) (s.take (at' + len)) := by
    exact copyN_take s lim back _ at' h3 h4 len 0 (by omega) (by omega) (fun i hi => hs i (by omega))
  rw [hcopy]
  simp only []
  rw [htl]
  congr 1
  omega
/-- a block of the fixed codes, and nothing behind it -/
theorem fixed_read {b : List Nat} {s t : List UInt8} {lim : Nat} (h : Brings b s) (hl : s.length ≤ lim) (ht : BitsAt t 0 ([1] ++ ([1, 0] ++ (b ++ litBits 256)))) : inflS t lim = .ok (b.length + 10) s := by
  have e7 : (litBits 256).length = 7 := by decide
  have h1 := ht.left
  have h2 := ht.right
  have h3 := h2.left
  have h4 := h2.right
  simp only [List.length_cons, List.length_nil, Nat.zero_add] at h1 h2 h3 h4
  have hb1 : numAt t 0 1 = 1 := (num_back (v := 1) (n := 1) (by exact h1) (by omega)).2
  have hb2 : numAt t 1 2 = 1 := (num_back (v := 1) (n := 2) (by exact h3) (by omega)).2
  have hsz := ht.1
  simp only [List.length_append, List.length_cons, List.length_nil, e7] at hsz
  obtain ⟨c, hc, hf⟩ := h t 3 lim h4.left hl
  have hd := fix_dec t (3 + b.length) 256 (by omega) h4.right
  unfold inflS
  rw [blocksGo, if_pos (show has t 0 3 by unfold has; omega), show (0 : Nat) + 1 = 1 from rfl, hb2]
  have hbl : blockS t lim 1 (0 + 3) [] = .ok (b.length + 10) s := by
    unfold blockS
    rw [if_neg (by omega), if_pos rfl, show 8 * t.length + 1 = (8 * t.length - c) + 1 - 1 + 1 + c by omega, show 0 + 3 = 3 from rfl, hf, symsGo, symStep, hd]
    simp only []
    rw [if_neg (by omega), if_pos trivial]
    congr 1
    have : (fixWord 256).2 = 7 := rfl
    omega
  rw [hbl]
  simp only []
  rw [hb1, if_pos rfl]
theorem BitsAt.pre {t u : List UInt8} {k : Nat} {b : List Nat} (h : BitsAt t k b) : BitsAt (t ++ u) k b := by
  refine ⟨by have := h.1; simp; omega, fun i hi => ?_⟩
  rw [← h.2 i hi]
  unfold bitAt
  have : (k + i) / 8 < t.length := by have := h.1; omega
  simp only [List.getD_eq_getElem?_getD]
  rw [List.getElem?_append_left this]
theorem numAt_byte (t : List UInt8) (q : Nat) : numAt t (8 * q) 8 = (t.getD q 0).toNat := by
  rw [numAt_bits t (8 * q) (t.getD q 0).toNat 8 (fun i hi => by unfold bitAt; rw [show (8 * q + i) / 8 = q by omega, show (8 * q + i) % 8 = i by omega])]
  exact Nat.mod_eq_of_lt (t.getD q 0).toNat_lt
theorem raw_read (s hdr : List UInt8) (lim : Nat) (hl : s.length ≤ lim) : ∀ (n i : Nat), i + n = s.length → rawGo (hdr ++ s) lim n (8 * (hdr.length + i)) (s.take i) = .ok (8 * (hdr.length + s.length)) s
  | 0, i, h => by
    obtain rfl : i = s.length := by omega
    rw [rawGo, List.take_length]
  | n + 1, i, h => by
    have hlen : (s.take i).length = i := by simp; omega
    rw [rawGo, if_pos (by unfold has; simp; omega), if_neg (by rw [hlen]; omega), numAt_byte]
    have e : (hdr ++ s).getD (hdr.length + i) 0 = s[i]'(by omega) := by
      simp only [List.getD_eq_getElem?_getD]
      rw [List.getElem?_append_right (by omega), Nat.add_sub_cancel_left, List.getElem?_eq_getElem (by omega)]; rfl
    have e2 : s.take i ++ [s[i]'(by omega)] = s.take (i + 1) := (List.take_succ_eq_append_getElem (by omega)).symm
    rw [e, UInt8.ofNat_toNat, e2, show 8 * (hdr.length + i) + 8 = 8 * (hdr.length + (i + 1)) by omega]
    exact raw_read s hdr lim hl n (i + 1) (by omega)
/-- a stored block, and nothing behind it -/
theorem stored_read {s hdr : List UInt8} {lim : Nat} (hl : s.length ≤ lim) (hs : s.length ≤ 65535) (h5 : hdr.length = 5)
    (ht : BitsAt hdr 0 ([1] ++ ([0, 0] ++ (numBits 0 5 ++ (numBits s.length 16 ++ numBits (65535 - s.length) 16))))) : inflS (hdr ++ s) lim = .ok (8 * (5 + s.length)) s := by
  have h1 := ht.left.pre (u := s)
  have h2 := ht.right
  have h3 := h2.left.pre (u := s)
  have h4 := h2.right.right
  have h6 := h4.left.pre (u := s)
  have h7 := h4.right.pre (u := s)
  simp only [List.length_cons, List.length_nil, Nat.zero_add, numBits_len] at h1 h3 h6 h7
  have hb1 : numAt (hdr ++ s) 0 1 = 1 := (num_back (v := 1) (n := 1) (by exact h1) (by omega)).2
  have hb2 : numAt (hdr ++ s) 1 2 = 0 := (num_back (v := 0) (n := 2) (by exact h3) (by omega)).2
  have hb3 := (num_back h6 (by omega)).2
  have hb4 := (num_back h7 (by omega)).2
  have hlen : (hdr ++ s).length = 5 + s.length := by simp; omega
  unfold inflS
  rw [blocksGo, if_pos (show has (hdr ++ s) 0 3 by unfold has; omega), show (0 : Nat) + 1 = 1 from rfl, hb2]
  have hbl : blockS (hdr ++ s) lim 0 (0 + 3) [] = .ok (8 * (5 + s.length)) s := by
    unfold blockS storedS
    rw [if_pos rfl, show 8 * ((0 + 3 + 7) / 8) = 8 from rfl, if_pos (show has (hdr ++ s) 8 32 by unfold has; omega), hb3, hb4, if_pos (by omega)]
    have := raw_read s hdr lim hl s.length 0 (by omega)
    rw [h5] at this
    simpa using this
  rw [hbl]
  simp only []
  rw [hb1, if_pos rfl]
end Go.Proofs.YtgfbbcnnmoamnaaGreatDoor

namespace Go.Proofs.YtgfbbcnnmoamnaaGreatDoor
open Go.RowKit

/-- the bytes that hold these bits -/
def Wrote (out : List UInt8) (b : List Nat) : Prop := out.length = (b.length + 7) / 8 ∧ ∀ k, bitAt out k = b.getD k 0
theorem Wrote.nil : Wrote [] [] := ⟨rfl, fun k => by simp [bitAt]⟩
theorem Wrote.bits {out : List UInt8} {b : List Nat} (h : Wrote out b) : BitsAt out 0 b := ⟨by rw [h.1]; omega, fun i _ => by rw [Nat.zero_add]; exact h.2 i⟩
theorem low_bits : ∀ x, x < 256 → ∀ j, j < 8 → (∀ i, i < 8 → j ≤ i → x / 2 ^ i % 2 = 0) → x < 2 ^ j := by decide +kernel
theorem add_bit : ∀ j, j < 8 → ∀ x, x < 2 ^ j → ∀ b, b < 2 → ∀ i, i < 8 → (x + b * 2 ^ j) / 2 ^ i % 2 = if i < j then x / 2 ^ i % 2 else if i = j then b else 0 := by decide +kernel
theorem add_byte : ∀ j, j < 8 → ∀ x, x < 2 ^ j → ∀ b, b < 2 → x + b * 2 ^ j < 256 := by decide +kernel
theorem getD_snoc (b : List Nat) (v k : Nat) : (b ++ [v]).getD k 0 = if k < b.length then b.getD k 0 else if k = b.length then v else 0 := by
  simp only [List.getD_eq_getElem?_getD]
  split
  · rename_i h; rw [List.getElem?_append_left h]
  · split
    · rename_i h1 h2; subst h2; simp
    · rename_i h1 h2; rw [List.getElem?_eq_none (by simp; omega)]; rfl
theorem Wrote.room {out : List UInt8} {b : List Nat} (h : Wrote out b) {out1 : List UInt8} (h1 : out1 = if b.length % 8 = 0 then out ++ [0] else out) : b.length / 8 < out1.length ∧ out1.length = (b.length + 8) / 8 ∧ ∀ k, bitAt out1 k = b.getD k 0 := by
  have hl := h.1
  subst h1
  split
  · rename_i h8
    refine ⟨by simp; omega, by simp; omega, fun k => ?_⟩
    rw [← h.2 k]
    unfold bitAt
    by_cases hk : k / 8 < out.length
    · simp only [List.getD_eq_getElem?_getD]; rw [List.getElem?_append_left hk]
    · have e1 : (out ++ [0]).getD (k / 8) 0 = 0 := by
        simp only [List.getD_eq_getElem?_getD]
        by_cases h2 : k / 8 = out.length
        · rw [h2]; simp
        · rw [List.getElem?_eq_none (by simp; omega)]; rfl
      have e2 : out.getD (k / 8) 0 = 0 := by simp only [List.getD_eq_getElem?_getD]; rw [List.getElem?_eq_none (by omega)]; rfl
      rw [e1, e2]
  · exact ⟨by omega, by omega, h.2⟩
theorem Wrote.step {out : List UInt8} {b : List Nat} (h : Wrote out b) (v : Nat) (hv : v < 2) {out1 : List UInt8} (h1 : out1 = if b.length % 8 = 0 then out ++ [0] else out) :
    (out1.getD (b.length / 8) 0).toNat < 2 ^ (b.length % 8) ∧ b.length / 8 < out1.length ∧ Wrote (out1.set (b.length / 8) (UInt8.ofNat ((out1.getD (b.length / 8) 0).toNat + v * 2 ^ (b.length % 8)))) (b ++ [v]) := by
  obtain ⟨r1, r2, r3⟩ := h.room h1
  have hx : (out1.getD (b.length / 8) 0).toNat < 2 ^ (b.length % 8) := by
    refine low_bits _ (out1.getD (b.length / 8) 0).toNat_lt _ (Nat.mod_lt _ (by omega)) fun i hi hj => ?_
    have := r3 (8 * (b.length / 8) + i)
    unfold bitAt at this
    rw [show (8 * (b.length / 8) + i) / 8 = b.length / 8 by omega, show (8 * (b.length / 8) + i) % 8 = i by omega] at this
    rw [this]
    simp only [List.getD_eq_getElem?_getD]
    rw [List.getElem?_eq_none (by omega)]; rfl
  refine ⟨hx, r1, ⟨by simp; omega, fun k => ?_⟩⟩
  have hb := add_byte _ (Nat.mod_lt b.length (by omega : 8 > 0)) _ hx v hv
  rw [getD_snoc, ← r3 k]
  by_cases hk : k / 8 = b.length / 8
  · have e : (out1.set (b.length / 8) (UInt8.ofNat ((out1.getD (b.length / 8) 0).toNat + v * 2 ^ (b.length % 8)))).getD (k / 8) 0 = UInt8.ofNat ((out1.getD (b.length / 8) 0).toNat + v * 2 ^ (b.length % 8)) := by
      rw [hk]; simp only [List.getD_eq_getElem?_getD]; rw [List.getElem?_set_self r1]; rfl
    have a := add_bit _ (Nat.mod_lt b.length (by omega : 8 > 0)) _ hx v hv (k % 8) (Nat.mod_lt _ (by omega))
    unfold bitAt
    rw [e, UInt8.toNat_ofNat_of_lt' hb, a, hk]
    by_cases h1 : k < b.length
    · rw [if_pos h1, if_pos (by omega)]
    · rw [if_neg h1, if_neg (by omega)]
      by_cases h2 : k = b.length
      · rw [if_pos h2, if_pos (by omega)]
      · rw [if_neg h2, if_neg (by omega)]
  · have e : (out1.set (b.length / 8) (UInt8.ofNat ((out1.getD (b.length / 8) 0).toNat + v * 2 ^ (b.length % 8)))).getD (k / 8) 0 = out1.getD (k / 8) 0 := by
      simp only [List.getD_eq_getElem?_getD]; rw [List.getElem?_set_ne (by omega)]
    have e2 : bitAt (out1.set (b.length / 8) (UInt8.ofNat ((out1.getD (b.length / 8) 0).toNat + v * 2 ^ (b.length % 8)))) k = bitAt out1 k := by unfold bitAt; rw [e]
    rw [e2]
    by_cases h1 : k < b.length
    · rw [if_pos h1]
    · rw [if_neg h1, if_neg (by omega), r3 k]
      simp only [List.getD_eq_getElem?_getD]; rw [List.getElem?_eq_none (by omega)]; rfl
end Go.Proofs.YtgfbbcnnmoamnaaGreatDoor

namespace Go.Proofs.YtgfbbcnnmoamnaaGreatDoor
open Go.RowKit

/-- the first three bytes from q on -/
def start3 (s : List UInt8) (q : Nat) : UInt8 × UInt8 × UInt8 := (s.getD q 0, s.getD (q + 1) 0, s.getD (q + 2) 0)
/-- the last place (from 1 on) below p that begins with these bytes, or 0 -/
def lastOcc (s : List UInt8) : Nat → UInt8 × UInt8 × UInt8 → Nat
  | 0, _ => 0
  | p + 1, key => if p + 3 ≤ s.length ∧ start3 s p = key then p + 1 else lastOcc s p key
theorem lastOcc_le (s : List UInt8) (key : UInt8 × UInt8 × UInt8) : ∀ p, lastOcc s p key ≤ p
  | 0 => Nat.le_refl _
  | p + 1 => by
    rw [lastOcc]; split
    · exact Nat.le_refl _
    · have := lastOcc_le s key p; omega
/-- what is noted of a place -/
def befAt (s : List UInt8) (i : Nat) : Nat := if i + 3 ≤ s.length then lastOcc s i (start3 s i) else 0
theorem befAt_le (s : List UInt8) (i : Nat) : befAt s i ≤ i := by
  unfold befAt; split
  · exact lastOcc_le ..
  · omega
def befs (s : List UInt8) (p : Nat) : List Nat := (List.range s.length).map fun i => if i < p then befAt s i else 0
theorem befs_len (s : List UInt8) (p : Nat) : (befs s p).length = s.length := by simp [befs]
theorem befs_get (s : List UInt8) (p i : Nat) : (befs s p).getD i 0 = if i < p ∧ i < s.length then befAt s i else 0 := by
  unfold befs
  by_cases h : i < s.length
  · simp [h]
  · rw [if_neg (by omega), List.getD_eq_getElem?_getD, List.getElem?_eq_none (by simp; omega)]; rfl
theorem befs_zero (s : List UInt8) : befs s 0 = List.replicate s.length 0 := by
  unfold befs
  apply List.ext_getElem
  · simp
  · intro i h1 h2; simp
theorem befs_step (s : List UInt8) (p : Nat) (h : p + 3 ≤ s.length) : (befs s p).set p (lastOcc s p (start3 s p)) = befs s (p + 1) := by
  apply List.ext_getElem
  · simp [befs_len]
  · intro i h1 h2
    have e : ∀ q (hi : i < (befs s q).length), (befs s q)[i] = if i < q then befAt s i else 0 := fun q hi => by simp [befs]
    rw [List.getElem_set]
    split
    · rename_i hp; subst hp
      rw [e, if_pos (by omega)]; unfold befAt; rw [if_pos h]
    · rw [e, e]
      by_cases hip : i < p
      · rw [if_pos hip, if_pos (by omega)]
      · rw [if_neg hip, if_neg (by omega)]
theorem befs_tail (s : List UInt8) (p q : Nat) (h : s.length < p + 3) (hq : p ≤ q) : befs s q = befs s p := by
  apply List.ext_getElem
  · simp [befs_len]
  · intro i h1 h2
    have e : ∀ q (hi : i < (befs s q).length), (befs s q)[i] = if i < q then befAt s i else 0 := fun q hi => by simp [befs]
    rw [e, e]
    by_cases hip : i < p
    · rw [if_pos hip, if_pos (by omega)]
    · rw [if_neg hip]
      split
      · unfold befAt; rw [if_neg (by omega)]
      · rfl
theorem lastOcc_tail (s : List UInt8) (p : Nat) (h : s.length < p + 3) (key : UInt8 × UInt8 × UInt8) : ∀ d, lastOcc s (p + d) key = lastOcc s p key
  | 0 => rfl
  | d + 1 => by rw [← Nat.add_assoc, lastOcc, if_neg (by omega), lastOcc_tail s p h key d]
/-- a repetition that is there -/
def Alike (s : List UInt8) (at' len back : Nat) : Prop := len ≤ 258 ∧ 1 ≤ back ∧ back ≤ at' ∧ at' + len ≤ s.length ∧ ∀ i, i < len → s.getD (at' - back + i) 0 = s.getD (at' + i) 0
/-- one byte alone -/
def Same (s : List UInt8) : Prop := ∀ i, i < s.length → s.getD i 0 = s.getD 0 0
theorem Same.last {s : List UInt8} (h : Same s) (p : Nat) (h1 : 1 ≤ p) (h2 : p + 3 ≤ s.length) : lastOcc s p (start3 s p) = p := by
  obtain ⟨q, rfl⟩ : ∃ q, p = q + 1 := ⟨p - 1, by omega⟩
  rw [lastOcc, if_pos]
  refine ⟨by omega, ?_⟩
  unfold start3
  rw [h q (by omega), h (q + 1) (by omega), h (q + 2) (by omega), h (q + 1 + 2) (by omega)]
/-- the bits of a text of one byte, so far -/
def Cost (n at' len : Nat) : Prop := (at' = 0 ∧ len = 0) ∨ ∃ q x, 258 * q + 1 ≤ at' ∧ at' ≤ n ∧ len ≤ 9 + 13 * q + 9 * x ∧ (x = 0 ∧ at' = 258 * q + 1 ∨ x = 1 ∧ at' = 258 * q + 2 ∧ n ≤ at' + 1 ∨ x = 2 ∧ at' = n)
theorem rep_word (l : Nat) (h1 : 3 ≤ l) (h2 : l ≤ 258) : (litBits (257 + lenSym l)).length ≤ 8 ∧ (lenSpan (lenSym l)).2 ≤ 5 := by
  have : ∀ x, x < 29 → (fixWord (257 + x)).2 ≤ 8 ∧ (lenSpan x).2 ≤ 5 := by decide +kernel
  have hs := (lenSym_ok l h1 h2).1
  unfold litBits; rw [wordBits_len]; exact this _ (by omega)
theorem rep_len (l : Nat) (h1 : 3 ≤ l) (h2 : l ≤ 258) : (repBits l 1).length ≤ 18 ∧ (l = 258 → (repBits l 1).length ≤ 13) := by
  have hd : (distSpan (distSym 1)).2 = 0 := by decide +kernel
  have hw := rep_word l h1 h2
  have e : (repBits l 1).length = (litBits (257 + lenSym l)).length + (lenSpan (lenSym l)).2 + 5 := by
    unfold repBits; simp only [List.length_append, numBits_len, wordBits_len, hd]; omega
  refine ⟨by omega, fun h => ?_⟩
  subst h
  have : (litBits (257 + lenSym 258)).length = 8 ∧ (lenSpan (lenSym 258)).2 = 0 := by decide +kernel
  omega
theorem Cost.lit {n at' len c : Nat} (h : Cost n at' len) (h1 : at' < n) (h2 : at' = 0 ∨ n < at' + 3) (hc : c ≤ 9) : Cost n (at' + 1) (len + c) := by
  rcases h with ⟨rfl, rfl⟩ | ⟨q, x, a1, a2, a3, a4⟩
  · exact .inr ⟨0, 0, by omega, by omega, by omega, .inl ⟨rfl, by omega⟩⟩
  · rcases a4 with ⟨rfl, e⟩ | ⟨rfl, e, e2⟩ | ⟨rfl, e⟩
    · exact .inr ⟨q, 1, by omega, by omega, by omega, .inr (.inl ⟨rfl, by omega, by omega⟩)⟩
    · exact .inr ⟨q, 2, by omega, by omega, by omega, .inr (.inr ⟨rfl, by omega⟩)⟩
    · omega
theorem Cost.rep {n at' len l : Nat} (h : Cost n at' len) (h1 : 1 ≤ at') (h2 : at' + 3 ≤ n) (hl : l = min 258 (n - at')) : Cost n (at' + l) (len + (repBits l 1).length) := by
  have hr := rep_len l (by omega) (by omega)
  rcases h with ⟨rfl, rfl⟩ | ⟨q, x, a1, a2, a3, a4⟩
  · omega
  · rcases a4 with ⟨rfl, e⟩ | ⟨rfl, e, e2⟩ | ⟨rfl, e⟩
    · by_cases h258 : l = 258
      · have := hr.2 h258
        exact .inr ⟨q + 1, 0, by omega, by omega, by omega, .inl ⟨rfl, by omega⟩⟩
      · exact .inr ⟨q, 2, by omega, by omega, by omega, .inr (.inr ⟨rfl, by omega⟩)⟩
    · omega
    · omega
theorem Cost.done {n len : Nat} (h : Cost n n len) : (len + 10 + 7) / 8 ≤ 20 + n / 100 := by
  rcases h with ⟨rfl, rfl⟩ | ⟨q, x, a1, a2, a3, a4⟩
  · omega
  · have : x ≤ 2 := by omega
    omega
end Go.Proofs.YtgfbbcnnmoamnaaGreatDoor
