/- How the symbols are put into the order of their codes. Sums over lengths, by their counts. The row of lengths. The document's codes: a symbol, and its bits as a text. -/
import Derived.Test.YtgfbbcnnmoamnaaGreatDoorBase
namespace Go.Proofs.YtgfbbcnnmoamnaaGreatDoor
open Go.RowKit

/-- the row of symbols, the first i of them put into place -/
def symsArr (lens : List Nat) : Nat → List Nat
  | 0 => List.replicate (psd lens 16) 0
  | i + 1 => if lens.getD i 0 = 0 then symsArr lens i else (symsArr lens i).set (psd lens (lens.getD i 0) + cnt (lens.take i) (lens.getD i 0)) i
theorem symsArr_len (lens : List Nat) : ∀ i, (symsArr lens i).length = psd lens 16
  | 0 => by simp [symsArr]
  | i + 1 => by rw [symsArr]; split <;> simp [symsArr_len lens i]
theorem take_next (lens : List Nat) (i : Nat) (hi : i < lens.length) : lens.take (i + 1) = lens.take i ++ [lens.getD i 0] := by
  rw [List.take_succ_eq_append_getElem hi]; simp [hi]
theorem cnt_take_le (lens : List Nat) (i n : Nat) : cnt (lens.take i) n ≤ cnt lens n := by
  unfold cnt; split
  · omega
  · exact List.Sublist.count_le n (List.take_sublist i lens)
/-- while symbol i is put into place there is room for it -/
theorem cnt_take_lt (lens : List Nat) (i : Nat) (hi : i < lens.length) (hn : lens.getD i 0 ≠ 0) : cnt (lens.take i) (lens.getD i 0) < cnt lens (lens.getD i 0) := by
  have h := cnt_take_le lens (i + 1) (lens.getD i 0)
  rw [take_next lens i hi, cnt_append _ _ _ hn, if_pos rfl] at h
  omega
theorem spot_lt (lens : List Nat) (n j : Nat) (hn : n < 16) (hj : j < cnt lens n) : psd lens n + j < psd lens 16 := by
  have := psd_le lens (n + 1) 16 (by omega)
  have e : psd lens (n + 1) = psd lens n + cnt lens n := rfl
  omega
theorem spot_ne (lens : List Nat) (n m j i : Nat) (hne : n ≠ m) (hj : j < cnt lens n) (hi : i < cnt lens m) : psd lens n + j ≠ psd lens m + i := by
  have e1 : psd lens (n + 1) = psd lens n + cnt lens n := rfl
  have e2 : psd lens (m + 1) = psd lens m + cnt lens m := rfl
  rcases Nat.lt_or_ge n m with h | h
  · have := psd_le lens (n + 1) m (by omega); omega
  · have := psd_le lens (m + 1) n (by omega); omega
theorem symsArr_at (lens : List Nat) (h15 : ∀ n ∈ lens, n ≤ 15) : ∀ (i : Nat), i ≤ lens.length → ∀ n j, n < 16 → j < cnt (lens.take i) n → (symsArr lens i).getD (psd lens n + j) 0 = (symsOf (lens.take i) n).getD j 0
  | 0, _, n, j, _, hj => by simp [cnt] at hj
  | i + 1, hi, n, j, hn, hj => by
    have ih := symsArr_at lens h15 i (by omega)
    have hil : i < lens.length := by omega
    have n0 : n ≠ 0 := fun e => by subst e; simp [cnt] at hj
    obtain ⟨m, hm⟩ : ∃ m, m = lens.getD i 0 := ⟨_, rfl⟩
    have hm15 : m ≤ 15 := by rw [hm]; exact h15 _ (by simp [hil])
    rw [take_next lens i hil, cnt_append _ _ _ n0, ← hm] at hj
    rw [symsArr, take_next lens i hil, symsOf_append _ _ _ n0, ← hm]
    have hlen := symsOf_len (lens.take i) n
    by_cases hz : m = 0
    · rw [if_pos hz]
      have hne : ¬ m = n := by omega
      rw [if_neg hne] at hj
      rw [if_neg hne, List.append_nil]
      exact ih n j hn (by omega)
    · rw [if_neg hz]
      have hroom := cnt_take_lt lens i hil (by rw [← hm]; exact hz)
      rw [← hm] at hroom
      by_cases hmn : m = n
      · subst hmn
        rw [if_pos rfl] at hj
        rw [if_pos rfl]
        by_cases hjl : j < cnt (lens.take i) m
        · have := ih m j hn hjl
          rw [List.getD_eq_getElem?_getD, List.getElem?_set_ne (by omega), ← List.getD_eq_getElem?_getD, this, List.getD_eq_getElem?_getD, List.getD_eq_getElem?_getD, List.getElem?_append_left (by omega)]
        · obtain rfl : j = cnt (lens.take i) m := by omega
          have hsp := spot_lt lens m _ hn hroom
          rw [List.getD_eq_getElem?_getD, List.getElem?_set_self (by rw [symsArr_len]; exact hsp), List.getD_eq_getElem?_getD, List.getElem?_append_right (by omega), hlen]
          simp; omega
      · rw [if_neg hmn] at hj
        rw [if_neg hmn, List.append_nil]
        have hjl : j < cnt lens n := Nat.lt_of_lt_of_le (by omega) (cnt_take_le lens i n)
        have := spot_ne lens m n _ j hmn hroom hjl
        rw [List.getD_eq_getElem?_getD, List.getElem?_set_ne this, ← List.getD_eq_getElem?_getD]
        exact ih n j hn (by omega)
/-- each place belongs to one length -/
theorem spot_of (lens : List Nat) : ∀ (m q : Nat), q < psd lens m → ∃ n j, n < m ∧ j < cnt lens n ∧ q = psd lens n + j
  | 0, q, h => by simp [psd] at h
  | m + 1, q, h => by
    rcases Nat.lt_or_ge q (psd lens m) with h1 | h1
    · obtain ⟨n, j, hn, hj, e⟩ := spot_of lens m q h1
      exact ⟨n, j, by omega, hj, e⟩
    · have e : psd lens (m + 1) = psd lens m + cnt lens m := rfl
      exact ⟨m, q - psd lens m, by omega, by omega, by omega⟩
theorem symsArr_end (lens : List Nat) (h15 : ∀ n ∈ lens, n ≤ 15) : symsArr lens lens.length = codeSyms lens := by
  have hl : (codeSyms lens).length = psd lens 16 := symsBelow_len lens 16
  apply List.ext_getElem (by rw [symsArr_len, hl])
  intro q h1 h2
  rw [symsArr_len] at h1
  obtain ⟨n, j, hn, hj, e⟩ := spot_of lens 16 q h1
  have a := symsArr_at lens h15 lens.length (Nat.le_refl _) n j hn (by rw [List.take_length]; exact hj)
  have b := codeSyms_at lens n j hn hj
  rw [List.take_length, ← b, ← e] at a
  have hq : q < (symsArr lens lens.length).length := by rw [symsArr_len]; exact h1
  simpa [hq, h2] using a
/-- where the next symbol of each length goes -/
def nextArr (lens : List Nat) (i : Nat) : List Nat := (List.range 17).map fun n => psd lens n + cnt (lens.take i) n
theorem nextArr_len (lens : List Nat) (i : Nat) : (nextArr lens i).length = 17 := by simp [nextArr]
theorem nextArr_get (lens : List Nat) (i n : Nat) (hn : n < 17) : (nextArr lens i).getD n 0 = psd lens n + cnt (lens.take i) n := by simp [nextArr, hn]
theorem nextArr_step (lens : List Nat) (i : Nat) (hi : i < lens.length) (h : lens.getD i 0 ≠ 0) (h15 : lens.getD i 0 ≤ 15) : (nextArr lens i).set (lens.getD i 0) (psd lens (lens.getD i 0) + cnt (lens.take i) (lens.getD i 0) + 1) = nextArr lens (i + 1) := by
  obtain ⟨m, hm⟩ : ∃ m, m = lens.getD i 0 := ⟨_, rfl⟩
  rw [← hm] at h h15 ⊢
  apply List.ext_getElem?
  intro q
  rw [List.getElem?_set]
  by_cases hq : m = q
  · subst hq
    have e := cnt_append (lens.take i) m m h
    rw [if_pos rfl, if_pos (by rw [nextArr_len]; omega)]
    simp only [nextArr, take_next lens i hi, ← hm]
    rw [List.getElem?_map, List.getElem?_range (by omega)]
    simp [e]; omega
  · rw [if_neg hq]
    by_cases h17 : q < 17
    · simp only [nextArr, List.getElem?_map, List.getElem?_range h17, Option.map_some, take_next lens i hi, ← hm]
      by_cases q0 : q = 0
      · subst q0; simp [cnt]
      · rw [cnt_append _ _ _ q0, if_neg hq]; rfl
    · simp [nextArr, h17]
theorem nextArr_same (lens : List Nat) (i : Nat) (hi : i < lens.length) (h : lens.getD i 0 = 0) : nextArr lens (i + 1) = nextArr lens i := by
  simp only [nextArr, take_next lens i hi, h]
  apply List.map_congr_left
  intro n _
  by_cases q0 : n = 0
  · subst q0; simp [cnt]
  · rw [cnt_append _ _ _ q0, if_neg (fun e => q0 e.symm)]; rfl
/-- while the beginnings are reckoned -/
def begArr (lens : List Nat) (i : Nat) : List Nat := (List.range 17).map fun n => if n ≤ i then psd lens n else 0
theorem begArr_len (lens : List Nat) (i : Nat) : (begArr lens i).length = 17 := by simp [begArr]
theorem begArr_get (lens : List Nat) (i : Nat) (hi : i < 17) : (begArr lens i).getD i 0 = psd lens i := by simp [begArr, hi]
theorem begArr_step (lens : List Nat) (i : Nat) (hi : i < 16) : (begArr lens i).set (i + 1) (psd lens i + cnt lens i) = begArr lens (i + 1) := by
  apply List.ext_getElem?
  intro q
  rw [List.getElem?_set]
  by_cases hq : i + 1 = q
  · subst hq
    rw [if_pos rfl, if_pos (by rw [begArr_len]; omega)]
    rw [begArr, List.getElem?_map, List.getElem?_range (by omega)]
    simp [psd]
  · rw [if_neg hq]
    by_cases h17 : q < 17
    · simp only [begArr, List.getElem?_map, List.getElem?_range h17, Option.map_some]
      by_cases hle : q ≤ i
      · rw [if_pos hle, if_pos (by omega)]
      · rw [if_neg hle, if_neg (by omega)]
    · simp [begArr, h17]
theorem begArr_end (lens : List Nat) : begArr lens 16 = nextArr lens 0 := by
  simp only [begArr, nextArr]
  apply List.map_congr_left
  intro n hn
  have := List.mem_range.1 hn
  rw [if_pos (by omega)]
  simp [cnt]
end Go.Proofs.YtgfbbcnnmoamnaaGreatDoor

namespace Go.Proofs.YtgfbbcnnmoamnaaGreatDoor
open Go.RowKit

/-- a sum over the lengths below i, by how many there are -/
def csum (f : Nat → Nat) (lens : List Nat) : Nat → Nat
  | 0 => 0
  | i + 1 => csum f lens i + cnt lens i * f i
theorem cnt_cons (a n : Nat) (l : List Nat) : cnt (a :: l) n = cnt l n + if n ≠ 0 ∧ a = n then 1 else 0 := by
  unfold cnt
  by_cases h0 : n = 0
  · simp [h0]
  · rw [if_neg h0, if_neg h0, List.count_cons]
    by_cases h : a = n <;> simp [h, h0]
theorem csum_cons (f : Nat → Nat) (a : Nat) (l : List Nat) : ∀ i, csum f (a :: l) i = csum f l i + if a ≠ 0 ∧ a < i then f a else 0
  | 0 => by simp [csum]
  | i + 1 => by
    simp only [csum, csum_cons f a l i, cnt_cons]
    by_cases h0 : a = 0
    · subst h0
      have : ¬ (i ≠ 0 ∧ 0 = i) := by omega
      simp [this]
    · by_cases h1 : a = i
      · subst h1
        have h2 : ¬ (a ≠ 0 ∧ a < a) := by omega
        have h3 : a ≠ 0 ∧ a < a + 1 := by omega
        rw [if_neg h2, if_pos ⟨h0, rfl⟩, if_pos h3, Nat.add_mul]; omega
      · have h2 : ¬ (i ≠ 0 ∧ a = i) := by omega
        rw [if_neg h2]
        by_cases h3 : a < i
        · rw [if_pos ⟨h0, h3⟩, if_pos ⟨h0, by omega⟩]; simp; omega
        · rw [if_neg (by omega), if_neg (by omega)]; simp
theorem csum_nil (f : Nat → Nat) : ∀ i, csum f [] i = 0
  | 0 => rfl
  | i + 1 => by simp [csum, csum_nil f i, cnt]
theorem csum_kraft : ∀ (lens : List Nat), (∀ n ∈ lens, n ≤ 15) → csum (fun n => 2 ^ (15 - n)) lens 16 = kraft lens
  | [], _ => by rw [csum_nil]; rfl
  | a :: l, h => by
    have ih := csum_kraft l (fun n hn => h n (by simp [hn]))
    have ha := h a (by simp)
    rw [csum_cons, ih]
    unfold kraft
    rw [List.map_cons, List.sum_cons]
    by_cases h0 : a = 0
    · simp [h0]
    · rw [if_pos ⟨h0, by omega⟩, if_neg h0]; omega
theorem csum_sum : ∀ (lens : List Nat), (∀ n ∈ lens, n ≤ 15) → csum (fun n => n) lens 16 = lens.sum
  | [], _ => by rw [csum_nil]; rfl
  | a :: l, h => by
    have ih := csum_sum l (fun n hn => h n (by simp [hn]))
    have ha := h a (by simp)
    rw [csum_cons, ih, List.sum_cons]
    by_cases h0 : a = 0
    · simp [h0]
    · rw [if_pos ⟨h0, by omega⟩]; omega
theorem csum_ge (f : Nat → Nat) (lens : List Nat) (n : Nat) : ∀ i, n < i → cnt lens n * f n ≤ csum f lens i
  | 0, h => by omega
  | i + 1, h => by
    simp only [csum]
    by_cases e : n = i
    · subst e; omega
    · have := csum_ge f lens n i (by omega); omega
def oneBit : List Nat := [0, 1, 0, 0, 0, 0, 0, 0, 0, 0, 0, 0, 0, 0, 0, 0]
theorem most_iff (lens : List Nat) (h : ∀ n ∈ lens, n ≤ 15) : (cntsL lens = List.replicate 16 0 ∨ cntsL lens = oneBit) ↔ lens.sum ≤ 1 := by
  have hs := csum_sum lens h
  constructor
  · intro hc
    have hz : ∀ n, n < 16 → cnt lens n = (cntsL lens).getD n 0 := fun n hn => (cntsL_get lens n hn).symm
    rw [← hs]
    have e : ∀ c : List Nat, cntsL lens = c → csum (fun n => n) lens 16 = (((((((((((((((0 + c.getD 0 0 * 0) + c.getD 1 0 * 1) + c.getD 2 0 * 2) + c.getD 3 0 * 3) + c.getD 4 0 * 4) + c.getD 5 0 * 5) + c.getD 6 0 * 6) + c.getD 7 0 * 7) + c.getD 8 0 * 8) + c.getD 9 0 * 9) + c.getD 10 0 * 10) + c.getD 11 0 * 11) + c.getD 12 0 * 12) + c.getD 13 0 * 13) + c.getD 14 0 * 14) + c.getD 15 0 * 15 := by
      intro c hc
      subst hc
      simp only [csum]
      rw [hz 0 (by omega), hz 1 (by omega), hz 2 (by omega), hz 3 (by omega), hz 4 (by omega), hz 5 (by omega), hz 6 (by omega), hz 7 (by omega), hz 8 (by omega), hz 9 (by omega), hz 10 (by omega), hz 11 (by omega), hz 12 (by omega), hz 13 (by omega), hz 14 (by omega), hz 15 (by omega)]
    rcases hc with hc | hc
    · rw [e _ hc]; decide
    · rw [e _ hc]; decide
  · intro hle
    rw [← hs] at hle
    have h0 : cnt lens 0 = 0 := rfl
    have h1 : cnt lens 1 ≤ 1 := by have := csum_ge (fun n => n) lens 1 16 (by omega); omega
    have h2 : ∀ n, 2 ≤ n → n < 16 → cnt lens n = 0 := fun n hn hn2 => by
      have := csum_ge (fun n => n) lens n 16 hn2
      rcases Nat.eq_zero_or_pos (cnt lens n) with hz | hz
      · exact hz
      · have h3 : 1 * 2 ≤ cnt lens n * n := Nat.mul_le_mul hz hn
        omega
    have e : cntsL lens = [0, cnt lens 1, 0, 0, 0, 0, 0, 0, 0, 0, 0, 0, 0, 0, 0, 0] := by
      apply List.ext_getElem (by simp [cntsL])
      intro n hn1 hn2
      have hn : n < 16 := by simpa [cntsL] using hn1
      refine Eq.trans (b := cnt lens n) (by simp [cntsL]) ?_
      match n, hn with
      | 0, _ => exact h0
      | 1, _ => rfl
      | n + 2, hn =>
        rw [h2 (n + 2) (by omega) hn]
        have : ∀ m, m < 14 → ([0, cnt lens 1, 0, 0, 0, 0, 0, 0, 0, 0, 0, 0, 0, 0, 0, 0] : List Nat).getD (m + 2) 0 = 0 := by
          intro m hm
          show ([0, 0, 0, 0, 0, 0, 0, 0, 0, 0, 0, 0, 0, 0] : List Nat).getD m 0 = 0
          have : ∀ m, m < 14 → ([0, 0, 0, 0, 0, 0, 0, 0, 0, 0, 0, 0, 0, 0] : List Nat).getD m 0 = 0 := by decide
          exact this m hm
        have h5 := this n (by omega)
        rw [List.getD_eq_getElem?_getD, List.getElem?_eq_getElem hn2] at h5
        exact h5.symm
    rcases (by omega : cnt lens 1 = 0 ∨ cnt lens 1 = 1) with hc | hc
    · left; rw [e, hc]; rfl
    · right; rw [e, hc]; rfl
end Go.Proofs.YtgfbbcnnmoamnaaGreatDoor

namespace Go.Proofs.YtgfbbcnnmoamnaaGreatDoor
open Go.RowKit

/-- one symbol of the row: what comes again, how often, where the reading stands -/
def rowStep (c : List Nat) (s : List UInt8) (k : Nat) (row : List Nat) : Option (Nat × Nat × Nat) :=
  match dec c s k with
  | none => none
  | some (x, k2) =>
    if x < 16 then some (x, 1, k2)
    else if x = 16 then (if row = [] then none else if has s k2 2 then some (row.getD (row.length - 1) 0, 3 + numAt s k2 2, k2 + 2) else none)
    else if x = 17 then (if has s k2 3 then some (0, 3 + numAt s k2 3, k2 + 3) else none)
    else (if has s k2 7 then some (0, 11 + numAt s k2 7, k2 + 7) else none)
theorem rowGo_step (c : List Nat) (s : List UInt8) (many f k : Nat) (row : List Nat) (h : row.length < many) : rowGo c s many (f + 1) k row =
    match rowStep c s k row with
    | none => none
    | some (what, times, k2) => rowGo c s many f k2 (row ++ List.replicate times what) := by
  rw [rowGo, if_pos h, rowStep]
  cases dec c s k with
  | none => rfl
  | some p =>
    obtain ⟨x, k2⟩ := p
    simp only []
    by_cases h1 : x < 16
    · rw [if_pos h1, if_pos h1]; rfl
    · rw [if_neg h1, if_neg h1]
      by_cases h2 : x = 16
      · rw [if_pos h2, if_pos h2]
        by_cases h3 : row = []
        · rw [if_pos h3, if_pos h3]
        · rw [if_neg h3, if_neg h3]
          by_cases h4 : has s k2 2
          · rw [if_pos h4, if_pos h4]
          · rw [if_neg h4, if_neg h4]
      · rw [if_neg h2, if_neg h2]
        by_cases h3 : x = 17
        · rw [if_pos h3, if_pos h3]
          by_cases h4 : has s k2 3
          · rw [if_pos h4, if_pos h4]
          · rw [if_neg h4, if_neg h4]
        · rw [if_neg h3, if_neg h3]
          by_cases h4 : has s k2 7
          · rw [if_pos h4, if_pos h4]
          · rw [if_neg h4, if_neg h4]
theorem rowGo_many (c : List Nat) (s : List UInt8) (many f k : Nat) (row : List Nat) (h : row.length > many) : rowGo c s many (f + 1) k row = none := by
  rw [rowGo, if_neg (by omega), if_neg (by omega)]
theorem rowGo_end (c : List Nat) (s : List UInt8) (many f k : Nat) (row : List Nat) (h : row.length = many) : rowGo c s many (f + 1) k row = some (k, row) := by
  rw [rowGo, if_neg (by omega), if_pos h]
theorem rowStep_le {c : List Nat} {s : List UInt8} {k what times k2 : Nat} {row : List Nat} (h : rowStep c s k row = some (what, times, k2)) (hr : ∀ x ∈ row, x ≤ 15) : what ≤ 15 ∧ 1 ≤ times := by
  unfold rowStep at h
  cases hd : dec c s k with
  | none => rw [hd] at h; cases h
  | some p =>
    obtain ⟨x, k3⟩ := p
    rw [hd] at h
    simp only [] at h
    split at h
    · injection h with h; injection h with h1 h2; injection h2 with h2 h3; omega
    · split at h
      · split at h
        · cases h
        · rename_i hne
          split at h
          · injection h with h; injection h with h1 h2; injection h2 with h2 h3
            have hp : 0 < row.length := List.length_pos_iff.2 hne
            have hm : row.getD (row.length - 1) 0 ∈ row := by
              rw [List.getD_eq_getElem?_getD, List.getElem?_eq_getElem (by omega)]; exact List.getElem_mem _
            have := hr _ hm
            omega
          · cases h
      · split at h
        · split at h
          · injection h with h; injection h with h1 h2; injection h2 with h2 h3; omega
          · cases h
        · split at h
          · injection h with h; injection h with h1 h2; injection h2 with h2 h3; omega
          · cases h
theorem rowGo_le (c : List Nat) (s : List UInt8) (many : Nat) : ∀ (f k : Nat) (row : List Nat) (k' : Nat) (r : List Nat), (∀ x ∈ row, x ≤ 15) → rowGo c s many f k row = some (k', r) → (∀ x ∈ r, x ≤ 15) ∧ r.length = many
  | 0, _, _, _, _, _, h => by simp [rowGo] at h
  | f + 1, k, row, k', r, hr, h => by
    rcases Nat.lt_trichotomy row.length many with h1 | h1 | h1
    · rw [rowGo_step c s many f k row h1] at h
      cases hs : rowStep c s k row with
      | none => rw [hs] at h; cases h
      | some p =>
        obtain ⟨what, times, k2⟩ := p
        rw [hs] at h
        refine rowGo_le c s many f k2 _ k' r ?_ h
        intro x hx
        rcases List.mem_append.1 hx with hx | hx
        · exact hr x hx
        · rw [List.eq_of_mem_replicate hx]; exact (rowStep_le hs hr).1
    · rw [rowGo_end c s many f k row h1] at h
      injection h with h; injection h with h2 h3
      subst h3; exact ⟨hr, h1⟩
    · rw [rowGo_many c s many f k row h1] at h; cases h
end Go.Proofs.YtgfbbcnnmoamnaaGreatDoor

namespace Go.Proofs.YtgfbbcnnmoamnaaGreatDoor
open Go.RowKit

def dig (b : Nat) : UInt8 := UInt8.ofNat (48 + b)
/-- the lowest i bits of a number, the highest first -/
def digs (n : Nat) : Nat → List UInt8
  | 0 => []
  | i + 1 => dig (n / 2 ^ i % 2) :: digs n i
theorem digs_len (n : Nat) : ∀ i, (digs n i).length = i
  | 0 => rfl
  | i + 1 => by simp [digs, digs_len n i]
theorem dig_inj (a b : Nat) (ha : a < 2) (hb : b < 2) (h : dig a = dig b) : a = b := by
  rcases (by omega : a = 0 ∨ a = 1) with rfl | rfl <;> rcases (by omega : b = 0 ∨ b = 1) with rfl | rfl <;> first | rfl | (exfalso; revert h; decide)
theorem digs_inj (n m : Nat) : ∀ i, digs n i = digs m i → n % 2 ^ i = m % 2 ^ i
  | 0, _ => by simp [Nat.mod_one]
  | i + 1, h => by
    simp only [digs, List.cons.injEq] at h
    have ih := digs_inj n m i h.2
    have hd := dig_inj _ _ (Nat.mod_lt _ (by omega)) (Nat.mod_lt _ (by omega)) h.1
    rw [Nat.pow_succ, Nat.mod_mul, Nat.mod_mul, ih, hd]
/-- the bits that were read, and one more -/
theorem digs_snoc (got b n : Nat) (hb : b < 2) (_hg : got < 2 ^ n) : digs (2 * got + b) (n + 1) = digs got n ++ [dig b] := by
  have key : ∀ i, digs (2 * got + b) (i + 1) = digs got i ++ [dig b] := by
    intro i
    induction i with
    | zero => simp [digs]; congr 1; omega
    | succ i ih =>
      rw [digs, ih]
      have e : (2 * got + b) / 2 ^ (i + 1) = got / 2 ^ i := by
        rw [Nat.pow_succ, Nat.mul_comm (2 ^ i) 2, ← Nat.div_div_eq_div_mul]
        congr 1; omega
      rw [e]; rfl
  exact key n
/-- a code: its symbol, its value, its length -/
structure Ent where
  sym : Nat
  val : Nat
  len : Nat
def ents1 (n : Nat) (f : Nat) (l : List Nat) : List Ent := l.mapIdx fun j x => ⟨x, f + j, n⟩
theorem ents1_len (n f : Nat) (l : List Nat) : (ents1 n f l).length = l.length := by simp [ents1]
theorem ents1_snoc (n f a : Nat) (l : List Nat) : ents1 n f (l ++ [a]) = ents1 n f l ++ [⟨a, f + l.length, n⟩] := by simp [ents1, List.mapIdx_append]
/-- the codes of less than m bits -/
def entsB (lens : List Nat) : Nat → List Ent
  | 0 => []
  | m + 1 => entsB lens m ++ ents1 m (fst lens m) (symsOf lens m)
theorem entsB_len (lens : List Nat) : ∀ m, (entsB lens m).length = psd lens m
  | 0 => rfl
  | m + 1 => by rw [entsB, List.length_append, entsB_len lens m, ents1_len, symsOf_len]; rfl
def ents (lens : List Nat) : List Ent := entsB lens 16
theorem entsB_pre (lens : List Nat) (m d : Nat) : ∃ t, entsB lens (m + d) = entsB lens m ++ t := by
  induction d with
  | zero => exact ⟨[], by simp⟩
  | succ d ih =>
    obtain ⟨t, h⟩ := ih
    exact ⟨t ++ ents1 (m + d) (fst lens (m + d)) (symsOf lens (m + d)), by rw [show m + (d + 1) = m + d + 1 by omega, entsB, h, List.append_assoc]⟩
theorem ents_at (lens : List Nat) (n j : Nat) (hn : n < 16) (hj : j < cnt lens n) : (ents lens)[psd lens n + j]? = some ⟨(symsOf lens n).getD j 0, fst lens n + j, n⟩ := by
  obtain ⟨t, h⟩ := entsB_pre lens (n + 1) (15 - n)
  have e : n + 1 + (15 - n) = 16 := by omega
  have h1 := entsB_len lens n
  have h2 := symsOf_len lens n
  unfold ents
  rw [← e, h, entsB, List.getElem?_append_left (by rw [List.length_append, ents1_len]; omega), List.getElem?_append_right (by omega), h1, Nat.add_sub_cancel_left]
  simp [ents1, h2, hj]
/-- the codes fit -/
theorem fst_csum (lens : List Nat) : ∀ n, n ≤ 15 → (fst lens n + cnt lens n) * 2 ^ (15 - n) = csum (fun n => 2 ^ (15 - n)) lens (n + 1)
  | 0, _ => by simp [fst, csum]
  | n + 1, h => by
    have ih := fst_csum lens n (by omega)
    rw [csum, ← ih]
    have e : (2:Nat) ^ (15 - n) = 2 * 2 ^ (15 - (n + 1)) := by rw [show 15 - n = 15 - (n + 1) + 1 by omega, Nat.pow_succ]; omega
    have e2 : fst lens (n + 1) = 2 * (fst lens n + cnt lens n) := rfl
    rw [e, e2, Nat.add_mul]
    congr 1
    rw [Nat.mul_comm 2 (fst lens n + cnt lens n), Nat.mul_assoc]
theorem csum_mono (f : Nat → Nat) (lens : List Nat) (m d : Nat) : csum f lens m ≤ csum f lens (m + d) := by
  induction d with
  | zero => exact Nat.le_refl _
  | succ d ih => rw [show m + (d + 1) = m + d + 1 by omega, csum]; omega
theorem fits (lens : List Nat) (h15 : ∀ n ∈ lens, n ≤ 15) (hk : kraft lens ≤ 32768) (n : Nat) (hn : n ≤ 15) : fst lens n + cnt lens n ≤ 2 ^ n := by
  have h1 := fst_csum lens n hn
  have h2 := csum_mono (fun n => 2 ^ (15 - n)) lens (n + 1) (15 - n)
  rw [show n + 1 + (15 - n) = 16 by omega, csum_kraft lens h15] at h2
  have h3 : (2:Nat) ^ n * 2 ^ (15 - n) = 32768 := by rw [← Nat.pow_add, show n + (15 - n) = 15 by omega]
  have h4 : (fst lens n + cnt lens n) * 2 ^ (15 - n) ≤ 2 ^ n * 2 ^ (15 - n) := by omega
  exact Nat.le_of_mul_le_mul_right h4 (Nat.pow_pos (by omega))
/-- which code the bits are -/
theorem ents_match (lens : List Nat) (h15 : ∀ n ∈ lens, n ≤ 15) (hk : kraft lens ≤ 32768) (n got q : Nat) (hn : n ≤ 15) (hg : got < 2 ^ n) (en : Ent) (hq : (ents lens)[q]? = some en) (he : digs en.val en.len = digs got n) :
    fst lens n ≤ got ∧ got - fst lens n < cnt lens n ∧ en.sym = (symsOf lens n).getD (got - fst lens n) 0 := by
  have hql : q < psd lens 16 := by rw [← entsB_len lens 16]; exact (List.getElem?_eq_some_iff.1 hq).1
  obtain ⟨m, j, hm, hj, e⟩ := spot_of lens 16 q hql
  have ha := ents_at lens m j hm hj
  rw [← e, hq] at ha
  injection ha with ha
  subst ha
  have hlen := congrArg List.length he
  rw [digs_len, digs_len] at hlen
  simp only at hlen he
  subst hlen
  have hf := fits lens h15 hk m (by omega)
  have hv := digs_inj _ _ m he
  rw [Nat.mod_eq_of_lt (by omega), Nat.mod_eq_of_lt hg] at hv
  refine ⟨by omega, by omega, ?_⟩
  rw [show got - fst lens m = j by omega]
theorem ents_found (lens : List Nat) (n got : Nat) (hn : n ≤ 15) (h1 : fst lens n ≤ got) (h2 : got - fst lens n < cnt lens n) : ∃ (q : Nat) (en : Ent), (ents lens)[q]? = some en ∧ digs en.val en.len = digs got n := by
  have := ents_at lens n (got - fst lens n) (by omega) h2
  exact ⟨_, _, this, by simp only; rw [show fst lens n + (got - fst lens n) = got by omega]⟩
end Go.Proofs.YtgfbbcnnmoamnaaGreatDoor
