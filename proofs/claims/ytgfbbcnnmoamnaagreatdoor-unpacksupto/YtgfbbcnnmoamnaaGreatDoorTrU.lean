/- What a tree's entries are like. Sorting, purely: it is a permutation, and it is in order. What is sorted is in order; sorted again it stays. A tree in another order is a tree; what the document answers. What a series has of an entry: the program's. Nodes: their names; which comes ahead. -/
import Derived.Test.YtgfbbcnnmoamnaaGreatDoorTrT
namespace Go.Proofs.YtgfbbcnnmoamnaaGreatDoor.Tr
open Go.Proofs.YtgfbbcnnmoamnaaGreatDoor.Lk

theorem mem_split {c x : UInt8} : ∀ {l : List UInt8}, x ∈ l → x ≠ c → ∃ y ∈ splitB c l, x ∈ y := by
  intro l
  by_cases hc : c ∈ l
  · intro hx hne
    have hf : (cutB c l).2.2 = true := cut_found.2 hc
    obtain ⟨e, hn⟩ := cut_hit hf
    have hlt := cut_rest_lt hf
    rw [e] at hx ⊢
    rw [split_hit hn]
    rcases List.mem_append.1 hx with h | h
    · exact ⟨_, List.mem_cons_self, h⟩
    · rcases List.mem_cons.1 h with h | h
      · exact absurd h hne
      · obtain ⟨y, h1, h2⟩ := mem_split h hne
        exact ⟨y, List.mem_cons_of_mem _ h1, h2⟩
  · intro hx _
    rw [split_miss hc]
    exact ⟨l, List.mem_singleton.2 rfl, hx⟩
  termination_by l => l.length
/-- a path has neither spaces nor line feeds -/
theorem path_no {p : List UInt8} (h : pathB p = true) {x : UInt8} (hx : x ≠ 47) (hp : plainB x = false) : x ∉ p := fun hm => by
  rw [pathB, Bool.and_eq_true, Bool.and_eq_true] at h
  obtain ⟨y, h1, h2⟩ := mem_split hm hx
  have h3 := List.all_eq_true.1 h.2 y h1
  rw [nameB] at h3
  simp only [Bool.and_eq_true] at h3
  have h4 := List.all_eq_true.1 h3.1.1.2 x h2
  rw [hp] at h4
  cases h4
theorem path_len {p : List UInt8} (h : pathB p = true) : p.length ≤ 64 := by
  rw [pathB, Bool.and_eq_true, Bool.and_eq_true] at h
  exact of_decide_eq_true h.1.1
theorem getE_mem {l : List E} {e : E} (h : e ∈ l) : ∃ i, i < l.length ∧ getE l i = e := by
  obtain ⟨i, hi, rfl⟩ := List.getElem_of_mem h
  exact ⟨i, hi, by rw [getE, List.getD_eq_getElem?_getD, List.getElem?_eq_getElem hi]; rfl⟩
theorem body_le {l : List E} {e : E} (h : e ∈ l) : e.b.length ≤ total l := by
  induction l with
  | nil => cases h
  | cons x l ih =>
    have ht : total (x :: l) = x.b.length + total l := by simp [total]
    rcases List.mem_cons.1 h with h | h
    · rw [ht, h]; omega
    · have := ih h; omega
/-- what a tree is -/
theorem tree_parts {l : List E} (h : treeB l = true) : l.length ≤ 60 ∧ total l ≤ 8000 ∧ (∀ j, j < l.length → badE (getE l j) = false) ∧ (∀ j, j < l.length → twiceE l j = false) ∧ (∀ j, j < l.length → aloneE l j = false) := by
  have h0 : (wrongE l 60 8000).1 = 0 := eq_of_beq h
  rw [wrongE] at h0
  split at h0
  · cases h0
  · rename_i h1
    split at h0
    · cases h0
    · rename_i h2
      split at h0
      · cases h0
      · rename_i h3
        split at h0
        · cases h0
        · rename_i h4
          refine ⟨by omega, by omega, ?_, ?_, ?_⟩
          · rcases firstN_cases (fun i => badE (getE l i)) l.length with h | h
            · exact h.2
            · exact absurd h.1 h2
          · rcases firstN_cases (twiceE l) l.length with h | h
            · exact h.2
            · exact absurd h.1 h3
          · rcases firstN_cases (aloneE l) l.length with h | h
            · exact h.2
            · exact absurd h.1 h4
theorem tree_plain {l : List E} (h : treeB l = true) : ∀ e ∈ l, Plain e ∧ e.b.length ≤ 200000 := fun e he => by
  obtain ⟨_, h2, h3, _, _⟩ := tree_parts h
  obtain ⟨i, hi, rfl⟩ := getE_mem he
  have hb := h3 i hi
  have hl := body_le he
  rw [badE, Bool.or_eq_false_iff, Bool.not_eq_false'] at hb
  refine ⟨⟨path_no hb.1 (by decide) (by decide), path_no hb.1 (by decide) (by decide), by omega, fun hd => ?_⟩, by omega⟩
  have := hb.2
  rw [hd, Bool.true_and, Bool.not_eq_false'] at this
  exact eq_of_beq this
end Go.Proofs.YtgfbbcnnmoamnaaGreatDoor.Tr

namespace Go.Proofs.YtgfbbcnnmoamnaaGreatDoor.Tr
open Go.Proofs.YtgfbbcnnmoamnaaGreatDoor.Lk

theorem insE_perm (e : E) (m : List E) : (insE e m).Perm (e :: m) := by
  rw [insE]
  refine List.perm_middle.trans ?_
  rw [List.take_append_drop]
theorem take_get {l : List E} {i : Nat} (hi : i < l.length) : l.take (i + 1) = l.take i ++ [getE l i] := by
  rw [List.take_add_one, List.getElem?_eq_getElem hi, getE, List.getD_eq_getElem?_getD, List.getElem?_eq_getElem hi]; rfl
theorem sortTo_perm (l : List E) : ∀ i, i ≤ l.length → (sortTo l i).Perm (l.take i)
  | 0, _ => by simp [sortTo]
  | i + 1, hi => by
    rw [sortTo, take_get (by omega)]
    refine (insE_perm _ _).trans ?_
    refine ((sortTo_perm l i (by omega)).cons _).trans ?_
    exact List.perm_append_singleton _ _ |>.symm
theorem sortE_perm (l : List E) : (sortE l).Perm l := by
  have := sortTo_perm l l.length (Nat.le_refl _)
  rwa [List.take_length] at this
/-- bytes: one list is not ahead of itself; of two, one is ahead; what is ahead of what is ahead -/
theorem less_cons (x y : UInt8) (a b : List UInt8) : Op.bytesLess (x :: a) (y :: b) = (decide (x < y) || (x == y && Op.bytesLess a b)) := by rw [Op.bytesLess]
theorem u8_ne {x y : UInt8} (h : x ≠ y) : x.toNat ≠ y.toNat := fun e => h (UInt8.toNat_inj.1 e)
theorem less_irr (a : List UInt8) : Op.bytesLess a a = false := by
  induction a with
  | nil => rw [Op.bytesLess]
  | cons x a ih => rw [less_cons, ih]; simp
theorem less_tot : ∀ {a b : List UInt8}, a ≠ b → Op.bytesLess a b = false → Op.bytesLess b a = true
  | [], [], h, _ => absurd rfl h
  | [], y :: b, _, h => by rw [Op.bytesLess] at h; cases h
  | x :: a, [], _, _ => by rw [Op.bytesLess]
  | x :: a, y :: b, h, h2 => by
    rw [less_cons] at h2 ⊢
    by_cases e : x = y
    · subst e
      have hne : a ≠ b := fun e => h (by rw [e])
      simp only [beq_self_eq_true, Bool.true_and, Bool.or_eq_false_iff] at h2 ⊢
      rw [less_tot hne h2.2, Bool.or_true]
    · have h3 : ¬ x < y := of_decide_eq_false (Bool.or_eq_false_iff.1 h2).1
      have h4 : y < x := by
        rw [UInt8.lt_iff_toNat_lt] at h3 ⊢
        have := u8_ne e
        omega
      rw [decide_eq_true h4, Bool.true_or]
theorem less_trans : ∀ {a b c : List UInt8}, Op.bytesLess a b = true → Op.bytesLess b c = true → Op.bytesLess a c = true
  | _, _, [], _, h2 => by rw [Op.bytesLess] at h2; cases h2
  | _, [], z :: c, h1, _ => by rw [Op.bytesLess] at h1; cases h1
  | [], y :: b, z :: c, _, _ => by rw [Op.bytesLess]
  | x :: a, y :: b, z :: c, h1, h2 => by
    rw [less_cons, Bool.or_eq_true, Bool.and_eq_true, decide_eq_true_eq, beq_iff_eq] at h1 h2 ⊢
    rcases h1 with h1 | ⟨e1, h1⟩
    · rcases h2 with h2 | ⟨e2, h2⟩
      · left; rw [UInt8.lt_iff_toNat_lt] at h1 h2 ⊢; omega
      · left; rw [← e2]; exact h1
    · rcases h2 with h2 | ⟨e2, h2⟩
      · left; rw [e1]; exact h2
      · right; exact ⟨e1.trans e2, less_trans h1 h2⟩
/-- lists of names likewise -/
theorem befL_irr : ∀ X, befL X X = false
  | [] => by rw [befL]
  | x :: X => by rw [befL, if_pos rfl]; exact befL_irr X
theorem befL_tot : ∀ {X Y : List (List UInt8)}, X ≠ Y → befL X Y = false → befL Y X = true
  | [], [], h, _ => absurd rfl h
  | [], y :: Y, _, h => by rw [befL] at h; cases h
  | x :: X, [], _, _ => by rw [befL]
  | x :: X, y :: Y, h, h2 => by
    rw [befL] at h2 ⊢
    by_cases e : x = y
    · subst e
      rw [if_pos rfl] at h2 ⊢
      exact befL_tot (fun e => h (by rw [e])) h2
    · rw [if_neg e] at h2
      rw [if_neg (fun e2 => e e2.symm)]
      exact less_tot e h2
theorem befL_trans : ∀ {X Y Z : List (List UInt8)}, befL X Y = true → befL Y Z = true → befL X Z = true
  | [], [], _, h1, _ => by rw [befL] at h1; cases h1
  | x :: X, [], _, h1, _ => by rw [befL] at h1; cases h1
  | _, y :: Y, [], _, h2 => by rw [befL] at h2; cases h2
  | [], y :: Y, z :: Z, _, _ => by rw [befL]
  | x :: X, y :: Y, z :: Z, h1, h2 => by
    rw [befL] at h1 h2 ⊢
    by_cases e1 : x = y
    · rw [if_pos e1] at h1
      by_cases e2 : y = z
      · rw [if_pos e2] at h2
        rw [if_pos (e1.trans e2)]
        exact befL_trans h1 h2
      · rw [if_neg e2] at h2
        rw [if_neg (fun e => e2 (e1.symm.trans e)), e1]
        exact h2
    · rw [if_neg e1] at h1
      by_cases e2 : y = z
      · rw [if_neg (fun e => e1 (e.trans e2.symm)), ← e2]
        exact h1
      · rw [if_neg e2] at h2
        have h3 := less_trans h1 h2
        rw [if_neg (fun e => by rw [e, less_irr] at h3; cases h3)]
        exact h3
theorem bef_irr (a : List UInt8) : bef a a = false := befL_irr _
theorem bef_trans {a b c : List UInt8} (h1 : bef a b = true) (h2 : bef b c = true) : bef a c = true := befL_trans h1 h2
end Go.Proofs.YtgfbbcnnmoamnaaGreatDoor.Tr

namespace Go.Proofs.YtgfbbcnnmoamnaaGreatDoor.Tr
open Go.Proofs.YtgfbbcnnmoamnaaGreatDoor.Lk

theorem le_trans' {a b c : List UInt8} (h1 : bef b a = false) (h2 : bef c b = false) : bef c a = false := by
  cases h : bef c a with
  | false => rfl
  | true =>
    by_cases e : splitB 47 b = splitB 47 a
    · have : bef c b = true := by rw [bef, e]; exact h
      rw [h2] at this; cases this
    · have h3 : bef a b = true := befL_tot e h1
      have := bef_trans h h3
      rw [h2] at this; cases this
theorem asym' {a b : List UInt8} (h : bef a b = true) : bef b a = false := by
  cases h2 : bef b a with
  | false => rfl
  | true => have := bef_trans h h2; rw [bef_irr] at this; cases this
/-- in order: none is behind one that comes after it -/
def Ord (m : List E) : Prop := ∀ i j, i < j → j < m.length → bef (getE m j).p (getE m i).p = false
theorem pos_after {e : E} {m : List E} : ∀ (n : Nat), ∀ j, posE e m n ≤ j → j < n → bef e.p (getE m j).p = true
  | 0, j, _, h => by omega
  | n + 1, j, h1, h2 => by
    rw [posE] at h1
    split at h1
    · rename_i hb
      by_cases e1 : j = n
      · rw [e1]; exact hb
      · exact pos_after n j h1 (by omega)
    · omega
theorem pos_ahead {e : E} {m : List E} : ∀ (n : Nat) (k : Nat), posE e m n = k + 1 → bef e.p (getE m k).p = false
  | 0, k, h => by rw [posE] at h; omega
  | n + 1, k, h => by
    rw [posE] at h
    split at h
    · exact pos_ahead n k h
    · rename_i hb
      have : n = k := by omega
      rw [← this]
      cases hx : bef e.p (getE m n).p with
      | false => rfl
      | true => exact absurd hx hb
theorem hole_lt {m : List E} {k j : Nat} {e : E} (hk : k ≤ m.length) (hj : j < k) : getE (m.take k ++ e :: m.drop k) j = getE m j := by
  simp only [getE, List.getD_eq_getElem?_getD]
  rw [List.getElem?_append_left (by simp; omega), List.getElem?_take_of_lt hj]
theorem hole_eq {m : List E} {k : Nat} {e : E} (hk : k ≤ m.length) : getE (m.take k ++ e :: m.drop k) k = e := by
  simp only [getE, List.getD_eq_getElem?_getD]
  rw [List.getElem?_append_right (by simp; omega)]
  have : k - (m.take k).length = 0 := by simp; omega
  rw [this]; rfl
theorem hole_gt {m : List E} {k j : Nat} {e : E} (hk : k ≤ m.length) (hj : k < j) : getE (m.take k ++ e :: m.drop k) j = getE m (j - 1) := by
  simp only [getE, List.getD_eq_getElem?_getD]
  rw [List.getElem?_append_right (by simp; omega)]
  have : j - (m.take k).length = (j - 1 - k) + 1 := by simp; omega
  rw [this, List.getElem?_cons_succ, List.getElem?_drop]
  congr 2; omega
theorem insE_ord {e : E} {m : List E} (h : Ord m) : Ord (insE e m) := by
  intro i j hij hj
  have hk := posE_le e m m.length
  rw [insE_len] at hj
  have ha := pos_after (e := e) (m := m) m.length
  have hb := pos_ahead (e := e) (m := m) m.length
  rw [insE]
  obtain ⟨k, hkk⟩ : ∃ k, k = posE e m m.length := ⟨_, rfl⟩
  rw [← hkk] at hk ha hb ⊢
  by_cases h1 : j < k
  · rw [hole_lt hk h1, hole_lt hk (by omega)]
    exact h i j hij (by omega)
  · by_cases h2 : j = k
    · rw [h2, hole_eq hk, hole_lt hk (by omega)]
      obtain ⟨k', rfl⟩ : ∃ k', k = k' + 1 := ⟨k - 1, by omega⟩
      have h3 := hb k' rfl
      by_cases h4 : i = k'
      · rw [h4]; exact h3
      · exact le_trans' (h i k' (by omega) (by omega)) h3
    · rw [hole_gt hk (by omega)]
      by_cases h3 : i < k
      · rw [hole_lt hk h3]
        exact h i (j - 1) (by omega) (by omega)
      · by_cases h4 : i = k
        · rw [h4, hole_eq hk]
          exact asym' (ha (j - 1) (by omega) (by omega))
        · rw [hole_gt hk (by omega)]
          exact h (i - 1) (j - 1) (by omega) (by omega)
theorem sortTo_ord (l : List E) : ∀ i, Ord (sortTo l i)
  | 0 => fun i j _ h => by rw [sortTo] at h; exact absurd h (Nat.not_lt_zero _)
  | i + 1 => by rw [sortTo]; exact insE_ord (sortTo_ord l i)
theorem sortE_ord (l : List E) : Ord (sortE l) := sortTo_ord l _
/-- what is in order stays as it is -/
theorem sortTo_id {m : List E} (h : Ord m) : ∀ i, i ≤ m.length → sortTo m i = m.take i
  | 0, _ => by simp [sortTo]
  | i + 1, hi => by
    have hlen : (m.take i).length = i := by simp; omega
    rw [sortTo, sortTo_id h i (by omega), take_get (by omega), insE, hlen]
    have hp : posE (getE m i) (m.take i) i = i := by
      cases i with
      | zero => rfl
      | succ i =>
        rw [posE]
        have e1 : getE (m.take (i + 1)) i = getE m i := by
          simp only [getE, List.getD_eq_getElem?_getD]
          rw [List.getElem?_take_of_lt (by omega)]
        rw [e1, if_neg (by rw [h i (i + 1) (by omega) (by omega)]; exact Bool.false_ne_true)]
    rw [hp, List.take_of_length_le (by omega), List.drop_eq_nil_of_le (by omega)]
theorem sortE_id {m : List E} (h : Ord m) : sortE m = m := by
  rw [sortE, sortTo_id h _ (Nat.le_refl _), List.take_length]
theorem sortE_sortE (l : List E) : sortE (sortE l) = sortE l := sortE_id (sortE_ord l)
end Go.Proofs.YtgfbbcnnmoamnaaGreatDoor.Tr

namespace Go.Proofs.YtgfbbcnnmoamnaaGreatDoor.Tr
open Go.Proofs.YtgfbbcnnmoamnaaGreatDoor.Lk

theorem atI_at {l : List E} {s : List UInt8} (h : atI l s < l.length) : (getE l (atI l s)).p = s := by
  rcases firstN_cases (fun j => (getE l j).p == s) l.length with ⟨h0, _⟩ | ⟨_, h4, _⟩
  · have : atI l s = l.length := h0
    omega
  · exact eq_of_beq h4
/-- a tree, whatever its order -/
structure TreeP (l : List E) : Prop where
  len : l.length ≤ 60
  tot : total l ≤ 8000
  good : ∀ e ∈ l, badE e = false
  once : (l.map (·.p)).Nodup
  par : ∀ e ∈ l, parentB e.p = [] ∨ ∃ d ∈ l, d.dir = true ∧ d.p = parentB e.p
theorem getE_in {l : List E} {i : Nat} (hi : i < l.length) : getE l i ∈ l := by
  rw [getE, List.getD_eq_getElem?_getD, List.getElem?_eq_getElem hi]; exact List.getElem_mem _
theorem treeP_of {l : List E} (h : treeB l = true) : TreeP l := by
  obtain ⟨h1, h2, h3, h4, h5⟩ := tree_parts h
  refine ⟨h1, h2, fun e he => ?_, ?_, fun e he => ?_⟩
  · obtain ⟨i, hi, rfl⟩ := getE_mem he
    exact h3 i hi
  · rw [List.nodup_iff_pairwise_ne, List.pairwise_iff_getElem]
    intro i j hi hj hij e
    simp only [List.length_map] at hi hj
    have ei : (getE l i).p = (getE l j).p := by
      have a1 : getE l i = l[i] := by rw [getE, List.getD_eq_getElem?_getD, List.getElem?_eq_getElem hi]; rfl
      have a2 : getE l j = l[j] := by rw [getE, List.getD_eq_getElem?_getD, List.getElem?_eq_getElem hj]; rfl
      rw [a1, a2]; simpa using e
    have b1 := once h4 hi
    have b2 := once h4 hj
    rw [ei] at b1
    omega
  · obtain ⟨i, hi, rfl⟩ := getE_mem he
    have := h5 i hi
    rw [alone_of h4, Bool.and_eq_false_iff, Bool.not_eq_false', Bool.not_eq_false'] at this
    rcases this with h | h
    · exact .inl (eq_of_beq h)
    · obtain ⟨j, k1, k2, k3⟩ := (hasDir_iff l _ _).1 h
      exact .inr ⟨_, getE_in k1, k2, k3⟩
theorem TreeP.is {l : List E} (h : TreeP l) : treeB l = true := by
  have h4 : ∀ j, j < l.length → twiceE l j = false := fun j hj => by
    rw [twiceE]
    refine decide_eq_false fun hlt => ?_
    have e := atI_at (l := l) (s := (getE l j).p) (by omega)
    obtain ⟨k, hk⟩ : ∃ k, k = atI l (getE l j).p := ⟨_, rfl⟩
    rw [← hk] at e hlt
    have hn := h.once
    rw [List.nodup_iff_pairwise_ne, List.pairwise_iff_getElem] at hn
    have hkl : k < l.length := by omega
    have a1 : ∀ i (hi : i < l.length), getE l i = l[i] := fun i hi => by rw [getE, List.getD_eq_getElem?_getD, List.getElem?_eq_getElem hi]; rfl
    refine hn k j (by rw [List.length_map]; exact hkl) (by rw [List.length_map]; exact hj) hlt ?_
    rw [a1 k hkl, a1 j hj] at e
    simpa using e
  have h3 : ∀ j, j < l.length → badE (getE l j) = false := fun j hj => h.good _ (getE_in hj)
  have h5 : ∀ j, j < l.length → aloneE l j = false := fun j hj => by
    rw [alone_of h4, Bool.and_eq_false_iff, Bool.not_eq_false', Bool.not_eq_false']
    rcases h.par _ (getE_in hj) with e | ⟨d, d1, d2, d3⟩
    · left; rw [e]; rfl
    · right
      obtain ⟨i, hi, rfl⟩ := getE_mem d1
      exact (hasDir_iff l _ _).2 ⟨i, hi, d2, d3⟩
  rw [treeB, wrong_none (by have := h.len; have := h.tot; omega) h3 h4 h5]
  rfl
theorem total_perm {l m : List E} (h : l.Perm m) : total l = total m := by
  rw [total, total]
  exact (h.map _).sum_nat
theorem TreeP.perm {l m : List E} (h : TreeP l) (hp : m.Perm l) : TreeP m :=
  ⟨by rw [hp.length_eq]; exact h.len, by rw [total_perm hp]; exact h.tot, fun e he => h.good e (hp.mem_iff.1 he), (hp.map _).nodup_iff.2 h.once, fun e he => by
    rcases h.par e (hp.mem_iff.1 he) with h1 | ⟨d, d1, d2⟩
    · exact .inl h1
    · exact .inr ⟨d, hp.mem_iff.2 d1, d2⟩⟩
theorem tree_sort {l : List E} (h : treeB l = true) : treeB (sortE l) = true := ((treeP_of h).perm (sortE_perm l)).is
/-- the tree whose series a text is -/
def Told (s : List UInt8) (m : List E) : Prop := treeB m = true ∧ sortE m = m ∧ serE m = s
theorem cut_head (r : List UInt8) : cutB 10 (headB ++ r) = ([98, 105, 110, 100, 101, 114, 121, 32, 49], r, true) :=
  cut_of_hit (a := [98, 105, 110, 100, 101, 114, 121, 32, 49]) (b := r) (by decide)
theorem refA_told {s : List UInt8} {m : List E} (h : Told s m) : refA s = some m := by
  obtain ⟨h1, h2, h3⟩ := h
  have hl : loopR s = some m := by
    rw [← h3, serE, loopR, cut_head, if_pos rfl]
    exact readR_body m _ (tree_plain h1) (tree_parts h1).1
  rw [refA, hl, Option.bind_some, h2, if_pos ⟨h1, h3⟩]
theorem refA_some {s : List UInt8} {m : List E} (h : refA s = some m) : Told s m := by
  rw [refA] at h
  cases hl : loopR s with
  | none => rw [hl] at h; cases h
  | some l =>
    rw [hl, Option.bind_some] at h
    split at h
    · rename_i hc
      injection h with h
      subst h
      exact ⟨tree_sort hc.1, sortE_sortE l, hc.2⟩
    · cases h
end Go.Proofs.YtgfbbcnnmoamnaaGreatDoor.Tr

namespace Go.Proofs.YtgfbbcnnmoamnaaGreatDoor.Tr
open Go.RowKit Go.Proofs.YtgfbbcnnmoamnaaGreatDoor Go.Proofs.YtgfbbcnnmoamnaaGreatDoor.Lk

theorem tab_below {P : Program} {w w' : World} {name : String} {k : IntKind} {zs : List Int} (h : Lib.TabIs P w name k zs) (hb : Below w.heap.size w w') : Lib.TabIs P w' name k zs := by
  unfold Lib.TabIs World.var? at *
  cases hg : P.globalNamed name with
  | none => simp [hg] at h
  | some g =>
    simp only [hg, Option.bind_some] at h ⊢
    have hlt : g < w.heap.size := by
      rcases Nat.lt_or_ge g w.heap.size with h' | h'
      · exact h'
      · rw [Array.getElem?_eq_none h'] at h; simp at h
    rw [hb.block g hlt]
    exact h
theorem below_grow (w : World) (k : Nat) (os : Array Obj) : Below w.heap.size w (Sort.grow (w.drewN k) os) := by
  have h0 := below_drewN (Below.refl w.heap.size w) k
  refine ⟨h0.os, h0.tape, h0.output, ?_, fun j hj => ?_⟩
  · have : (Sort.grow (w.drewN k) os).heap.size = w.heap.size + os.size := by simp [Sort.grow]
    omega
  · have : (Sort.grow (w.drewN k) os).heap[j]? = w.heap[j]? := by
      simp only [Sort.grow]
      rw [Array.getElem?_append_left (by simpa using hj)]
      rfl
    exact this
/-- the table of powers of ten is there -/
def Pow (w : World) : Prop := Lib.TabIs Tryz.prog w "internal/strconv.uint64pow10" .u64 Lib.pow10Tab
theorem Pow.below {w w' : World} (h : Pow w) (hb : Below w.heap.size w w') : Pow w' := tab_below h hb
theorem itoa_any (n : Nat) (hn : n ≤ 1048576) (w : World) (h : Pow w) : Calls Tryz.prog 22 #[.int .i64 (n : Int)] w fun r w' => r = .returned (.string ⟨(decB n).toArray⟩) ∧ Below w.heap.size w w' := by
  refine (Tryz.strconv_Itoa (n : Int) (by omega) (by omega) w h).mono ?_
  rintro r w' ⟨h1, k, os, h2⟩
  refine ⟨?_, by rw [h2]; exact below_grow w k os⟩
  rw [h1, Lib.itoa, if_neg (by omega), Int.toNat_natCast]
  rfl
theorem pcat_dir {e : E} (h : e.dir = true) : (⟨#[100, 32]⟩ ++ ⟨e.p.toArray⟩ ++ ⟨#[10]⟩ : ByteArray) = ⟨(lineE e).toArray⟩ := by
  apply ByteArray.ext
  simp [ByteArray.data_append, lineE, h]
theorem pcat_file {e : E} (h : e.dir = false) : (⟨#[102, 32]⟩ ++ ⟨(decB e.b.length).toArray⟩ ++ ⟨#[32]⟩ ++ ⟨e.p.toArray⟩ ++ ⟨#[10]⟩ ++ ⟨e.b.toArray⟩ ++ ⟨#[10]⟩ : ByteArray) = ⟨(lineE e).toArray⟩ := by
  apply ByteArray.ext
  simp [ByteArray.data_append, lineE, h]
set_option maxRecDepth 8000 in
set_option maxHeartbeats 1000000 in
theorem piece_any (e : E) (h1 : e.p.length ≤ 1048576) (h2 : e.b.length ≤ 1048576) (w : World) (hP : Pow w) : Calls Tryz.prog 21 #[.agg #[.string ⟨e.p.toArray⟩, .bool e.dir, .string ⟨e.b.toArray⟩]] w fun r w' => r = .returned (.string ⟨(lineE e).toArray⟩) ∧ Below w.heap.size w w' := by
  have HPW := toHid hP
  clear hP
  cases hd : e.dir with
  | true =>
    have hcat := pcat_dir hd
    go_enter Tryz.func21, Tryz.ntmps21
    go_wp2
    go_ret
    exact ⟨rfl, (Below.refl _ w).alloc (Nat.le_refl _) _⟩
  | false =>
    have hcat := pcat_file hd
    have hdl := decB_len e.b.length
    have HIT := toHid (fun w h => itoa_any e.b.length h2 w h)
    go_enter Tryz.func21, Tryz.ntmps21
    go_wp2_with (go_at_call 22; refine (HIT.out _ (HPW.out.below ((Below.refl _ w).alloc (Nat.le_refl _) _))).mono ?_; clear HIT; rintro e1 w1 ⟨rfl, hb1⟩; have c0 := (hb1.cell (p := ⟨w.heap.size, 0, none⟩) (by simp)).trans (cell_three_new w _ _ _ 47 0 _ rfl); have c2 := (hb1.cell (p := ⟨w.heap.size, 2, none⟩) (by simp)).trans (cell_three_new w _ _ _ 47 2 _ rfl); have HB1 : Hid (Below w.heap.size w w1) := ((Below.refl _ w).alloc (Nat.le_refl _) _).trans (hb1.mono (by simp)); clear hb1)
    go_ret
    exact ⟨rfl, HB1.out⟩
end Go.Proofs.YtgfbbcnnmoamnaaGreatDoor.Tr

namespace Go.Proofs.YtgfbbcnnmoamnaaGreatDoor.Tr
open Go.RowKit Go.Proofs.YtgfbbcnnmoamnaaGreatDoor Go.Proofs.YtgfbbcnnmoamnaaGreatDoor.Lk

/-- a node: a file with its body, or a directory with where its nodes lie -/
inductive Nd where
  | file (name body : List UInt8)
  | dir (name : List UInt8) (at_ : Option Addr) (n cap : Nat)
def Nd.name : Nd → List UInt8
  | .file n _ => n
  | .dir n _ _ _ => n
def Nd.val : Nd → Value
  | .file n b => .iface 103 (.agg #[.string ⟨n.toArray⟩, .string ⟨b.toArray⟩])
  | .dir n a k c => .iface 101 (.agg #[.string ⟨n.toArray⟩, .slice a k c])
set_option maxRecDepth 8000 in
set_option maxHeartbeats 1000000 in
theorem fileName_any (n b : List UInt8) (w : World) : Calls Tryz.prog 397 #[.agg #[.string ⟨n.toArray⟩, .string ⟨b.toArray⟩]] w fun r w' => r = .returned (.string ⟨n.toArray⟩) ∧ ∃ o, w' = w.alloc o := by
  go_enter Tryz.func397, Tryz.ntmps397
  go_wp2
  go_ret
  exact ⟨rfl, _, rfl⟩
set_option maxRecDepth 8000 in
set_option maxHeartbeats 1000000 in
theorem dirName_any (n : List UInt8) (a : Option Addr) (k c : Nat) (w : World) : Calls Tryz.prog 396 #[.agg #[.string ⟨n.toArray⟩, .slice a k c]] w fun r w' => r = .returned (.string ⟨n.toArray⟩) ∧ ∃ o, w' = w.alloc o := by
  go_enter Tryz.func396, Tryz.ntmps396
  go_wp2
  go_ret
  exact ⟨rfl, _, rfl⟩
theorem meth_file (v : Value) (w : World) : (method 574 103 v "bindery/tree.name").run Tryz.prog w = .ok (397, v) w := by kernel_rfl
theorem meth_dir (v : Value) (w : World) : (method 574 101 v "bindery/tree.name").run Tryz.prog w = .ok (396, v) w := by kernel_rfl
set_option maxRecDepth 8000 in
set_option maxHeartbeats 1000000 in
/-- the comparison that the sorting is handed -/
theorem below1_any (x y : Nd) (w : World) : Calls Tryz.prog 46 #[x.val, y.val] w fun r w' => r = .returned (.int .i64 (Lib.compareBytes x.name y.name)) ∧ ∃ o o', w' = (w.alloc o).alloc o' := by
  have hmf := meth_file
  have hmd := meth_dir
  have HF := toHid (fun n b w => fileName_any n b w)
  have HG := toHid (fun n a k c w => dirName_any n a k c w)
  have HC := toHid (fun (a b : List UInt8) w => Tryz.strings_Compare ⟨a.toArray⟩ ⟨b.toArray⟩ w)
  cases x <;> cases y <;> unfold Nd.val Nd.name <;>
  · go_enter Tryz.func46, Tryz.ntmps46
    go_wp2_with (first | (go_at_call 397; refine (HF.out _ _ _).mono ?_; rintro e w1 ⟨rfl, o1, hw1⟩; rw [hw1]; clear hw1) | (go_at_call 396; refine (HG.out _ _ _ _ _).mono ?_; rintro e w1 ⟨rfl, o1, hw1⟩; rw [hw1]; clear hw1) | (go_at_call 47; refine (HC.out _ _ _).mono ?_; rintro e w2 ⟨rfl, hw2⟩; rw [hw2]; clear hw2))
    go_ret
    exact ⟨rfl, _, _, rfl⟩
end Go.Proofs.YtgfbbcnnmoamnaaGreatDoor.Tr
