/- Lists that came out are written full, and appended to. -/
import Derived.Test.YtjngbcbkapjkhaaGreatDoorLkM
import Derived.ArgAppend
namespace Go.Proofs.YtjngbcbkapjkhaaGreatDoor.Lk
open Go.RowKit Go.Proofs.YtjngbcbkapjkhaaGreatDoor

/-- the mark of the first list -/
def mm : M := ⟨[35], [], []⟩
def pat (j : Nat) : Value := if j % 3 = 0 then .string ⟨#[35]⟩ else .string ⟨#[]⟩
def marks (k : Nat) : List Value := mcells (List.replicate k mm)
theorem marks_len (k : Nat) : (marks k).length = k * 3 := by simp [marks, mcells_len]
theorem marks_add (a b : Nat) : marks (a + b) = marks a ++ marks b := by rw [marks, ← List.replicate_append_replicate, mcells_append]; rfl
theorem marks_get {k j : Nat} (h : j < k * 3) : (marks k)[j]? = some (pat j) := by
  obtain ⟨c1, c2, c3⟩ := mcells_get (List.replicate k mm) (j / 3) mm (by rw [List.getElem?_replicate, if_pos (by omega)])
  unfold marks pat
  rcases (by omega : j = j / 3 * 3 ∨ j = j / 3 * 3 + 1 ∨ j = j / 3 * 3 + 2) with e | e | e
  · rw [if_pos (by omega)]; rw [← e] at c1; exact c1
  · rw [if_neg (by omega)]; rw [← e] at c2; exact c2
  · rw [if_neg (by omega)]; rw [← e] at c3; exact c3
/-- a list of marks of one's own -/
def Own (w : World) (B : Nat) (v : Value) (n : Nat) : Prop := w.ownsRow B 25 3 v n (marks n)
theorem own_iff {w : World} {B : Nat} {v : Value} {n : Nat} : Own w B v n ↔ ((v = .slice none 0 0 ∧ n = 0) ∨ ∃ g cap cur, v = .slice (some ⟨g, 0, none⟩) n cap ∧ B ≤ g ∧ w.heap[g]? = some (.cells cur 25 (0, 0)) ∧ n ≤ cap ∧ cap ≤ maxLen ∧ cur.size = cap * 3 ∧ ∀ j, j < n * 3 → cur[j]? = some (pat j)) := by
  constructor
  · rintro ⟨_, h | ⟨g, cap, cur, h1, h2, h3, h4, h5, h6, h7⟩⟩
    · exact .inl h
    · refine .inr ⟨g, cap, cur, h1, h2, h3, h4, h5, h6, fun j hj => ?_⟩
      rw [← marks_get hj, ← h7, List.getElem?_take_of_lt hj, Array.getElem?_toList]
  · rintro (h | ⟨g, cap, cur, h1, h2, h3, h4, h5, h6, h7⟩)
    · exact ⟨marks_len n, .inl h⟩
    · refine ⟨marks_len n, .inr ⟨g, cap, cur, h1, h2, h3, h4, h5, h6, ?_⟩⟩
      apply List.ext_getElem?
      intro j
      by_cases hj : j < n * 3
      · rw [marks_get hj, List.getElem?_take_of_lt hj, Array.getElem?_toList]; exact h7 j hj
      · rw [List.getElem?_eq_none (by rw [List.length_take]; omega), List.getElem?_eq_none (by rw [marks_len]; omega)]
theorem setCells_heap (g : Nat) (t : TypeId) : ∀ (vs : List Value) (o : Nat) (w : World) (cur : Array Value), w.heap[g]? = some (.cells cur t (0, 0)) →
    ∃ cur', (w.setCells g o vs).heap[g]? = some (.cells cur' t (0, 0)) ∧ cur'.size = cur.size ∧ (∀ j, j < cur.size → o ≤ j → j < o + vs.length → cur'[j]? = vs[j - o]?) ∧ ∀ j, (j < o ∨ o + vs.length ≤ j) → cur'[j]? = cur[j]?
  | [], o, w, cur, h => ⟨cur, h, rfl, fun j _ h1 h2 => by simp at h2; omega, fun _ _ => rfl⟩
  | v :: r, o, w, cur, h => by
    obtain ⟨cur', h1, h2, h3, h4⟩ := setCells_heap g t r (o + 1) (w.setCell ⟨g, o, none⟩ v) _ (heap_setCell_same _ _ o _ _ v h)
    refine ⟨cur', h1, by rw [h2]; simp, fun j hj hoj hj2 => ?_, fun j hj => ?_⟩
    · by_cases e : j = o
      · subst e
        rw [h4 j (.inl (by omega)), Nat.sub_self]
        simp [hj]
      · rw [h3 j (by simpa using hj) (by omega) (by simp at hj2; omega), show j - o = (j - (o + 1)) + 1 by omega, List.getElem?_cons_succ]
    · rw [h4 j (by simp at hj ⊢; omega)]
      rw [Array.getElem?_setIfInBounds, if_neg (by simp at hj; omega)]
theorem setCells_other (g : Nat) : ∀ (vs : List Value) (o : Nat) (w : World) (p : Nat), p ≠ g → (w.setCells g o vs).heap[p]? = w.heap[p]?
  | [], _, _, _, _ => rfl
  | v :: r, o, w, p, h => by rw [World.setCells, setCells_other g r (o + 1) _ p h]; exact Below.heap_setCell _ _ _ _ h
theorem setCells_size (g : Nat) : ∀ (vs : List Value) (o : Nat) (w : World), (w.setCells g o vs).heap.size = w.heap.size
  | [], _, _ => rfl
  | v :: r, o, w => by rw [World.setCells, setCells_size g r (o + 1)]; simp [World.setCell]
theorem setCells_rest (g : Nat) : ∀ (vs : List Value) (o : Nat) (w : World), (w.setCells g o vs).os = w.os ∧ (w.setCells g o vs).tape = w.tape ∧ (w.setCells g o vs).output = w.output
  | [], _, _ => ⟨rfl, rfl, rfl⟩
  | v :: r, o, w => by rw [World.setCells]; exact setCells_rest g r (o + 1) _
theorem setCells_below {B g : Nat} (hB : B ≤ g) (vs : List Value) (o : Nat) (w : World) : Below B w (w.setCells g o vs) :=
  ⟨(setCells_rest g vs o w).1, (setCells_rest g vs o w).2.1, (setCells_rest g vs o w).2.2, by rw [setCells_size]; exact Nat.le_refl _, fun k hk => setCells_other g vs o w k (by omega)⟩
theorem Own.below {w w' : World} {B : Nat} {v : Value} {n : Nat} (h : Own w B v n) (hb : Below w.heap.size w w') : Own w' B v n := own_below h hb
/-- more marks are laid where the row has room: every list of marks reads as ever -/
theorem own_room {w : World} {B g cap n m : Nat} (h : Own w B (.slice (some ⟨g, 0, none⟩) n cap) n) (hc : n + m ≤ cap) :
    Own (w.setCells g (0 + n * 3) (marks m)) B (.slice (some ⟨g, 0, none⟩) (n + m) cap) (n + m) ∧ ∀ u k, Own w B u k → Own (w.setCells g (0 + n * 3) (marks m)) B u k := by
  rcases own_iff.1 h with ⟨hv, _⟩ | ⟨g', cap', cur, hv, h1, h2, h3, h4, h5, h6⟩
  · cases hv
  · injection hv with hv _ hcap
    injection hv with hv
    injection hv with hv
    subst hv hcap
    obtain ⟨cur', e1, e2, e3, e4⟩ := setCells_heap g 25 (marks m) (0 + n * 3) w cur h2
    rw [marks_len] at e3 e4
    have hp : ∀ j, j < cur.size → cur[j]? = some (pat j) ∨ (n * 3 ≤ j ∧ j < (n + m) * 3) → cur'[j]? = some (pat j) := fun j hjs hj => by
      by_cases hin : n * 3 ≤ j ∧ j < (n + m) * 3
      · rw [e3 j hjs (by omega) (by omega), marks_get (by omega)]
        congr 1
        unfold pat
        rw [show (j - (0 + n * 3)) % 3 = j % 3 by omega]
      · rw [e4 j (by omega)]
        rcases hj with hj | hj
        · exact hj
        · exact absurd hj hin
    refine ⟨own_iff.2 (.inr ⟨g, cap, cur', rfl, h1, e1, hc, h4, by omega, fun j hj => ?_⟩), fun u k hu => ?_⟩
    · have hjs : j < cur.size := by
        rw [h5]; exact Nat.lt_of_lt_of_le hj (Nat.mul_le_mul_right 3 hc)
      by_cases hj2 : j < n * 3
      · exact hp j hjs (.inl (h6 j hj2))
      · exact hp j hjs (.inr ⟨by omega, hj⟩)
    · rcases own_iff.1 hu with hn | ⟨g', cap2, cur2, hv2, k1, k2, k3, k4, k5, k6⟩
      · exact own_iff.2 (.inl hn)
      · by_cases hg : g' = g
        · subst hg
          rw [h2] at k2
          injection k2 with k2
          injection k2 with k2
          subst k2
          exact own_iff.2 (.inr ⟨g', cap2, cur', hv2, k1, e1, k3, k4, by omega, fun j hj => hp j (by rw [k5]; exact Nat.lt_of_lt_of_le hj (Nat.mul_le_mul_right 3 k3)) (.inl (k6 j hj))⟩)
        · exact own_iff.2 (.inr ⟨g', cap2, cur2, hv2, k1, by rw [setCells_other g _ _ _ g' hg]; exact k2, k3, k4, k5, k6⟩)
theorem marks_one (k : Nat) : ∀ v ∈ marks k, v.oneCell' = true := mcells_one _
theorem wpList_append_marks {w : World} {ops : Array Oper} {rest : List Oper} {o : Oper} {a : Act} {Q : Exit → Act → World → Prop} (hgd : o.guard = none) (s x : Operand)
    (ho : o.op = .call { callee := .builtin .append, args := #[s, x], argTypes := #[22, 22] }) (B : Nat) (v : Value) (n : Nat) (hs : a.eval s = v) (hown : Own w B v n)
    (ad : Addr) (m c : Nat) (hx : a.eval x = .slice (some ad) m c) (hm : 0 < m) (hnews : ∀ j u, (marks m)[j]? = some u → w.cell? (ad.add j) = some u) (hbd : n + m ≤ 1048600) (hB : B ≤ w.heap.size)
    (h : ∀ v' w', Own w' B v' (n + m) → Hid (∀ u k, Own w B u k → Own w' B u k) → Below B w w' → Hid (∀ p, p < w.heap.size → v.ownBlock ≠ some p → w'.heap[p]? = w.heap[p]?) → wpList Tryz.prog ops Q rest (a.put o.dst v') w') : wpList Tryz.prog ops Q (o :: rest) a w := by
  obtain ⟨i0, hi0, hz0, hz1, hz2⟩ := info_parts infoLocked
  rcases own_iff.1 hown with ⟨hv, hn⟩ | ⟨g, cap, cur, hv, h1, h2, h3, h4, h5, h6⟩
  · subst hn
    refine wpList_append_lies w hgd s x 22 ho B 25 i0 _ 3 48 Tryz.underlying22 hi0 hz0 hz1 hz2 rfl (by decide) v 0 (marks 0) hs hown ad m c (marks m) hx (marks_len m) hnews (marks_one m) hm (by unfold maxLen; omega) (by omega) hB _ rfl ?_
    intro g2 cap2 w2 hown2 hg2 _ _
    have hb2 : Below w.heap.size w w2 := (Below.refl _ w).grown hg2 (Nat.le_refl _) (fun k hk => by rw [hv] at hk; cases hk)
    refine h _ w2 ?_ (fun u k hu => hu.below hb2) (hb2.mono hB) (fun p hp _ => hb2.block p hp)
    unfold Own
    rw [marks_add]; exact hown2
  · subst hv
    refine wpList_append_arg w hgd s x 22 ho 25 i0 _ 3 48 Tryz.underlying22 hi0 hz0 hz1 hz2 rfl (by decide) g 0 n cap (marks n) hs (marks_len n) ?_ ad m c (marks m) hx (marks_len m) hnews (marks_one m) ?_ (by unfold maxLen; omega) (by omega) ?_ ?_
    · intro j u hj
      have hjl : j < n * 3 := by have := (List.getElem?_eq_some_iff.1 hj).1; rw [marks_len] at this; exact this
      rw [cell_of_row _ _ _ _ _ _ h2, Nat.zero_add, h6 j hjl, ← hj, marks_get hjl]
    · intro hr j hj
      rw [marks_len] at hj
      refine ⟨?_, frozen_of_row w g _ _ _ h2⟩
      rw [cell_of_row _ _ _ _ _ _ h2]
      have : 0 + n * 3 + j < cur.size := by
        rw [h5]
        have := Nat.mul_le_mul_right 3 hr
        omega
      rw [Array.getElem?_eq_getElem this]; rfl
    · intro hr
      obtain ⟨o1, o2⟩ := own_room hown hr
      exact h _ _ o1 o2 (setCells_below h1 _ _ _) (fun p _ hp => setCells_other g _ _ _ p (fun e => hp (by rw [e]; rfl)))
    · intro hr v2 w2 hown2 hg2
      have hb2 : Below w.heap.size w w2 := (Below.refl _ w).grown hg2 (Nat.le_refl _) (fun k hk => by cases hk)
      refine h _ w2 ?_ (fun u k hu => hu.below hb2) (hb2.mono hB) (fun p hp _ => hb2.block p hp)
      unfold Own
      rw [marks_add]
      refine ⟨hown2.1, ?_⟩
      rcases hown2.2 with hn | ⟨g2, cap2, cur2, k0, k1, rest2⟩
      · exact .inl hn
      · exact .inr ⟨g2, cap2, cur2, k0, Nat.le_trans hB k1, rest2⟩
end Go.Proofs.YtjngbcbkapjkhaaGreatDoor.Lk
