/- Lock files, purely: names, digests, lines, which module may follow which. -/
import Derived.WalkKit
namespace Go.Proofs.YtnmgebpccbachaaGreatDoor.Lk


/-- a module of a lock file -/
structure M where
  n : List UInt8
  v : List UInt8
  d : List UInt8


def plainB (c : UInt8) : Bool := (97 ≤ c.toNat && c.toNat ≤ 122) || (65 ≤ c.toNat && c.toNat ≤ 90) || (48 ≤ c.toNat && c.toNat ≤ 57) || c.toNat == 46 || c.toNat == 95 || c.toNat == 45
def hexB (c : UInt8) : Bool := (48 ≤ c.toNat && c.toNat ≤ 57) || (97 ≤ c.toNat && c.toNat ≤ 102)
def nameB (l : List UInt8) : Bool := decide (1 ≤ l.length) && decide (l.length ≤ 16) && l.all plainB && !(l == [46]) && !(l == [46, 46])
def digB (l : List UInt8) : Bool := l.all hexB && decide (l.length = 64)
def okM (m : M) : Bool := nameB m.n && nameB m.v && digB m.d
def mayB (l : List M) (m : M) : Bool := okM m && (l.isEmpty || (decide (l.length < 10) && Op.bytesLess (l.getLastD ⟨[], [], []⟩).n m.n))

/-- a text, parted at the first byte c -/
def cutB (c : UInt8) : List UInt8 → List UInt8 × List UInt8 × Bool
  | [] => ([], [], false)
  | x :: r => if x = c then ([], r, true) else (x :: (cutB c r).1, (cutB c r).2.1, (cutB c r).2.2)
/-- a text, parted at each byte c -/
def splitB (c : UInt8) : List UInt8 → List (List UInt8)
  | [] => [[]]
  | x :: r => if x = c then [] :: splitB c r else match splitB c r with
    | [] => [[x]]
    | y :: t => (x :: y) :: t
def lineM (l : List UInt8) : M := ⟨(cutB 32 l).1, (cutB 32 (cutB 32 l).2.1).1, (cutB 32 (cutB 32 l).2.1).2.1⟩

theorem cut_miss {c : UInt8} : ∀ {l : List UInt8}, (cutB c l).2.2 = false → (cutB c l).1 = l ∧ (cutB c l).2.1 = []
  | [], _ => ⟨rfl, rfl⟩
  | x :: r, h => by
    unfold cutB at h ⊢
    split
    · rename_i e; rw [if_pos e] at h; cases h
    · rename_i e
      rw [if_neg e] at h
      obtain ⟨h1, h2⟩ := cut_miss h
      exact ⟨by rw [h1], h2⟩
theorem cut_hit {c : UInt8} : ∀ {l : List UInt8}, (cutB c l).2.2 = true → l = (cutB c l).1 ++ c :: (cutB c l).2.1 ∧ c ∉ (cutB c l).1
  | [], h => by cases h
  | x :: r, h => by
    unfold cutB at h ⊢
    split
    · rename_i e; simp [e]
    · rename_i e
      rw [if_neg e] at h
      obtain ⟨h1, h2⟩ := cut_hit h
      refine ⟨?_, ?_⟩
      · show x :: r = x :: (_ ++ _)
        rw [← h1]
      · intro hm
        rcases List.mem_cons.1 hm with hm | hm
        · exact e hm.symm
        · exact h2 hm
theorem cut_of_hit {c : UInt8} : ∀ {a b : List UInt8}, c ∉ a → cutB c (a ++ c :: b) = (a, b, true)
  | [], b, _ => by simp [cutB]
  | x :: a, b, h => by
    have hx : x ≠ c := fun e => h (by simp [e])
    have ih := cut_of_hit (c := c) (a := a) (b := b) (fun e => h (List.mem_cons_of_mem _ e))
    show cutB c (x :: (a ++ c :: b)) = _
    rw [cutB, if_neg hx, ih]
theorem cut_of_miss {c : UInt8} : ∀ {a : List UInt8}, c ∉ a → cutB c a = (a, [], false)
  | [], _ => rfl
  | x :: a, h => by
    have hx : x ≠ c := fun e => h (by simp [e])
    have ih := cut_of_miss (c := c) (a := a) (fun e => h (List.mem_cons_of_mem _ e))
    rw [cutB, if_neg hx, ih]
theorem cut_found {c : UInt8} {l : List UInt8} : (cutB c l).2.2 = true ↔ c ∈ l := by
  constructor
  · intro h; rw [(cut_hit h).1]; simp
  · intro h
    cases hb : (cutB c l).2.2 with
    | true => rfl
    | false =>
      exfalso
      induction l with
      | nil => cases h
      | cons x r ih =>
        unfold cutB at hb
        split at hb
        · cases hb
        · rename_i e
          rcases List.mem_cons.1 h with h | h
          · exact e h.symm
          · exact ih h hb
theorem cut_rest_lt {c : UInt8} {l : List UInt8} (h : (cutB c l).2.2 = true) : (cutB c l).2.1.length < l.length := by
  have := congrArg List.length (cut_hit h).1
  simp at this; omega
theorem cut_rest_le {c : UInt8} (l : List UInt8) : (cutB c l).2.1.length ≤ l.length := by
  cases h : (cutB c l).2.2 with
  | true => exact Nat.le_of_lt (cut_rest_lt h)
  | false => rw [(cut_miss h).2]; simp
theorem split_miss {c : UInt8} : ∀ {l : List UInt8}, c ∉ l → splitB c l = [l]
  | [], _ => rfl
  | x :: a, h => by
    have hx : x ≠ c := fun e => h (by simp [e])
    rw [splitB, if_neg hx, split_miss (c := c) (l := a) (fun e => h (List.mem_cons_of_mem _ e))]
theorem split_hit {c : UInt8} : ∀ {a b : List UInt8}, c ∉ a → splitB c (a ++ c :: b) = a :: splitB c b
  | [], b, _ => by simp [splitB]
  | x :: a, b, h => by
    have hx : x ≠ c := fun e => h (by simp [e])
    show splitB c (x :: (a ++ c :: b)) = _
    rw [splitB, if_neg hx, split_hit (fun e => h (List.mem_cons_of_mem _ e))]
theorem split_ne {c : UInt8} : ∀ (l : List UInt8), splitB c l ≠ []
  | [] => by simp [splitB]
  | x :: r => by
    unfold splitB
    split
    · simp
    · split <;> simp
theorem split_last {c : UInt8} : ∀ {p q : List UInt8}, c ∉ q → splitB c (p ++ c :: q) = splitB c p ++ [q]
  | [], q, h => by simp [splitB, split_miss h]
  | x :: p, q, h => by
    show splitB c (x :: (p ++ c :: q)) = _
    have ih := split_last (p := p) h
    rw [splitB, splitB, ih]
    split
    · simp
    · cases hs : splitB c p with
      | nil => exact absurd hs (split_ne p)
      | cons y t => simp

theorem dig_no_space {l : List UInt8} (h : digB l = true) : (32 : UInt8) ∉ l := by
  intro hm
  simp only [digB, Bool.and_eq_true] at h
  have := List.all_eq_true.1 h.1 _ hm
  revert this; decide
theorem name_nil : nameB [] = false := by decide
theorem dig_nil : digB [] = false := by decide
theorem name_ne {l : List UInt8} (h : nameB l = true) : l ≠ [] := fun e => by rw [e] at h; cases h
/-- a line that may be is parted in three by its spaces -/
theorem line_three {l : List UInt8} (h : okM (lineM l) = true) : splitB 32 l = [(lineM l).n, (lineM l).v, (lineM l).d] := by
  simp only [okM, Bool.and_eq_true] at h
  obtain ⟨⟨h1, h2⟩, h3⟩ := h
  cases f1 : (cutB 32 l).2.2 with
  | false =>
    have e : (lineM l).v = [] := by simp [lineM, (cut_miss f1).2, cutB]
    rw [e] at h2; cases h2
  | true =>
    cases f2 : (cutB 32 (cutB 32 l).2.1).2.2 with
    | false =>
      have e : (lineM l).d = [] := by simp [lineM, (cut_miss f2).2]
      rw [e] at h3; cases h3
    | true =>
      obtain ⟨e1, n1⟩ := cut_hit f1
      obtain ⟨e2, n2⟩ := cut_hit f2
      have e3 := split_hit (b := (cutB 32 l).2.1) n1
      rw [← e1] at e3
      have e4 := split_hit (b := (cutB 32 (cutB 32 l).2.1).2.1) n2
      rw [← e2] at e4
      have e5 : splitB 32 (cutB 32 (cutB 32 l).2.1).2.1 = [(cutB 32 (cutB 32 l).2.1).2.1] := split_miss (dig_no_space h3)
      rw [e3, e4, e5]
      rfl
/-- of three parts the line is made -/
theorem three_line {l a b d : List UInt8} (h : splitB 32 l = [a, b, d]) : lineM l = ⟨a, b, d⟩ := by
  cases f1 : (cutB 32 l).2.2 with
  | false =>
    have : (32 : UInt8) ∉ l := fun e => by rw [cut_found.2 e] at f1; cases f1
    rw [split_miss this] at h; cases h
  | true =>
    obtain ⟨e1, n1⟩ := cut_hit f1
    have e3 := split_hit (b := (cutB 32 l).2.1) n1
    rw [← e1, h] at e3
    injection e3 with e3 e4
    cases f2 : (cutB 32 (cutB 32 l).2.1).2.2 with
    | false =>
      have : (32 : UInt8) ∉ (cutB 32 l).2.1 := fun e => by rw [cut_found.2 e] at f2; cases f2
      rw [split_miss this] at e4; cases e4
    | true =>
      obtain ⟨e2, n2⟩ := cut_hit f2
      have e5 := split_hit (b := (cutB 32 (cutB 32 l).2.1).2.1) n2
      rw [← e2, ← e4] at e5
      injection e5 with e5 e6
      have n3 : (32 : UInt8) ∉ (cutB 32 (cutB 32 l).2.1).2.1 := fun e => by
        have f3 := cut_found.2 e
        obtain ⟨e7, n7⟩ := cut_hit f3
        rw [e7, split_hit n7] at e6
        injection e6 with e6 e8
        exact split_ne _ e8.symm
      rw [split_miss n3] at e6
      injection e6 with e6 _
      simp [lineM, e3, e5, e6]

/-- what the lines say: the number of the first that may not be (0: none), the modules -/
def readL (s : List UInt8) (l : List M) : Nat × List M :=
  if s = [] then (0, l)
  else if hf : (cutB 10 s).2.2 = true then
    if mayB l (lineM (cutB 10 s).1) = true then readL (cutB 10 s).2.1 (l ++ [lineM (cutB 10 s).1]) else (l.length + 1, [])
  else (l.length + 1, [])
  termination_by s.length
  decreasing_by exact cut_rest_lt hf
theorem readL_end (l : List M) : readL [] l = (0, l) := by rw [readL, if_pos rfl]
theorem readL_miss {s : List UInt8} {l : List M} (h : s ≠ []) (hf : (cutB 10 s).2.2 = false) : readL s l = (l.length + 1, []) := by
  rw [readL, if_neg h, dif_neg (by rw [hf]; exact Bool.false_ne_true)]
theorem readL_bad {s : List UInt8} {l : List M} (h : s ≠ []) (hm : mayB l (lineM (cutB 10 s).1) = false) : readL s l = (l.length + 1, []) := by
  rw [readL, if_neg h]
  split
  · rw [if_neg (by rw [hm]; exact Bool.false_ne_true)]
  · rfl
theorem readL_go {s : List UInt8} {l : List M} (h : s ≠ []) (hf : (cutB 10 s).2.2 = true) (hm : mayB l (lineM (cutB 10 s).1) = true) : readL s l = readL (cutB 10 s).2.1 (l ++ [lineM (cutB 10 s).1]) := by
  rw [readL, if_neg h, dif_pos hf, if_pos hm]

/-- may module i stand where it stands? -/
def okAt (l : List M) (i : Nat) : Bool := mayB (l.take i) (l.getD i ⟨[], [], []⟩)
/-- from i on -/
def badFrom (l : List M) : Nat → Nat → Nat
  | 0, _ => 0
  | f + 1, i => if okAt l i then badFrom l f (i + 1) else i + 1
def firstBad (l : List M) : Nat := badFrom l l.length 0
theorem bad_here {l : List M} {i : Nat} (h : okAt l i = false) : ∀ (f k : Nat), (∀ j, j < i → okAt l j = true) → k ≤ i → i < k + f → badFrom l f k = i + 1
  | 0, k, _, _, h3 => by omega
  | f + 1, k, h1, h2, h3 => by
    rw [badFrom]
    by_cases e : k = i
    · subst e; rw [if_neg (by rw [h]; exact Bool.false_ne_true)]
    · rw [if_pos (h1 k (by omega))]
      exact bad_here h f (k + 1) h1 (by omega) (by omega)
theorem firstBad_at {l : List M} {i : Nat} (hi : i < l.length) (h : okAt l i = false) (h1 : ∀ j, j < i → okAt l j = true) : firstBad l = i + 1 := bad_here h _ _ h1 (by omega) (by omega)
theorem bad_none {l : List M} : ∀ (f k : Nat), (∀ j, j < k + f → okAt l j = true) → badFrom l f k = 0
  | 0, _, _ => rfl
  | f + 1, k, h => by
    rw [badFrom, if_pos (h k (by omega))]
    exact bad_none f (k + 1) fun j hj => h j (by omega)
theorem firstBad_none {l : List M} (h : ∀ j, j < l.length → okAt l j = true) : firstBad l = 0 := bad_none _ _ fun j hj => h j (by omega)
theorem firstBad_cases (l : List M) : (firstBad l = 0 ∧ ∀ j, j < l.length → okAt l j = true) ∨ ∃ i, i < l.length ∧ firstBad l = i + 1 ∧ okAt l i = false ∧ ∀ j, j < i → okAt l j = true := by
  by_cases h : ∀ j, j < l.length → okAt l j = true
  · exact .inl ⟨firstBad_none h, h⟩
  · have : ∃ i, i < l.length ∧ okAt l i = false ∧ ∀ j, j < i → okAt l j = true := by
      have h' : ∃ i, i < l.length ∧ okAt l i = false := by
        apply Classical.byContradiction
        intro hc
        refine h fun j hj => ?_
        cases e : okAt l j with
        | true => rfl
        | false => exact absurd ⟨j, hj, e⟩ hc
      obtain ⟨i, hi⟩ := h'
      induction i using Nat.strongRecOn with
      | _ i ih =>
        by_cases hx : ∃ j, j < i ∧ okAt l j = false
        · obtain ⟨j, hj, hj2⟩ := hx
          exact ih j hj ⟨by omega, hj2⟩
        · refine ⟨i, hi.1, hi.2, fun j hj => ?_⟩
          cases e : okAt l j with
          | true => rfl
          | false => exact absurd ⟨j, hj, e⟩ hx
    obtain ⟨i, h1, h2, h3⟩ := this
    exact .inr ⟨i, h1, firstBad_at h1 h2 h3, h2, h3⟩
theorem okAt_append {l l' : List M} {i : Nat} (h : i < l.length) : okAt (l ++ l') i = okAt l i := by
  unfold okAt
  rw [List.take_append_of_le_length (by omega)]
  congr 1
  simp [List.getD_eq_getElem?_getD, List.getElem?_append_left h]
theorem okAt_last (l : List M) (m : M) : okAt (l ++ [m]) l.length = mayB l m := by
  unfold okAt
  rw [List.take_append_of_le_length (Nat.le_refl _), List.take_length]
  congr 1
  simp [List.getD_eq_getElem?_getD]
/-- all stand where they may -/
def AllOk (l : List M) : Prop := ∀ j, j < l.length → okAt l j = true
theorem AllOk.nil : AllOk [] := fun j hj => by simp at hj
theorem AllOk.snoc {l : List M} {m : M} (h : AllOk l) (hm : mayB l m = true) : AllOk (l ++ [m]) := fun j hj => by
  by_cases e : j < l.length
  · rw [okAt_append e]; exact h j e
  · have : j = l.length := by simp at hj; omega
    subst this; rw [okAt_last]; exact hm
theorem AllOk.bad {l : List M} {m : M} (h : AllOk l) (hm : mayB l m = false) : firstBad (l ++ [m]) = l.length + 1 :=
  firstBad_at (by simp) (by rw [okAt_last]; exact hm) fun j hj => by rw [okAt_append hj]; exact h j hj
theorem AllOk.le {l : List M} (h : AllOk l) : l.length ≤ 10 := by
  rcases Nat.lt_or_ge 10 l.length with h1 | h1
  · have := h 10 h1
    simp only [okAt, mayB, Bool.and_eq_true, Bool.or_eq_true, decide_eq_true_eq] at this
    rcases this.2 with h2 | h2
    · have h3 : (l.take 10).length = 0 := by rw [List.isEmpty_iff.1 h2]; rfl
      rw [List.length_take] at h3; omega
    · have h3 := h2.1
      rw [List.length_take] at h3; omega
  · exact h1
theorem okAt_ok {l : List M} {i : Nat} (h : okAt l i = true) : okM (l.getD i ⟨[], [], []⟩) = true := by
  simp only [okAt, mayB, Bool.and_eq_true] at h; exact h.1
/-- the lock file -/
def lineOf (m : M) : List UInt8 := m.n ++ 32 :: (m.v ++ 32 :: (m.d ++ [10]))
def printL (l : List M) : List UInt8 := (l.map lineOf).flatten
theorem printL_snoc (l : List M) (m : M) : printL (l ++ [m]) = printL l ++ lineOf m := by simp [printL]
theorem okM_len {m : M} (h : okM m = true) : (lineOf m).length ≤ 99 := by
  simp only [okM, nameB, digB, Bool.and_eq_true, decide_eq_true_eq] at h
  obtain ⟨⟨⟨⟨⟨⟨_, h1⟩, _⟩, _⟩, _⟩, ⟨⟨⟨⟨_, h2⟩, _⟩, _⟩, _⟩⟩, _, h3⟩ := h
  simp only [lineOf, List.length_append, List.length_cons, List.length_nil]
  omega
end Go.Proofs.YtnmgebpccbachaaGreatDoor.Lk
