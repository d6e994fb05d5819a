/- Lock files, purely: names, digests, lines, which module may follow which. Names and digests: the program's own looks. What is a name, what a digest: the program's looks. A text cut at one byte; a line read. May a module follow others?. The program reads a lock file. What is a name, what a digest: the document's looks. The document's lines and parts of a text. The document's look at modules: the first that may not be where it is. -/
import Derived.WalkKit
import Derived.Test.YtgfbbcnnmoamnaaGreatDoorBase
import Derived.Lib.Bytealg
import Derived.Deep.AppendLies
namespace Go.Proofs.YtgfbbcnnmoamnaaGreatDoor.Lk


/-- a module of a lock file -/
structure M where
  n : List UInt8
  v : List UInt8
  d : List UInt8


def plainB (c : UInt8) : Bool := (97 ≤ c.toNat && c.toNat ≤ 122) || (65 ≤ c.toNat && c.toNat ≤ 90) || (48 ≤ c.toNat && c.toNat ≤ 57) || c.toNat == 46 || c.toNat == 95 || c.toNat == 45
def hexB (c : UInt8) : Bool := (48 ≤ c.toNat && c.toNat ≤ 57) || (97 ≤ c.toNat && c.toNat ≤ 102)
def nameB (l : List UInt8) : Bool := decide (1 ≤ l.length) && decide (l.length ≤ 16) && l.all plainB && !(l == [46]) && !(l == [46, 46])
def digB (l : List UInt8) : Bool := l.all hexB && decide (l.length = 64)
def okM (m : M) : Bool := nameB m.n && nameB m.v && digB m.d
def mayB (l : List M) (m : M) : Bool := okM m && (l.isEmpty || (decide (l.length < 10) && Op.bytesLess (l.getLastD ⟨[], [], []⟩).n m.n))

/-- a text, parted at the first byte c -/
def cutB (c : UInt8) : List UInt8 → List UInt8 × List UInt8 × Bool
  | [] => ([], [], false)
  | x :: r => if x = c then ([], r, true) else (x :: (cutB c r).1, (cutB c r).2.1, (cutB c r).2.2)
/-- a text, parted at each byte c -/
def splitB (c : UInt8) : List UInt8 → List (List UInt8)
  | [] => [[]]
  | x :: r => if x = c then [] :: splitB c r else match splitB c r with
    | [] => [[x]]
    | y :: t => (x :: y) :: t
def lineM (l : List UInt8) : M := ⟨(cutB 32 l).1, (cutB 32 (cutB 32 l).2.1).1, (cutB 32 (cutB 32 l).2.1).2.1⟩

theorem cut_miss {c : UInt8} : ∀ {l : List UInt8}, (cutB c l).2.2 = false → (cutB c l).1 = l ∧ (cutB c l).2.1 = []
  | [], _ => ⟨rfl, rfl⟩
  | x :: r, h => by
    unfold cutB at h ⊢
    split
    · rename_i e; rw [if_pos e] at h; cases h
    · rename_i e
      rw [if_neg e] at h
      obtain ⟨h1, h2⟩ := cut_miss h
      exact ⟨by rw [h1], h2⟩
theorem cut_hit {c : UInt8} : ∀ {l : List UInt8}, (cutB c l).2.2 = true → l = (cutB c l).1 ++ c :: (cutB c l).2.1 ∧ c ∉ (cutB c l).1
  | [], h => by cases h
  | x :: r, h => by
    unfold cutB at h ⊢
    split
    · rename_i e; simp [e]
    · rename_i e
      rw [if_neg e] at h
      obtain ⟨h1, h2⟩ := cut_hit h
      refine ⟨?_, ?_⟩
      · show x :: r = x :: (_ ++ _)
        rw [← h1]
      · intro hm
        rcases List.mem_cons.1 hm with hm | hm
        · exact e hm.symm
        · exact h2 hm
theorem cut_of_hit {c : UInt8} : ∀ {a b : List UInt8}, c ∉ a → cutB c (a ++ c :: b) = (a, b, true)
  | [], b, _ => by simp [cutB]
  | x :: a, b, h => by
    have hx : x ≠ c := fun e => h (by simp [e])
    have ih := cut_of_hit (c := c) (a := a) (b := b) (fun e => h (List.mem_cons_of_mem _ e))
    show cutB c (x :: (a ++ c :: b)) = _
    rw [cutB, if_neg hx, ih]
theorem cut_of_miss {c : UInt8} : ∀ {a : List UInt8}, c ∉ a → cutB c a = (a, [], false)
  | [], _ => rfl
  | x :: a, h => by
    have hx : x ≠ c := fun e => h (by simp [e])
    have ih := cut_of_miss (c := c) (a := a) (fun e => h (List.mem_cons_of_mem _ e))
    rw [cutB, if_neg hx, ih]
theorem cut_found {c : UInt8} {l : List UInt8} : (cutB c l).2.2 = true ↔ c ∈ l := by
  constructor
  · intro h; rw [(cut_hit h).1]; simp
  · intro h
    cases hb : (cutB c l).2.2 with
    | true => rfl
    | false =>
      exfalso
      induction l with
      | nil => cases h
      | cons x r ih =>
        unfold cutB at hb
        split at hb
        · cases hb
        · rename_i e
          rcases List.mem_cons.1 h with h | h
          · exact e h.symm
          · exact ih h hb
theorem cut_rest_lt {c : UInt8} {l : List UInt8} (h : (cutB c l).2.2 = true) : (cutB c l).2.1.length < l.length := by
  have := congrArg List.length (cut_hit h).1
  simp at this; omega
theorem cut_rest_le {c : UInt8} (l : List UInt8) : (cutB c l).2.1.length ≤ l.length := by
  cases h : (cutB c l).2.2 with
  | true => exact Nat.le_of_lt (cut_rest_lt h)
  | false => rw [(cut_miss h).2]; simp
theorem split_miss {c : UInt8} : ∀ {l : List UInt8}, c ∉ l → splitB c l = [l]
  | [], _ => rfl
  | x :: a, h => by
    have hx : x ≠ c := fun e => h (by simp [e])
    rw [splitB, if_neg hx, split_miss (c := c) (l := a) (fun e => h (List.mem_cons_of_mem _ e))]
theorem split_hit {c : UInt8} : ∀ {a b : List UInt8}, c ∉ a → splitB c (a ++ c :: b) = a :: splitB c b
  | [], b, _ => by simp [splitB]
  | x :: a, b, h => by
    have hx : x ≠ c := fun e => h (by simp [e])
    show splitB c (x :: (a ++ c :: b)) = _
    rw [splitB, if_neg hx, split_hit (fun e => h (List.mem_cons_of_mem _ e))]
theorem split_ne {c : UInt8} : ∀ (l : List UInt8), splitB c l ≠ []
  | [] => by simp [splitB]
  | x :: r => by
    unfold splitB
    split
    · simp
    · split <;> simp
theorem split_last {c : UInt8} : ∀ {p q : List UInt8}, c ∉ q → splitB c (p ++ c :: q) = splitB c p ++ [q]
  | [], q, h => by simp [splitB, split_miss h]
  | x :: p, q, h => by
    show splitB c (x :: (p ++ c :: q)) = _
    have ih := split_last (p := p) h
    rw [splitB, splitB, ih]
    split
    · simp
    · cases hs : splitB c p with
      | nil => exact absurd hs (split_ne p)
      | cons y t => simp

theorem dig_no_space {l : List UInt8} (h : digB l = true) : (32 : UInt8) ∉ l := by
  intro hm
  simp only [digB, Bool.and_eq_true] at h
  have := List.all_eq_true.1 h.1 _ hm
  revert this; decide
theorem name_nil : nameB [] = false := by decide
theorem dig_nil : digB [] = false := by decide
theorem name_ne {l : List UInt8} (h : nameB l = true) : l ≠ [] := fun e => by rw [e] at h; cases h
/-- a line that may be is parted in three by its spaces -/
theorem line_three {l : List UInt8} (h : okM (lineM l) = true) : splitB 32 l = [(lineM l).n, (lineM l).v, (lineM l).d] := by
  simp only [okM, Bool.and_eq_true] at h
  obtain ⟨⟨h1, h2⟩, h3⟩ := h
  cases f1 : (cutB 32 l).2.2 with
  | false =>
    have e : (lineM l).v = [] := by simp [lineM, (cut_miss f1).2, cutB]
    rw [e] at h2; cases h2
  | true =>
    cases f2 : (cutB 32 (cutB 32 l).2.1).2.2 with
    | false =>
      have e : (lineM l).d = [] := by simp [lineM, (cut_miss f2).2]
      rw [e] at h3; cases h3
    | true =>
      obtain ⟨e1, n1⟩ := cut_hit f1
      obtain ⟨e2, n2⟩ := cut_hit f2
      have e3 := split_hit (b := (cutB 32 l).2.1) n1
      rw [← e1] at e3
      have e4 := split_hit (b := (cutB 32 (cutB 32 l).2.1).2.1) n2
      rw [← e2] at e4
      have e5 : splitB 32 (cutB 32 (cutB 32 l).2.1).2.1 = [(cutB 32 (cutB 32 l).2.1).2.1] := split_miss (dig_no_space h3)
      rw [e3, e4, e5]
      rfl
/-- of three parts the line is made -/
theorem three_line {l a b d : List UInt8} (h : splitB 32 l = [a, b, d]) : lineM l = ⟨a, b, d⟩ := by
  cases f1 : (cutB 32 l).2.2 with
  | false =>
    have : (32 : UInt8) ∉ l := fun e => by rw [cut_found.2 e] at f1; cases f1
    rw [split_miss this] at h; cases h
  | true =>
    obtain ⟨e1, n1⟩ := cut_hit f1
    have e3 := split_hit (b := (cutB 32 l).2.1) n1
    rw [← e1, h] at e3
    injection e3 with e3 e4
    cases f2 : (cutB 32 (cutB 32 l).2.1).2.2 with
    | false =>
      have : (32 : UInt8) ∉ (cutB 32 l).2.1 := fun e => by rw [cut_found.2 e] at f2; cases f2
      rw [split_miss this] at e4; cases e4
    | true =>
      obtain ⟨e2, n2⟩ := cut_hit f2
      have e5 := split_hit (b := (cutB 32 (cutB 32 l).2.1).2.1) n2
      rw [← e2, ← e4] at e5
      injection e5 with e5 e6
      have n3 : (32 : UInt8) ∉ (cutB 32 (cutB 32 l).2.1).2.1 := fun e => by
        have f3 := cut_found.2 e
        obtain ⟨e7, n7⟩ := cut_hit f3
        rw [e7, split_hit n7] at e6
        injection e6 with e6 e8
        exact split_ne _ e8.symm
      rw [split_miss n3] at e6
      injection e6 with e6 _
      simp [lineM, e3, e5, e6]

/-- what the lines say: the number of the first that may not be (0: none), the modules -/
def readL (s : List UInt8) (l : List M) : Nat × List M :=
  if s = [] then (0, l)
  else if hf : (cutB 10 s).2.2 = true then
    if mayB l (lineM (cutB 10 s).1) = true then readL (cutB 10 s).2.1 (l ++ [lineM (cutB 10 s).1]) else (l.length + 1, [])
  else (l.length + 1, [])
  termination_by s.length
  decreasing_by exact cut_rest_lt hf
theorem readL_end (l : List M) : readL [] l = (0, l) := by rw [readL, if_pos rfl]
theorem readL_miss {s : List UInt8} {l : List M} (h : s ≠ []) (hf : (cutB 10 s).2.2 = false) : readL s l = (l.length + 1, []) := by
  rw [readL, if_neg h, dif_neg (by rw [hf]; exact Bool.false_ne_true)]
theorem readL_bad {s : List UInt8} {l : List M} (h : s ≠ []) (hm : mayB l (lineM (cutB 10 s).1) = false) : readL s l = (l.length + 1, []) := by
  rw [readL, if_neg h]
  split
  · rw [if_neg (by rw [hm]; exact Bool.false_ne_true)]
  · rfl
theorem readL_go {s : List UInt8} {l : List M} (h : s ≠ []) (hf : (cutB 10 s).2.2 = true) (hm : mayB l (lineM (cutB 10 s).1) = true) : readL s l = readL (cutB 10 s).2.1 (l ++ [lineM (cutB 10 s).1]) := by
  rw [readL, if_neg h, dif_pos hf, if_pos hm]

/-- may module i stand where it stands? -/
def okAt (l : List M) (i : Nat) : Bool := mayB (l.take i) (l.getD i ⟨[], [], []⟩)
/-- from i on -/
def badFrom (l : List M) : Nat → Nat → Nat
  | 0, _ => 0
  | f + 1, i => if okAt l i then badFrom l f (i + 1) else i + 1
def firstBad (l : List M) : Nat := badFrom l l.length 0
theorem bad_here {l : List M} {i : Nat} (h : okAt l i = false) : ∀ (f k : Nat), (∀ j, j < i → okAt l j = true) → k ≤ i → i < k + f → badFrom l f k = i + 1
  | 0, k, _, _, h3 => by omega
  | f + 1, k, h1, h2, h3 => by
    rw [badFrom]
    by_cases e : k = i
    · subst e; rw [if_neg (by rw [h]; exact Bool.false_ne_true)]
    · rw [if_pos (h1 k (by omega))]
      exact bad_here h f (k + 1) h1 (by omega) (by omega)
theorem firstBad_at {l : List M} {i : Nat} (hi : i < l.length) (h : okAt l i = false) (h1 : ∀ j, j < i → okAt l j = true) : firstBad l = i + 1 := bad_here h _ _ h1 (by omega) (by omega)
theorem bad_none {l : List M} : ∀ (f k : Nat), (∀ j, j < k + f → okAt l j = true) → badFrom l f k = 0
  | 0, _, _ => rfl
  | f + 1, k, h => by
    rw [badFrom, if_pos (h k (by omega))]
    exact bad_none f (k + 1) fun j hj => h j (by omega)
theorem firstBad_none {l : List M} (h : ∀ j, j < l.length → okAt l j = true) : firstBad l = 0 := bad_none _ _ fun j hj => h j (by omega)
theorem firstBad_cases (l : List M) : (firstBad l = 0 ∧ ∀ j, j < l.length → okAt l j = true) ∨ ∃ i, i < l.length ∧ firstBad l = i + 1 ∧ okAt l i = false ∧ ∀ j, j < i → okAt l j = true := by
  by_cases h : ∀ j, j < l.length → okAt l j = true
  · exact .inl ⟨firstBad_none h, h⟩
  · have : ∃ i, i < l.length ∧ okAt l i = false ∧ ∀ j, j < i → okAt l j = true := by
      have h' : ∃ i, i < l.length ∧ okAt l i = false := by
        apply Classical.byContradiction
        intro hc
        refine h fun j hj => ?_
        cases e : okAt l j with
        | true => rfl
        | false => exact absurd ⟨j, hj, e⟩ hc
      obtain ⟨i, hi⟩ := h'
      induction i using Nat.strongRecOn with
      | _ i ih =>
        by_cases hx : ∃ j, j < i ∧ okAt l j = false
        · obtain ⟨j, hj, hj2⟩ := hx
          exact ih j hj ⟨by omega, hj2⟩
        · refine ⟨i, hi.1, hi.2, fun j hj => ?_⟩
          cases e : okAt l j with
          | true => rfl
          | false => exact absurd ⟨j, hj, e⟩ hx
    obtain ⟨i, h1, h2, h3⟩ := this
    exact .inr ⟨i, h1, firstBad_at h1 h2 h3, h2, h3⟩
theorem okAt_append {l l' : List M} {i : Nat} (h : i < l.length) : okAt (l ++ l') i = okAt l i := by
  unfold okAt
  rw [List.take_append_of_le_length (by omega)]
  congr 1
  simp [List.getD_eq_getElem?_getD, List.getElem?_append_left h]
theorem okAt_last (l : List M) (m : M) : okAt (l ++ [m]) l.length = mayB l m := by
  unfold okAt
  rw [List.take_append_of_le_length (Nat.le_refl _), List.take_length]
  congr 1
  simp [List.getD_eq_getElem?_getD]
/-- all stand where they may -/
def AllOk (l : List M) : Prop := ∀ j, j < l.length → okAt l j = true
theorem AllOk.nil : AllOk [] := fun j hj => by simp at hj
theorem AllOk.snoc {l : List M} {m : M} (h : AllOk l) (hm : mayB l m = true) : AllOk (l ++ [m]) := fun j hj => by
  by_cases e : j < l.length
  · rw [okAt_append e]; exact h j e
  · have : j = l.length := by simp at hj; omega
    subst this; rw [okAt_last]; exact hm
theorem AllOk.bad {l : List M} {m : M} (h : AllOk l) (hm : mayB l m = false) : firstBad (l ++ [m]) = l.length + 1 :=
  firstBad_at (by simp) (by rw [okAt_last]; exact hm) fun j hj => by rw [okAt_append hj]; exact h j hj
theorem AllOk.le {l : List M} (h : AllOk l) : l.length ≤ 10 := by
  rcases Nat.lt_or_ge 10 l.length with h1 | h1
  · have := h 10 h1
    simp only [okAt, mayB, Bool.and_eq_true, Bool.or_eq_true, decide_eq_true_eq] at this
    rcases this.2 with h2 | h2
    · have h3 : (l.take 10).length = 0 := by rw [List.isEmpty_iff.1 h2]; rfl
      rw [List.length_take] at h3; omega
    · have h3 := h2.1
      rw [List.length_take] at h3; omega
  · exact h1
theorem okAt_ok {l : List M} {i : Nat} (h : okAt l i = true) : okM (l.getD i ⟨[], [], []⟩) = true := by
  simp only [okAt, mayB, Bool.and_eq_true] at h; exact h.1
/-- the lock file -/
def lineOf (m : M) : List UInt8 := m.n ++ 32 :: (m.v ++ 32 :: (m.d ++ [10]))
def printL (l : List M) : List UInt8 := (l.map lineOf).flatten
theorem printL_snoc (l : List M) (m : M) : printL (l ++ [m]) = printL l ++ lineOf m := by simp [printL]
theorem okM_len {m : M} (h : okM m = true) : (lineOf m).length ≤ 99 := by
  simp only [okM, nameB, digB, Bool.and_eq_true, decide_eq_true_eq] at h
  obtain ⟨⟨⟨⟨⟨⟨_, h1⟩, _⟩, _⟩, _⟩, ⟨⟨⟨⟨_, h2⟩, _⟩, _⟩, _⟩⟩, _, h3⟩ := h
  simp only [lineOf, List.length_append, List.length_cons, List.length_nil]
  omega
end Go.Proofs.YtgfbbcnnmoamnaaGreatDoor.Lk

namespace Go.Proofs.YtgfbbcnnmoamnaaGreatDoor.Lk
open Go.RowKit Go.Proofs.YtgfbbcnnmoamnaaGreatDoor

def plainN (c : Nat) : Bool := (97 ≤ c && c ≤ 122) || (65 ≤ c && c ≤ 90) || (48 ≤ c && c ≤ 57) || c == 46 || c == 95 || c == 45
theorem plainB_eq (c : UInt8) : plainB c = plainN c.toNat := rfl
theorem plain_true {c : Nat} (h : (97 ≤ c ∧ c ≤ 122) ∨ (65 ≤ c ∧ c ≤ 90) ∨ (48 ≤ c ∧ c ≤ 57) ∨ c = 46 ∨ c = 95 ∨ c = 45) : plainN c = true := by
  simp only [plainN, Bool.or_eq_true, Bool.and_eq_true, decide_eq_true_eq, beq_iff_eq]; omega
theorem plain_false {c : Nat} (h : ¬ ((97 ≤ c ∧ c ≤ 122) ∨ (65 ≤ c ∧ c ≤ 90) ∨ (48 ≤ c ∧ c ≤ 57) ∨ c = 46 ∨ c = 95 ∨ c = 45)) : plainN c = false := by
  cases e : plainN c with
  | false => rfl
  | true =>
    exfalso; apply h
    simp only [plainN, Bool.or_eq_true, Bool.and_eq_true, decide_eq_true_eq, beq_iff_eq] at e; omega
theorem ret_bool {a b : Bool} (h : a = b) : Ending.returned (.bool a) = .returned (.bool b) := by rw [h]
theorem none_plain {c : Nat} (h : c ≠ 46 ∧ c ≠ 95 ∧ c ≠ 45) : ((c : Int) == 46 || (c : Int) == 95 || (c : Int) == 45) = false := by
  simp only [Bool.or_eq_false_iff, beq_eq_false_iff_ne]; omega
theorem isNameByte_any (c : Nat) (w : World) : Calls Tryz.prog 225 #[.int .u8 (c : Int)] w fun r w' => r = .returned (.bool (plainN c)) ∧ w' = w := by
  rcases (by omega : c < 45 ∨ c = 45 ∨ c = 46 ∨ c = 47 ∨ (48 ≤ c ∧ c ≤ 57) ∨ (58 ≤ c ∧ c ≤ 64) ∨ (65 ≤ c ∧ c ≤ 90) ∨ (91 ≤ c ∧ c ≤ 94) ∨ c = 95 ∨ c = 96 ∨ (97 ≤ c ∧ c ≤ 122) ∨ 123 ≤ c) with h | h | h | h | h | h | h | h | h | h | h | h
  · rw [plain_false (by omega)]
    go_enter Tryz.func225, Tryz.ntmps225
    go_wp2
    go_ret
    first | exact ⟨rfl, rfl⟩ | exact ⟨ret_bool (none_plain (by omega)), rfl⟩
  · subst h; rw [plain_true (by omega)]
    go_enter Tryz.func225, Tryz.ntmps225
    go_wp2
    go_ret
    first | exact ⟨rfl, rfl⟩ | exact ⟨ret_bool (none_plain (by omega)), rfl⟩
  · subst h; rw [plain_true (by omega)]
    go_enter Tryz.func225, Tryz.ntmps225
    go_wp2
    go_ret
    first | exact ⟨rfl, rfl⟩ | exact ⟨ret_bool (none_plain (by omega)), rfl⟩
  · subst h; rw [plain_false (by omega)]
    go_enter Tryz.func225, Tryz.ntmps225
    go_wp2
    go_ret
    first | exact ⟨rfl, rfl⟩ | exact ⟨ret_bool (none_plain (by omega)), rfl⟩
  · rw [plain_true (by omega)]
    go_enter Tryz.func225, Tryz.ntmps225
    go_wp2
    go_ret
    first | exact ⟨rfl, rfl⟩ | exact ⟨ret_bool (none_plain (by omega)), rfl⟩
  · rw [plain_false (by omega)]
    go_enter Tryz.func225, Tryz.ntmps225
    go_wp2
    go_ret
    first | exact ⟨rfl, rfl⟩ | exact ⟨ret_bool (none_plain (by omega)), rfl⟩
  · rw [plain_true (by omega)]
    go_enter Tryz.func225, Tryz.ntmps225
    go_wp2
    go_ret
    first | exact ⟨rfl, rfl⟩ | exact ⟨ret_bool (none_plain (by omega)), rfl⟩
  · rw [plain_false (by omega)]
    go_enter Tryz.func225, Tryz.ntmps225
    go_wp2
    go_ret
    first | exact ⟨rfl, rfl⟩ | exact ⟨ret_bool (none_plain (by omega)), rfl⟩
  · subst h; rw [plain_true (by omega)]
    go_enter Tryz.func225, Tryz.ntmps225
    go_wp2
    go_ret
    first | exact ⟨rfl, rfl⟩ | exact ⟨ret_bool (none_plain (by omega)), rfl⟩
  · subst h; rw [plain_false (by omega)]
    go_enter Tryz.func225, Tryz.ntmps225
    go_wp2
    go_ret
    first | exact ⟨rfl, rfl⟩ | exact ⟨ret_bool (none_plain (by omega)), rfl⟩
  · rw [plain_true (by omega)]
    go_enter Tryz.func225, Tryz.ntmps225
    go_wp2
    go_ret
    first | exact ⟨rfl, rfl⟩ | exact ⟨ret_bool (none_plain (by omega)), rfl⟩
  · rw [plain_false (by omega)]
    go_enter Tryz.func225, Tryz.ntmps225
    go_wp2
    go_ret
    first | exact ⟨rfl, rfl⟩ | exact ⟨ret_bool (none_plain (by omega)), rfl⟩


set_option maxRecDepth 100000 in
/-- the first place of a byte -/
theorem slIndexByte_any (s : ByteArray) (c : Int) (w : World) :
    Calls Tryz.prog 325 #[.string s, .int .u8 c] w fun e w' => e = .returned (.int .i64 (Lib.indexByte s.data.toList c.toNat.toUInt8)) ∧ w' = w := by
  go_enter Tryz.func325, Tryz.ntmps325
  go_wp2
  rw [run_callFunc_extern Tryz.func352 (by kernel_rfl) (by kernel_rfl) (by kernel_rfl) (e := Extern.BytealgIndexByte.indexByte) (by kernel_rfl), Lib.run_indexByteString]
  simp only [Result.andThen]
  rw [Oper.upon_value]
  go_wp2
  go_ret
  exact ⟨rfl, rfl⟩
theorem sIndexByte_any (s : ByteArray) (c : Int) (w : World) :
    Calls Tryz.prog 310 #[.string s, .int .u8 c] w fun e w' => e = .returned (.int .i64 (Lib.indexByte s.data.toList c.toNat.toUInt8)) ∧ w' = w := by
  go_enter Tryz.func310, Tryz.ntmps310
  go_wp2_with (go_at_call 325; refine (slIndexByte_any _ _ _).mono ?_; rintro e w2 ⟨rfl, hw2⟩; rw [hw2]; clear hw2)
  go_ret
  exact ⟨rfl, rfl⟩
end Go.Proofs.YtgfbbcnnmoamnaaGreatDoor.Lk

namespace Go.Proofs.YtgfbbcnnmoamnaaGreatDoor.Lk
open Go.RowKit Go.Proofs.YtgfbbcnnmoamnaaGreatDoor

theorem name_false {l : List UInt8} (h : l = [] ∨ 16 < l.length ∨ l = [46] ∨ l = [46, 46]) : nameB l = false := by
  cases e : nameB l with
  | false => rfl
  | true =>
    exfalso
    simp only [nameB, Bool.and_eq_true, decide_eq_true_eq, Bool.not_eq_true', beq_eq_false_iff_ne] at e
    rcases h with h | h | h | h
    · rw [h] at e; simp at e
    · omega
    · exact e.1.2 h
    · exact e.2 h
theorem name_all {l : List UInt8} (h : ¬ (l = [] ∨ 16 < l.length ∨ l = [46] ∨ l = [46, 46])) : nameB l = l.all plainB := by
  have h0 : 1 ≤ l.length := by
    rcases Nat.eq_zero_or_pos l.length with e | e
    · exact absurd (.inl (List.length_eq_zero_iff.1 e)) h
    · exact e
  have h1 : l.length ≤ 16 := by
    rcases Nat.lt_or_ge 16 l.length with e | e
    · exact absurd (.inr (.inl e)) h
    · exact e
  have h2 : (l == [46]) = false := beq_eq_false_iff_ne.2 fun e => h (.inr (.inr (.inl e)))
  have h3 : (l == [46, 46]) = false := beq_eq_false_iff_ne.2 fun e => h (.inr (.inr (.inr e)))
  simp [nameB, h0, h1, h2, h3]
theorem all_at {p : UInt8 → Bool} {l : List UInt8} {i : Nat} (hi : i < l.length) (h : p (l.getD i 0) = false) : l.all p = false := by
  cases e : l.all p with
  | false => rfl
  | true =>
    have := List.all_eq_true.1 e (l.getD i 0) (by simp [List.getD_eq_getElem?_getD, List.getElem?_eq_getElem hi])
    rw [h] at this; cases this
theorem all_upto {p : UInt8 → Bool} {l : List UInt8} (h : ∀ j, j < l.length → p (l.getD j 0) = true) : l.all p = true := by
  refine List.all_eq_true.2 fun x hx => ?_
  obtain ⟨j, hj, rfl⟩ := List.getElem_of_mem hx
  have := h j hj
  simpa [List.getD_eq_getElem?_getD, List.getElem?_eq_getElem hj] using this
theorem len_data (s : ByteArray) : s.data.toList.length = s.size := by simp
set_option maxRecDepth 8000 in
theorem IsName_any (s : ByteArray) (w : World) : Calls Tryz.prog 167 #[.string s] w fun r w' => r = .returned (.bool (nameB s.data.toList)) ∧ w' = w := by
  have hl := len_data s
  have hx : ∀ (i : Nat) (h : i < s.size) (w : World), (Instr.index 9 (.string s) (.int .i64 (i : Int))).run Tryz.prog w = .ok (.int .u8 ((s.data.toList.getD i 0).toNat : Int)) w := fun i h w => by
    rw [idx_str s i i rfl h w, byte_at s i h]
  have he := ByteArray.toList_eq s
  obtain ⟨l, HL⟩ := hid_intro s.data.toList
  rw [← HL.out] at hl hx he ⊢
  by_cases hb : l = [] ∨ 16 < l.length ∨ l = [46] ∨ l = [46, 46]
  · rw [name_false hb]
    rcases hb with h | h | h | h
    · rw [h] at he
      go_enter Tryz.func167, Tryz.ntmps167
      go_wp2
      go_ret
      exact ⟨rfl, rfl⟩
    · have h0 : (s.toList.isEmpty) = false := by rw [he]; cases l with | nil => simp at h | cons x r => rfl
      have h0' : ¬ s.toList = [] := by rw [he]; intro e; rw [e] at h; simp at h
      clear he
      have h1 : 16 < s.size := by omega
      go_enter Tryz.func167, Tryz.ntmps167
      go_wp2
      go_ret
      exact ⟨rfl, rfl⟩
    · rw [h] at he hl
      have h1 : s.size = 1 := by simpa using hl.symm
      go_enter Tryz.func167, Tryz.ntmps167
      go_wp2
      go_ret
      exact ⟨rfl, rfl⟩
    · rw [h] at he hl
      have h1 : s.size = 2 := by simpa using hl.symm
      go_enter Tryz.func167, Tryz.ntmps167
      go_wp2
      go_ret
      exact ⟨rfl, rfl⟩
  · rw [name_all hb]
    have h0 : s.toList.isEmpty = false := by rw [he]; cases l with | nil => exact absurd (.inl rfl) hb | cons x r => rfl
    have h0' : ¬ s.toList = [] := by rw [he]; exact fun e => hb (.inl e)
    have h1 : s.size ≤ 16 := by
      rcases Nat.lt_or_ge 16 l.length with e | e
      · exact absurd (.inr (.inl e)) hb
      · omega
    have h2 : (s.toList == [46]) = false := by rw [he]; exact beq_eq_false_iff_ne.2 fun e => hb (.inr (.inr (.inl e)))
    have h3 : (s.toList == [46, 46]) = false := by rw [he]; exact beq_eq_false_iff_ne.2 fun e => hb (.inr (.inr (.inr e)))
    clear he hb
    have HX := (show Hid _ from hx)
    clear hx
    go_enter Tryz.func167, Tryz.ntmps167
    go_wp2
    go_loopw [21] (fun vi wr => ∃ i : Nat, i ≤ s.size ∧ vi = .int .i64 i ∧ wr = w ∧ Hid (∀ j, j < i → plainB (l.getD j 0) = true)) (fun vi _ => s.size - (intOf vi).toNat)
    case atStart => exact ⟨0, by omega, rfl, rfl, fun j hj => by omega⟩
    case round =>
      obtain ⟨i, hi, rfl, hw, HA⟩ := hrel
      rw [hw]; clear hw
      by_cases hlt : i < s.size
      · have hix := fun w => HX.out i hlt w
        obtain ⟨c, HC⟩ := hid_intro (l.getD i 0)
        rw [← HC.out] at hix
        cases hp : plainB c with
        | false =>
          have HF := (show Hid _ from all_at (by omega) (HC.out ▸ hp))
          rw [plainB_eq] at hp
          go_wp2_with (go_at_call 225; refine (isNameByte_any _ _).mono ?_; rintro e w2 ⟨rfl, hw2⟩; rw [hw2, hp]; clear hw2)
          go_ret
          exact ⟨ret_bool HF.out.symm, rfl⟩
        | true =>
          have HA2 : Hid (∀ j, j < i + 1 → plainB (l.getD j 0) = true) := fun j hj => by
            by_cases e : j = i
            · rw [e, ← HC.out]; exact hp
            · exact HA.out j (by omega)
          rw [plainB_eq] at hp
          go_wp2_with (go_at_call 225; refine (isNameByte_any _ _).mono ?_; rintro e w2 ⟨rfl, hw2⟩; rw [hw2, hp]; clear hw2)
          go_roundw
          case rel => exact ⟨i + 1, by omega, by go_num, by first | rfl | trivial, HA2⟩
          case measure => simp [intOf]; omega
      · obtain rfl : i = s.size := by omega
        have HF := (show Hid _ from all_upto (fun j hj => HA.out j (by omega)))
        clear HA
        go_wp2
        go_ret
        exact ⟨ret_bool HF.out.symm, rfl⟩

/-- a digit or a letter a to f -/
theorem hex_index (c : UInt8) : decide (Lib.indexByte [48, 49, 50, 51, 52, 53, 54, 55, 56, 57, 97, 98, 99, 100, 101, 102] c < 0) = !hexB c := by
  have : ∀ n : Fin 256, decide (Lib.indexByte [48, 49, 50, 51, 52, 53, 54, 55, 56, 57, 97, 98, 99, 100, 101, 102] (UInt8.ofNat n.1) < 0) = !hexB (UInt8.ofNat n.1) := by decide +kernel
  have h := this ⟨c.toNat, c.toNat_lt⟩
  simpa using h
theorem toUInt8_back (c : UInt8) : ((c.toNat : Int)).toNat.toUInt8 = c := by simp
theorem dig_len {l : List UInt8} (h : l.length ≠ 64) : digB l = false := by simp [digB, h]
theorem dig_all {l : List UInt8} (h : l.length = 64) : digB l = l.all hexB := by simp [digB, h]
set_option maxRecDepth 8000 in
theorem IsText_any (s : ByteArray) (w : World) : Calls Tryz.prog 262 #[.string s] w fun r w' => r = .returned (.bool (digB s.data.toList)) ∧ w' = w := by
  have hl := len_data s
  have hx : ∀ (i : Nat) (h : i < s.size) (w : World), (Instr.index 9 (.string s) (.int .i64 (i : Int))).run Tryz.prog w = .ok (.int .u8 ((s.data.toList.getD i 0).toNat : Int)) w := fun i h w => by
    rw [idx_str s i i rfl h w, byte_at s i h]
  obtain ⟨l, HL⟩ := hid_intro s.data.toList
  rw [← HL.out] at hl hx ⊢
  by_cases hb : s.size = 64
  · rw [dig_all (by omega)]
    have HX := (show Hid _ from hx)
    clear hx
    go_enter Tryz.func262, Tryz.ntmps262
    go_wp2
    go_loopw [9] (fun vi wr => ∃ i : Nat, i ≤ 64 ∧ vi = .int .i64 i ∧ wr = w ∧ Hid (∀ j, j < i → hexB (l.getD j 0) = true)) (fun vi _ => 64 - (intOf vi).toNat)
    case atStart => exact ⟨0, by omega, rfl, rfl, fun j hj => by omega⟩
    case round =>
      obtain ⟨i, hi, rfl, hw, HA⟩ := hrel
      rw [hw]; clear hw
      by_cases hlt : i < 64
      · have hix := fun w => HX.out i (by omega) w
        obtain ⟨c, HC⟩ := hid_intro (l.getD i 0)
        rw [← HC.out] at hix
        have hh := hex_index c
        cases hp : hexB c with
        | false =>
          have HF := (show Hid _ from all_at (by omega) (HC.out ▸ hp))
          rw [hp] at hh
          go_wp2_with (go_at_call 310; refine (sIndexByte_any _ _ _).mono ?_; rintro e w2 ⟨rfl, hw2⟩; rw [hw2, toUInt8_back]; clear hw2)
          go_ret
          exact ⟨ret_bool HF.out.symm, rfl⟩
        | true =>
          have HA2 : Hid (∀ j, j < i + 1 → hexB (l.getD j 0) = true) := fun j hj => by
            by_cases e : j = i
            · rw [e, ← HC.out]; exact hp
            · exact HA.out j (by omega)
          rw [hp] at hh
          go_wp2_with (go_at_call 310; refine (sIndexByte_any _ _ _).mono ?_; rintro e w2 ⟨rfl, hw2⟩; rw [hw2, toUInt8_back]; clear hw2)
          go_roundw
          case rel => exact ⟨i + 1, by omega, by go_num, by first | rfl | trivial, HA2⟩
          case measure => simp [intOf]; omega
      · obtain rfl : i = 64 := by omega
        have HF := (show Hid _ from all_upto (fun j hj => HA.out j (by omega)))
        clear HA
        go_wp2
        go_ret
        exact ⟨ret_bool HF.out.symm, rfl⟩
  · rw [dig_len (by omega)]
    go_enter Tryz.func262, Tryz.ntmps262
    go_wp2
    go_ret
    exact ⟨rfl, rfl⟩
end Go.Proofs.YtgfbbcnnmoamnaaGreatDoor.Lk

namespace Go.Proofs.YtgfbbcnnmoamnaaGreatDoor.Lk
open Go.RowKit Go.Proofs.YtgfbbcnnmoamnaaGreatDoor

theorem idx_hit {c : UInt8} : ∀ {l : List UInt8}, (cutB c l).2.2 = true → Lib.indexByte l c = ((cutB c l).1.length : Int)
  | [], h => by cases h
  | x :: r, h => by
    unfold cutB at h ⊢
    unfold Lib.indexByte
    by_cases e : x = c
    · simp [e]
    · rw [if_neg e] at h
      have ih := idx_hit h
      have hx : (x == c) = false := beq_eq_false_iff_ne.2 e
      have hn : ((((cutB c r).1.length : Nat) : Int) == -1) = false := beq_eq_false_iff_ne.2 (by omega)
      rw [hx, ih, hn, if_neg e]
      simp
theorem idx_miss {c : UInt8} : ∀ {l : List UInt8}, (cutB c l).2.2 = false → Lib.indexByte l c = -1
  | [], _ => rfl
  | x :: r, h => by
    unfold cutB at h
    unfold Lib.indexByte
    by_cases e : x = c
    · rw [if_pos e] at h; cases h
    · rw [if_neg e] at h
      have ih := idx_miss h
      have hx : (x == c) = false := beq_eq_false_iff_ne.2 e
      rw [hx, ih]
      rfl
theorem idx_self (c : UInt8) : Lib.indexByte [c] c = 0 := by simp [Lib.indexByte]

set_option maxRecDepth 8000 in
theorem slIndex_one (s : ByteArray) (c : UInt8) (w : World) : Calls Tryz.prog 282 #[.string s, .string ⟨#[c]⟩] w fun r w' => r = .returned (.int .i64 (Lib.indexByte s.data.toList c)) ∧ w' = w := by
  have he := ByteArray.toList_eq s
  have hix : ∀ w : World, (Instr.index 9 (.string ⟨#[c]⟩) (.int .i64 0)).run Tryz.prog w = .ok (.int .u8 (c.toNat : Int)) w := fun w => by
    exact (idx_str ⟨#[c]⟩ 0 0 rfl (by show 0 < 1; omega) w).trans rfl
  by_cases h : s.data.toList = [c]
  · obtain rfl : s = ⟨#[c]⟩ := by
      apply ByteArray.ext
      exact Array.toList_inj.1 h
    rw [h, idx_self]
    clear he
    go_enter Tryz.func282, Tryz.ntmps282
    go_wp2
    go_ret
    exact ⟨rfl, rfl⟩
  · have hb : ([c] == s.toList) = false := by rw [he]; exact beq_eq_false_iff_ne.2 fun e => h e.symm
    clear he
    go_enter Tryz.func282, Tryz.ntmps282
    go_wp2_with (go_at_call 325; refine (slIndexByte_any _ _ _).mono ?_; rintro e w2 ⟨rfl, hw2⟩; rw [hw2, toUInt8_back]; clear hw2)
    go_ret
    exact ⟨rfl, rfl⟩

theorem extract_list (s : ByteArray) (a b : Nat) : s.extract a b = ⟨((s.data.toList.take b).drop a).toArray⟩ := by
  apply ByteArray.ext
  apply Array.toList_inj.1
  simp [ByteArray.data_extract, List.drop_take]
theorem sl_to (s : ByteArray) (i : Int) (a : Nat) (hi : i = a) (h : a ≤ s.size) (w : World) : (Instr.slice 9 (.string s) none (some (.int .i64 i)) none).run Tryz.prog w = .ok (.string (s.extract 0 a)) w := by
  subst hi
  rw [run_slice_string_to_if w 9 s .i64 a Tryz.underlying9]
  simp; omega
theorem sl_from (s : ByteArray) (i : Int) (a : Nat) (hi : i = a) (h : a ≤ s.size) (w : World) : (Instr.slice 9 (.string s) (some (.int .i64 i)) none none).run Tryz.prog w = .ok (.string (s.extract a s.size)) w := by
  subst hi
  rw [run_slice_string_from_if w 9 s .i64 a Tryz.underlying9]
  simp; omega
theorem cut_parts {c : UInt8} (s : ByteArray) (h : (cutB c s.data.toList).2.2 = true) : s.extract 0 (cutB c s.data.toList).1.length = ⟨(cutB c s.data.toList).1.toArray⟩ ∧ s.extract ((cutB c s.data.toList).1.length + 1) s.size = ⟨(cutB c s.data.toList).2.1.toArray⟩ ∧ (cutB c s.data.toList).1.length + 1 ≤ s.size := by
  have e := (cut_hit h).1
  have hl := len_data s
  rw [extract_list, extract_list, ← hl]
  obtain ⟨a, HA⟩ := hid_intro (cutB c s.data.toList).1
  obtain ⟨b, HB⟩ := hid_intro (cutB c s.data.toList).2.1
  rw [← HA.out, ← HB.out] at e ⊢
  rw [e]
  refine ⟨by simp, by rw [List.take_of_length_le (by simp)]; simp [List.drop_append], by simp⟩
set_option maxRecDepth 8000 in
theorem slCut_one (s : ByteArray) (hs : s.size ≤ 9223372036854775807) (c : UInt8) (w : World) : Calls Tryz.prog 221 #[.string s, .string ⟨#[c]⟩] w fun r w' => r = .returned (.tuple #[.string ⟨(cutB c s.data.toList).1.toArray⟩, .string ⟨(cutB c s.data.toList).2.1.toArray⟩, .bool (cutB c s.data.toList).2.2]) ∧ ∃ n, w' = w.drewN n := by
  cases hf : (cutB c s.data.toList).2.2 with
  | true =>
    obtain ⟨e1, e2, hle⟩ := cut_parts s hf
    have hi := idx_hit hf
    rw [← e1, ← e2]
    obtain ⟨i, HI⟩ := hid_intro (cutB c s.data.toList).1.length
    rw [← HI.out] at hle hi ⊢
    clear e1 e2 hf
    have HX := (show Hid _ from hi)
    clear hi
    have hz : (⟨#[c]⟩ : ByteArray).size = 1 := rfl
    have s1 := fun w => sl_to s i i rfl (by omega) w
    have s2 := fun w => sl_from s (i + 1) (i + 1) (by omega) hle w
    go_enter Tryz.func221, Tryz.ntmps221
    go_wp2_with (go_at_call 282; refine (slIndex_one _ _ _).mono ?_; rintro e w2 ⟨rfl, hw2⟩; rw [hw2, HX.out]; clear hw2)
    go_quiet (fail)
    go_wp2
    go_ret3
    exact ⟨rfl, _, rfl⟩
  | false =>
    obtain ⟨e1, e2⟩ := cut_miss hf
    have HI := (show Hid _ from idx_miss hf)
    rw [e1, e2]
    go_enter Tryz.func221, Tryz.ntmps221
    go_wp2_with (go_at_call 282; refine (slIndex_one _ _ _).mono ?_; rintro e w2 ⟨rfl, hw2⟩; rw [hw2, HI.out]; clear hw2)
    go_ret3
    exact ⟨rfl, 0, rfl⟩
theorem sCut_one (s : ByteArray) (hs : s.size ≤ 9223372036854775807) (c : UInt8) (w : World) : Calls Tryz.prog 163 #[.string s, .string ⟨#[c]⟩] w fun r w' => r = .returned (.tuple #[.string ⟨(cutB c s.data.toList).1.toArray⟩, .string ⟨(cutB c s.data.toList).2.1.toArray⟩, .bool (cutB c s.data.toList).2.2]) ∧ ∃ n, w' = w.drewN n := by
  go_enter Tryz.func163, Tryz.ntmps163
  go_wp2_with (go_at_call 221; refine (slCut_one _ hs _ _).mono ?_; rintro e w2 ⟨rfl, n, hw2⟩; rw [hw2]; clear hw2)
  go_ret3
  exact ⟨rfl, n, rfl⟩

/-- the cells of a module -/
def mv (m : M) : Array Value := #[.string ⟨m.n.toArray⟩, .string ⟨m.v.toArray⟩, .string ⟨m.d.toArray⟩]
theorem mv_size (m : M) : (mv m).size = 3 := rfl
theorem sizeLocked : (Tryz.prog.info? 86).map (·.size) = some 3 := by kernel_rfl
/-- three cells are laid -/
def set3 (w : World) (g o : Nat) (a b c : Value) : World := ((w.setCell ⟨g, o, none⟩ a).setCell ⟨g, o + 1, none⟩ b).setCell ⟨g, o + 2, none⟩ c
theorem set3_block {w : World} {g : Nat} {x y z : Value} {t : TypeId} (h : w.heap[g]? = some (.cells #[x, y, z] t (0, 0))) (a b c : Value) : (((w.setCell ⟨g, 0, none⟩ a).setCell ⟨g, 1, none⟩ b).setCell ⟨g, 2, none⟩ c).heap[g]? = some (.cells #[a, b, c] t (0, 0)) := by
  have h1 := heap_setCell_same _ _ 0 _ _ a h
  have h2 := heap_setCell_same _ _ 1 _ _ b h1
  have h3 := heap_setCell_same _ _ 2 _ _ c h2
  exact h3
theorem set3_below {B : Nat} {a w : World} (h : Below B a w) {g : Nat} (hg : B ≤ g) (x y z : Value) : Below B a (((w.setCell ⟨g, 0, none⟩ x).setCell ⟨g, 1, none⟩ y).setCell ⟨g, 2, none⟩ z) := ((h.setCell hg x).setCell hg y).setCell hg z
theorem readLine_any (s : ByteArray) (hs : s.size ≤ 9223372036854775807) (w : World) : Calls Tryz.prog 208 #[.string s] w fun r w' => r = .returned (.agg (mv (lineM s.data.toList))) ∧ Below w.heap.size w w' := by
  have h2 : (⟨(cutB 32 s.data.toList).2.1.toArray⟩ : ByteArray).size ≤ 9223372036854775807 := by
    have := cut_rest_le (c := 32) s.data.toList
    have e : (⟨(cutB 32 s.data.toList).2.1.toArray⟩ : ByteArray).size = (cutB 32 s.data.toList).2.1.length := by simp [ByteArray.size]
    rw [e]; rw [len_data] at this; omega
  unfold mv lineM
  have HC := (show Hid _ from sCut_one s hs 32)
  have HD := (show Hid _ from sCut_one ⟨(cutB 32 s.data.toList).2.1.toArray⟩ h2 32)
  rw [show (⟨(cutB 32 s.data.toList).2.1.toArray⟩ : ByteArray).data.toList = (cutB 32 s.data.toList).2.1 by simp] at HD
  obtain ⟨a, HA⟩ := hid_intro (cutB 32 s.data.toList).1
  obtain ⟨b, HB⟩ := hid_intro (cutB 32 s.data.toList).2.1
  obtain ⟨f, HF⟩ := hid_intro (cutB 32 s.data.toList).2.2
  rw [← HA.out, ← HB.out, ← HF.out] at HC
  rw [← HB.out] at HD
  rw [← HA.out, ← HB.out]
  obtain ⟨a2, HA2⟩ := hid_intro (cutB 32 b).1
  obtain ⟨b2, HB2⟩ := hid_intro (cutB 32 b).2.1
  obtain ⟨f2, HF2⟩ := hid_intro (cutB 32 b).2.2
  rw [← HA2.out, ← HB2.out, ← HF2.out] at HD
  rw [← HA2.out, ← HB2.out]
  go_enter Tryz.func208, Tryz.ntmps208
  go_wp2_with (first
    | (go_at_call 163; refine (HC.out _).mono ?_; clear HC; rintro e w2 ⟨rfl, n1, hw2⟩; rw [hw2]; clear hw2)
    | (go_at_call 163; refine (HD.out _).mono ?_; clear HD; rintro e w3 ⟨rfl, n2, hw3⟩; rw [hw3]; clear hw3))
  have h3 := set3_block (w := (w.alloc (Obj.cells #[Value.string ⟨#[]⟩, Value.string ⟨#[]⟩, Value.string ⟨#[]⟩] 86)).drewN (n1 + n2)) (heap_alloc_new w _) (.string ⟨a.toArray⟩) (.string ⟨a2.toArray⟩) (.string ⟨b2.toArray⟩)
  exact bodyPost_ret_by (results_cell_row Tryz.results208 _ _ w.heap.size 86 _ (0, 0) _ rfl h3 Tryz.underlying86 rfl sizeLocked) rfl ⟨rfl, set3_below (below_drewN ((Below.refl _ w).alloc (Nat.le_refl _) _) _) (Nat.le_refl _) _ _ _⟩

/-- the cells of some modules -/
def mcells (l : List M) : List Value := l.flatMap fun m => [.string ⟨m.n.toArray⟩, .string ⟨m.v.toArray⟩, .string ⟨m.d.toArray⟩]
theorem mcells_len (l : List M) : (mcells l).length = l.length * 3 := by
  induction l with
  | nil => rfl
  | cons m l ih => simp [mcells] at ih ⊢; omega
theorem mcells_snoc (l : List M) (m : M) : mcells (l ++ [m]) = mcells l ++ [.string ⟨m.n.toArray⟩, .string ⟨m.v.toArray⟩, .string ⟨m.d.toArray⟩] := by simp [mcells]
theorem mcells_get : ∀ (l : List M) (j : Nat) (m : M), l[j]? = some m → (mcells l)[j * 3]? = some (.string ⟨m.n.toArray⟩) ∧ (mcells l)[j * 3 + 1]? = some (.string ⟨m.v.toArray⟩) ∧ (mcells l)[j * 3 + 2]? = some (.string ⟨m.d.toArray⟩)
  | [], j, en, h => by simp at h
  | e :: l, 0, en, h => by
    have : e = en := by simpa using h
    subst this
    simp [mcells]
  | e :: l, j + 1, en, h => by
    have ih := mcells_get l j en (by simpa using h)
    have e2 : mcells (e :: l) = .string ⟨e.n.toArray⟩ :: .string ⟨e.v.toArray⟩ :: .string ⟨e.d.toArray⟩ :: mcells l := by simp [mcells]
    rw [e2, show (j + 1) * 3 = j * 3 + 1 + 1 + 1 by omega, show j * 3 + 1 + 1 + 1 + 1 = (j * 3 + 1) + 1 + 1 + 1 from rfl, show j * 3 + 1 + 1 + 1 + 2 = (j * 3 + 2) + 1 + 1 + 1 from rfl]
    simp only [List.getElem?_cons_succ]
    exact ih
/-- some modules lie at a place -/
def At (w : World) (v : Value) (l : List M) : Prop := ∃ (ao : Option Addr) (cap : Nat), v = .slice ao l.length cap ∧ l.length ≤ cap ∧ (ao = none → l = []) ∧
  ∀ a, ao = some a → ∀ j m, l[j]? = some m → w.cell? (a.add (j * 3)) = some (.string ⟨m.n.toArray⟩) ∧ w.cell? (a.add (j * 3 + 1)) = some (.string ⟨m.v.toArray⟩) ∧ w.cell? (a.add (j * 3 + 2)) = some (.string ⟨m.d.toArray⟩)
end Go.Proofs.YtgfbbcnnmoamnaaGreatDoor.Lk

namespace Go.Proofs.YtgfbbcnnmoamnaaGreatDoor.Lk
open Go.RowKit Go.Proofs.YtgfbbcnnmoamnaaGreatDoor

/-- some modules lie from a block's head on -/
structure Row (w : World) (g : Nat) (l : List M) : Prop where
  lt : g < w.heap.size
  at0 : ∀ j m, l[j]? = some m → w.cell? ⟨g, j * 3, none⟩ = some (.string ⟨m.n.toArray⟩) ∧ w.cell? ⟨g, j * 3 + 1, none⟩ = some (.string ⟨m.v.toArray⟩) ∧ w.cell? ⟨g, j * 3 + 2, none⟩ = some (.string ⟨m.d.toArray⟩)
theorem Row.below {w w' : World} {g B : Nat} {l : List M} (h : Row w g l) (hb : Below B w w') (hg : g < B) : Row w' g l :=
  ⟨Nat.lt_of_lt_of_le h.lt hb.size, fun j m hj => by
    obtain ⟨h1, h2, h3⟩ := h.at0 j m hj
    exact ⟨(hb.cell hg).trans h1, (hb.cell hg).trans h2, (hb.cell hg).trans h3⟩⟩
theorem mayFollow_go (l : List M) (m : M) (g cap : Nat) (w : World) (hl : l.length ≤ 140737488355328) (hn : l ≠ []) (hr : Row w g l) (hm : okM m = true) (h10 : l.length < 10) :
    Calls Tryz.prog 209 #[.slice (some ⟨g, 0, none⟩) l.length cap, .agg (mv m)] w fun r w' => r = .returned (.bool (mayB l m)) ∧ Below w.heap.size w w' := by
  have hlen : 1 ≤ l.length := List.length_pos_iff.2 hn
  have hlast : l[l.length - 1]? = some (l.getLastD ⟨[], [], []⟩) := by
    rw [List.getLastD_eq_getLast?, List.getLast?_eq_getElem?]
    rw [List.getElem?_eq_getElem (by omega)]; rfl
  have hb : Below w.heap.size w (w.alloc (.cells (mv m) 86 (0, 0))) := (Below.refl _ w).alloc (Nat.le_refl _) _
  have hc := (hb.cell hr.lt).trans (hr.at0 _ _ hlast).1
  have hlt := hr.lt
  have HM : Hid (mayB l m = Op.bytesLess (l.getLastD ⟨[], [], []⟩).n m.n) := by
    show _ = _
    have he : l.isEmpty = false := by cases l with | nil => exact absurd rfl hn | cons a b => rfl
    simp [mayB, hm, he, h10]
  simp only [okM, Bool.and_eq_true] at hm
  obtain ⟨⟨h1, h2⟩, h3⟩ := hm
  obtain ⟨x, HX⟩ := hid_intro (l.getLastD ⟨[], [], []⟩).n
  rw [← HX.out] at hc
  obtain ⟨n, HN⟩ := hid_intro l.length
  rw [← HN.out] at hl hlen hc h10 ⊢
  unfold mv
  unfold mv at hc hb
  obtain ⟨p, hp⟩ : ∃ p, n = p + 1 := ⟨n - 1, by omega⟩
  rw [show n - 1 = p by omega] at hc
  have hw : IntKind.i64.wrap ((n : Int) - 1) = (p : Int) := by rw [IntKind.wrap_i64]; omega
  have hpn : p < n := by omega
  have HP := (show Hid _ from hp)
  clear hp
  have hz : ((n : Int) == 0) = false := beq_eq_false_iff_ne.2 (by omega)
  have hd : decide ((n : Int) < 10) = true := decide_eq_true (by omega)
  go_enter Tryz.func209, Tryz.ntmps209
  go_wp2_with (first
    | (go_at_call 167; refine (IsName_any _ _).mono ?_; rintro e w2 ⟨rfl, hw2⟩; rw [hw2]; clear hw2; first | rw [show nameB (ByteArray.mk m.n.toArray).data.toList = true from h1] | rw [show nameB (ByteArray.mk m.v.toArray).data.toList = true from h2])
    | (go_at_call 262; refine (IsText_any _ _).mono ?_; rintro e w2 ⟨rfl, hw2⟩; rw [hw2]; clear hw2; rw [show digB (ByteArray.mk m.d.toArray).data.toList = true from h3]))
  go_quiet (fail)
  go_wp2
  go_ret
  refine ⟨ret_bool ?_, below_drewN hb _⟩
  rw [HM.out, HX.out]

theorem mayFollow_no (l : List M) (m : M) (v : Value) (w : World) (hm : okM m = false) :
    Calls Tryz.prog 209 #[v, .agg (mv m)] w fun r w' => r = .returned (.bool (mayB l m)) ∧ Below w.heap.size w w' := by
  have e : mayB l m = false := by simp [mayB, hm]
  rw [e]
  have hb : Below w.heap.size w (w.alloc (.cells (mv m) 86 (0, 0))) := (Below.refl _ w).alloc (Nat.le_refl _) _
  simp only [okM] at hm
  unfold mv
  unfold mv at hb
  have HB := (show Hid _ from hb)
  clear hb
  cases h1 : nameB m.n with
  | false =>
    clear hm e
    go_enter Tryz.func209, Tryz.ntmps209
    go_wp2_with (go_at_call 167; refine (IsName_any _ _).mono ?_; rintro e w2 ⟨rfl, hw2⟩; rw [hw2]; clear hw2; rw [show nameB (ByteArray.mk m.n.toArray).data.toList = false from h1])
    go_ret
    exact ⟨rfl, HB.out⟩
  | true =>
    cases h2 : nameB m.v with
    | false =>
      clear hm e
      go_enter Tryz.func209, Tryz.ntmps209
      go_wp2_with (go_at_call 167; refine (IsName_any _ _).mono ?_; rintro e w2 ⟨rfl, hw2⟩; rw [hw2]; clear hw2; first | rw [show nameB (ByteArray.mk m.n.toArray).data.toList = true from h1] | rw [show nameB (ByteArray.mk m.v.toArray).data.toList = false from h2])
      go_ret
      exact ⟨rfl, HB.out⟩
    | true =>
      have h3 : digB m.d = false := by rw [h1, h2] at hm; simpa using hm
      clear hm e
      go_enter Tryz.func209, Tryz.ntmps209
      go_wp2_with (first
        | (go_at_call 167; refine (IsName_any _ _).mono ?_; rintro e w2 ⟨rfl, hw2⟩; rw [hw2]; clear hw2; first | rw [show nameB (ByteArray.mk m.n.toArray).data.toList = true from h1] | rw [show nameB (ByteArray.mk m.v.toArray).data.toList = true from h2])
        | (go_at_call 262; refine (IsText_any _ _).mono ?_; rintro e w2 ⟨rfl, hw2⟩; rw [hw2]; clear hw2; rw [show digB (ByteArray.mk m.d.toArray).data.toList = false from h3]))
      go_ret
      exact ⟨rfl, HB.out⟩
/-- where the number ahead settles it -/
theorem mayFollow_count (l : List M) (m : M) (ao : Option Addr) (cap : Nat) (w : World) (hl : l.length ≤ 140737488355328) (hm : okM m = true) (h10 : l.length = 0 ∨ 10 ≤ l.length) :
    Calls Tryz.prog 209 #[.slice ao l.length cap, .agg (mv m)] w fun r w' => r = .returned (.bool (mayB l m)) ∧ Below w.heap.size w w' := by
  have e : mayB l m = decide (l.length = 0) := by
    rcases h10 with h | h
    · rw [List.length_eq_zero_iff.1 h]; simp [mayB, hm]
    · have he : l.isEmpty = false := by cases l with | nil => simp at h | cons a b => rfl
      have h0 : l ≠ [] := fun e => by rw [e] at h; simp at h
      simp [mayB, hm, he, h0]; omega
  rw [e]
  have hb : Below w.heap.size w (w.alloc (.cells (mv m) 86 (0, 0))) := (Below.refl _ w).alloc (Nat.le_refl _) _
  simp only [okM, Bool.and_eq_true] at hm
  obtain ⟨⟨h1, h2⟩, h3⟩ := hm
  unfold mv
  unfold mv at hb
  have HB := (show Hid _ from hb)
  clear hb e
  obtain ⟨n, HN⟩ := hid_intro l.length
  rw [← HN.out] at hl h10 ⊢
  rcases h10 with h | h
  · have hz : ((n : Int) == 0) = true := beq_iff_eq.2 (by omega)
    have hz2 : decide (n = 0) = true := decide_eq_true h
    rw [hz2]
    have HH := (show Hid _ from h)
    clear h
    go_enter Tryz.func209, Tryz.ntmps209
    go_wp2_with (first
      | (go_at_call 167; refine (IsName_any _ _).mono ?_; rintro e w2 ⟨rfl, hw2⟩; rw [hw2]; clear hw2; first | rw [show nameB (ByteArray.mk m.n.toArray).data.toList = true from h1] | rw [show nameB (ByteArray.mk m.v.toArray).data.toList = true from h2])
      | (go_at_call 262; refine (IsText_any _ _).mono ?_; rintro e w2 ⟨rfl, hw2⟩; rw [hw2]; clear hw2; rw [show digB (ByteArray.mk m.d.toArray).data.toList = true from h3]))
    go_quiet (fail)
    go_wp2
    go_ret
    exact ⟨rfl, below_drewN HB.out _⟩
  · have hz : ((n : Int) == 0) = false := beq_eq_false_iff_ne.2 (by omega)
    have hd : decide ((n : Int) < 10) = false := decide_eq_false (by omega)
    have hz2 : decide (n = 0) = false := decide_eq_false (by omega)
    rw [hz2]
    go_enter Tryz.func209, Tryz.ntmps209
    go_wp2_with (first
      | (go_at_call 167; refine (IsName_any _ _).mono ?_; rintro e w2 ⟨rfl, hw2⟩; rw [hw2]; clear hw2; first | rw [show nameB (ByteArray.mk m.n.toArray).data.toList = true from h1] | rw [show nameB (ByteArray.mk m.v.toArray).data.toList = true from h2])
      | (go_at_call 262; refine (IsText_any _ _).mono ?_; rintro e w2 ⟨rfl, hw2⟩; rw [hw2]; clear hw2; rw [show digB (ByteArray.mk m.d.toArray).data.toList = true from h3]))
    go_quiet (fail)
    go_wp2
    go_ret
    exact ⟨rfl, below_drewN HB.out _⟩
theorem mayFollow_any (l : List M) (m : M) (v : Value) (w : World) (hl : l.length ≤ 140737488355328) (hv : (l = [] ∧ v = .slice none 0 0) ∨ ∃ g cap, v = .slice (some ⟨g, 0, none⟩) l.length cap ∧ Row w g l) :
    Calls Tryz.prog 209 #[v, .agg (mv m)] w fun r w' => r = .returned (.bool (mayB l m)) ∧ Below w.heap.size w w' := by
  cases hm : okM m with
  | false => exact mayFollow_no l m v w hm
  | true =>
    rcases hv with ⟨rfl, rfl⟩ | ⟨g, cap, rfl, hr⟩
    · exact mayFollow_count [] m none 0 w hl hm (.inl rfl)
    · rcases (by omega : l.length = 0 ∨ (1 ≤ l.length ∧ l.length < 10) ∨ 10 ≤ l.length) with h | h | h
      · exact mayFollow_count l m _ cap w hl hm (.inl h)
      · exact mayFollow_go l m g cap w hl (fun e => by rw [e] at h; simp at h) hr hm h.2
      · exact mayFollow_count l m _ cap w hl hm (.inr h)
end Go.Proofs.YtgfbbcnnmoamnaaGreatDoor.Lk

namespace Go.Proofs.YtgfbbcnnmoamnaaGreatDoor.Lk
open Go.RowKit Go.Proofs.YtgfbbcnnmoamnaaGreatDoor

theorem Row.of_own {w : World} {B g cap : Nat} {l : List M} (h : w.ownsRow B 86 3 (.slice (some ⟨g, 0, none⟩) l.length cap) l.length (mcells l)) : Row w g l := by
  rcases h.2 with ⟨hv, _⟩ | ⟨b, cap', cur, hv, h1, hb, h2, h3, h4, h5⟩
  · cases hv
  · injection hv with hv _ _
    injection hv with hv
    injection hv with hv
    subst hv
    refine ⟨lt_of_block hb, fun j m hj => ?_⟩
    have hjl := (List.getElem?_eq_some_iff.1 hj).1
    obtain ⟨c1, c2, c3⟩ := mcells_get l j m hj
    have key : ∀ i, i < l.length * 3 → cur[i]? = (mcells l)[i]? := fun i hi => by
      rw [← h5, List.getElem?_take_of_lt hi, Array.getElem?_toList]
    refine ⟨?_, ?_, ?_⟩
    · rw [cell_of_row _ _ _ _ _ _ hb, key _ (by omega)]; exact c1
    · rw [cell_of_row _ _ _ _ _ _ hb, key _ (by omega)]; exact c2
    · rw [cell_of_row _ _ _ _ _ _ hb, key _ (by omega)]; exact c3
theorem own_mods {w : World} {B : Nat} {v : Value} {l : List M} (h : w.ownsRow B 86 3 v l.length (mcells l)) : (l = [] ∧ v = .slice none 0 0) ∨ ∃ g cap, v = .slice (some ⟨g, 0, none⟩) l.length cap ∧ Row w g l := by
  rcases h.2 with ⟨hv, h0⟩ | ⟨b, cap, cur, hv, rest⟩
  · exact .inl ⟨List.length_eq_zero_iff.1 h0, hv⟩
  · subst hv
    exact .inr ⟨b, cap, rfl, Row.of_own h⟩
theorem infoLocked : (Tryz.prog.info? 86).map (fun i => (i.zero, i.size, i.bytes)) = some (some (.agg #[.string ⟨#[]⟩, .string ⟨#[]⟩, .string ⟨#[]⟩]), 3, 48) := by kernel_rfl
theorem str_ne {l : List UInt8} (h : l ≠ []) : (l == []) = false := beq_eq_false_iff_ne.2 h
def errOf (bad : Nat) : Int := if bad = 0 then 0 else 8
theorem cut_head_le {c : UInt8} (l : List UInt8) : (cutB c l).1.length ≤ l.length := by
  cases h : (cutB c l).2.2 with
  | true =>
    have := congrArg List.length (cut_hit h).1
    simp at this; omega
  | false => rw [(cut_miss h).1]; exact Nat.le_refl _
theorem cell_three_new (w : World) (a b c : Value) (t : TypeId) (j : Nat) (u : Value) (h : [a, b, c][j]? = some u) : (w.alloc (.cells #[a, b, c] t (0, 0))).cell? ⟨w.heap.size, j, none⟩ = some u := by
  rw [cell_of_row _ _ j _ _ _ (heap_alloc_new w _), ← h]; simp
theorem cell_three_add (w : World) (a b c : Value) (t : TypeId) (j : Nat) (u : Value) (h : [a, b, c][j]? = some u) : (w.alloc (.cells #[a, b, c] t (0, 0))).cell? ((⟨w.heap.size, 0, none⟩ : Addr).add j) = some u := by
  have e : (⟨w.heap.size, 0, none⟩ : Addr).add j = ⟨w.heap.size, j, none⟩ := by simp [Addr.add]; omega
  rw [e]; exact cell_three_new w a b c t j u h
set_option maxRecDepth 8000 in
set_option maxHeartbeats 1000000 in
theorem lRead_any (s : ByteArray) (hs : s.size ≤ 9223372036854775807) (w : World) : Calls Tryz.prog 140 #[.string s] w fun r w' => ∃ v, r = .returned (.tuple #[v, .int .i64 (errOf (readL s.data.toList []).1), .int .i64 ((readL s.data.toList []).1 : Int)]) ∧ w'.ownsRow w.heap.size 86 3 v (readL s.data.toList []).2.length (mcells (readL s.data.toList []).2) ∧ Below w.heap.size w w' := by
  obtain ⟨R, HR⟩ := hid_intro (readL s.data.toList [])
  rw [← HR.out]
  obtain ⟨i0, hi0, hz0, hz1, hz2⟩ := info_parts infoLocked
  go_enter Tryz.func140, Tryz.ntmps140
  go_wp2
  go_loopw [0, 5] (fun vs vo wr => ∃ (sl : List UInt8) (l : List M), vs = .string ⟨sl.toArray⟩ ∧ Hid (sl.length ≤ s.size) ∧ Hid (AllOk l) ∧ Hid (R = readL sl l) ∧ Hid (wr.ownsRow w.heap.size 86 3 vo l.length (mcells l)) ∧ Below w.heap.size w wr) (fun vs _ _ => match vs with | .string b => b.size | _ => 0)
  case atStart => exact ⟨s.data.toList, [], rfl, Nat.le_of_eq (len_data s), AllOk.nil, HR.out, World.ownsRow_nil _ _ _ _, Below.refl ..⟩
  case round =>
    obtain ⟨sl, l, rfl, HS, HA, HL, HO, hb⟩ := hrel
    have hbs := hb.size
    have h10 := HA.out.le
    by_cases h0 : sl = []
    · subst h0
      go_wp2
      go_ret3
      have e := HL.out
      rw [readL_end] at e
      subst e
      exact ⟨_, rfl, HO.out, hb⟩
    · have hne := str_ne h0
      have hz : (⟨sl.toArray⟩ : ByteArray).size ≤ 9223372036854775807 := by have := HS.out; simp [ByteArray.size]; omega
      have HC := (show Hid _ from sCut_one ⟨sl.toArray⟩ hz 10)
      rw [show (⟨sl.toArray⟩ : ByteArray).data.toList = sl by simp] at HC
      have hza : (⟨(cutB 10 sl).1.toArray⟩ : ByteArray).size ≤ 9223372036854775807 := by
        have e : (⟨(cutB 10 sl).1.toArray⟩ : ByteArray).size = (cutB 10 sl).1.length := by simp [ByteArray.size]
        have e2 : (cutB 10 sl).1.length ≤ sl.length := cut_head_le sl
        have := HS.out
        omega
      have HRL := (show Hid _ from readLine_any ⟨(cutB 10 sl).1.toArray⟩ hza)
      rw [show (⟨(cutB 10 sl).1.toArray⟩ : ByteArray).data.toList = (cutB 10 sl).1 by simp] at HRL
      have HB2 : Hid ((cutB 10 sl).2.1.length ≤ s.size) := Nat.le_trans (cut_rest_le sl) HS.out
      have HMF : Hid (∀ m w', Below wr.heap.size wr w' → Calls Tryz.prog 209 #[u5, .agg (mv m)] w' fun r w'' => r = .returned (.bool (mayB l m)) ∧ Below w'.heap.size w' w'') := fun m w' hb' => mayFollow_any l m u5 w' (by omega) (own_mods (own_below HO.out hb'))
      obtain ⟨n, HN⟩ := hid_intro l.length
      rw [← HN.out] at h10 HO
      cases hf : (cutB 10 sl).2.2 with
      | false =>
        obtain ⟨ao, cap, rfl⟩ := own_shape HO.out
        have HE := (show Hid _ from readL_miss (l := l) h0 hf)
        rw [hf] at HC
        clear hf HMF
        obtain ⟨a, HAA⟩ := hid_intro (cutB 10 sl).1
        obtain ⟨b, HBB⟩ := hid_intro (cutB 10 sl).2.1
        rw [← HAA.out, ← HBB.out] at HC
        rw [← HAA.out] at HRL
        obtain ⟨m, HMM⟩ := hid_intro (lineM a)
        rw [← HMM.out] at HRL
        go_wp2_with (first
          | (go_at_call 163; refine (HC.out _).mono ?_; clear HC; rintro e w2 ⟨rfl, n1, hw2⟩; rw [hw2]; clear hw2)
          | (go_at_call 208; refine (HRL.out _).mono ?_; clear HRL; rintro e w3 ⟨rfl, hb3⟩; have HB3 := (show Hid _ from hb3); clear hb3; unfold mv))
        go_ret3
        have hb3 : Below w.heap.size w w3 := hb.trans ((below_drewN (Below.refl _ wr) n1).trans (HB3.out.mono hbs))
        have eR := HL.out.trans HE.out
        refine ⟨_, ?_, by rw [eR]; exact World.ownsRow_nil _ _ _ _, hb3.alloc hb3.size _⟩
        rw [eR, ← HN.out]
        rfl
      | true =>
        cases hm : mayB l (lineM (cutB 10 sl).1) with
        | false =>
          obtain ⟨ao, cap, rfl⟩ := own_shape HO.out
          have HE := (show Hid _ from readL_bad (l := l) h0 hm)
          have HM2 := HMF.out (lineM (cutB 10 sl).1)
          rw [hm] at HM2
          have HMG := (show Hid _ from HM2)
          rw [hf] at HC
          clear hf HMF hm HM2
          obtain ⟨a, HAA⟩ := hid_intro (cutB 10 sl).1
          obtain ⟨b, HBB⟩ := hid_intro (cutB 10 sl).2.1
          rw [← HAA.out, ← HBB.out] at HC
          rw [← HAA.out] at HRL HMG
          obtain ⟨m, HMM⟩ := hid_intro (lineM a)
          rw [← HMM.out] at HRL HMG
          unfold mv at HMG
          go_wp2_with (first
            | (go_at_call 163; refine (HC.out _).mono ?_; clear HC; rintro e w2 ⟨rfl, n1, hw2⟩; rw [hw2]; clear hw2)
            | (go_at_call 208; refine (HRL.out _).mono ?_; clear HRL; rintro e w3 ⟨rfl, hb3⟩; have HB3 := (show Hid _ from hb3); clear hb3; unfold mv)
            | (go_at_call 209; refine (HMG.out _ (((below_drewN (Below.refl _ wr) n1).trans HB3.out).alloc (by have := HB3.out.size; simpa using this) _)).mono ?_; clear HMG; rintro e w4 ⟨rfl, hb4⟩; have HB4 := (show Hid _ from hb4); clear hb4))
          go_ret3
          have hb3 : Below w.heap.size w w3 := hb.trans ((below_drewN (Below.refl _ wr) n1).trans (HB3.out.mono hbs))
          have eR := HL.out.trans HE.out
          refine ⟨_, ?_, by rw [eR]; exact World.ownsRow_nil _ _ _ _, (hb3.alloc hb3.size _).trans (HB4.out.mono (by simp; have := hb3.size; omega))⟩
          rw [eR, ← HN.out]
          rfl
        | true =>
          have HE := (show Hid _ from readL_go (l := l) h0 hf hm)
          have HA2 : Hid (AllOk (l ++ [lineM (cutB 10 sl).1])) := HA.out.snoc hm
          have HM2 := HMF.out (lineM (cutB 10 sl).1)
          rw [hm] at HM2
          have HMG := (show Hid _ from HM2)
          rw [hf] at HC
          have HDEC := (show Hid _ from cut_rest_lt hf)
          clear hf HMF hm HM2
          obtain ⟨a, HAA⟩ := hid_intro (cutB 10 sl).1
          obtain ⟨b, HBB⟩ := hid_intro (cutB 10 sl).2.1
          rw [← HAA.out, ← HBB.out] at HC HE
          rw [← HBB.out] at HDEC HB2
          rw [← HAA.out] at HRL HMG HA2
          obtain ⟨m, HMM⟩ := hid_intro (lineM a)
          rw [← HMM.out] at HRL HMG HA2 HE
          unfold mv at HMG
          have HL2 : Hid (n + 1 = (l ++ [m]).length) := by show _ = _; rw [HN.out]; simp
          have HC2 := (show Hid _ from mcells_snoc l m)
          obtain ⟨E, HEE⟩ := hid_intro (mcells l)
          rw [← HEE.out] at HO HC2
          go_wp2_with (first
            | (go_at_call 163; refine (HC.out _).mono ?_; clear HC; rintro e w2 ⟨rfl, n1, hw2⟩; rw [hw2]; clear hw2)
            | (go_at_call 208; refine (HRL.out _).mono ?_; clear HRL; rintro e w3 ⟨rfl, hb3⟩; have HB3 := (show Hid _ from hb3); clear hb3; unfold mv)
            | (go_at_call 209; refine (HMG.out _ (((below_drewN (Below.refl _ wr) n1).trans HB3.out).alloc (by have := HB3.out.size; simpa using this) _)).mono ?_; clear HMG; rintro e w4 ⟨rfl, hb4⟩; have HB4 := (show Hid _ from hb4); have hc0 := (hb4.cell (p := ⟨w3.heap.size, 0, none⟩) (by simp)).trans (cell_three_new w3 _ _ _ 86 0 _ rfl); have hc1 := (hb4.cell (p := ⟨w3.heap.size, 1, none⟩) (by simp)).trans (cell_three_new w3 _ _ _ 86 1 _ rfl); have hc2 := (hb4.cell (p := ⟨w3.heap.size, 2, none⟩) (by simp)).trans (cell_three_new w3 _ _ _ 86 2 _ rfl); have HW4 : Hid (Below wr.heap.size wr w4) := (((below_drewN (Below.refl _ wr) n1).trans HB3.out).alloc (by have := HB3.out.size; simpa using this) _).trans (hb4.mono (by have := HB3.out.size; simp at this ⊢; omega)); clear hb4)
            | (at_builtin; refine wpList_append_lies _ rfl _ _ 29 rfl w.heap.size 86 i0 (.agg #[.string ⟨#[]⟩, .string ⟨#[]⟩, .string ⟨#[]⟩]) 3 48 Tryz.underlying29 hi0 hz0 hz1 hz2 rfl (by decide) _ n E rfl (World.ownsRow.alloc (own_below HO.out HW4.out) _) ⟨_, 0, none⟩ 1 1 [.string ⟨m.n.toArray⟩, .string ⟨m.v.toArray⟩, .string ⟨m.d.toArray⟩] rfl rfl (cell_three_add _ _ _ _ _) (by simp [Value.oneCell']) (by decide) (by unfold maxLen; omega) (by omega) (by simp; have := HW4.out.size; omega) _ rfl ?_; intro g2 cap2 w5 hown5 hg5 hat _; have HO5 := (show Hid _ from hown5); have HB5 : Hid (Below w.heap.size w w5) := grown_below ((hb.trans (HW4.out.mono hbs)).alloc (by have := HW4.out.size; omega) _) (World.ownsRow.alloc (own_below HO.out HW4.out) _) (Nat.le_refl _) (by simp; have := HW4.out.size; omega) hg5; clear hown5 hg5 hat))
          go_roundw
          case rel =>
            refine ⟨b, l ++ [m], rfl, HB2, HA2, HL.out.trans HE.out, ?_, HB5.out⟩
            rw [← HL2.out, HC2.out]
            exact HO5
          case measure =>
            have := HDEC.out
            simpa [ByteArray.size] using this
end Go.Proofs.YtgfbbcnnmoamnaaGreatDoor.Lk

namespace Go.Proofs.YtgfbbcnnmoamnaaGreatDoor.Lk
open Go.RowKit Go.Proofs.YtgfbbcnnmoamnaaGreatDoor

theorem name_of_all {l : List UInt8} (ha : l.all plainB = true) (h : ¬ (l = [] ∨ 16 < l.length ∨ l = [46] ∨ l = [46, 46])) : nameB l = true := by rw [name_all h]; exact ha
set_option maxRecDepth 8000 in
set_option maxHeartbeats 1000000 in
theorem rName_any (s : ByteArray) (hs : s.size ≤ 9223372036854775807) (w : World) : Calls Tryz.prog 144 #[.string s] w fun r w' => r = .returned (.bool (nameB s.data.toList)) ∧ w' = w := by
  have hl := len_data s
  have hx : ∀ (i : Nat) (h : i < s.size) (w : World), (Instr.index 9 (.string s) (.int .i64 (i : Int))).run Tryz.prog w = .ok (.int .u8 ((s.data.toList.getD i 0).toNat : Int)) w := fun i h w => by
    rw [idx_str s i i rfl h w, byte_at s i h]
  have he := ByteArray.toList_eq s
  obtain ⟨l, HL⟩ := hid_intro s.data.toList
  rw [← HL.out] at hl hx he ⊢
  have HX := (show Hid _ from hx)
  have HE := (show Hid _ from he)
  have HLL := (show Hid _ from hl)
  clear hx he hl
  go_enter Tryz.func144, Tryz.ntmps144
  go_wp2
  go_loopw [3] (fun vi wr => ∃ i : Nat, i ≤ s.size ∧ vi = .int .i64 i ∧ wr = w ∧ Hid (∀ j, j < i → plainB (l.getD j 0) = true)) (fun vi _ => s.size - (intOf vi).toNat)
  case atStart => exact ⟨0, by omega, rfl, rfl, fun j hj => by omega⟩
  case round =>
    obtain ⟨i, hi, rfl, hw, HA⟩ := hrel
    rw [hw]; clear hw
    by_cases hlt : i < s.size
    · have hix := fun w => HX.out i hlt w
      obtain ⟨c, HC⟩ := hid_intro (l.getD i 0)
      rw [← HC.out] at hix
      obtain ⟨k, HK⟩ := hid_intro c.toNat
      rw [← HK.out] at hix
      have HT : plainN k = true → Hid (∀ j, j < i + 1 → plainB (l.getD j 0) = true) := fun h j hj => by
        by_cases e : j = i
        · rw [e, ← HC.out, plainB_eq, ← HK.out]; exact h
        · exact HA.out j (by omega)
      have HN : plainN k = false → Hid (nameB l = false) := fun h => by
        show _ = _
        have h1 := all_at (p := plainB) (l := l) (i := i) (by have := HLL.out; omega) (by rw [← HC.out, plainB_eq, ← HK.out]; exact h)
        simp [nameB, h1]
      rcases (by omega : k < 45 ∨ k = 45 ∨ k = 46 ∨ k = 47 ∨ (48 ≤ k ∧ k ≤ 57) ∨ (58 ≤ k ∧ k ≤ 64) ∨ (65 ≤ k ∧ k ≤ 90) ∨ (91 ≤ k ∧ k ≤ 94) ∨ k = 95 ∨ k = 96 ∨ (97 ≤ k ∧ k ≤ 122) ∨ 123 ≤ k) with h | h | h | h | h | h | h | h | h | h | h | h
      · have HP := HN (plain_false (by omega))
        clear HT HN HA
        have hp1 : ((k : Int) == 46) = false := beq_eq_false_iff_ne.2 (by omega)
        have hp2 : ((k : Int) == 95) = false := beq_eq_false_iff_ne.2 (by omega)
        have hp3 : ((k : Int) == 45) = false := beq_eq_false_iff_ne.2 (by omega)
        go_wp2
        go_ret
        exact ⟨ret_bool HP.out.symm, rfl⟩
      · have HP := HT (plain_true (by omega))
        clear HT HN HA
        rw [h] at hix
        go_wp2
        go_roundw
        case rel => exact ⟨i + 1, by omega, by go_num, by first | rfl | trivial, HP⟩
        case measure => simp [intOf]; omega
      · have HP := HT (plain_true (by omega))
        clear HT HN HA
        rw [h] at hix
        go_wp2
        go_roundw
        case rel => exact ⟨i + 1, by omega, by go_num, by first | rfl | trivial, HP⟩
        case measure => simp [intOf]; omega
      · have HP := HN (plain_false (by omega))
        clear HT HN HA
        rw [h] at hix
        go_wp2
        go_ret
        exact ⟨ret_bool HP.out.symm, rfl⟩
      · have HP := HT (plain_true (by omega))
        clear HT HN HA
        go_wp2
        go_roundw
        case rel => exact ⟨i + 1, by omega, by go_num, by first | rfl | trivial, HP⟩
        case measure => simp [intOf]; omega
      · have HP := HN (plain_false (by omega))
        clear HT HN HA
        have hp1 : ((k : Int) == 46) = false := beq_eq_false_iff_ne.2 (by omega)
        have hp2 : ((k : Int) == 95) = false := beq_eq_false_iff_ne.2 (by omega)
        have hp3 : ((k : Int) == 45) = false := beq_eq_false_iff_ne.2 (by omega)
        have hd1 : decide ((k : Int) ≤ 57) = false := decide_eq_false (by omega)
        go_wp2
        go_ret
        exact ⟨ret_bool HP.out.symm, rfl⟩
      · have HP := HT (plain_true (by omega))
        clear HT HN HA
        go_wp2
        go_roundw
        case rel => exact ⟨i + 1, by omega, by go_num, by first | rfl | trivial, HP⟩
        case measure => simp [intOf]; omega
      · have HP := HN (plain_false (by omega))
        clear HT HN HA
        have hp1 : ((k : Int) == 46) = false := beq_eq_false_iff_ne.2 (by omega)
        have hp2 : ((k : Int) == 95) = false := beq_eq_false_iff_ne.2 (by omega)
        have hp3 : ((k : Int) == 45) = false := beq_eq_false_iff_ne.2 (by omega)
        have hd1 : decide ((k : Int) ≤ 57) = false := decide_eq_false (by omega)
        have hd2 : decide ((k : Int) ≤ 90) = false := decide_eq_false (by omega)
        go_wp2
        go_ret
        exact ⟨ret_bool HP.out.symm, rfl⟩
      · have HP := HT (plain_true (by omega))
        clear HT HN HA
        rw [h] at hix
        go_wp2
        go_roundw
        case rel => exact ⟨i + 1, by omega, by go_num, by first | rfl | trivial, HP⟩
        case measure => simp [intOf]; omega
      · have HP := HN (plain_false (by omega))
        clear HT HN HA
        rw [h] at hix
        go_wp2
        go_ret
        exact ⟨ret_bool HP.out.symm, rfl⟩
      · have HP := HT (plain_true (by omega))
        clear HT HN HA
        go_wp2
        go_roundw
        case rel => exact ⟨i + 1, by omega, by go_num, by first | rfl | trivial, HP⟩
        case measure => simp [intOf]; omega
      · have HP := HN (plain_false (by omega))
        clear HT HN HA
        have hp1 : ((k : Int) == 46) = false := beq_eq_false_iff_ne.2 (by omega)
        have hp2 : ((k : Int) == 95) = false := beq_eq_false_iff_ne.2 (by omega)
        have hp3 : ((k : Int) == 45) = false := beq_eq_false_iff_ne.2 (by omega)
        have hd1 : decide ((k : Int) ≤ 57) = false := decide_eq_false (by omega)
        have hd2 : decide ((k : Int) ≤ 90) = false := decide_eq_false (by omega)
        have hd3 : decide ((k : Int) ≤ 122) = false := decide_eq_false (by omega)
        go_wp2
        go_ret
        exact ⟨ret_bool HP.out.symm, rfl⟩
    · obtain rfl : i = s.size := by omega
      have hall := all_upto (p := plainB) (l := l) (fun j hj => HA.out j (by have := HLL.out; omega))
      clear HA HX
      by_cases hb : l = [] ∨ 16 < l.length ∨ l = [46] ∨ l = [46, 46]
      · have HP := (show Hid _ from name_false hb)
        have he := HE.out
        have hl := HLL.out
        rcases hb with h | h | h | h
        · rw [h] at he hl
          have h1 : s.size = 0 := by simpa using hl.symm
          clear hall
          go_wp2
          go_ret
          exact ⟨ret_bool HP.out.symm, rfl⟩
        · have h1 : 16 < s.size := by omega
          clear hall he hl
          go_wp2
          go_ret
          exact ⟨ret_bool HP.out.symm, rfl⟩
        · rw [h] at he hl
          have h1 : s.size = 1 := by simpa using hl.symm
          clear hall
          go_wp2
          go_ret
          exact ⟨ret_bool HP.out.symm, rfl⟩
        · rw [h] at he hl
          have h1 : s.size = 2 := by simpa using hl.symm
          clear hall
          go_wp2
          go_ret
          exact ⟨ret_bool HP.out.symm, rfl⟩
      · have HP := (show Hid _ from name_of_all hall hb)
        have he := HE.out
        have hl := HLL.out
        have h1 : s.size ≤ 16 := by
          rcases Nat.lt_or_ge 16 l.length with e | e
          · exact absurd (.inr (.inl e)) hb
          · omega
        have h0 : 1 ≤ s.size := by
          rcases Nat.eq_zero_or_pos l.length with e | e
          · exact absurd (.inl (List.length_eq_zero_iff.1 e)) hb
          · omega
        have h2 : (s.toList == [46]) = false := by rw [he]; exact beq_eq_false_iff_ne.2 fun e => hb (.inr (.inr (.inl e)))
        have h3 : (s.toList == [46, 46]) = false := by rw [he]; exact beq_eq_false_iff_ne.2 fun e => hb (.inr (.inr (.inr e)))
        clear he hb hall hl
        go_wp2
        go_ret
        exact ⟨ret_bool HP.out.symm, rfl⟩

def hexN (c : Nat) : Bool := (48 ≤ c && c ≤ 57) || (97 ≤ c && c ≤ 102)
theorem hexB_eq (c : UInt8) : hexB c = hexN c.toNat := rfl
theorem hex_true {c : Nat} (h : (48 ≤ c ∧ c ≤ 57) ∨ (97 ≤ c ∧ c ≤ 102)) : hexN c = true := by
  simp only [hexN, Bool.or_eq_true, Bool.and_eq_true, decide_eq_true_eq]; omega
theorem hex_false {c : Nat} (h : ¬ ((48 ≤ c ∧ c ≤ 57) ∨ (97 ≤ c ∧ c ≤ 102))) : hexN c = false := by
  cases e : hexN c with
  | false => rfl
  | true =>
    exfalso; apply h
    simpa only [hexN, Bool.or_eq_true, Bool.and_eq_true, decide_eq_true_eq] using e
set_option maxRecDepth 8000 in
set_option maxHeartbeats 1000000 in
theorem rdigest_any (s : ByteArray) (hs : s.size ≤ 9223372036854775807) (w : World) : Calls Tryz.prog 145 #[.string s] w fun r w' => r = .returned (.bool (digB s.data.toList)) ∧ w' = w := by
  have hl := len_data s
  have hx : ∀ (i : Nat) (h : i < s.size) (w : World), (Instr.index 9 (.string s) (.int .i64 (i : Int))).run Tryz.prog w = .ok (.int .u8 ((s.data.toList.getD i 0).toNat : Int)) w := fun i h w => by
    rw [idx_str s i i rfl h w, byte_at s i h]
  obtain ⟨l, HL⟩ := hid_intro s.data.toList
  rw [← HL.out] at hl hx ⊢
  have HX := (show Hid _ from hx)
  have HLL := (show Hid _ from hl)
  clear hx hl
  go_enter Tryz.func145, Tryz.ntmps145
  go_wp2
  go_loopw [3] (fun vi wr => ∃ i : Nat, i ≤ s.size ∧ vi = .int .i64 i ∧ wr = w ∧ Hid (∀ j, j < i → hexB (l.getD j 0) = true)) (fun vi _ => s.size - (intOf vi).toNat)
  case atStart => exact ⟨0, by omega, rfl, rfl, fun j hj => by omega⟩
  case round =>
    obtain ⟨i, hi, rfl, hw, HA⟩ := hrel
    rw [hw]; clear hw
    by_cases hlt : i < s.size
    · have hix := fun w => HX.out i hlt w
      obtain ⟨c, HC⟩ := hid_intro (l.getD i 0)
      rw [← HC.out] at hix
      obtain ⟨k, HK⟩ := hid_intro c.toNat
      rw [← HK.out] at hix
      have HT : hexN k = true → Hid (∀ j, j < i + 1 → hexB (l.getD j 0) = true) := fun h j hj => by
        by_cases e : j = i
        · rw [e, ← HC.out, hexB_eq, ← HK.out]; exact h
        · exact HA.out j (by omega)
      have HN : hexN k = false → Hid (digB l = false) := fun h => by
        show _ = _
        have h1 := all_at (p := hexB) (l := l) (i := i) (by have := HLL.out; omega) (by rw [← HC.out, hexB_eq, ← HK.out]; exact h)
        simp [digB, h1]
      rcases (by omega : k < 48 ∨ (48 ≤ k ∧ k ≤ 57) ∨ (58 ≤ k ∧ k ≤ 96) ∨ (97 ≤ k ∧ k ≤ 102) ∨ 103 ≤ k) with h | h | h | h | h
      · have HP := HN (hex_false (by omega))
        clear HT HN HA
        go_wp2
        go_ret
        exact ⟨ret_bool HP.out.symm, rfl⟩
      · have HP := HT (hex_true (by omega))
        clear HT HN HA
        go_wp2
        go_roundw
        case rel => exact ⟨i + 1, by omega, by go_num, by first | rfl | trivial, HP⟩
        case measure => simp [intOf]; omega
      · have HP := HN (hex_false (by omega))
        clear HT HN HA
        go_wp2
        go_ret
        exact ⟨ret_bool HP.out.symm, rfl⟩
      · have HP := HT (hex_true (by omega))
        clear HT HN HA
        go_wp2
        go_roundw
        case rel => exact ⟨i + 1, by omega, by go_num, by first | rfl | trivial, HP⟩
        case measure => simp [intOf]; omega
      · have HP := HN (hex_false (by omega))
        clear HT HN HA
        go_wp2
        go_ret
        exact ⟨ret_bool HP.out.symm, rfl⟩
    · obtain rfl : i = s.size := by omega
      have hall := all_upto (p := hexB) (l := l) (fun j hj => HA.out j (by have := HLL.out; omega))
      have HP : Hid (digB l = ((s.size : Int) == 64)) := by
        show _ = _
        have := HLL.out
        rw [digB, hall, this, Bool.true_and]
        by_cases e : s.size = 64
        · rw [decide_eq_true e]; exact (beq_iff_eq.2 (by omega)).symm
        · rw [decide_eq_false e]; exact (beq_eq_false_iff_ne.2 (by omega)).symm
      clear HA HX hall
      go_wp2
      go_ret
      exact ⟨ret_bool HP.out.symm, rfl⟩
end Go.Proofs.YtgfbbcnnmoamnaaGreatDoor.Lk

namespace Go.Proofs.YtgfbbcnnmoamnaaGreatDoor.Lk
open Go.RowKit Go.Proofs.YtgfbbcnnmoamnaaGreatDoor

theorem getD_mem' {l : List UInt8} {i : Nat} (h : i < l.length) : l.getD i 0 ∈ l := by
  rw [List.getD_eq_getElem?_getD, List.getElem?_eq_getElem h]; exact List.getElem_mem _
theorem split_at {l : List UInt8} {i : Nat} (h : i < l.length) : l = l.take i ++ l.getD i 0 :: l.drop (i + 1) := by
  have e := List.take_append_drop i l
  have e2 : l.drop i = l.getD i 0 :: l.drop (i + 1) := by
    rw [List.drop_eq_getElem_cons h, List.getD_eq_getElem?_getD, List.getElem?_eq_getElem h]; rfl
  rw [e2] at e; exact e.symm
theorem not_in_take {l : List UInt8} {c : UInt8} {i : Nat} (h : ∀ j, j < i → l.getD j 0 ≠ c) : c ∉ l.take i := by
  intro hm
  obtain ⟨j, hj, e⟩ := List.getElem_of_mem hm
  have hj2 : j < i ∧ j < l.length := by simp at hj; omega
  refine h j hj2.1 ?_
  rw [List.getD_eq_getElem?_getD, List.getElem?_eq_getElem hj2.2, ← e]; simp
theorem not_in {l : List UInt8} {c : UInt8} (h : ∀ j, j < l.length → l.getD j 0 ≠ c) : c ∉ l := by
  have := not_in_take (l := l) (c := c) (i := l.length) h
  rwa [List.take_length] at this
theorem cut_at {l : List UInt8} {c : UInt8} {i : Nat} (hi : i < l.length) (h : ∀ j, j < i → l.getD j 0 ≠ c) (hc : l.getD i 0 = c) : cutB c l = (l.take i, l.drop (i + 1), true) := by
  have e := split_at hi
  rw [hc] at e
  have := cut_of_hit (c := c) (a := l.take i) (b := l.drop (i + 1)) (not_in_take h)
  rw [← e] at this; exact this
theorem byte_eq {x c : UInt8} : ((x.toNat : Int) == (c.toNat : Int)) = decide (x = c) := by
  by_cases h : x = c
  · subst h; simp
  · rw [decide_eq_false h]; exact beq_eq_false_iff_ne.2 (fun e => h (UInt8.toNat_inj.1 (by omega)))
set_option maxRecDepth 8000 in
theorem rline_any (s : ByteArray) (hs : s.size ≤ 9223372036854775807) (w : World) : Calls Tryz.prog 141 #[.string s] w fun r w' => r = .returned (.tuple #[.string ⟨(cutB 10 s.data.toList).1.toArray⟩, .string ⟨(cutB 10 s.data.toList).2.1.toArray⟩, .bool (cutB 10 s.data.toList).2.2]) ∧ ∃ n, w' = w.drewN n := by
  have hl := len_data s
  have hx : ∀ (i : Nat) (h : i < s.size) (w : World), (Instr.index 9 (.string s) (.int .i64 (i : Int))).run Tryz.prog w = .ok (.int .u8 ((s.data.toList.getD i 0).toNat : Int)) w := fun i h w => by
    rw [idx_str s i i rfl h w, byte_at s i h]
  have hme : s = ⟨s.data.toList.toArray⟩ := by cases s; simp
  have hex := extract_list s
  obtain ⟨l, HL⟩ := hid_intro s.data.toList
  rw [← HL.out] at hl hx hex ⊢
  rw [← HL.out] at hme
  have HX := (show Hid _ from hx)
  have HLL := (show Hid _ from hl)
  have HME := (show Hid _ from hme)
  have HEX := (show Hid _ from hex)
  clear hx hl hme hex
  go_enter Tryz.func141, Tryz.ntmps141
  go_wp2
  go_loopw [5] (fun vi wr => ∃ i : Nat, i ≤ s.size ∧ vi = .int .i64 i ∧ wr = w ∧ Hid (∀ j, j < i → l.getD j 0 ≠ 10)) (fun vi _ => s.size - (intOf vi).toNat)
  case atStart => exact ⟨0, by omega, rfl, rfl, fun j hj => by omega⟩
  case round =>
    obtain ⟨i, hi, rfl, hw, HA⟩ := hrel
    rw [hw]; clear hw
    by_cases hlt : i < s.size
    · have hix := fun w => HX.out i hlt w
      have hb := byte_eq (x := l.getD i 0) (c := 10)
      by_cases hc : l.getD i 0 = 10
      · have HP := (show Hid _ from cut_at (by have := HLL.out; omega) HA.out hc)
        rw [decide_eq_true hc] at hb
        have s1 := fun w => sl_to s i i rfl (by omega) w
        have s2 := fun w => sl_from s (i + 1) (i + 1) (by omega) (by omega) w
        have hb2 : (((10 : UInt8).toNat : Int)) = 10 := rfl
        rw [hb2] at hb
        have hcn : (l.getD i 0).toNat = 10 := by rw [hc]; rfl
        rw [hcn] at hix
        clear hb hb2 hcn hc HA
        go_wp2
        go_quiet (fail)
        go_wp2
        go_ret3
        refine ⟨?_, _, rfl⟩
        rw [HP.out, HEX.out, HEX.out, ← HLL.out, List.take_length]
        rfl
      · have HA2 : Hid (∀ j, j < i + 1 → l.getD j 0 ≠ 10) := fun j hj => by
          by_cases e : j = i
          · rw [e]; exact hc
          · exact HA.out j (by omega)
        rw [decide_eq_false hc] at hb
        have hb2 : (((10 : UInt8).toNat : Int)) = 10 := rfl
        rw [hb2] at hb
        obtain ⟨k, HK⟩ := hid_intro (l.getD i 0).toNat
        rw [← HK.out] at hix hb
        clear hb2 hc HA
        go_wp2
        go_roundw
        case rel => exact ⟨i + 1, by omega, by go_num, by first | rfl | trivial, HA2⟩
        case measure => simp [intOf]; omega
    · obtain rfl : i = s.size := by omega
      have HP := (show Hid _ from cut_of_miss (not_in (fun j hj => HA.out j (by have := HLL.out; omega))))
      clear HA HX
      go_wp2
      go_ret3
      refine ⟨?_, 0, rfl⟩
      rw [HP.out, ← HME.out]
      rfl

theorem split_step {l : List UInt8} {c : UInt8} {f i : Nat} (hf : f ≤ i) (hi : i < l.length) (h : ∀ j, f ≤ j → j < i → l.getD j 0 ≠ c) (hc : l.getD i 0 = c) : splitB c (l.drop f) = (l.take i).drop f :: splitB c (l.drop (i + 1)) := by
  have hd : ∀ j, (l.drop f).getD j 0 = l.getD (f + j) 0 := fun j => by simp [List.getD_eq_getElem?_getD]
  have e := split_at (l := l.drop f) (i := i - f) (by simp; omega)
  rw [hd, show f + (i - f) = i by omega, hc, List.drop_drop, show f + (i - f + 1) = i + 1 by omega] at e
  have hn : c ∉ (l.drop f).take (i - f) := not_in_take fun j hj => by rw [hd]; exact h _ (by omega) (by omega)
  have := split_hit (c := c) (a := (l.drop f).take (i - f)) (b := l.drop (i + 1)) hn
  rw [← e] at this
  rw [this, List.drop_take]
theorem split_end {l : List UInt8} {c : UInt8} {f : Nat} (h : ∀ j, f ≤ j → j < l.length → l.getD j 0 ≠ c) : splitB c (l.drop f) = [l.drop f] :=
  split_miss (not_in fun j hj => by
    have : (l.drop f).getD j 0 = l.getD (f + j) 0 := by simp [List.getD_eq_getElem?_getD]
    rw [this]; exact h _ (by omega) (by simp at hj; omega))
/-- the cells of some texts -/
def scells (p : List (List UInt8)) : List Value := p.map fun x => .string ⟨x.toArray⟩
theorem scells_snoc (p : List (List UInt8)) (x : List UInt8) : scells (p ++ [x]) = scells p ++ [.string ⟨x.toArray⟩] := by simp [scells]
theorem infoStr : (Tryz.prog.info? 9).map (fun i => (i.zero, i.size, i.bytes)) = some (some (.string ⟨#[]⟩), 1, 16) := by kernel_rfl
theorem cell_one_add (w : World) (a : Value) (t : TypeId) (j : Nat) (u : Value) (h : [a][j]? = some u) : (w.alloc (.cells #[a] t (0, 0))).cell? ((⟨w.heap.size, 0, none⟩ : Addr).add j) = some u := by
  have e : (⟨w.heap.size, 0, none⟩ : Addr).add j = ⟨w.heap.size, j, none⟩ := by simp [Addr.add]; omega
  rw [e, cell_of_row _ _ j _ _ _ (heap_alloc_new w _), ← h]; simp
set_option maxRecDepth 8000 in
set_option maxHeartbeats 1000000 in
theorem rCut_any (s : ByteArray) (hs : s.size ≤ 1048576) (c : UInt8) (w : World) : Calls Tryz.prog 142 #[.string s, .int .u8 (c.toNat : Int)] w fun r w' => ∃ v, r = .returned v ∧ w'.ownsRow w.heap.size 9 1 v (splitB c s.data.toList).length (scells (splitB c s.data.toList)) ∧ Below w.heap.size w w' := by
  have hl := len_data s
  have hx : ∀ (i : Nat) (h : i < s.size) (w : World), (Instr.index 9 (.string s) (.int .i64 (i : Int))).run Tryz.prog w = .ok (.int .u8 ((s.data.toList.getD i 0).toNat : Int)) w := fun i h w => by
    rw [idx_str s i i rfl h w, byte_at s i h]
  have hex := extract_list s
  obtain ⟨l, HL⟩ := hid_intro s.data.toList
  rw [← HL.out] at hl hx hex ⊢
  have HX := (show Hid _ from hx)
  have HLL := (show Hid _ from hl)
  have HEX := (show Hid _ from hex)
  clear hx hl hex
  obtain ⟨i0, hi0, hz0, hz1, hz2⟩ := info_parts infoStr
  go_enter Tryz.func142, Tryz.ntmps142
  go_wp2
  go_loopw [5, 6, 7] (fun vo vf vi wr => ∃ (parts : List (List UInt8)) (f i : Nat), f ≤ i ∧ i ≤ s.size ∧ parts.length ≤ i ∧ vf = .int .i64 f ∧ vi = .int .i64 i ∧ Hid (splitB c l = parts ++ splitB c (l.drop f)) ∧ Hid (∀ j, f ≤ j → j < i → l.getD j 0 ≠ c) ∧ Hid (wr.ownsRow w.heap.size 9 1 vo parts.length (scells parts)) ∧ Below w.heap.size w wr) (fun _ _ vi _ => s.size - (intOf vi).toNat)
  case atStart => exact ⟨[], 0, 0, by omega, by omega, by simp, rfl, rfl, by show _ = _; simp, fun j _ hj => by omega, World.ownsRow_nil _ _ _ _, Below.refl ..⟩
  case round =>
    obtain ⟨parts, f, i, hfi, hi, hpl, rfl, rfl, HS, HA, HO, hb⟩ := hrel
    have hbs := hb.size
    by_cases hlt : i < s.size
    · have hix := fun w => HX.out i hlt w
      have hbe := byte_eq (x := l.getD i 0) (c := c)
      by_cases hc : l.getD i 0 = c
      · have hst := split_step hfi (by have := HLL.out; omega) HA.out hc
        have HS2 : Hid (splitB c l = (parts ++ [(l.take i).drop f]) ++ splitB c (l.drop (i + 1))) := by show _ = _; rw [HS.out, hst]; simp
        rw [decide_eq_true hc] at hbe
        have hsl := fun w => slice_str s f i f i rfl rfl hfi (by omega) w
        rw [HEX.out] at hsl
        have HL2 : Hid (parts.length + 1 = (parts ++ [(l.take i).drop f]).length) := by show _ = _; simp
        have HC2 := (show Hid _ from scells_snoc parts ((l.take i).drop f))
        obtain ⟨p, HP⟩ := hid_intro ((l.take i).drop f)
        rw [← HP.out] at hsl HS2 HL2 HC2
        obtain ⟨n, HN⟩ := hid_intro parts.length
        rw [← HN.out] at hpl HO HL2
        obtain ⟨E, HE⟩ := hid_intro (scells parts)
        rw [← HE.out] at HO HC2
        obtain ⟨k, HK⟩ := hid_intro (l.getD i 0).toNat
        rw [← HK.out] at hix hbe
        clear hst hc HA
        go_wp2_with (at_builtin; refine wpList_append_lies _ rfl _ _ 236 rfl w.heap.size 9 i0 (.string ⟨#[]⟩) 1 16 Tryz.underlying236 hi0 hz0 hz1 hz2 rfl (by decide) _ n E rfl (World.ownsRow.alloc HO.out _) ⟨_, 0, none⟩ 1 1 [.string ⟨p.toArray⟩] rfl rfl (cell_one_add _ _ _) (by simp [Value.oneCell']) (by decide) (by unfold maxLen; omega) (by omega) (by simp; omega) _ rfl ?_; intro g2 cap2 w5 hown5 hg5 hat _; have HO5 := (show Hid (w5.ownsRow w.heap.size 9 1 (.slice (some ⟨g2, 0, none⟩) (n + 1) cap2) (n + 1) (E ++ [.string ⟨p.toArray⟩])) from hown5); have HB5 : Hid (Below w.heap.size w w5) := grown_below (hb.alloc hbs _) (World.ownsRow.alloc HO.out _) (Nat.le_refl _) (by simp; omega) hg5; clear hown5 hg5 hat)
        go_roundw
        case rel =>
          refine ⟨parts ++ [p], i + 1, i + 1, by omega, by omega, by rw [← HL2.out]; omega, by go_num, by go_num, HS2, fun j h1 h2 => by omega, ?_, HB5.out⟩
          rw [← HL2.out, HC2.out]
          exact HO5
        case measure => simp [intOf]; omega
      · have HA2 : Hid (∀ j, f ≤ j → j < i + 1 → l.getD j 0 ≠ c) := fun j h1 h2 => by
          by_cases e : j = i
          · rw [e]; exact hc
          · exact HA.out j h1 (by omega)
        rw [decide_eq_false hc] at hbe
        obtain ⟨k, HK⟩ := hid_intro (l.getD i 0).toNat
        rw [← HK.out] at hix hbe
        clear hc HA
        go_wp2
        go_roundw
        case rel => exact ⟨parts, f, i + 1, by omega, by omega, by omega, rfl, by go_num, HS, HA2, HO, hb⟩
        case measure => simp [intOf]; omega
    · obtain rfl : i = s.size := by omega
      have hst := split_end (l := l) (c := c) (f := f) (fun j h1 h2 => HA.out j h1 (by have := HLL.out; omega))
      have HS2 : Hid (splitB c l = parts ++ [l.drop f]) := by show _ = _; rw [HS.out, hst]
      have hsl := fun w => sl_from s f f rfl hfi w
      rw [HEX.out, ← HLL.out, List.take_length] at hsl
      have HL2 : Hid (parts.length + 1 = (parts ++ [l.drop f]).length) := by show _ = _; simp
      have HC2 := (show Hid _ from scells_snoc parts (l.drop f))
      obtain ⟨p, HP⟩ := hid_intro (l.drop f)
      rw [← HP.out] at hsl HS2 HL2 HC2
      obtain ⟨n, HN⟩ := hid_intro parts.length
      rw [← HN.out] at hpl HO HL2
      obtain ⟨E, HE⟩ := hid_intro (scells parts)
      rw [← HE.out] at HO HC2
      clear HA HX hst HS
      go_wp2_with (at_builtin; refine wpList_append_lies _ rfl _ _ 236 rfl w.heap.size 9 i0 (.string ⟨#[]⟩) 1 16 Tryz.underlying236 hi0 hz0 hz1 hz2 rfl (by decide) _ n E rfl (World.ownsRow.alloc HO.out _) ⟨_, 0, none⟩ 1 1 [.string ⟨p.toArray⟩] rfl rfl (cell_one_add _ _ _) (by simp [Value.oneCell']) (by decide) (by unfold maxLen; omega) (by omega) (by simp; omega) _ rfl ?_; intro g2 cap2 w5 hown5 hg5 hat _; have HO5 := (show Hid (w5.ownsRow w.heap.size 9 1 (.slice (some ⟨g2, 0, none⟩) (n + 1) cap2) (n + 1) (E ++ [.string ⟨p.toArray⟩])) from hown5); have HB5 : Hid (Below w.heap.size w w5) := grown_below (hb.alloc hbs _) (World.ownsRow.alloc HO.out _) (Nat.le_refl _) (by simp; omega) hg5; clear hown5 hg5 hat)
      go_ret
      refine ⟨_, rfl, ?_, HB5.out⟩
      rw [HS2.out, ← HL2.out, HC2.out]
      exact HO5.out
end Go.Proofs.YtgfbbcnnmoamnaaGreatDoor.Lk

namespace Go.Proofs.YtgfbbcnnmoamnaaGreatDoor.Lk
open Go.RowKit Go.Proofs.YtgfbbcnnmoamnaaGreatDoor

/-- some modules lie wherever they lie -/
def Lies (w : World) (ao : Option Addr) (l : List M) : Prop := l = [] ∨ ∃ g o, ao = some ⟨g, o, none⟩ ∧ g < w.heap.size ∧
  ∀ j m, l[j]? = some m → w.cell? ⟨g, o + j * 3, none⟩ = some (.string ⟨m.n.toArray⟩) ∧ w.cell? ⟨g, o + j * 3 + 1, none⟩ = some (.string ⟨m.v.toArray⟩) ∧ w.cell? ⟨g, o + j * 3 + 2, none⟩ = some (.string ⟨m.d.toArray⟩)
theorem Row.lies {w : World} {g : Nat} {l : List M} (h : Row w g l) : Lies w (some ⟨g, 0, none⟩) l :=
  .inr ⟨g, 0, rfl, h.lt, fun j m hj => by simpa using h.at0 j m hj⟩
theorem Lies.below {w w' : World} {ao : Option Addr} {l : List M} (h : Lies w ao l) (hb : Below w.heap.size w w') : Lies w' ao l := by
  rcases h with h | ⟨g, o, h1, h2, h3⟩
  · exact .inl h
  · exact .inr ⟨g, o, h1, Nat.lt_of_lt_of_le h2 hb.size, fun j m hj => by
      obtain ⟨c1, c2, c3⟩ := h3 j m hj
      exact ⟨(hb.cell h2).trans c1, (hb.cell h2).trans c2, (hb.cell h2).trans c3⟩⟩
/-- no text of theirs is longer than a text may be -/
def Fit (l : List M) : Prop := ∀ m ∈ l, m.n.length ≤ 1048576 ∧ m.v.length ≤ 1048576 ∧ m.d.length ≤ 1048576

theorem okAt_of {l : List M} {i : Nat} {m : M} (h : l[i]? = some m) : okAt l i = mayB (l.take i) m := by
  unfold okAt; rw [List.getD_eq_getElem?_getD, h]; rfl
theorem okAt_no {l : List M} {i : Nat} {m : M} (h : l[i]? = some m) (hm : okM m = false) : okAt l i = false := by
  rw [okAt_of h]; simp [mayB, hm]
theorem okAt_big {l : List M} {i : Nat} {m : M} (h : l[i]? = some m) (hi : 10 ≤ i) : okAt l i = false := by
  have hl := (List.getElem?_eq_some_iff.1 h).1
  have ht : (l.take i).length = i := by simp; omega
  have he : (l.take i).isEmpty = false := by
    cases e : l.take i with
    | nil => rw [e] at ht; simp at ht; omega
    | cons a b => rfl
  rw [okAt_of h, mayB, he, ht, decide_eq_false (by omega)]; simp
theorem okAt_zero {l : List M} {m : M} (h : l[0]? = some m) (hm : okM m = true) : okAt l 0 = true := by
  rw [okAt_of h]; simp [mayB, hm]
theorem okAt_mid {l : List M} {p : Nat} {q m : M} (h : l[p + 1]? = some m) (hq : l[p]? = some q) (hm : okM m = true) (hi : p + 1 < 10) : okAt l (p + 1) = Op.bytesLess q.n m.n := by
  have hl := (List.getElem?_eq_some_iff.1 h).1
  have ht : (l.take (p + 1)).length = p + 1 := by simp; omega
  have he : (l.take (p + 1)).isEmpty = false := by
    cases e : l.take (p + 1) with
    | nil => rw [e] at ht; simp at ht
    | cons a b => rfl
  have hlast : (l.take (p + 1)).getLastD ⟨[], [], []⟩ = q := by
    rw [List.getLastD_eq_getLast?, List.getLast?_eq_getElem?, ht, List.getElem?_take_of_lt (by omega), show p + 1 - 1 = p by omega, hq]; rfl
  rw [okAt_of h, mayB, he, ht, hlast, hm, decide_eq_true hi]; simp
theorem size_of (l : List UInt8) : (⟨l.toArray⟩ : ByteArray).size = l.length := by simp [ByteArray.size]
set_option maxRecDepth 8000 in
set_option maxHeartbeats 1000000 in
theorem rLocks_any (l : List M) (hl : l.length ≤ 1048576) (hft : Fit l) (ao : Option Addr) (cap : Nat) (w : World) (hat : Lies w ao l) :
    Calls Tryz.prog 89 #[.slice ao l.length cap] w fun r w' => r = .returned (.int .i64 (firstBad l : Int)) ∧ ∃ q, w' = w.drewN q := by
  have HAT : Hid (Lies w ao l) := hat
  have HFT : Hid (Fit l) := hft
  clear hat hft
  obtain ⟨n, HN⟩ := hid_intro l.length
  rw [← HN.out] at hl ⊢
  go_enter Tryz.func89, Tryz.ntmps89
  go_wp2
  go_loopw [3] (fun vi wr => ∃ i q : Nat, i ≤ n ∧ vi = .int .i64 i ∧ wr = w.drewN q ∧ Hid (∀ j, j < i → okAt l j = true)) (fun vi _ => n - (intOf vi).toNat)
  case atStart => exact ⟨0, 0, by omega, rfl, rfl, fun j hj => by omega⟩
  case round =>
    obtain ⟨i, q, hi, rfl, hw, HA⟩ := hrel
    rw [hw]; clear hw
    by_cases hlt : i < n
    · obtain ⟨m, hm⟩ : ∃ m, l[i]? = some m := ⟨l[i]'(by rw [← HN.out]; exact hlt), List.getElem?_eq_getElem _⟩
      have hmm : m ∈ l := List.mem_of_getElem? hm
      obtain ⟨z1, z2, z3⟩ := HFT.out m hmm
      rcases HAT.out with h0 | ⟨g, o, rfl, hgl, hc⟩
      · rw [h0] at hm; simp at hm
      obtain ⟨c1, c2, c3⟩ := hc i m hm
      have HT : okAt l i = true → Hid (∀ j, j < i + 1 → okAt l j = true) := fun h j hj => by
        by_cases e : j = i
        · rw [e]; exact h
        · exact HA.out j (by omega)
      have HF : okAt l i = false → Hid (firstBad l = i + 1) := fun h => firstBad_at (by rw [← HN.out]; exact hlt) h HA.out
      have HM := (show Hid _ from hm)
      have HCC := (show Hid _ from hc)
      have HN1 := (show Hid _ from rName_any ⟨m.n.toArray⟩ (by rw [size_of]; omega))
      have HN2 := (show Hid _ from rName_any ⟨m.v.toArray⟩ (by rw [size_of]; omega))
      have HN3 := (show Hid _ from rdigest_any ⟨m.d.toArray⟩ (by rw [size_of]; omega))
      clear hm hmm z1 z2 z3 hc HA
      cases hk : okM m with
      | false =>
        have HP := HF (okAt_no HM.out hk)
        clear HT HF HCC
        simp only [okM] at hk
        have hk' : nameB m.n = false ∨ (nameB m.n = true ∧ nameB m.v = false) ∨ (nameB m.n = true ∧ nameB m.v = true ∧ digB m.d = false) := by
          cases a : nameB m.n <;> cases b : nameB m.v <;> cases c : digB m.d <;> simp_all
        clear hk
        rcases hk' with h1 | ⟨h1, h2⟩ | ⟨h1, h2, h3⟩
        · rw [show nameB (ByteArray.mk m.n.toArray).data.toList = false from h1] at HN1
          cases h2 : nameB m.v <;> cases h3 : digB m.d
          · rw [show nameB (ByteArray.mk m.v.toArray).data.toList = false from h2] at HN2
            rw [show digB (ByteArray.mk m.d.toArray).data.toList = false from h3] at HN3
            go_wp2_with (first
              | (go_at_call 144; refine (HN1.out _).mono ?_; clear HN1; rintro e w2 ⟨rfl, hw2⟩; rw [hw2]; clear hw2)
              | (go_at_call 144; refine (HN2.out _).mono ?_; clear HN2; rintro e w2 ⟨rfl, hw2⟩; rw [hw2]; clear hw2)
              | (go_at_call 145; refine (HN3.out _).mono ?_; clear HN3; rintro e w2 ⟨rfl, hw2⟩; rw [hw2]; clear hw2))
            go_quiet (fail)
            go_wp2
            go_ret
            exact ⟨by rw [HP.out]; go_num, _, rfl⟩
          · rw [show nameB (ByteArray.mk m.v.toArray).data.toList = false from h2] at HN2
            rw [show digB (ByteArray.mk m.d.toArray).data.toList = true from h3] at HN3
            go_wp2_with (first
              | (go_at_call 144; refine (HN1.out _).mono ?_; clear HN1; rintro e w2 ⟨rfl, hw2⟩; rw [hw2]; clear hw2)
              | (go_at_call 144; refine (HN2.out _).mono ?_; clear HN2; rintro e w2 ⟨rfl, hw2⟩; rw [hw2]; clear hw2)
              | (go_at_call 145; refine (HN3.out _).mono ?_; clear HN3; rintro e w2 ⟨rfl, hw2⟩; rw [hw2]; clear hw2))
            go_quiet (fail)
            go_wp2
            go_ret
            exact ⟨by rw [HP.out]; go_num, _, rfl⟩
          · rw [show nameB (ByteArray.mk m.v.toArray).data.toList = true from h2] at HN2
            rw [show digB (ByteArray.mk m.d.toArray).data.toList = false from h3] at HN3
            go_wp2_with (first
              | (go_at_call 144; refine (HN1.out _).mono ?_; clear HN1; rintro e w2 ⟨rfl, hw2⟩; rw [hw2]; clear hw2)
              | (go_at_call 144; refine (HN2.out _).mono ?_; clear HN2; rintro e w2 ⟨rfl, hw2⟩; rw [hw2]; clear hw2)
              | (go_at_call 145; refine (HN3.out _).mono ?_; clear HN3; rintro e w2 ⟨rfl, hw2⟩; rw [hw2]; clear hw2))
            go_quiet (fail)
            go_wp2
            go_ret
            exact ⟨by rw [HP.out]; go_num, _, rfl⟩
          · rw [show nameB (ByteArray.mk m.v.toArray).data.toList = true from h2] at HN2
            rw [show digB (ByteArray.mk m.d.toArray).data.toList = true from h3] at HN3
            go_wp2_with (first
              | (go_at_call 144; refine (HN1.out _).mono ?_; clear HN1; rintro e w2 ⟨rfl, hw2⟩; rw [hw2]; clear hw2)
              | (go_at_call 144; refine (HN2.out _).mono ?_; clear HN2; rintro e w2 ⟨rfl, hw2⟩; rw [hw2]; clear hw2)
              | (go_at_call 145; refine (HN3.out _).mono ?_; clear HN3; rintro e w2 ⟨rfl, hw2⟩; rw [hw2]; clear hw2))
            go_quiet (fail)
            go_wp2
            go_ret
            exact ⟨by rw [HP.out]; go_num, _, rfl⟩
        · rw [show nameB (ByteArray.mk m.n.toArray).data.toList = true from h1] at HN1
          rw [show nameB (ByteArray.mk m.v.toArray).data.toList = false from h2] at HN2
          cases h3 : digB m.d
          · rw [show digB (ByteArray.mk m.d.toArray).data.toList = false from h3] at HN3
            go_wp2_with (first
              | (go_at_call 144; refine (HN1.out _).mono ?_; clear HN1; rintro e w2 ⟨rfl, hw2⟩; rw [hw2]; clear hw2)
              | (go_at_call 144; refine (HN2.out _).mono ?_; clear HN2; rintro e w2 ⟨rfl, hw2⟩; rw [hw2]; clear hw2)
              | (go_at_call 145; refine (HN3.out _).mono ?_; clear HN3; rintro e w2 ⟨rfl, hw2⟩; rw [hw2]; clear hw2))
            go_quiet (fail)
            go_wp2
            go_ret
            exact ⟨by rw [HP.out]; go_num, _, rfl⟩
          · rw [show digB (ByteArray.mk m.d.toArray).data.toList = true from h3] at HN3
            go_wp2_with (first
              | (go_at_call 144; refine (HN1.out _).mono ?_; clear HN1; rintro e w2 ⟨rfl, hw2⟩; rw [hw2]; clear hw2)
              | (go_at_call 144; refine (HN2.out _).mono ?_; clear HN2; rintro e w2 ⟨rfl, hw2⟩; rw [hw2]; clear hw2)
              | (go_at_call 145; refine (HN3.out _).mono ?_; clear HN3; rintro e w2 ⟨rfl, hw2⟩; rw [hw2]; clear hw2))
            go_quiet (fail)
            go_wp2
            go_ret
            exact ⟨by rw [HP.out]; go_num, _, rfl⟩
        · rw [show nameB (ByteArray.mk m.n.toArray).data.toList = true from h1] at HN1
          rw [show nameB (ByteArray.mk m.v.toArray).data.toList = true from h2] at HN2
          rw [show digB (ByteArray.mk m.d.toArray).data.toList = false from h3] at HN3
          go_wp2_with (first
            | (go_at_call 144; refine (HN1.out _).mono ?_; clear HN1; rintro e w2 ⟨rfl, hw2⟩; rw [hw2]; clear hw2)
            | (go_at_call 144; refine (HN2.out _).mono ?_; clear HN2; rintro e w2 ⟨rfl, hw2⟩; rw [hw2]; clear hw2)
            | (go_at_call 145; refine (HN3.out _).mono ?_; clear HN3; rintro e w2 ⟨rfl, hw2⟩; rw [hw2]; clear hw2))
          go_quiet (fail)
          go_wp2
          go_ret
          exact ⟨by rw [HP.out]; go_num, _, rfl⟩
      | true =>
        have HK := (show Hid _ from hk)
        simp only [okM, Bool.and_eq_true] at hk
        obtain ⟨⟨h1, h2⟩, h3⟩ := hk
        rw [show nameB (ByteArray.mk m.n.toArray).data.toList = true from h1] at HN1
        rw [show nameB (ByteArray.mk m.v.toArray).data.toList = true from h2] at HN2
        rw [show digB (ByteArray.mk m.d.toArray).data.toList = true from h3] at HN3
        rcases (by omega : 10 ≤ i ∨ i = 0 ∨ (1 ≤ i ∧ i < 10)) with hi10 | hi0 | hi1
        · have HP := HF (okAt_big HM.out hi10)
          have d1 : decide (10 ≤ (i : Int)) = true := decide_eq_true (by omega)
          clear HT HF HCC
          go_wp2_with (first
            | (go_at_call 144; refine (HN1.out _).mono ?_; clear HN1; rintro e w2 ⟨rfl, hw2⟩; rw [hw2]; clear hw2)
            | (go_at_call 144; refine (HN2.out _).mono ?_; clear HN2; rintro e w2 ⟨rfl, hw2⟩; rw [hw2]; clear hw2)
            | (go_at_call 145; refine (HN3.out _).mono ?_; clear HN3; rintro e w2 ⟨rfl, hw2⟩; rw [hw2]; clear hw2))
          go_quiet (fail)
          go_wp2
          go_ret
          exact ⟨by rw [HP.out]; go_num, _, rfl⟩
        · have HP := HT (by have e := HM.out; rw [hi0] at e ⊢; exact okAt_zero e HK.out)
          have d1 : decide (10 ≤ (i : Int)) = false := decide_eq_false (by omega)
          have d2 : decide (0 < i) = false := decide_eq_false (by omega)
          have HI0 := (show Hid _ from hi0)
          clear HT HF HCC hi0
          go_wp2_with (first
            | (go_at_call 144; refine (HN1.out _).mono ?_; clear HN1; rintro e w2 ⟨rfl, hw2⟩; rw [hw2]; clear hw2)
            | (go_at_call 144; refine (HN2.out _).mono ?_; clear HN2; rintro e w2 ⟨rfl, hw2⟩; rw [hw2]; clear hw2)
            | (go_at_call 145; refine (HN3.out _).mono ?_; clear HN3; rintro e w2 ⟨rfl, hw2⟩; rw [hw2]; clear hw2))
          go_quiet (fail)
          go_wp2
          go_roundw
          case rel => exact ⟨i + 1, _, by omega, by go_num, by first | rfl | rw [World.drewN_drewN], HP⟩
          case measure => simp [intOf]; omega
        · obtain ⟨p, rfl⟩ : ∃ p, i = p + 1 := ⟨i - 1, by omega⟩
          obtain ⟨q0, hq0⟩ : ∃ q0, l[p]? = some q0 := ⟨l[p]'(by have := HN.out; omega), List.getElem?_eq_getElem _⟩
          have c0 := (HCC.out p q0 hq0).1
          have hok := okAt_mid HM.out hq0 HK.out (by omega)
          have d1 : decide (10 ≤ ((p + 1 : Nat) : Int)) = false := decide_eq_false (by omega)
          have d2 : decide (0 < p + 1) = true := decide_eq_true (by omega)
          obtain ⟨i, HI⟩ := hid_intro (p + 1)
          rw [← HI.out] at hi hlt HM HT HF hok d1 d2 hi1 c1 c2 c3 ⊢
          have hw : IntKind.i64.wrap ((i : Int) - 1) = (p : Int) := by rw [IntKind.wrap_i64]; have := HI.out; omega
          have hpn : p < n := by have := HI.out; omega
          clear hq0 HCC
          cases hb : Op.bytesLess q0.n m.n with
          | true =>
            have HP := HT (hok.trans hb)
            clear HT HF hok
            go_wp2_with (first
              | (go_at_call 144; refine (HN1.out _).mono ?_; clear HN1; rintro e w2 ⟨rfl, hw2⟩; rw [hw2]; clear hw2)
              | (go_at_call 144; refine (HN2.out _).mono ?_; clear HN2; rintro e w2 ⟨rfl, hw2⟩; rw [hw2]; clear hw2)
              | (go_at_call 145; refine (HN3.out _).mono ?_; clear HN3; rintro e w2 ⟨rfl, hw2⟩; rw [hw2]; clear hw2))
            go_quiet (fail)
            go_wp2
            go_roundw
            case rel => exact ⟨i + 1, _, by omega, by go_num, by first | rfl | rw [World.drewN_drewN], HP⟩
            case measure => simp [intOf]; omega
          | false =>
            have HP := HF (hok.trans hb)
            clear HT HF hok
            go_wp2_with (first
              | (go_at_call 144; refine (HN1.out _).mono ?_; clear HN1; rintro e w2 ⟨rfl, hw2⟩; rw [hw2]; clear hw2)
              | (go_at_call 144; refine (HN2.out _).mono ?_; clear HN2; rintro e w2 ⟨rfl, hw2⟩; rw [hw2]; clear hw2)
              | (go_at_call 145; refine (HN3.out _).mono ?_; clear HN3; rintro e w2 ⟨rfl, hw2⟩; rw [hw2]; clear hw2))
            go_quiet (fail)
            go_wp2
            go_ret
            exact ⟨by rw [HP.out]; go_num, _, rfl⟩
    · obtain rfl : i = n := by omega
      have HP := (show Hid _ from firstBad_none (l := l) (fun j hj => HA.out j (by rw [HN.out]; exact hj)))
      clear HA
      go_wp2
      go_ret
      exact ⟨by rw [HP.out]; rfl, _, rfl⟩
end Go.Proofs.YtgfbbcnnmoamnaaGreatDoor.Lk
