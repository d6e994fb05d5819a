/- Paths and lists of entries, purely. Parents and last names. What is a path: the document's look. A text parted at each byte: the program's library. What is a path: the program's look. Too many entries, the first that may not be. The first entry that may not be; where a path is. -/
import Derived.Test.YtgfbbcnnmoamnaaGreatDoorLkPure
import Derived.OwnWalk
namespace Go.Proofs.YtgfbbcnnmoamnaaGreatDoor.Tr
open Go.Proofs.YtgfbbcnnmoamnaaGreatDoor.Lk

/-- an entry -/
structure E where
  p : List UInt8
  dir : Bool
  b : List UInt8
/-- the last place of a byte -/
def lastI (c : UInt8) : List UInt8 → Option Nat
  | [] => none
  | x :: r => match lastI c r with
    | some i => some (i + 1)
    | none => if x = c then some 0 else none
theorem last_none {c : UInt8} : ∀ {l : List UInt8}, (∀ j, j < l.length → l.getD j 0 ≠ c) → lastI c l = none
  | [], _ => rfl
  | x :: r, h => by
    have ih : lastI c r = none := last_none fun j hj => by have := h (j + 1) (by simp; omega); simpa using this
    have hx : x ≠ c := by have := h 0 (by simp); simpa using this
    rw [lastI, ih]; simp [hx]
theorem last_at {c : UInt8} : ∀ {l : List UInt8} {i : Nat}, i < l.length → l.getD i 0 = c → (∀ j, i < j → j < l.length → l.getD j 0 ≠ c) → lastI c l = some i
  | [], i, h, _, _ => by simp at h
  | x :: r, 0, _, hc, h => by
    have ih : lastI c r = none := last_none fun j hj => by have := h (j + 1) (by omega) (by simp; omega); simpa using this
    have hx : x = c := by simpa using hc
    rw [lastI, ih]; simp [hx]
  | x :: r, i + 1, hi, hc, h => by
    have ih : lastI c r = some i := last_at (by simpa using hi) (by simpa using hc) fun j h1 h2 => by have := h (j + 1) (by omega) (by simp; omega); simpa using this
    rw [lastI, ih]
theorem last_lt {c : UInt8} : ∀ {l : List UInt8} {i : Nat}, lastI c l = some i → i < l.length
  | [], i, h => by cases h
  | x :: r, i, h => by
    rw [lastI] at h
    cases hr : lastI c r with
    | none =>
      rw [hr] at h
      simp only [] at h
      split at h
      · injection h with h; subst h; simp
      · cases h
    | some k =>
      rw [hr] at h
      injection h with h
      have := last_lt hr
      simp; omega
/-- a path's parent; its last name -/
def parentB (l : List UInt8) : List UInt8 := match lastI 47 l with
  | none => []
  | some i => l.take i
def lastB (l : List UInt8) : List UInt8 := match lastI 47 l with
  | none => l
  | some i => l.drop (i + 1)
def lastV (c : UInt8) (l : List UInt8) : Int := match lastI c l with
  | none => -1
  | some i => (i : Int)
/-- is it a path? -/
def pathB (l : List UInt8) : Bool := decide (l.length ≤ 64) && decide ((splitB 47 l).length ≤ 6) && (splitB 47 l).all nameB
/-- the first place of which something holds; n, if there is none below n -/
def firstI (p : Nat → Bool) : Nat → Nat → Nat
  | 0, i => i
  | f + 1, i => if p i then i else firstI p f (i + 1)
def firstN (p : Nat → Bool) (n : Nat) : Nat := firstI p n 0
theorem firstI_at {p : Nat → Bool} {i : Nat} (h : p i = true) : ∀ (f k : Nat), (∀ j, j < i → p j = false) → k ≤ i → i < k + f → firstI p f k = i
  | 0, k, _, _, h3 => by omega
  | f + 1, k, h1, h2, h3 => by
    rw [firstI]
    by_cases e : k = i
    · subst e; rw [if_pos h]
    · rw [if_neg (by rw [h1 k (by omega)]; exact Bool.false_ne_true)]
      exact firstI_at h f (k + 1) h1 (by omega) (by omega)
theorem firstN_at {p : Nat → Bool} {i n : Nat} (hi : i < n) (h : p i = true) (h1 : ∀ j, j < i → p j = false) : firstN p n = i := firstI_at h _ _ h1 (by omega) (by omega)
theorem firstI_none {p : Nat → Bool} : ∀ (f k : Nat), (∀ j, k ≤ j → j < k + f → p j = false) → firstI p f k = k + f
  | 0, k, _ => rfl
  | f + 1, k, h => by
    rw [firstI, if_neg (by rw [h k (Nat.le_refl _) (by omega)]; exact Bool.false_ne_true), firstI_none f (k + 1) fun j h1 h2 => h j (by omega) (by omega)]
    omega
theorem firstN_none {p : Nat → Bool} {n : Nat} (h : ∀ j, j < n → p j = false) : firstN p n = n := by
  have := firstI_none (p := p) n 0 fun j _ hj => h j (by omega)
  simpa [firstN] using this
theorem firstN_cases (p : Nat → Bool) (n : Nat) : (firstN p n = n ∧ ∀ j, j < n → p j = false) ∨ (firstN p n < n ∧ p (firstN p n) = true ∧ ∀ j, j < firstN p n → p j = false) := by
  by_cases h : ∀ j, j < n → p j = false
  · exact .inl ⟨firstN_none h, h⟩
  · right
    have h' : ∃ i, i < n ∧ p i = true := by
      apply Classical.byContradiction
      intro hc
      refine h fun j hj => ?_
      cases e : p j with
      | false => rfl
      | true => exact absurd ⟨j, hj, e⟩ hc
    obtain ⟨i, hi⟩ := h'
    induction i using Nat.strongRecOn with
    | _ i ih =>
      by_cases hx : ∃ j, j < i ∧ p j = true
      · obtain ⟨j, hj, hj2⟩ := hx
        exact ih j hj ⟨by omega, hj2⟩
      · have hb : ∀ j, j < i → p j = false := fun j hj => by
          cases e : p j with
          | false => rfl
          | true => exact absurd ⟨j, hj, e⟩ hx
        rw [firstN_at hi.1 hi.2 hb]
        exact ⟨hi.1, hi.2, hb⟩
/-- an entry, where there is none: nothing -/
def ze : E := ⟨[], false, []⟩
def getE (l : List E) (i : Nat) : E := l.getD i ze
/-- may an entry not be? -/
def badE (e : E) : Bool := !(pathB e.p) || (e.dir && !(e.b == []))
/-- the first place of a path -/
def atI (l : List E) (p : List UInt8) : Nat := firstN (fun i => (getE l i).p == p) l.length
def twiceE (l : List E) (i : Nat) : Bool := decide (atI l (getE l i).p < i)
def aloneE (l : List E) (i : Nat) : Bool := !(parentB (getE l i).p == []) && !(decide (atI l (parentB (getE l i).p) < l.length) && (getE l (atI l (parentB (getE l i).p))).dir)
def total (l : List E) : Nat := (l.map fun e => e.b.length).sum
/-- what is wrong first with a list, and where -/
def wrongE (l : List E) (most bytes : Nat) : Nat × Nat :=
  if l.length > most ∨ total l > bytes then (1, 0)
  else if firstN (fun i => badE (getE l i)) l.length < l.length then (2, firstN (fun i => badE (getE l i)) l.length)
  else if firstN (twiceE l) l.length < l.length then (3, firstN (twiceE l) l.length)
  else if firstN (aloneE l) l.length < l.length then (4, firstN (aloneE l) l.length)
  else (0, 0)
end Go.Proofs.YtgfbbcnnmoamnaaGreatDoor.Tr

namespace Go.Proofs.YtgfbbcnnmoamnaaGreatDoor.Tr
open Go.RowKit Go.Proofs.YtgfbbcnnmoamnaaGreatDoor Go.Proofs.YtgfbbcnnmoamnaaGreatDoor.Lk

set_option maxRecDepth 8000 in
theorem lastByte_any (s : ByteArray) (hs : s.size ≤ 9223372036854775807) (c : UInt8) (w : World) : Calls Tryz.prog 168 #[.string s, .int .u8 (c.toNat : Int)] w fun r w' => r = .returned (.int .i64 (lastV c s.data.toList)) ∧ w' = w := by
  have hl := len_data s
  have hx : ∀ (i : Nat) (h : i < s.size) (w : World), (Instr.index 9 (.string s) (.int .i64 (i : Int))).run Tryz.prog w = .ok (.int .u8 ((s.data.toList.getD i 0).toNat : Int)) w := fun i h w => by
    rw [idx_str s i i rfl h w, byte_at s i h]
  obtain ⟨l, HL⟩ := hid_intro s.data.toList
  rw [← HL.out] at hl hx ⊢
  have HX := (show Hid _ from hx)
  have HLL := (show Hid _ from hl)
  clear hx hl
  go_enter Tryz.func168, Tryz.ntmps168
  go_wp2
  go_loopw [5] (fun vi wr => ∃ k : Nat, k ≤ s.size ∧ vi = .int .i64 ((k : Int) - 1) ∧ wr = w ∧ Hid (∀ j, k ≤ j → j < l.length → l.getD j 0 ≠ c)) (fun vi _ => ((intOf vi) + 1).toNat)
  case atStart => exact ⟨s.size, by omega, by go_num, rfl, fun j h1 h2 => by have := HLL.out; omega⟩
  case round =>
    obtain ⟨k, hk, rfl, hw, HA⟩ := hrel
    rw [hw]; clear hw
    rcases k with _ | i
    · have HP : Hid (lastV c l = -1) := by show _ = _; rw [lastV, last_none fun j hj => HA.out j (by omega) hj]
      clear HA
      go_wp2
      go_ret
      exact ⟨by rw [HP.out]; rfl, rfl⟩
    · have hix := fun w => HX.out i (by omega) w
      have hbe := byte_eq (x := l.getD i 0) (c := c)
      have hki : (((i + 1 : Nat) : Int) - 1) = (i : Int) := by omega
      rw [hki]
      by_cases hc : l.getD i 0 = c
      · have HP : Hid (lastV c l = (i : Int)) := by show _ = _; rw [lastV, last_at (by have := HLL.out; omega) hc fun j h1 h2 => HA.out j (by omega) h2]
        rw [decide_eq_true hc] at hbe
        obtain ⟨x, HXX⟩ := hid_intro (l.getD i 0).toNat
        rw [← HXX.out] at hix hbe
        clear hc HA
        go_wp2
        go_ret
        exact ⟨by first | rw [HP.out]; rfl | rw [HP.out], rfl⟩
      · have HA2 : Hid (∀ j, i ≤ j → j < l.length → l.getD j 0 ≠ c) := fun j h1 h2 => by
          by_cases e : j = i
          · rw [e]; exact hc
          · exact HA.out j (by omega) h2
        rw [decide_eq_false hc] at hbe
        obtain ⟨x, HXX⟩ := hid_intro (l.getD i 0).toNat
        rw [← HXX.out] at hix hbe
        clear hc HA
        go_wp2
        go_roundw
        case rel => exact ⟨i, by omega, by go_num, by first | rfl | trivial, HA2⟩
        case measure => simp [intOf]

set_option maxRecDepth 8000 in
theorem lastIndex_one (s : ByteArray) (hs : s.size ≤ 9223372036854775807) (c : UInt8) (w : World) : Calls Tryz.prog 108 #[.string s, .string ⟨#[c]⟩] w fun r w' => r = .returned (.int .i64 (lastV c s.data.toList)) ∧ w' = w := by
  have hix : ∀ w : World, (Instr.index 9 (.string ⟨#[c]⟩) (.int .i64 0)).run Tryz.prog w = .ok (.int .u8 (c.toNat : Int)) w := fun w => by
    exact (idx_str ⟨#[c]⟩ 0 0 rfl (by show 0 < 1; omega) w).trans rfl
  have HC := (show Hid _ from lastByte_any s hs c)
  obtain ⟨v, HV⟩ := hid_intro (lastV c s.data.toList)
  rw [← HV.out] at HC ⊢
  go_enter Tryz.func108, Tryz.ntmps108
  go_wp2_with (go_at_call 168; refine (HC.out _).mono ?_; clear HC; rintro e w2 ⟨rfl, hw2⟩; rw [hw2]; clear hw2)
  go_ret
  exact ⟨rfl, rfl⟩
theorem parent_parts (s : ByteArray) {i : Nat} (h : lastI 47 s.data.toList = some i) : s.extract 0 i = ⟨(parentB s.data.toList).toArray⟩ ∧ s.extract (i + 1) s.size = ⟨(lastB s.data.toList).toArray⟩ ∧ i + 1 ≤ s.size := by
  have hi := last_lt h
  have hl := len_data s
  rw [extract_list, extract_list, parentB, lastB, h, ← hl, List.take_length]
  exact ⟨by simp, rfl, by omega⟩
set_option maxRecDepth 8000 in
theorem tCut_any (s : ByteArray) (hs : s.size ≤ 9223372036854775807) (w : World) : Calls Tryz.prog 44 #[.string s] w fun r w' => r = .returned (.tuple #[.string ⟨(parentB s.data.toList).toArray⟩, .string ⟨(lastB s.data.toList).toArray⟩]) ∧ ∃ n, w' = w.drewN n := by
  have HC := (show Hid _ from lastIndex_one s hs 47)
  cases h : lastI 47 s.data.toList with
  | none =>
    have e1 : parentB s.data.toList = [] := by rw [parentB, h]
    have e2 : lastB s.data.toList = s.data.toList := by rw [lastB, h]
    have e3 : lastV 47 s.data.toList = -1 := by rw [lastV, h]
    have e4 : (⟨s.data.toList.toArray⟩ : ByteArray) = s := by cases s; simp
    rw [e3] at HC
    rw [e1, e2, e4]
    clear e1 e2 e3 e4 h
    go_enter Tryz.func44, Tryz.ntmps44
    go_wp2_with (go_at_call 108; refine (HC.out _).mono ?_; clear HC; rintro e w2 ⟨rfl, hw2⟩; rw [hw2]; clear hw2)
    go_ret2
    exact ⟨rfl, 0, rfl⟩
  | some i =>
    obtain ⟨e1, e2, hle⟩ := parent_parts s h
    have e3 : lastV 47 s.data.toList = (i : Int) := by rw [lastV, h]
    rw [e3] at HC
    rw [← e1, ← e2]
    clear e1 e2 e3 h
    have s1 := fun w => sl_to s i i rfl (by omega) w
    have s2 := fun w => sl_from s (i + 1) (i + 1) (by omega) hle w
    go_enter Tryz.func44, Tryz.ntmps44
    go_wp2_with (go_at_call 108; refine (HC.out _).mono ?_; clear HC; rintro e w2 ⟨rfl, hw2⟩; rw [hw2]; clear hw2)
    go_quiet (fail)
    go_wp2
    go_ret2
    exact ⟨rfl, _, rfl⟩
set_option maxRecDepth 8000 in
theorem rParent_any (s : ByteArray) (hs : s.size ≤ 9223372036854775807) (w : World) : Calls Tryz.prog 134 #[.string s] w fun r w' => r = .returned (.string ⟨(parentB s.data.toList).toArray⟩) ∧ w' = w := by
  have hl := len_data s
  have hx : ∀ (i : Nat) (h : i < s.size) (w : World), (Instr.index 9 (.string s) (.int .i64 (i : Int))).run Tryz.prog w = .ok (.int .u8 ((s.data.toList.getD i 0).toNat : Int)) w := fun i h w => by
    rw [idx_str s i i rfl h w, byte_at s i h]
  have hpp := fun i => @parent_parts s i
  obtain ⟨l, HL⟩ := hid_intro s.data.toList
  rw [← HL.out] at hl hx hpp ⊢
  have HX := (show Hid _ from hx)
  have HLL := (show Hid _ from hl)
  have HPP := (show Hid _ from hpp)
  clear hx hl hpp
  go_enter Tryz.func134, Tryz.ntmps134
  go_wp2
  go_loopw [3] (fun vi wr => ∃ k : Nat, k ≤ s.size ∧ vi = .int .i64 ((k : Int) - 1) ∧ wr = w ∧ Hid (∀ j, k ≤ j → j < l.length → l.getD j 0 ≠ 47)) (fun vi _ => ((intOf vi) + 1).toNat)
  case atStart => exact ⟨s.size, by omega, by go_num, rfl, fun j h1 h2 => by have := HLL.out; omega⟩
  case round =>
    obtain ⟨k, hk, rfl, hw, HA⟩ := hrel
    rw [hw]; clear hw
    rcases k with _ | i
    · have HP : Hid (parentB l = []) := by show _ = _; rw [parentB, last_none fun j hj => HA.out j (by omega) hj]
      clear HA
      go_wp2
      go_ret
      exact ⟨by rw [HP.out]; rfl, rfl⟩
    · have hix := fun w => HX.out i (by omega) w
      have hbe := byte_eq (x := l.getD i 0) (c := 47)
      have h47 : (((47 : UInt8).toNat : Int)) = 47 := rfl
      rw [h47] at hbe
      have hki : (((i + 1 : Nat) : Int) - 1) = (i : Int) := by omega
      rw [hki]
      by_cases hc : l.getD i 0 = 47
      · have hp := HPP.out i (last_at (by have := HLL.out; omega) hc fun j h1 h2 => HA.out j (by omega) h2)
        have HP := (show Hid _ from hp.1)
        have s1 := fun w => sl_to s i i rfl (by omega) w
        rw [decide_eq_true hc] at hbe
        obtain ⟨x, HXX⟩ := hid_intro (l.getD i 0).toNat
        rw [← HXX.out] at hix hbe
        clear hc HA hp
        go_wp2
        go_ret
        exact ⟨by rw [← HP.out]; rfl, rfl⟩
      · have HA2 : Hid (∀ j, i ≤ j → j < l.length → l.getD j 0 ≠ 47) := fun j h1 h2 => by
          by_cases e : j = i
          · rw [e]; exact hc
          · exact HA.out j (by omega) h2
        rw [decide_eq_false hc] at hbe
        obtain ⟨x, HXX⟩ := hid_intro (l.getD i 0).toNat
        rw [← HXX.out] at hix hbe
        clear hc HA
        go_wp2
        go_roundw
        case rel => exact ⟨i, by omega, by go_num, by first | rfl | trivial, HA2⟩
        case measure => simp [intOf]
/-- texts of a row of one's own -/
theorem own_str {w : World} {B n cap i : Nat} {ao : Option Addr} {L : List (List UInt8)} (h : w.ownsRow B 9 1 (.slice ao n cap) n (scells L)) (hn : n = L.length) (hi : i < n) : ∃ g, ao = some ⟨g, 0, none⟩ ∧ w.cell? ⟨g, i, none⟩ = some (.string ⟨(L.getD i []).toArray⟩) := by
  subst hn
  rcases h.2 with ⟨_, h0⟩ | ⟨g, cap', cur, hv, _, hb, _, _, _, h5⟩
  · omega
  · injection hv with hv _ _
    refine ⟨g, hv, ?_⟩
    rw [cell_of_row _ _ _ _ _ _ hb]
    have : cur[i]? = (scells L)[i]? := by rw [← h5, List.getElem?_take_of_lt (by omega), Array.getElem?_toList]
    rw [this, scells, List.getElem?_map, List.getElem?_eq_getElem hi, List.getD_eq_getElem?_getD, List.getElem?_eq_getElem hi]
    rfl
end Go.Proofs.YtgfbbcnnmoamnaaGreatDoor.Tr

namespace Go.Proofs.YtgfbbcnnmoamnaaGreatDoor.Tr
open Go.RowKit Go.Proofs.YtgfbbcnnmoamnaaGreatDoor Go.Proofs.YtgfbbcnnmoamnaaGreatDoor.Lk

theorem split_lens {c : UInt8} : ∀ (l : List UInt8), ∀ x ∈ splitB c l, x.length ≤ l.length
  | [], x, h => by simp [splitB] at h; subst h; simp
  | y :: r, x, h => by
    unfold splitB at h
    split at h
    · rcases List.mem_cons.1 h with h | h
      · subst h; simp
      · have := split_lens r x h; simp; omega
    · cases hs : splitB c r with
      | nil => exact absurd hs (split_ne r)
      | cons z t =>
        rw [hs] at h
        rcases List.mem_cons.1 h with h | h
        · subst h
          have := split_lens r z (by rw [hs]; simp)
          simp; omega
        · have := split_lens r x (by rw [hs]; simp [h])
          simp; omega
theorem split_many {c : UInt8} : ∀ (l : List UInt8), (splitB c l).length = l.count c + 1
  | [] => by simp [splitB]
  | y :: r => by
    have ih := split_many (c := c) r
    unfold splitB
    by_cases e : y = c
    · subst e; simp [ih]
    · rw [if_neg e, List.count_cons_of_ne (fun h => e h)]
      cases hs : splitB c r with
      | nil => exact absurd hs (split_ne r)
      | cons z t => rw [hs] at ih; simpa using ih
theorem all_atL {p : List UInt8 → Bool} {L : List (List UInt8)} {i : Nat} (hi : i < L.length) (h : p (L.getD i []) = false) : L.all p = false := by
  cases e : L.all p with
  | false => rfl
  | true =>
    have := List.all_eq_true.1 e (L.getD i []) (by simp [List.getD_eq_getElem?_getD, List.getElem?_eq_getElem hi])
    rw [h] at this; cases this
theorem all_uptoL {p : List UInt8 → Bool} {L : List (List UInt8)} (h : ∀ j, j < L.length → p (L.getD j []) = true) : L.all p = true := by
  refine List.all_eq_true.2 fun x hx => ?_
  obtain ⟨j, hj, rfl⟩ := List.getElem_of_mem hx
  have := h j hj
  simpa [List.getD_eq_getElem?_getD, List.getElem?_eq_getElem hj] using this
theorem getD_memL {L : List (List UInt8)} {i : Nat} (h : i < L.length) : L.getD i [] ∈ L := by
  rw [List.getD_eq_getElem?_getD, List.getElem?_eq_getElem h]; exact List.getElem_mem _
set_option maxRecDepth 8000 in
set_option maxHeartbeats 1000000 in
theorem rPath_any (s : ByteArray) (hs : s.size ≤ 1048576) (w : World) : Calls Tryz.prog 132 #[.string s] w fun r w' => r = .returned (.bool (pathB s.data.toList)) ∧ Below w.heap.size w w' := by
  have HC := (show Hid _ from rCut_any s hs 47)
  have hl := len_data s
  have hlen := split_lens (c := 47) s.data.toList
  have hpd : pathB s.data.toList = (decide (s.data.toList.length ≤ 64) && decide ((splitB 47 s.data.toList).length ≤ 6) && (splitB 47 s.data.toList).all nameB) := rfl
  have hmany := split_many (c := 47) s.data.toList
  have hcl : s.data.toList.count 47 ≤ s.data.toList.length := List.count_le_length
  rw [hl] at hpd hlen hcl
  rw [show ((47 : UInt8).toNat : Int) = 47 from rfl] at HC
  obtain ⟨L, HL⟩ := hid_intro (splitB 47 s.data.toList)
  rw [← HL.out] at HC hlen hpd hmany
  obtain ⟨n, HN⟩ := hid_intro L.length
  rw [← HN.out] at HC hpd hmany
  have hn : n ≤ 1048577 := by omega
  have HLEN := (show Hid _ from hlen)
  have HPD := (show Hid _ from hpd)
  clear hl hlen hpd hmany hcl
  obtain ⟨P, HP⟩ := hid_intro (pathB s.data.toList)
  rw [← HP.out] at HPD ⊢
  go_enter Tryz.func132, Tryz.ntmps132
  go_wp2_with (go_at_call 142; refine (HC.out _).mono ?_; clear HC; rintro e w1 ⟨v1, rfl, ho1, hb1⟩; have HO := (show Hid (World.ownsRow w1 w.heap.size 9 1 v1 n (scells L)) from ho1); have HB := (show Hid (Below w.heap.size w w1) from hb1); obtain ⟨ao, cap, rfl⟩ := own_shape ho1; clear ho1 hb1)
  go_loopw [4] (fun vi wr => ∃ i : Nat, i ≤ n ∧ vi = .int .i64 i ∧ wr = w1 ∧ Hid (∀ j, j < i → nameB (L.getD j []) = true)) (fun vi _ => n - (intOf vi).toNat)
  case atStart => exact ⟨0, by omega, rfl, rfl, fun j hj => by omega⟩
  case round =>
    obtain ⟨i, hi, rfl, hw, HA⟩ := hrel
    rw [hw]; clear hw
    by_cases hlt : i < n
    · obtain ⟨g, rfl, hc⟩ := own_str HO.out HN.out hlt
      have hpl := HLEN.out _ (getD_memL (L := L) (i := i) (by rw [← HN.out]; exact hlt))
      obtain ⟨x, HX⟩ := hid_intro (L.getD i [])
      rw [← HX.out] at hc hpl
      have HNM := (show Hid _ from rName_any ⟨x.toArray⟩ (by rw [size_of]; omega))
      cases hp : nameB x with
      | false =>
        have HF : Hid (P = false) := by
          show _ = _
          rw [HPD.out, all_atL (L := L) (i := i) (by rw [← HN.out]; exact hlt) (by rw [← HX.out]; exact hp), Bool.and_false]
        rw [show nameB (ByteArray.mk x.toArray).data.toList = false from hp] at HNM
        clear hp HA
        go_wp2_with (go_at_call 144; refine (HNM.out _).mono ?_; clear HNM; rintro e w2 ⟨rfl, hw2⟩; rw [hw2]; clear hw2)
        go_ret
        exact ⟨ret_bool HF.out.symm, HB.out⟩
      | true =>
        have HA2 : Hid (∀ j, j < i + 1 → nameB (L.getD j []) = true) := fun j hj => by
          by_cases e : j = i
          · rw [e, ← HX.out]; exact hp
          · exact HA.out j (by omega)
        rw [show nameB (ByteArray.mk x.toArray).data.toList = true from hp] at HNM
        clear hp HA
        go_wp2_with (go_at_call 144; refine (HNM.out _).mono ?_; clear HNM; rintro e w2 ⟨rfl, hw2⟩; rw [hw2]; clear hw2)
        go_roundw
        case rel => exact ⟨i + 1, by omega, by go_num, by first | rfl | trivial, HA2⟩
        case measure => simp [intOf]; omega
    · obtain rfl : i = n := by omega
      have hall := all_uptoL (p := nameB) (L := L) (fun j hj => HA.out j (by rw [HN.out]; exact hj))
      have hP : P = (decide (s.size ≤ 64) && decide (i ≤ 6)) := by rw [HPD.out, hall, Bool.and_true]
      clear HA hall
      by_cases h64 : s.size ≤ 64
      · have HF : Hid (P = decide ((i : Int) ≤ 6)) := by show _ = _; rw [hP, decide_eq_true h64, Bool.true_and]; exact decide_eq_decide.2 (by omega)
        clear hP
        go_wp2
        go_ret
        exact ⟨ret_bool HF.out.symm, HB.out⟩
      · have HF : Hid (P = false) := by show _ = _; rw [hP]; simp [h64]
        clear hP
        go_wp2
        go_ret
        exact ⟨ret_bool HF.out.symm, HB.out⟩
end Go.Proofs.YtgfbbcnnmoamnaaGreatDoor.Tr

namespace Go.Proofs.YtgfbbcnnmoamnaaGreatDoor.Tr
open Go.RowKit Go.Proofs.YtgfbbcnnmoamnaaGreatDoor Go.Proofs.YtgfbbcnnmoamnaaGreatDoor.Lk

set_option maxRecDepth 100000 in
theorem count_one (s : ByteArray) (c : UInt8) (w : World) : Calls Tryz.prog 286 #[.string s, .string ⟨#[c]⟩] w fun r w' => r = .returned (.int .i64 ((s.data.toList.count c : Nat) : Int)) ∧ w' = w := by
  have hix : ∀ w : World, (Instr.index 9 (.string ⟨#[c]⟩) (.int .i64 0)).run Tryz.prog w = .ok (.int .u8 (c.toNat : Int)) w := fun w => by
    exact (idx_str ⟨#[c]⟩ 0 0 rfl (by show 0 < 1; omega) w).trans rfl
  go_enter Tryz.func286, Tryz.ntmps286
  go_wp2
  rw [run_callFunc_extern Tryz.func336 (by kernel_rfl) (by kernel_rfl) (by kernel_rfl) (e := Extern.BytealgCount.count) (by kernel_rfl), Lib.run_countString]
  simp only [Result.andThen]
  rw [Oper.upon_value]
  go_wp2
  go_ret
  exact ⟨rfl, rfl⟩
theorem sIndex_one (s : ByteArray) (c : UInt8) (w : World) : Calls Tryz.prog 287 #[.string s, .string ⟨#[c]⟩] w fun r w' => r = .returned (.int .i64 (Lib.indexByte s.data.toList c)) ∧ w' = w := by
  go_enter Tryz.func287, Tryz.ntmps287
  go_wp2_with (go_at_call 282; refine (slIndex_one _ _ _).mono ?_; rintro e w2 ⟨rfl, hw2⟩; rw [hw2]; clear hw2)
  go_ret
  exact ⟨rfl, rfl⟩

/-- a row of texts at a block -/
def RowS (w : World) (g : Nat) (L : List (List UInt8)) : Prop := w.heap[g]? = some (.cells (scells L).toArray 9 (0, 0))
theorem scells_len (L : List (List UInt8)) : (scells L).length = L.length := by simp [scells]
theorem made_strs (k : Nat) : (madeCells #[.string ⟨#[]⟩] (k * 1)).toList = scells (List.replicate k []) := by
  apply List.ext_getElem
  · simp [madeCells, scells]
  · intro i h1 h2
    simp [madeCells, scells, Nat.mod_one]
theorem own_rowS {w : World} {B g k : Nat} {L : List (List UInt8)} (h : w.ownsRow B 9 1 (.slice (some ⟨g, 0, none⟩) k k) k (scells L)) : RowS w g L := by
  rcases h.2 with ⟨hv, _⟩ | ⟨b, cap, cur, hv, h1, hb, h2, h3, h4, h5⟩
  · cases hv
  · injection hv with hv _ hc
    injection hv with hv
    injection hv with hv
    subst hv hc
    unfold RowS
    rw [hb, ← h5, List.take_of_length_le (by simp; omega)]
theorem RowS.own {w : World} {B g k : Nat} {L : List (List UInt8)} (h : RowS w g L) (hB : B ≤ g) (hk : k = L.length) (hm : k ≤ maxLen) : w.ownsRow B 9 1 (.slice (some ⟨g, 0, none⟩) k k) k (scells L) := by
  subst hk
  exact ⟨by simp [scells_len], .inr ⟨g, L.length, _, rfl, hB, h, Nat.le_refl _, hm, by simp [scells_len], by rw [List.take_of_length_le (by simp [scells_len])]⟩⟩
theorem RowS.set {w : World} {g : Nat} {L : List (List UInt8)} (h : RowS w g L) (i : Nat) (x : List UInt8) : RowS (w.setCell ⟨g, i, none⟩ (.string ⟨x.toArray⟩)) g (L.set i x) := by
  unfold RowS
  rw [heap_setCell_same _ _ i _ _ _ h]
  simp [scells, List.map_set]
theorem RowS.cell {w : World} {g : Nat} {L : List (List UInt8)} (h : RowS w g L) {i : Nat} (hi : i < L.length) : ∃ x : List UInt8, w.cell? ⟨g, i, none⟩ = some (.string ⟨x.toArray⟩) ∧ w.frozen? ⟨g, i, none⟩ = false := by
  refine ⟨L[i], ?_, frozen_of_row _ _ _ _ _ h⟩
  rw [cell_of_row _ _ _ _ _ _ h]
  simp [scells, hi]
set_option maxRecDepth 8000 in
set_option maxHeartbeats 1000000 in
theorem genSplit_one (s : ByteArray) (hs : s.size ≤ 1048576) (c : UInt8) (w : World) : Calls Tryz.prog 224 #[.string s, .string ⟨#[c]⟩, .int .i64 0, .int .i64 (-1)] w fun r w' => ∃ v, r = .returned v ∧ w'.ownsRow w.heap.size 9 1 v (splitB c s.data.toList).length (scells (splitB c s.data.toList)) ∧ Below w.heap.size w w' := by
  have HC := (show Hid _ from count_one s c)
  have hl := len_data s
  have hmany := split_many (c := c) s.data.toList
  have hcl : s.data.toList.count c ≤ s.data.toList.length := List.count_le_length
  rw [hl] at hcl
  obtain ⟨k, HK⟩ := hid_intro (s.data.toList.count c)
  rw [← HK.out] at HC hmany hcl
  obtain ⟨l, HL⟩ := hid_intro s.data.toList
  rw [← HL.out] at HK hmany ⊢
  have HM := (show Hid _ from hmany)
  rw [hmany]
  clear hmany hl
  have hmin : min (k + 1) (s.size + 1) = k + 1 := by omega
  obtain ⟨i0, hi0, hz0, hz1, hz2⟩ := info_parts infoStr
  go_enter Tryz.func224, Tryz.ntmps224
  go_wp2_with (first
    | (go_at_call 286; refine (HC.out _).mono ?_; clear HC; rintro e w9 ⟨rfl, hw9⟩; rw [hw9]; clear hw9 w9)
    | (at_make; refine wpList_make_full _ rfl _ _ 236 rfl w.heap.size 9 i0 (.string ⟨#[]⟩) 1 Tryz.underlying236 hi0 hz0 hz1 .i64 .i64 _ _ (k + 1) rfl rfl (by omega) (by omega) (by rw [hz2]; omega) (by unfold maxLen; omega) (Nat.le_refl _) ?_; intro w1 hown1 hg1; have HR1 : Hid (RowS w1 w.heap.size (List.replicate (k + 1) [])) := own_rowS (by rw [show (madeCells (Value.string ⟨#[]⟩).cells ((k + 1) * 1)).toList = scells (List.replicate (k + 1) []) from made_strs (k + 1)] at hown1; exact hown1); have hb1 : Below w.heap.size w w1 := (Below.refl _ w).grown hg1 (Nat.le_refl _) (fun k hk => by cases hk); clear hown1 hg1))
  go_loopw [0, 10] (fun vs vi wr => ∃ (parts : List (List UInt8)) (rest : List UInt8), parts.length ≤ k ∧ vs = .string ⟨rest.toArray⟩ ∧ vi = .int .i64 (parts.length : Int) ∧ Hid (splitB c l = parts ++ splitB c rest) ∧ Hid (rest.count c + parts.length = k) ∧ rest.length ≤ 1048576 ∧ Hid (RowS wr w.heap.size (parts ++ List.replicate (k + 1 - parts.length) [])) ∧ Below w.heap.size w wr) (fun _ vi _ => k - (intOf vi).toNat)
  case atStart => exact ⟨[], l, by simp, by rw [HL.out], rfl, rfl, by show _ = _; rw [← HK.out]; rfl, by rw [HL.out, len_data]; exact hs, HR1, hb1⟩
  case round =>
    clear HR1 hb1
    obtain ⟨parts, rest, hpl, rfl, rfl, HS, HCT, hrl, HR, hb⟩ := hrel
    have hbs := hb.size
    have hzr := size_of rest
    by_cases hlt : parts.length < k
    · have hmem : c ∈ rest := List.count_pos_iff.1 (by have := HCT.out; omega)
      have hf := cut_found.2 hmem
      obtain ⟨e1, e2, hle⟩ := cut_parts ⟨rest.toArray⟩ (c := c) (by simpa using hf)
      rw [show (⟨rest.toArray⟩ : ByteArray).data.toList = rest by simp] at e1 e2 hle
      have hix := idx_hit hf
      have HIX := (show Hid _ from sIndex_one ⟨rest.toArray⟩ c)
      rw [show (⟨rest.toArray⟩ : ByteArray).data.toList = rest by simp, hix] at HIX
      obtain ⟨h1, h2⟩ := cut_hit hf
      have HS2 : Hid (splitB c l = (parts ++ [(cutB c rest).1]) ++ splitB c (cutB c rest).2.1) := by
        show _ = _
        have := split_hit (b := (cutB c rest).2.1) h2
        rw [← h1] at this
        rw [HS.out, this]; simp
      have HCT2 : Hid ((cutB c rest).2.1.count c + (parts.length + 1) = k) := by
        show _ = _
        have h0 := HCT.out
        rw [h1, List.count_append, List.count_eq_zero.2 h2, List.count_cons_self] at h0
        omega
      have hrl2 : (cutB c rest).2.1.length ≤ 1048576 := Nat.le_trans (cut_rest_le rest) hrl
      have HR2 : Hid (RowS (wr.setCell ⟨w.heap.size, parts.length, none⟩ (.string ⟨(cutB c rest).1.toArray⟩)) w.heap.size ((parts ++ [(cutB c rest).1]) ++ List.replicate (k + 1 - (parts.length + 1)) [])) := by
        have := HR.out.set parts.length (cutB c rest).1
        have e : (parts ++ List.replicate (k + 1 - parts.length) []).set parts.length (cutB c rest).1 = (parts ++ [(cutB c rest).1]) ++ List.replicate (k + 1 - (parts.length + 1)) [] := by
          rw [show k + 1 - parts.length = (k + 1 - (parts.length + 1)) + 1 by omega, List.replicate_succ, List.set_append_right _ _ (Nat.le_refl _), Nat.sub_self]
          simp
        rw [e] at this; exact this
      obtain ⟨x0, c0, f0⟩ := HR.out.cell (i := parts.length) (by simp; omega)
      have HLN : Hid ((parts ++ [(cutB c rest).1]).length = parts.length + 1) := by show _ = _; simp
      obtain ⟨m, HMM⟩ := hid_intro (cutB c rest).1.length
      rw [← HMM.out] at e1 e2 hle HIX
      rw [hzr] at hle
      have s1 := fun w => sl_to ⟨rest.toArray⟩ m m rfl (by rw [hzr]; omega) w
      have s2 := fun w => sl_from ⟨rest.toArray⟩ (m + 1) (m + 1) (by omega) (by rw [hzr]; omega) w
      rw [e1] at s1
      rw [e2] at s2
      obtain ⟨i, HI⟩ := hid_intro parts.length
      rw [← HI.out] at hpl hlt HCT2 HR2 c0 HLN ⊢
      rw [← HI.out] at f0
      obtain ⟨a, HAA⟩ := hid_intro (cutB c rest).1
      obtain ⟨b, HBB⟩ := hid_intro (cutB c rest).2.1
      rw [← HAA.out] at s1 HS2 HR2 HLN
      rw [← HBB.out] at s2 HS2 HCT2 hrl2
      clear e1 e2 hix h1 h2 hf hmem HS HCT HR
      have hik : i < k + 1 := by omega
      go_wp2_with (go_at_call 287; refine (HIX.out _).mono ?_; clear HIX; rintro e w9 ⟨rfl, hw9⟩; rw [hw9]; clear hw9 w9)
      go_roundw
      case rel =>
        refine ⟨parts ++ [a], b, by rw [HLN.out]; omega, rfl, by rw [HLN.out]; go_num, HS2, by rw [HLN.out]; exact HCT2, hrl2, by rw [HLN.out]; exact HR2, hb.setCell (Nat.le_refl _) _⟩
      case measure => simp [intOf]; omega
    · have he : parts.length = k := by omega
      have hnot : c ∉ rest := List.count_eq_zero.1 (by have := HCT.out; omega)
      have HS2 : Hid (splitB c l = parts ++ [rest]) := by show _ = _; rw [HS.out, split_miss hnot]
      have HR2 : Hid (RowS (wr.setCell ⟨w.heap.size, k, none⟩ (.string ⟨rest.toArray⟩)) w.heap.size (parts ++ [rest])) := by
        have := HR.out.set parts.length rest
        rw [he, show k + 1 - k = 1 by omega, List.set_append_right _ _ (by omega), he, Nat.sub_self] at this
        exact this
      obtain ⟨x0, c0, f0⟩ := HR.out.cell (i := k) (by simp; omega)
      rw [he]
      clear HS HCT HR hlt hpl
      have HEE := (show Hid _ from he)
      clear he
      go_wp2
      go_ret
      refine ⟨_, rfl, ?_, hb.setCell (Nat.le_refl _) _⟩
      rw [HS2.out]
      exact HR2.out.own (Nat.le_refl _) (by have := HEE.out; simp; omega) (by unfold maxLen; omega)
theorem split_one (s : ByteArray) (hs : s.size ≤ 1048576) (c : UInt8) (w : World) : Calls Tryz.prog 166 #[.string s, .string ⟨#[c]⟩] w fun r w' => ∃ v, r = .returned v ∧ w'.ownsRow w.heap.size 9 1 v (splitB c s.data.toList).length (scells (splitB c s.data.toList)) ∧ Below w.heap.size w w' := by
  go_enter Tryz.func166, Tryz.ntmps166
  go_wp2_with (go_at_call 224; refine (genSplit_one s hs c _).mono ?_; rintro e w2 ⟨v2, rfl, ho2, hb2⟩)
  go_ret
  exact ⟨_, rfl, ho2, hb2⟩
end Go.Proofs.YtgfbbcnnmoamnaaGreatDoor.Tr

namespace Go.Proofs.YtgfbbcnnmoamnaaGreatDoor.Tr
open Go.RowKit Go.Proofs.YtgfbbcnnmoamnaaGreatDoor Go.Proofs.YtgfbbcnnmoamnaaGreatDoor.Lk

set_option maxRecDepth 8000 in
set_option maxHeartbeats 1000000 in
theorem IsPath_any (s : ByteArray) (hs : s.size ≤ 9223372036854775807) (w : World) : Calls Tryz.prog 107 #[.string s] w fun r w' => r = .returned (.bool (pathB s.data.toList)) ∧ Below w.heap.size w w' := by
  have hl := len_data s
  have hpd : pathB s.data.toList = (decide (s.data.toList.length ≤ 64) && decide ((splitB 47 s.data.toList).length ≤ 6) && (splitB 47 s.data.toList).all nameB) := rfl
  rw [hl] at hpd
  by_cases h64 : s.size ≤ 64
  · have HC := (show Hid _ from split_one s (by omega) 47)
    have hlen := split_lens (c := 47) s.data.toList
    rw [hl] at hlen
    rw [decide_eq_true h64, Bool.true_and] at hpd
    obtain ⟨L, HL⟩ := hid_intro (splitB 47 s.data.toList)
    rw [← HL.out] at HC hlen hpd
    have hmany := split_many (c := 47) s.data.toList
    have hcl : s.data.toList.count 47 ≤ s.data.toList.length := List.count_le_length
    rw [hl] at hcl
    rw [← HL.out] at hmany
    obtain ⟨n, HN⟩ := hid_intro L.length
    rw [← HN.out] at HC hpd hmany
    have hn : n ≤ 65 := by omega
    have HLEN := (show Hid _ from hlen)
    have HPD := (show Hid _ from hpd)
    clear hl hlen hpd hmany hcl
    obtain ⟨P, HP⟩ := hid_intro (pathB s.data.toList)
    rw [← HP.out] at HPD ⊢
    by_cases h6 : n ≤ 6
    · have HPD2 : Hid (P = L.all nameB) := by show _ = _; rw [HPD.out, decide_eq_true h6, Bool.true_and]
      clear HPD
      go_enter Tryz.func107, Tryz.ntmps107
      go_wp2_with (go_at_call 166; refine (HC.out _).mono ?_; clear HC; rintro e w1 ⟨v1, rfl, ho1, hb1⟩; have HO := (show Hid (World.ownsRow w1 w.heap.size 9 1 v1 n (scells L)) from ho1); have HB := (show Hid (Below w.heap.size w w1) from hb1); obtain ⟨ao, cap, rfl⟩ := own_shape ho1; clear ho1 hb1)
      go_loopw [16] (fun vi wr => ∃ i : Nat, i ≤ n ∧ vi = .int .i64 i ∧ wr = w1 ∧ Hid (∀ j, j < i → nameB (L.getD j []) = true)) (fun vi _ => n - (intOf vi).toNat)
      case atStart => exact ⟨0, by omega, rfl, rfl, fun j hj => by omega⟩
      case round =>
        obtain ⟨i, hi, rfl, hw, HA⟩ := hrel
        rw [hw]; clear hw
        by_cases hlt : i < n
        · obtain ⟨g, rfl, hc⟩ := own_str HO.out HN.out hlt
          obtain ⟨x, HX⟩ := hid_intro (L.getD i [])
          rw [← HX.out] at hc
          have HNM := (show Hid _ from IsName_any ⟨x.toArray⟩)
          cases hp : nameB x with
          | false =>
            have HF : Hid (P = false) := by
              show _ = _
              rw [HPD2.out, all_atL (L := L) (i := i) (by rw [← HN.out]; exact hlt) (by rw [← HX.out]; exact hp)]
            rw [show nameB (ByteArray.mk x.toArray).data.toList = false from hp] at HNM
            clear hp HA
            go_wp2_with (go_at_call 167; refine (HNM.out _).mono ?_; clear HNM; rintro e w2 ⟨rfl, hw2⟩; rw [hw2]; clear hw2)
            go_ret
            exact ⟨ret_bool HF.out.symm, HB.out⟩
          | true =>
            have HA2 : Hid (∀ j, j < i + 1 → nameB (L.getD j []) = true) := fun j hj => by
              by_cases e : j = i
              · rw [e, ← HX.out]; exact hp
              · exact HA.out j (by omega)
            rw [show nameB (ByteArray.mk x.toArray).data.toList = true from hp] at HNM
            clear hp HA
            go_wp2_with (go_at_call 167; refine (HNM.out _).mono ?_; clear HNM; rintro e w2 ⟨rfl, hw2⟩; rw [hw2]; clear hw2)
            go_roundw
            case rel => exact ⟨i + 1, by omega, by go_num, by first | rfl | trivial, HA2⟩
            case measure => simp [intOf]; omega
        · obtain rfl : i = n := by omega
          have HF : Hid (P = true) := by show _ = _; rw [HPD2.out]; exact all_uptoL (p := nameB) (L := L) (fun j hj => HA.out j (by rw [HN.out]; exact hj))
          clear HA
          go_wp2
          go_ret
          exact ⟨ret_bool HF.out.symm, HB.out⟩
    · have HF : Hid (P = false) := by show _ = _; rw [HPD.out, decide_eq_false h6]; rfl
      clear HPD
      go_enter Tryz.func107, Tryz.ntmps107
      go_wp2_with (go_at_call 166; refine (HC.out _).mono ?_; clear HC; rintro e w1 ⟨v1, rfl, ho1, hb1⟩; have HB := (show Hid (Below w.heap.size w w1) from hb1); obtain ⟨ao, cap, rfl⟩ := own_shape ho1; clear ho1 hb1)
      go_ret
      exact ⟨ret_bool HF.out.symm, HB.out⟩
  · rw [hpd, decide_eq_false h64, Bool.false_and]
    clear hpd
    go_enter Tryz.func107, Tryz.ntmps107
    go_wp2
    go_ret
    exact ⟨rfl, Below.refl _ _⟩

/-- some entries lie wherever they lie -/
def LiesE (w : World) (ao : Option Addr) (l : List E) : Prop := l = [] ∨ ∃ g o, ao = some ⟨g, o, none⟩ ∧ g < w.heap.size ∧
  ∀ j e, l[j]? = some e → w.cell? ⟨g, o + j * 3, none⟩ = some (.string ⟨e.p.toArray⟩) ∧ w.cell? ⟨g, o + j * 3 + 1, none⟩ = some (.bool e.dir) ∧ w.cell? ⟨g, o + j * 3 + 2, none⟩ = some (.string ⟨e.b.toArray⟩)
theorem LiesE.below {w w' : World} {ao : Option Addr} {l : List E} (h : LiesE w ao l) (hb : Below w.heap.size w w') : LiesE w' ao l := by
  rcases h with h | ⟨g, o, h1, h2, h3⟩
  · exact .inl h
  · exact .inr ⟨g, o, h1, Nat.lt_of_lt_of_le h2 hb.size, fun j m hj => by
      obtain ⟨c1, c2, c3⟩ := h3 j m hj
      exact ⟨(hb.cell h2).trans c1, (hb.cell h2).trans c2, (hb.cell h2).trans c3⟩⟩
theorem LiesE.at {w : World} {ao : Option Addr} {l : List E} (h : LiesE w ao l) {i : Nat} (hi : i < l.length) : ∃ g o, ao = some ⟨g, o, none⟩ ∧ w.cell? ⟨g, o + i * 3, none⟩ = some (.string ⟨(getE l i).p.toArray⟩) ∧ w.cell? ⟨g, o + i * 3 + 1, none⟩ = some (.bool (getE l i).dir) ∧ w.cell? ⟨g, o + i * 3 + 2, none⟩ = some (.string ⟨(getE l i).b.toArray⟩) := by
  rcases h with h | ⟨g, o, h1, _, h3⟩
  · rw [h] at hi; simp at hi
  · exact ⟨g, o, h1, h3 i _ (by rw [getE, List.getD_eq_getElem?_getD, List.getElem?_eq_getElem hi]; rfl)⟩
def FitE (l : List E) : Prop := ∀ e ∈ l, e.p.length ≤ 1048576 ∧ e.b.length ≤ 1048576
theorem FitE.at {l : List E} (h : FitE l) {i : Nat} (hi : i < l.length) : (getE l i).p.length ≤ 1048576 ∧ (getE l i).b.length ≤ 1048576 := h _ (by rw [getE, List.getD_eq_getElem?_getD, List.getElem?_eq_getElem hi]; exact List.getElem_mem _)
theorem total_append (a b : List E) : total (a ++ b) = total a + total b := by simp [total]
theorem total_step {l : List E} {i : Nat} (hi : i < l.length) : total (l.take (i + 1)) = total (l.take i) + (getE l i).b.length := by
  have e : l.take (i + 1) = l.take i ++ [getE l i] := by
    rw [List.take_add_one, List.getElem?_eq_getElem hi, getE, List.getD_eq_getElem?_getD, List.getElem?_eq_getElem hi]; rfl
  rw [e, total_append]
  simp [total]
theorem total_take_le (l : List E) (i : Nat) : total (l.take i) ≤ total l := by
  have := total_append (l.take i) (l.drop i)
  rw [List.take_append_drop] at this
  omega
set_option maxRecDepth 8000 in
set_option maxHeartbeats 1000000 in
theorem tooMany_any (l : List E) (hl : l.length ≤ 1048576) (most bytes : Nat) (_hm : most ≤ 1048576) (hby : bytes ≤ 1048576) (hft : FitE l) (ao : Option Addr) (cap : Nat) (w : World) (hat : LiesE w ao l) :
    Calls Tryz.prog 40 #[.slice ao l.length cap, .agg #[.int .i64 most, .int .i64 bytes]] w fun r w' => r = .returned (.bool (decide (l.length > most ∨ total l > bytes))) ∧ Below w.heap.size w w' := by
  have HB0 : Hid (Below w.heap.size w (w.alloc (.cells #[.int .i64 most, .int .i64 bytes] 64 (0, 0)))) := (Below.refl _ w).alloc (Nat.le_refl _) _
  have HAT : Hid (LiesE w ao l) := hat
  have HFT : Hid (FitE l) := hft
  clear hat hft
  obtain ⟨n, HN⟩ := hid_intro l.length
  rw [← HN.out] at hl ⊢
  by_cases h0 : n > most
  · rw [decide_eq_true (.inl h0)]
    go_enter Tryz.func40, Tryz.ntmps40
    go_wp2
    go_ret
    exact ⟨rfl, HB0.out⟩
  · have HD : Hid (decide (n > most ∨ total l > bytes) = decide (total l > bytes)) := by show _ = _; exact decide_eq_decide.2 ⟨fun h => h.resolve_left h0, .inr⟩
    rw [HD.out]
    obtain ⟨R, HR⟩ := hid_intro (decide (total l > bytes))
    rw [← HR.out]
    clear HD
    go_enter Tryz.func40, Tryz.ntmps40
    go_wp2
    go_loopw [5, 17] (fun vf vi wr => ∃ i : Nat, i ≤ n ∧ Hid (total (l.take i) ≤ bytes) ∧ vf = .int .i64 ((bytes - total (l.take i) : Nat) : Int) ∧ vi = .int .i64 i ∧ Below w.heap.size w wr) (fun _ vi _ => n - (intOf vi).toNat)
    case atStart => exact ⟨0, by omega, by show _ ≤ _; simp [total], by simp [total], rfl, HB0.out⟩
    case round =>
      obtain ⟨i, hi, HT, rfl, rfl, hb⟩ := hrel
      have hbs := hb.size
      by_cases hlt : i < n
      · obtain ⟨g, o, rfl, c1, c2, c3⟩ := (HAT.out.below hb).at (i := i) (by rw [← HN.out]; exact hlt)
        obtain ⟨_, hbl⟩ := HFT.out.at (i := i) (by rw [← HN.out]; exact hlt)
        have hst := total_step (l := l) (i := i) (by rw [← HN.out]; exact hlt)
        have htl := total_take_le l (i + 1)
        obtain ⟨e, HE⟩ := hid_intro (getE l i)
        rw [← HE.out] at c1 c2 c3 hst hbl
        have hz := size_of e.b
        obtain ⟨T, HTT⟩ := hid_intro (total (l.take i))
        rw [← HTT.out] at hst HT ⊢
        have hT := HT.out
        have hsub : ((bytes - T : Nat) : Int) = (bytes : Int) - (T : Int) := by omega
        rw [hsub]
        by_cases hneg : bytes < T + e.b.length
        · have HF : Hid (R = true) := by show _ = _; rw [HR.out]; exact decide_eq_true (by omega)
          have hw : IntKind.i64.wrap ((bytes : Int) - (T : Int) - (e.b.length : Int)) = (bytes : Int) - (T : Int) - (e.b.length : Int) := by rw [IntKind.wrap_i64]; omega
          have hd : decide ((bytes : Int) - (T : Int) - (e.b.length : Int) < 0) = true := decide_eq_true (by omega)
          clear hst htl
          go_wp2
          go_ret
          exact ⟨ret_bool HF.out.symm, hb.alloc hbs _⟩
        · have hw : IntKind.i64.wrap ((bytes : Int) - (T : Int) - (e.b.length : Int)) = (bytes : Int) - (T : Int) - (e.b.length : Int) := by rw [IntKind.wrap_i64]; omega
          have hd : decide ((bytes : Int) - (T : Int) - (e.b.length : Int) < 0) = false := decide_eq_false (by omega)
          have HST := (show Hid _ from hst)
          clear hst htl
          go_wp2
          go_roundw
          case rel => exact ⟨i + 1, by omega, by show _ ≤ _; rw [HST.out]; omega, by rw [HST.out]; go_num, by go_num, hb.alloc hbs _⟩
          case measure => simp [intOf]; omega
      · obtain rfl : i = n := by omega
        have HF : Hid (R = false) := by
          show _ = _
          rw [HR.out]
          have := HT.out
          rw [HN.out, List.take_length] at this
          exact decide_eq_false (by omega)
        go_wp2
        go_ret
        exact ⟨ret_bool HF.out.symm, hb⟩
end Go.Proofs.YtgfbbcnnmoamnaaGreatDoor.Tr

namespace Go.Proofs.YtgfbbcnnmoamnaaGreatDoor.Tr
open Go.RowKit Go.Proofs.YtgfbbcnnmoamnaaGreatDoor Go.Proofs.YtgfbbcnnmoamnaaGreatDoor.Lk

set_option maxRecDepth 8000 in
set_option maxHeartbeats 1000000 in
theorem firstWrong_any (l : List E) (hl : l.length ≤ 1048576) (hft : FitE l) (ao : Option Addr) (cap : Nat) (w : World) (hat : LiesE w ao l) :
    Calls Tryz.prog 41 #[.slice ao l.length cap] w fun r w' => r = .returned (.int .i64 (firstN (fun i => badE (getE l i)) l.length : Int)) ∧ Below w.heap.size w w' := by
  have HAT : Hid (LiesE w ao l) := hat
  have HFT : Hid (FitE l) := hft
  clear hat hft
  have hat2 := fun (i : Nat) (h1 : i < l.length) (h2 : badE (getE l i) = true) (h3 : ∀ j, j < i → badE (getE l j) = false) => firstN_at (p := fun i => badE (getE l i)) h1 h2 h3
  have hno2 := fun (h : ∀ j, j < l.length → badE (getE l j) = false) => firstN_none (p := fun i => badE (getE l i)) h
  obtain ⟨R, HR⟩ := hid_intro (firstN (fun i => badE (getE l i)) l.length)
  rw [← HR.out] at hat2 hno2 ⊢
  have HA2 := (show Hid _ from hat2)
  have HN2 := (show Hid _ from hno2)
  clear hat2 hno2
  obtain ⟨n, HN⟩ := hid_intro l.length
  rw [← HN.out] at hl HA2 HN2 ⊢
  go_enter Tryz.func41, Tryz.ntmps41
  go_wp2
  go_loopw [7] (fun vi wr => ∃ i : Nat, i ≤ n ∧ vi = .int .i64 i ∧ Hid (∀ j, j < i → badE (getE l j) = false) ∧ Below w.heap.size w wr) (fun vi _ => n - (intOf vi).toNat)
  case atStart => exact ⟨0, by omega, rfl, fun j hj => by omega, Below.refl _ _⟩
  case round =>
    obtain ⟨i, hi, rfl, HG, hb⟩ := hrel
    have hbs := hb.size
    by_cases hlt : i < n
    · obtain ⟨g, o, rfl, c1, c2, c3⟩ := (HAT.out.below hb).at (i := i) (by rw [← HN.out]; exact hlt)
      obtain ⟨hpl, hbl⟩ := HFT.out.at (i := i) (by rw [← HN.out]; exact hlt)
      have HBAD : Hid (badE (getE l i) = true → R = i) := fun h => HA2.out i hlt h HG.out
      have HGOOD : Hid (badE (getE l i) = false → ∀ j, j < i + 1 → badE (getE l j) = false) := fun h j hj => by
        by_cases e : j = i
        · rw [e]; exact h
        · exact HG.out j (by omega)
      have hdef : badE (getE l i) = (!(pathB (getE l i).p) || ((getE l i).dir && !((getE l i).b == []))) := rfl
      obtain ⟨e, HE⟩ := hid_intro (getE l i)
      rw [← HE.out] at c1 c2 c3 hpl hbl HBAD HGOOD hdef
      have HDEF := (show Hid _ from hdef)
      clear hdef HG
      have hz := size_of e.p
      have HP := (show Hid _ from IsPath_any ⟨e.p.toArray⟩ (by rw [hz]; omega))
      have htl := ByteArray.toList_eq ⟨e.b.toArray⟩
      cases hp : pathB e.p with
      | false =>
        have HF : Hid (R = i) := HBAD.out (by rw [HDEF.out, hp]; rfl)
        rw [show pathB (ByteArray.mk e.p.toArray).data.toList = false from hp] at HP
        clear HBAD HGOOD HDEF hp htl
        go_wp2_with (go_at_call 107; refine (HP.out _).mono ?_; clear HP; rintro e w1 ⟨rfl, hb1⟩; have HB1 := (show Hid (Below _ _ w1) from hb1); clear hb1)
        go_ret
        exact ⟨by rw [HF.out]; rfl, (hb.alloc hbs _).trans (HB1.out.mono (by simp; omega))⟩
      | true =>
        rw [show pathB (ByteArray.mk e.p.toArray).data.toList = true from hp] at HP
        cases hd : e.dir with
        | false =>
          have HF := (show Hid _ from HGOOD.out (by rw [HDEF.out, hp, hd]; rfl))
          rw [hd] at c2
          clear HBAD HGOOD HDEF hp htl hd
          go_wp2_with (go_at_call 107; refine (HP.out _).mono ?_; clear HP; rintro e w1 ⟨rfl, hb1⟩; have HB1 := (show Hid (Below _ _ w1) from hb1); have q1 := (hb1.cell (p := ⟨wr.heap.size, 1, none⟩) (by simp)).trans (cell_three_new wr _ _ _ 47 1 _ rfl); have q2 := (hb1.cell (p := ⟨wr.heap.size, 2, none⟩) (by simp)).trans (cell_three_new wr _ _ _ 47 2 _ rfl); clear hb1)
          go_roundw
          case rel => exact ⟨i + 1, by omega, by go_num, HF, (hb.alloc hbs _).trans (HB1.out.mono (by simp; omega))⟩
          case measure => simp [intOf]; omega
        | true =>
          rw [hd] at c2
          by_cases hbn : e.b = []
          · have HF := (show Hid _ from HGOOD.out (by rw [HDEF.out, hp, hd, hbn]; rfl))
            rw [hbn] at c3
            clear HBAD HGOOD HDEF hp htl hd
            go_wp2_with (go_at_call 107; refine (HP.out _).mono ?_; clear HP; rintro e w1 ⟨rfl, hb1⟩; have HB1 := (show Hid (Below _ _ w1) from hb1); have q1 := (hb1.cell (p := ⟨wr.heap.size, 1, none⟩) (by simp)).trans (cell_three_new wr _ _ _ 47 1 _ rfl); have q2 := (hb1.cell (p := ⟨wr.heap.size, 2, none⟩) (by simp)).trans (cell_three_new wr _ _ _ 47 2 _ rfl); clear hb1)
            go_roundw
            case rel => exact ⟨i + 1, by omega, by go_num, HF, (hb.alloc hbs _).trans (HB1.out.mono (by simp; omega))⟩
            case measure => simp [intOf]; omega
          · have HF : Hid (R = i) := HBAD.out (by rw [HDEF.out, hp, hd, str_ne hbn]; rfl)
            have hne := str_ne hbn
            clear HBAD HGOOD HDEF hp htl hd
            go_wp2_with (go_at_call 107; refine (HP.out _).mono ?_; clear HP; rintro e w1 ⟨rfl, hb1⟩; have HB1 := (show Hid (Below _ _ w1) from hb1); have q1 := (hb1.cell (p := ⟨wr.heap.size, 1, none⟩) (by simp)).trans (cell_three_new wr _ _ _ 47 1 _ rfl); have q2 := (hb1.cell (p := ⟨wr.heap.size, 2, none⟩) (by simp)).trans (cell_three_new wr _ _ _ 47 2 _ rfl); clear hb1)
            go_ret
            exact ⟨by rw [HF.out]; rfl, (hb.alloc hbs _).trans (HB1.out.mono (by simp; omega))⟩
    · obtain rfl : i = n := by omega
      have HF : Hid (R = i) := HN2.out HG.out
      clear HG
      go_wp2
      go_ret
      exact ⟨by rw [HF.out]; rfl, hb⟩
end Go.Proofs.YtgfbbcnnmoamnaaGreatDoor.Tr
