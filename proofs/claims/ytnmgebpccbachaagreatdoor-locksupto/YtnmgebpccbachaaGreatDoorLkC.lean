/- A text cut at one byte; a line read. -/
import Derived.Test.YtnmgebpccbachaaGreatDoorLkB
namespace Go.Proofs.YtnmgebpccbachaaGreatDoor.Lk
open Go.RowKit Go.Proofs.YtnmgebpccbachaaGreatDoor

theorem idx_hit {c : UInt8} : ∀ {l : List UInt8}, (cutB c l).2.2 = true → Lib.indexByte l c = ((cutB c l).1.length : Int)
  | [], h => by cases h
  | x :: r, h => by
    unfold cutB at h ⊢
    unfold Lib.indexByte
    by_cases e : x = c
    · simp [e]
    · rw [if_neg e] at h
      have ih := idx_hit h
      have hx : (x == c) = false := beq_eq_false_iff_ne.2 e
      have hn : ((((cutB c r).1.length : Nat) : Int) == -1) = false := beq_eq_false_iff_ne.2 (by omega)
      rw [hx, ih, hn, if_neg e]
      simp
theorem idx_miss {c : UInt8} : ∀ {l : List UInt8}, (cutB c l).2.2 = false → Lib.indexByte l c = -1
  | [], _ => rfl
  | x :: r, h => by
    unfold cutB at h
    unfold Lib.indexByte
    by_cases e : x = c
    · rw [if_pos e] at h; cases h
    · rw [if_neg e] at h
      have ih := idx_miss h
      have hx : (x == c) = false := beq_eq_false_iff_ne.2 e
      rw [hx, ih]
      rfl
theorem idx_self (c : UInt8) : Lib.indexByte [c] c = 0 := by simp [Lib.indexByte]

set_option maxRecDepth 8000 in
theorem slIndex_one (s : ByteArray) (c : UInt8) (w : World) : Calls Tryz.prog 233 #[.string s, .string ⟨#[c]⟩] w fun r w' => r = .returned (.int .i64 (Lib.indexByte s.data.toList c)) ∧ w' = w := by
  have he := ByteArray.toList_eq s
  have hix : ∀ w : World, (Instr.index 9 (.string ⟨#[c]⟩) (.int .i64 0)).run Tryz.prog w = .ok (.int .u8 (c.toNat : Int)) w := fun w => by
    exact (idx_str ⟨#[c]⟩ 0 0 rfl (by show 0 < 1; omega) w).trans rfl
  by_cases h : s.data.toList = [c]
  · obtain rfl : s = ⟨#[c]⟩ := by
      apply ByteArray.ext
      exact Array.toList_inj.1 h
    rw [h, idx_self]
    clear he
    go_enter Tryz.func233, Tryz.ntmps233
    go_wp2
    go_ret
    exact ⟨rfl, rfl⟩
  · have hb : ([c] == s.toList) = false := by rw [he]; exact beq_eq_false_iff_ne.2 fun e => h e.symm
    clear he
    go_enter Tryz.func233, Tryz.ntmps233
    go_wp2_with (go_at_call 281; refine (slIndexByte_any _ _ _).mono ?_; rintro e w2 ⟨rfl, hw2⟩; rw [hw2, toUInt8_back]; clear hw2)
    go_ret
    exact ⟨rfl, rfl⟩

theorem extract_list (s : ByteArray) (a b : Nat) : s.extract a b = ⟨((s.data.toList.take b).drop a).toArray⟩ := by
  apply ByteArray.ext
  apply Array.toList_inj.1
  simp [ByteArray.data_extract, List.drop_take]
theorem sl_to (s : ByteArray) (i : Int) (a : Nat) (hi : i = a) (h : a ≤ s.size) (w : World) : (Instr.slice 9 (.string s) none (some (.int .i64 i)) none).run Tryz.prog w = .ok (.string (s.extract 0 a)) w := by
  subst hi
  rw [run_slice_string_to_if w 9 s .i64 a Tryz.underlying9]
  simp; omega
theorem sl_from (s : ByteArray) (i : Int) (a : Nat) (hi : i = a) (h : a ≤ s.size) (w : World) : (Instr.slice 9 (.string s) (some (.int .i64 i)) none none).run Tryz.prog w = .ok (.string (s.extract a s.size)) w := by
  subst hi
  rw [run_slice_string_from_if w 9 s .i64 a Tryz.underlying9]
  simp; omega
theorem cut_parts {c : UInt8} (s : ByteArray) (h : (cutB c s.data.toList).2.2 = true) : s.extract 0 (cutB c s.data.toList).1.length = ⟨(cutB c s.data.toList).1.toArray⟩ ∧ s.extract ((cutB c s.data.toList).1.length + 1) s.size = ⟨(cutB c s.data.toList).2.1.toArray⟩ ∧ (cutB c s.data.toList).1.length + 1 ≤ s.size := by
  have e := (cut_hit h).1
  have hl := len_data s
  rw [extract_list, extract_list, ← hl]
  obtain ⟨a, HA⟩ := hid_intro (cutB c s.data.toList).1
  obtain ⟨b, HB⟩ := hid_intro (cutB c s.data.toList).2.1
  rw [← HA.out, ← HB.out] at e ⊢
  rw [e]
  refine ⟨by simp, by rw [List.take_of_length_le (by simp)]; simp [List.drop_append], by simp⟩
set_option maxRecDepth 8000 in
theorem slCut_one (s : ByteArray) (hs : s.size ≤ 9223372036854775807) (c : UInt8) (w : World) : Calls Tryz.prog 182 #[.string s, .string ⟨#[c]⟩] w fun r w' => r = .returned (.tuple #[.string ⟨(cutB c s.data.toList).1.toArray⟩, .string ⟨(cutB c s.data.toList).2.1.toArray⟩, .bool (cutB c s.data.toList).2.2]) ∧ ∃ n, w' = w.drewN n := by
  cases hf : (cutB c s.data.toList).2.2 with
  | true =>
    obtain ⟨e1, e2, hle⟩ := cut_parts s hf
    have hi := idx_hit hf
    rw [← e1, ← e2]
    obtain ⟨i, HI⟩ := hid_intro (cutB c s.data.toList).1.length
    rw [← HI.out] at hle hi ⊢
    clear e1 e2 hf
    have HX := (show Hid _ from hi)
    clear hi
    have hz : (⟨#[c]⟩ : ByteArray).size = 1 := rfl
    have s1 := fun w => sl_to s i i rfl (by omega) w
    have s2 := fun w => sl_from s (i + 1) (i + 1) (by omega) hle w
    go_enter Tryz.func182, Tryz.ntmps182
    go_wp2_with (go_at_call 233; refine (slIndex_one _ _ _).mono ?_; rintro e w2 ⟨rfl, hw2⟩; rw [hw2, HX.out]; clear hw2)
    go_quiet (fail)
    go_wp2
    go_ret3
    exact ⟨rfl, _, rfl⟩
  | false =>
    obtain ⟨e1, e2⟩ := cut_miss hf
    have HI := (show Hid _ from idx_miss hf)
    rw [e1, e2]
    go_enter Tryz.func182, Tryz.ntmps182
    go_wp2_with (go_at_call 233; refine (slIndex_one _ _ _).mono ?_; rintro e w2 ⟨rfl, hw2⟩; rw [hw2, HI.out]; clear hw2)
    go_ret3
    exact ⟨rfl, 0, rfl⟩
theorem sCut_one (s : ByteArray) (hs : s.size ≤ 9223372036854775807) (c : UInt8) (w : World) : Calls Tryz.prog 121 #[.string s, .string ⟨#[c]⟩] w fun r w' => r = .returned (.tuple #[.string ⟨(cutB c s.data.toList).1.toArray⟩, .string ⟨(cutB c s.data.toList).2.1.toArray⟩, .bool (cutB c s.data.toList).2.2]) ∧ ∃ n, w' = w.drewN n := by
  go_enter Tryz.func121, Tryz.ntmps121
  go_wp2_with (go_at_call 182; refine (slCut_one _ hs _ _).mono ?_; rintro e w2 ⟨rfl, n, hw2⟩; rw [hw2]; clear hw2)
  go_ret3
  exact ⟨rfl, n, rfl⟩

/-- the cells of a module -/
def mv (m : M) : Array Value := #[.string ⟨m.n.toArray⟩, .string ⟨m.v.toArray⟩, .string ⟨m.d.toArray⟩]
theorem mv_size (m : M) : (mv m).size = 3 := rfl
theorem sizeLocked : (Tryz.prog.info? 40).map (·.size) = some 3 := by kernel_rfl
/-- three cells are laid -/
def set3 (w : World) (g o : Nat) (a b c : Value) : World := ((w.setCell ⟨g, o, none⟩ a).setCell ⟨g, o + 1, none⟩ b).setCell ⟨g, o + 2, none⟩ c
theorem set3_block {w : World} {g : Nat} {x y z : Value} {t : TypeId} (h : w.heap[g]? = some (.cells #[x, y, z] t (0, 0))) (a b c : Value) : (((w.setCell ⟨g, 0, none⟩ a).setCell ⟨g, 1, none⟩ b).setCell ⟨g, 2, none⟩ c).heap[g]? = some (.cells #[a, b, c] t (0, 0)) := by
  have h1 := heap_setCell_same _ _ 0 _ _ a h
  have h2 := heap_setCell_same _ _ 1 _ _ b h1
  have h3 := heap_setCell_same _ _ 2 _ _ c h2
  exact h3
theorem set3_below {B : Nat} {a w : World} (h : Below B a w) {g : Nat} (hg : B ≤ g) (x y z : Value) : Below B a (((w.setCell ⟨g, 0, none⟩ x).setCell ⟨g, 1, none⟩ y).setCell ⟨g, 2, none⟩ z) := ((h.setCell hg x).setCell hg y).setCell hg z
theorem readLine_any (s : ByteArray) (hs : s.size ≤ 9223372036854775807) (w : World) : Calls Tryz.prog 202 #[.string s] w fun r w' => r = .returned (.agg (mv (lineM s.data.toList))) ∧ Below w.heap.size w w' := by
  have h2 : (⟨(cutB 32 s.data.toList).2.1.toArray⟩ : ByteArray).size ≤ 9223372036854775807 := by
    have := cut_rest_le (c := 32) s.data.toList
    have e : (⟨(cutB 32 s.data.toList).2.1.toArray⟩ : ByteArray).size = (cutB 32 s.data.toList).2.1.length := by simp [ByteArray.size]
    rw [e]; rw [len_data] at this; omega
  unfold mv lineM
  have HC := (show Hid _ from sCut_one s hs 32)
  have HD := (show Hid _ from sCut_one ⟨(cutB 32 s.data.toList).2.1.toArray⟩ h2 32)
  rw [show (⟨(cutB 32 s.data.toList).2.1.toArray⟩ : ByteArray).data.toList = (cutB 32 s.data.toList).2.1 by simp] at HD
  obtain ⟨a, HA⟩ := hid_intro (cutB 32 s.data.toList).1
  obtain ⟨b, HB⟩ := hid_intro (cutB 32 s.data.toList).2.1
  obtain ⟨f, HF⟩ := hid_intro (cutB 32 s.data.toList).2.2
  rw [← HA.out, ← HB.out, ← HF.out] at HC
  rw [← HB.out] at HD
  rw [← HA.out, ← HB.out]
  obtain ⟨a2, HA2⟩ := hid_intro (cutB 32 b).1
  obtain ⟨b2, HB2⟩ := hid_intro (cutB 32 b).2.1
  obtain ⟨f2, HF2⟩ := hid_intro (cutB 32 b).2.2
  rw [← HA2.out, ← HB2.out, ← HF2.out] at HD
  rw [← HA2.out, ← HB2.out]
  go_enter Tryz.func202, Tryz.ntmps202
  go_wp2_with (first
    | (go_at_call 121; refine (HC.out _).mono ?_; clear HC; rintro e w2 ⟨rfl, n1, hw2⟩; rw [hw2]; clear hw2)
    | (go_at_call 121; refine (HD.out _).mono ?_; clear HD; rintro e w3 ⟨rfl, n2, hw3⟩; rw [hw3]; clear hw3))
  have h3 := set3_block (w := (w.alloc (Obj.cells #[Value.string ⟨#[]⟩, Value.string ⟨#[]⟩, Value.string ⟨#[]⟩] 40)).drewN (n1 + n2)) (heap_alloc_new w _) (.string ⟨a.toArray⟩) (.string ⟨a2.toArray⟩) (.string ⟨b2.toArray⟩)
  exact bodyPost_ret_by (results_cell_row Tryz.results202 _ _ w.heap.size 40 _ (0, 0) _ rfl h3 Tryz.underlying40 rfl sizeLocked) rfl ⟨rfl, set3_below (below_drewN ((Below.refl _ w).alloc (Nat.le_refl _) _) _) (Nat.le_refl _) _ _ _⟩

/-- the cells of some modules -/
def mcells (l : List M) : List Value := l.flatMap fun m => [.string ⟨m.n.toArray⟩, .string ⟨m.v.toArray⟩, .string ⟨m.d.toArray⟩]
theorem mcells_len (l : List M) : (mcells l).length = l.length * 3 := by
  induction l with
  | nil => rfl
  | cons m l ih => simp [mcells] at ih ⊢; omega
theorem mcells_snoc (l : List M) (m : M) : mcells (l ++ [m]) = mcells l ++ [.string ⟨m.n.toArray⟩, .string ⟨m.v.toArray⟩, .string ⟨m.d.toArray⟩] := by simp [mcells]
theorem mcells_get : ∀ (l : List M) (j : Nat) (m : M), l[j]? = some m → (mcells l)[j * 3]? = some (.string ⟨m.n.toArray⟩) ∧ (mcells l)[j * 3 + 1]? = some (.string ⟨m.v.toArray⟩) ∧ (mcells l)[j * 3 + 2]? = some (.string ⟨m.d.toArray⟩)
  | [], j, en, h => by simp at h
  | e :: l, 0, en, h => by
    have : e = en := by simpa using h
    subst this
    simp [mcells]
  | e :: l, j + 1, en, h => by
    have ih := mcells_get l j en (by simpa using h)
    have e2 : mcells (e :: l) = .string ⟨e.n.toArray⟩ :: .string ⟨e.v.toArray⟩ :: .string ⟨e.d.toArray⟩ :: mcells l := by simp [mcells]
    rw [e2, show (j + 1) * 3 = j * 3 + 1 + 1 + 1 by omega, show j * 3 + 1 + 1 + 1 + 1 = (j * 3 + 1) + 1 + 1 + 1 from rfl, show j * 3 + 1 + 1 + 1 + 2 = (j * 3 + 2) + 1 + 1 + 1 from rfl]
    simp only [List.getElem?_cons_succ]
    exact ih
/-- some modules lie at a place -/
def At (w : World) (v : Value) (l : List M) : Prop := ∃ (ao : Option Addr) (cap : Nat), v = .slice ao l.length cap ∧ l.length ≤ cap ∧ (ao = none → l = []) ∧
  ∀ a, ao = some a → ∀ j m, l[j]? = some m → w.cell? (a.add (j * 3)) = some (.string ⟨m.n.toArray⟩) ∧ w.cell? (a.add (j * 3 + 1)) = some (.string ⟨m.v.toArray⟩) ∧ w.cell? (a.add (j * 3 + 2)) = some (.string ⟨m.d.toArray⟩)
end Go.Proofs.YtnmgebpccbachaaGreatDoor.Lk
