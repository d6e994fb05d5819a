/- What is a name, what a digest: the program's looks. -/
import Derived.Test.YtnmgebpccbachaaGreatDoorLkA
namespace Go.Proofs.YtnmgebpccbachaaGreatDoor.Lk
open Go.RowKit Go.Proofs.YtnmgebpccbachaaGreatDoor

theorem name_false {l : List UInt8} (h : l = [] ∨ 16 < l.length ∨ l = [46] ∨ l = [46, 46]) : nameB l = false := by
  cases e : nameB l with
  | false => rfl
  | true =>
    exfalso
    simp only [nameB, Bool.and_eq_true, decide_eq_true_eq, Bool.not_eq_true', beq_eq_false_iff_ne] at e
    rcases h with h | h | h | h
    · rw [h] at e; simp at e
    · omega
    · exact e.1.2 h
    · exact e.2 h
theorem name_all {l : List UInt8} (h : ¬ (l = [] ∨ 16 < l.length ∨ l = [46] ∨ l = [46, 46])) : nameB l = l.all plainB := by
  have h0 : 1 ≤ l.length := by
    rcases Nat.eq_zero_or_pos l.length with e | e
    · exact absurd (.inl (List.length_eq_zero_iff.1 e)) h
    · exact e
  have h1 : l.length ≤ 16 := by
    rcases Nat.lt_or_ge 16 l.length with e | e
    · exact absurd (.inr (.inl e)) h
    · exact e
  have h2 : (l == [46]) = false := beq_eq_false_iff_ne.2 fun e => h (.inr (.inr (.inl e)))
  have h3 : (l == [46, 46]) = false := beq_eq_false_iff_ne.2 fun e => h (.inr (.inr (.inr e)))
  simp [nameB, h0, h1, h2, h3]
theorem all_at {p : UInt8 → Bool} {l : List UInt8} {i : Nat} (hi : i < l.length) (h : p (l.getD i 0) = false) : l.all p = false := by
  cases e : l.all p with
  | false => rfl
  | true =>
    have := List.all_eq_true.1 e (l.getD i 0) (by simp [List.getD_eq_getElem?_getD, List.getElem?_eq_getElem hi])
    rw [h] at this; cases this
theorem all_upto {p : UInt8 → Bool} {l : List UInt8} (h : ∀ j, j < l.length → p (l.getD j 0) = true) : l.all p = true := by
  refine List.all_eq_true.2 fun x hx => ?_
  obtain ⟨j, hj, rfl⟩ := List.getElem_of_mem hx
  have := h j hj
  simpa [List.getD_eq_getElem?_getD, List.getElem?_eq_getElem hj] using this
theorem len_data (s : ByteArray) : s.data.toList.length = s.size := by simp
set_option maxRecDepth 8000 in
theorem IsName_any (s : ByteArray) (w : World) : Calls Tryz.prog 207 #[.string s] w fun r w' => r = .returned (.bool (nameB s.data.toList)) ∧ w' = w := by
  have hl := len_data s
  have hx : ∀ (i : Nat) (h : i < s.size) (w : World), (Instr.index 9 (.string s) (.int .i64 (i : Int))).run Tryz.prog w = .ok (.int .u8 ((s.data.toList.getD i 0).toNat : Int)) w := fun i h w => by
    rw [idx_str s i i rfl h w, byte_at s i h]
  have he := ByteArray.toList_eq s
  obtain ⟨l, HL⟩ := hid_intro s.data.toList
  rw [← HL.out] at hl hx he ⊢
  by_cases hb : l = [] ∨ 16 < l.length ∨ l = [46] ∨ l = [46, 46]
  · rw [name_false hb]
    rcases hb with h | h | h | h
    · rw [h] at he
      go_enter Tryz.func207, Tryz.ntmps207
      go_wp2
      go_ret
      exact ⟨rfl, rfl⟩
    · have h0 : (s.toList.isEmpty) = false := by rw [he]; cases l with | nil => simp at h | cons x r => rfl
      have h0' : ¬ s.toList = [] := by rw [he]; intro e; rw [e] at h; simp at h
      clear he
      have h1 : 16 < s.size := by omega
      go_enter Tryz.func207, Tryz.ntmps207
      go_wp2
      go_ret
      exact ⟨rfl, rfl⟩
    · rw [h] at he hl
      have h1 : s.size = 1 := by simpa using hl.symm
      go_enter Tryz.func207, Tryz.ntmps207
      go_wp2
      go_ret
      exact ⟨rfl, rfl⟩
    · rw [h] at he hl
      have h1 : s.size = 2 := by simpa using hl.symm
      go_enter Tryz.func207, Tryz.ntmps207
      go_wp2
      go_ret
      exact ⟨rfl, rfl⟩
  · rw [name_all hb]
    have h0 : s.toList.isEmpty = false := by rw [he]; cases l with | nil => exact absurd (.inl rfl) hb | cons x r => rfl
    have h0' : ¬ s.toList = [] := by rw [he]; exact fun e => hb (.inl e)
    have h1 : s.size ≤ 16 := by
      rcases Nat.lt_or_ge 16 l.length with e | e
      · exact absurd (.inr (.inl e)) hb
      · omega
    have h2 : (s.toList == [46]) = false := by rw [he]; exact beq_eq_false_iff_ne.2 fun e => hb (.inr (.inr (.inl e)))
    have h3 : (s.toList == [46, 46]) = false := by rw [he]; exact beq_eq_false_iff_ne.2 fun e => hb (.inr (.inr (.inr e)))
    clear he hb
    have HX := (show Hid _ from hx)
    clear hx
    go_enter Tryz.func207, Tryz.ntmps207
    go_wp2
    go_loopw [21] (fun vi wr => ∃ i : Nat, i ≤ s.size ∧ vi = .int .i64 i ∧ wr = w ∧ Hid (∀ j, j < i → plainB (l.getD j 0) = true)) (fun vi _ => s.size - (intOf vi).toNat)
    case atStart => exact ⟨0, by omega, rfl, rfl, fun j hj => by omega⟩
    case round =>
      obtain ⟨i, hi, rfl, hw, HA⟩ := hrel
      rw [hw]; clear hw
      by_cases hlt : i < s.size
      · have hix := fun w => HX.out i hlt w
        obtain ⟨c, HC⟩ := hid_intro (l.getD i 0)
        rw [← HC.out] at hix
        cases hp : plainB c with
        | false =>
          have HF := (show Hid _ from all_at (by omega) (HC.out ▸ hp))
          rw [plainB_eq] at hp
          go_wp2_with (go_at_call 262; refine (isNameByte_any _ _).mono ?_; rintro e w2 ⟨rfl, hw2⟩; rw [hw2, hp]; clear hw2)
          go_ret
          exact ⟨ret_bool HF.out.symm, rfl⟩
        | true =>
          have HA2 : Hid (∀ j, j < i + 1 → plainB (l.getD j 0) = true) := fun j hj => by
            by_cases e : j = i
            · rw [e, ← HC.out]; exact hp
            · exact HA.out j (by omega)
          rw [plainB_eq] at hp
          go_wp2_with (go_at_call 262; refine (isNameByte_any _ _).mono ?_; rintro e w2 ⟨rfl, hw2⟩; rw [hw2, hp]; clear hw2)
          go_roundw
          case rel => exact ⟨i + 1, by omega, by go_num, by first | rfl | trivial, HA2⟩
          case measure => simp [intOf]; omega
      · obtain rfl : i = s.size := by omega
        have HF := (show Hid _ from all_upto (fun j hj => HA.out j (by omega)))
        clear HA
        go_wp2
        go_ret
        exact ⟨ret_bool HF.out.symm, rfl⟩

/-- a digit or a letter a to f -/
theorem hex_index (c : UInt8) : decide (Lib.indexByte [48, 49, 50, 51, 52, 53, 54, 55, 56, 57, 97, 98, 99, 100, 101, 102] c < 0) = !hexB c := by
  have : ∀ n : Fin 256, decide (Lib.indexByte [48, 49, 50, 51, 52, 53, 54, 55, 56, 57, 97, 98, 99, 100, 101, 102] (UInt8.ofNat n.1) < 0) = !hexB (UInt8.ofNat n.1) := by decide +kernel
  have h := this ⟨c.toNat, c.toNat_lt⟩
  simpa using h
theorem toUInt8_back (c : UInt8) : ((c.toNat : Int)).toNat.toUInt8 = c := by simp
theorem dig_len {l : List UInt8} (h : l.length ≠ 64) : digB l = false := by simp [digB, h]
theorem dig_all {l : List UInt8} (h : l.length = 64) : digB l = l.all hexB := by simp [digB, h]
set_option maxRecDepth 8000 in
theorem IsText_any (s : ByteArray) (w : World) : Calls Tryz.prog 255 #[.string s] w fun r w' => r = .returned (.bool (digB s.data.toList)) ∧ w' = w := by
  have hl := len_data s
  have hx : ∀ (i : Nat) (h : i < s.size) (w : World), (Instr.index 9 (.string s) (.int .i64 (i : Int))).run Tryz.prog w = .ok (.int .u8 ((s.data.toList.getD i 0).toNat : Int)) w := fun i h w => by
    rw [idx_str s i i rfl h w, byte_at s i h]
  obtain ⟨l, HL⟩ := hid_intro s.data.toList
  rw [← HL.out] at hl hx ⊢
  by_cases hb : s.size = 64
  · rw [dig_all (by omega)]
    have HX := (show Hid _ from hx)
    clear hx
    go_enter Tryz.func255, Tryz.ntmps255
    go_wp2
    go_loopw [9] (fun vi wr => ∃ i : Nat, i ≤ 64 ∧ vi = .int .i64 i ∧ wr = w ∧ Hid (∀ j, j < i → hexB (l.getD j 0) = true)) (fun vi _ => 64 - (intOf vi).toNat)
    case atStart => exact ⟨0, by omega, rfl, rfl, fun j hj => by omega⟩
    case round =>
      obtain ⟨i, hi, rfl, hw, HA⟩ := hrel
      rw [hw]; clear hw
      by_cases hlt : i < 64
      · have hix := fun w => HX.out i (by omega) w
        obtain ⟨c, HC⟩ := hid_intro (l.getD i 0)
        rw [← HC.out] at hix
        have hh := hex_index c
        cases hp : hexB c with
        | false =>
          have HF := (show Hid _ from all_at (by omega) (HC.out ▸ hp))
          rw [hp] at hh
          go_wp2_with (go_at_call 307; refine (sIndexByte_any _ _ _).mono ?_; rintro e w2 ⟨rfl, hw2⟩; rw [hw2, toUInt8_back]; clear hw2)
          go_ret
          exact ⟨ret_bool HF.out.symm, rfl⟩
        | true =>
          have HA2 : Hid (∀ j, j < i + 1 → hexB (l.getD j 0) = true) := fun j hj => by
            by_cases e : j = i
            · rw [e, ← HC.out]; exact hp
            · exact HA.out j (by omega)
          rw [hp] at hh
          go_wp2_with (go_at_call 307; refine (sIndexByte_any _ _ _).mono ?_; rintro e w2 ⟨rfl, hw2⟩; rw [hw2, toUInt8_back]; clear hw2)
          go_roundw
          case rel => exact ⟨i + 1, by omega, by go_num, by first | rfl | trivial, HA2⟩
          case measure => simp [intOf]; omega
      · obtain rfl : i = 64 := by omega
        have HF := (show Hid _ from all_upto (fun j hj => HA.out j (by omega)))
        clear HA
        go_wp2
        go_ret
        exact ⟨ret_bool HF.out.symm, rfl⟩
  · rw [dig_len (by omega)]
    go_enter Tryz.func255, Tryz.ntmps255
    go_wp2
    go_ret
    exact ⟨rfl, rfl⟩
end Go.Proofs.YtnmgebpccbachaaGreatDoor.Lk
