/- What is a name, what a digest: the document's looks. -/
import Derived.Test.YtnmgebpccbachaaGreatDoorLkB
namespace Go.Proofs.YtnmgebpccbachaaGreatDoor.Lk
open Go.RowKit Go.Proofs.YtnmgebpccbachaaGreatDoor

theorem name_of_all {l : List UInt8} (ha : l.all plainB = true) (h : ¬ (l = [] ∨ 16 < l.length ∨ l = [46] ∨ l = [46, 46])) : nameB l = true := by rw [name_all h]; exact ha
set_option maxRecDepth 8000 in
set_option maxHeartbeats 1000000 in
theorem rName_any (s : ByteArray) (hs : s.size ≤ 9223372036854775807) (w : World) : Calls Tryz.prog 146 #[.string s] w fun r w' => r = .returned (.bool (nameB s.data.toList)) ∧ w' = w := by
  have hl := len_data s
  have hx : ∀ (i : Nat) (h : i < s.size) (w : World), (Instr.index 9 (.string s) (.int .i64 (i : Int))).run Tryz.prog w = .ok (.int .u8 ((s.data.toList.getD i 0).toNat : Int)) w := fun i h w => by
    rw [idx_str s i i rfl h w, byte_at s i h]
  have he := ByteArray.toList_eq s
  obtain ⟨l, HL⟩ := hid_intro s.data.toList
  rw [← HL.out] at hl hx he ⊢
  have HX := (show Hid _ from hx)
  have HE := (show Hid _ from he)
  have HLL := (show Hid _ from hl)
  clear hx he hl
  go_enter Tryz.func146, Tryz.ntmps146
  go_wp2
  go_loopw [3] (fun vi wr => ∃ i : Nat, i ≤ s.size ∧ vi = .int .i64 i ∧ wr = w ∧ Hid (∀ j, j < i → plainB (l.getD j 0) = true)) (fun vi _ => s.size - (intOf vi).toNat)
  case atStart => exact ⟨0, by omega, rfl, rfl, fun j hj => by omega⟩
  case round =>
    obtain ⟨i, hi, rfl, hw, HA⟩ := hrel
    rw [hw]; clear hw
    by_cases hlt : i < s.size
    · have hix := fun w => HX.out i hlt w
      obtain ⟨c, HC⟩ := hid_intro (l.getD i 0)
      rw [← HC.out] at hix
      obtain ⟨k, HK⟩ := hid_intro c.toNat
      rw [← HK.out] at hix
      have HT : plainN k = true → Hid (∀ j, j < i + 1 → plainB (l.getD j 0) = true) := fun h j hj => by
        by_cases e : j = i
        · rw [e, ← HC.out, plainB_eq, ← HK.out]; exact h
        · exact HA.out j (by omega)
      have HN : plainN k = false → Hid (nameB l = false) := fun h => by
        show _ = _
        have h1 := all_at (p := plainB) (l := l) (i := i) (by have := HLL.out; omega) (by rw [← HC.out, plainB_eq, ← HK.out]; exact h)
        simp [nameB, h1]
      rcases (by omega : k < 45 ∨ k = 45 ∨ k = 46 ∨ k = 47 ∨ (48 ≤ k ∧ k ≤ 57) ∨ (58 ≤ k ∧ k ≤ 64) ∨ (65 ≤ k ∧ k ≤ 90) ∨ (91 ≤ k ∧ k ≤ 94) ∨ k = 95 ∨ k = 96 ∨ (97 ≤ k ∧ k ≤ 122) ∨ 123 ≤ k) with h | h | h | h | h | h | h | h | h | h | h | h
      · have HP := HN (plain_false (by omega))
        clear HT HN HA
        have hp1 : ((k : Int) == 46) = false := beq_eq_false_iff_ne.2 (by omega)
        have hp2 : ((k : Int) == 95) = false := beq_eq_false_iff_ne.2 (by omega)
        have hp3 : ((k : Int) == 45) = false := beq_eq_false_iff_ne.2 (by omega)
        go_wp2
        go_ret
        exact ⟨ret_bool HP.out.symm, rfl⟩
      · have HP := HT (plain_true (by omega))
        clear HT HN HA
        rw [h] at hix
        go_wp2
        go_roundw
        case rel => exact ⟨i + 1, by omega, by go_num, by first | rfl | trivial, HP⟩
        case measure => simp [intOf]; omega
      · have HP := HT (plain_true (by omega))
        clear HT HN HA
        rw [h] at hix
        go_wp2
        go_roundw
        case rel => exact ⟨i + 1, by omega, by go_num, by first | rfl | trivial, HP⟩
        case measure => simp [intOf]; omega
      · have HP := HN (plain_false (by omega))
        clear HT HN HA
        rw [h] at hix
        go_wp2
        go_ret
        exact ⟨ret_bool HP.out.symm, rfl⟩
      · have HP := HT (plain_true (by omega))
        clear HT HN HA
        go_wp2
        go_roundw
        case rel => exact ⟨i + 1, by omega, by go_num, by first | rfl | trivial, HP⟩
        case measure => simp [intOf]; omega
      · have HP := HN (plain_false (by omega))
        clear HT HN HA
        have hp1 : ((k : Int) == 46) = false := beq_eq_false_iff_ne.2 (by omega)
        have hp2 : ((k : Int) == 95) = false := beq_eq_false_iff_ne.2 (by omega)
        have hp3 : ((k : Int) == 45) = false := beq_eq_false_iff_ne.2 (by omega)
        have hd1 : decide ((k : Int) ≤ 57) = false := decide_eq_false (by omega)
        go_wp2
        go_ret
        exact ⟨ret_bool HP.out.symm, rfl⟩
      · have HP := HT (plain_true (by omega))
        clear HT HN HA
        go_wp2
        go_roundw
        case rel => exact ⟨i + 1, by omega, by go_num, by first | rfl | trivial, HP⟩
        case measure => simp [intOf]; omega
      · have HP := HN (plain_false (by omega))
        clear HT HN HA
        have hp1 : ((k : Int) == 46) = false := beq_eq_false_iff_ne.2 (by omega)
        have hp2 : ((k : Int) == 95) = false := beq_eq_false_iff_ne.2 (by omega)
        have hp3 : ((k : Int) == 45) = false := beq_eq_false_iff_ne.2 (by omega)
        have hd1 : decide ((k : Int) ≤ 57) = false := decide_eq_false (by omega)
        have hd2 : decide ((k : Int) ≤ 90) = false := decide_eq_false (by omega)
        go_wp2
        go_ret
        exact ⟨ret_bool HP.out.symm, rfl⟩
      · have HP := HT (plain_true (by omega))
        clear HT HN HA
        rw [h] at hix
        go_wp2
        go_roundw
        case rel => exact ⟨i + 1, by omega, by go_num, by first | rfl | trivial, HP⟩
        case measure => simp [intOf]; omega
      · have HP := HN (plain_false (by omega))
        clear HT HN HA
        rw [h] at hix
        go_wp2
        go_ret
        exact ⟨ret_bool HP.out.symm, rfl⟩
      · have HP := HT (plain_true (by omega))
        clear HT HN HA
        go_wp2
        go_roundw
        case rel => exact ⟨i + 1, by omega, by go_num, by first | rfl | trivial, HP⟩
        case measure => simp [intOf]; omega
      · have HP := HN (plain_false (by omega))
        clear HT HN HA
        have hp1 : ((k : Int) == 46) = false := beq_eq_false_iff_ne.2 (by omega)
        have hp2 : ((k : Int) == 95) = false := beq_eq_false_iff_ne.2 (by omega)
        have hp3 : ((k : Int) == 45) = false := beq_eq_false_iff_ne.2 (by omega)
        have hd1 : decide ((k : Int) ≤ 57) = false := decide_eq_false (by omega)
        have hd2 : decide ((k : Int) ≤ 90) = false := decide_eq_false (by omega)
        have hd3 : decide ((k : Int) ≤ 122) = false := decide_eq_false (by omega)
        go_wp2
        go_ret
        exact ⟨ret_bool HP.out.symm, rfl⟩
    · obtain rfl : i = s.size := by omega
      have hall := all_upto (p := plainB) (l := l) (fun j hj => HA.out j (by have := HLL.out; omega))
      clear HA HX
      by_cases hb : l = [] ∨ 16 < l.length ∨ l = [46] ∨ l = [46, 46]
      · have HP := (show Hid _ from name_false hb)
        have he := HE.out
        have hl := HLL.out
        rcases hb with h | h | h | h
        · rw [h] at he hl
          have h1 : s.size = 0 := by simpa using hl.symm
          clear hall
          go_wp2
          go_ret
          exact ⟨ret_bool HP.out.symm, rfl⟩
        · have h1 : 16 < s.size := by omega
          clear hall he hl
          go_wp2
          go_ret
          exact ⟨ret_bool HP.out.symm, rfl⟩
        · rw [h] at he hl
          have h1 : s.size = 1 := by simpa using hl.symm
          clear hall
          go_wp2
          go_ret
          exact ⟨ret_bool HP.out.symm, rfl⟩
        · rw [h] at he hl
          have h1 : s.size = 2 := by simpa using hl.symm
          clear hall
          go_wp2
          go_ret
          exact ⟨ret_bool HP.out.symm, rfl⟩
      · have HP := (show Hid _ from name_of_all hall hb)
        have he := HE.out
        have hl := HLL.out
        have h1 : s.size ≤ 16 := by
          rcases Nat.lt_or_ge 16 l.length with e | e
          · exact absurd (.inr (.inl e)) hb
          · omega
        have h0 : 1 ≤ s.size := by
          rcases Nat.eq_zero_or_pos l.length with e | e
          · exact absurd (.inl (List.length_eq_zero_iff.1 e)) hb
          · omega
        have h2 : (s.toList == [46]) = false := by rw [he]; exact beq_eq_false_iff_ne.2 fun e => hb (.inr (.inr (.inl e)))
        have h3 : (s.toList == [46, 46]) = false := by rw [he]; exact beq_eq_false_iff_ne.2 fun e => hb (.inr (.inr (.inr e)))
        clear he hb hall hl
        go_wp2
        go_ret
        exact ⟨ret_bool HP.out.symm, rfl⟩

def hexN (c : Nat) : Bool := (48 ≤ c && c ≤ 57) || (97 ≤ c && c ≤ 102)
theorem hexB_eq (c : UInt8) : hexB c = hexN c.toNat := rfl
theorem hex_true {c : Nat} (h : (48 ≤ c ∧ c ≤ 57) ∨ (97 ≤ c ∧ c ≤ 102)) : hexN c = true := by
  simp only [hexN, Bool.or_eq_true, Bool.and_eq_true, decide_eq_true_eq]; omega
theorem hex_false {c : Nat} (h : ¬ ((48 ≤ c ∧ c ≤ 57) ∨ (97 ≤ c ∧ c ≤ 102))) : hexN c = false := by
  cases e : hexN c with
  | false => rfl
  | true =>
    exfalso; apply h
    simpa only [hexN, Bool.or_eq_true, Bool.and_eq_true, decide_eq_true_eq] using e
set_option maxRecDepth 8000 in
set_option maxHeartbeats 1000000 in
theorem rdigest_any (s : ByteArray) (hs : s.size ≤ 9223372036854775807) (w : World) : Calls Tryz.prog 147 #[.string s] w fun r w' => r = .returned (.bool (digB s.data.toList)) ∧ w' = w := by
  have hl := len_data s
  have hx : ∀ (i : Nat) (h : i < s.size) (w : World), (Instr.index 9 (.string s) (.int .i64 (i : Int))).run Tryz.prog w = .ok (.int .u8 ((s.data.toList.getD i 0).toNat : Int)) w := fun i h w => by
    rw [idx_str s i i rfl h w, byte_at s i h]
  obtain ⟨l, HL⟩ := hid_intro s.data.toList
  rw [← HL.out] at hl hx ⊢
  have HX := (show Hid _ from hx)
  have HLL := (show Hid _ from hl)
  clear hx hl
  go_enter Tryz.func147, Tryz.ntmps147
  go_wp2
  go_loopw [3] (fun vi wr => ∃ i : Nat, i ≤ s.size ∧ vi = .int .i64 i ∧ wr = w ∧ Hid (∀ j, j < i → hexB (l.getD j 0) = true)) (fun vi _ => s.size - (intOf vi).toNat)
  case atStart => exact ⟨0, by omega, rfl, rfl, fun j hj => by omega⟩
  case round =>
    obtain ⟨i, hi, rfl, hw, HA⟩ := hrel
    rw [hw]; clear hw
    by_cases hlt : i < s.size
    · have hix := fun w => HX.out i hlt w
      obtain ⟨c, HC⟩ := hid_intro (l.getD i 0)
      rw [← HC.out] at hix
      obtain ⟨k, HK⟩ := hid_intro c.toNat
      rw [← HK.out] at hix
      have HT : hexN k = true → Hid (∀ j, j < i + 1 → hexB (l.getD j 0) = true) := fun h j hj => by
        by_cases e : j = i
        · rw [e, ← HC.out, hexB_eq, ← HK.out]; exact h
        · exact HA.out j (by omega)
      have HN : hexN k = false → Hid (digB l = false) := fun h => by
        show _ = _
        have h1 := all_at (p := hexB) (l := l) (i := i) (by have := HLL.out; omega) (by rw [← HC.out, hexB_eq, ← HK.out]; exact h)
        simp [digB, h1]
      rcases (by omega : k < 48 ∨ (48 ≤ k ∧ k ≤ 57) ∨ (58 ≤ k ∧ k ≤ 96) ∨ (97 ≤ k ∧ k ≤ 102) ∨ 103 ≤ k) with h | h | h | h | h
      · have HP := HN (hex_false (by omega))
        clear HT HN HA
        go_wp2
        go_ret
        exact ⟨ret_bool HP.out.symm, rfl⟩
      · have HP := HT (hex_true (by omega))
        clear HT HN HA
        go_wp2
        go_roundw
        case rel => exact ⟨i + 1, by omega, by go_num, by first | rfl | trivial, HP⟩
        case measure => simp [intOf]; omega
      · have HP := HN (hex_false (by omega))
        clear HT HN HA
        go_wp2
        go_ret
        exact ⟨ret_bool HP.out.symm, rfl⟩
      · have HP := HT (hex_true (by omega))
        clear HT HN HA
        go_wp2
        go_roundw
        case rel => exact ⟨i + 1, by omega, by go_num, by first | rfl | trivial, HP⟩
        case measure => simp [intOf]; omega
      · have HP := HN (hex_false (by omega))
        clear HT HN HA
        go_wp2
        go_ret
        exact ⟨ret_bool HP.out.symm, rfl⟩
    · obtain rfl : i = s.size := by omega
      have hall := all_upto (p := hexB) (l := l) (fun j hj => HA.out j (by have := HLL.out; omega))
      have HP : Hid (digB l = ((s.size : Int) == 64)) := by
        show _ = _
        have := HLL.out
        rw [digB, hall, this, Bool.true_and]
        by_cases e : s.size = 64
        · rw [decide_eq_true e]; exact (beq_iff_eq.2 (by omega)).symm
        · rw [decide_eq_false e]; exact (beq_eq_false_iff_ne.2 (by omega)).symm
      clear HA HX hall
      go_wp2
      go_ret
      exact ⟨ret_bool HP.out.symm, rfl⟩
end Go.Proofs.YtnmgebpccbachaaGreatDoor.Lk
