/- Names and digests: the program's own looks. -/
import Derived.Test.YtnmgebpccbachaaGreatDoorBase
import Derived.Test.YtnmgebpccbachaaGreatDoorLkPure
import Derived.Lib.Bytealg
namespace Go.Proofs.YtnmgebpccbachaaGreatDoor.Lk
open Go.RowKit Go.Proofs.YtnmgebpccbachaaGreatDoor

def plainN (c : Nat) : Bool := (97 ≤ c && c ≤ 122) || (65 ≤ c && c ≤ 90) || (48 ≤ c && c ≤ 57) || c == 46 || c == 95 || c == 45
theorem plainB_eq (c : UInt8) : plainB c = plainN c.toNat := rfl
theorem plain_true {c : Nat} (h : (97 ≤ c ∧ c ≤ 122) ∨ (65 ≤ c ∧ c ≤ 90) ∨ (48 ≤ c ∧ c ≤ 57) ∨ c = 46 ∨ c = 95 ∨ c = 45) : plainN c = true := by
  simp only [plainN, Bool.or_eq_true, Bool.and_eq_true, decide_eq_true_eq, beq_iff_eq]; omega
theorem plain_false {c : Nat} (h : ¬ ((97 ≤ c ∧ c ≤ 122) ∨ (65 ≤ c ∧ c ≤ 90) ∨ (48 ≤ c ∧ c ≤ 57) ∨ c = 46 ∨ c = 95 ∨ c = 45)) : plainN c = false := by
  cases e : plainN c with
  | false => rfl
  | true =>
    exfalso; apply h
    simp only [plainN, Bool.or_eq_true, Bool.and_eq_true, decide_eq_true_eq, beq_iff_eq] at e; omega
theorem ret_bool {a b : Bool} (h : a = b) : Ending.returned (.bool a) = .returned (.bool b) := by rw [h]
theorem none_plain {c : Nat} (h : c ≠ 46 ∧ c ≠ 95 ∧ c ≠ 45) : ((c : Int) == 46 || (c : Int) == 95 || (c : Int) == 45) = false := by
  simp only [Bool.or_eq_false_iff, beq_eq_false_iff_ne]; omega
theorem isNameByte_any (c : Nat) (w : World) : Calls Tryz.prog 262 #[.int .u8 (c : Int)] w fun r w' => r = .returned (.bool (plainN c)) ∧ w' = w := by
  rcases (by omega : c < 45 ∨ c = 45 ∨ c = 46 ∨ c = 47 ∨ (48 ≤ c ∧ c ≤ 57) ∨ (58 ≤ c ∧ c ≤ 64) ∨ (65 ≤ c ∧ c ≤ 90) ∨ (91 ≤ c ∧ c ≤ 94) ∨ c = 95 ∨ c = 96 ∨ (97 ≤ c ∧ c ≤ 122) ∨ 123 ≤ c) with h | h | h | h | h | h | h | h | h | h | h | h
  · rw [plain_false (by omega)]
    go_enter Tryz.func262, Tryz.ntmps262
    go_wp2
    go_ret
    first | exact ⟨rfl, rfl⟩ | exact ⟨ret_bool (none_plain (by omega)), rfl⟩
  · subst h; rw [plain_true (by omega)]
    go_enter Tryz.func262, Tryz.ntmps262
    go_wp2
    go_ret
    first | exact ⟨rfl, rfl⟩ | exact ⟨ret_bool (none_plain (by omega)), rfl⟩
  · subst h; rw [plain_true (by omega)]
    go_enter Tryz.func262, Tryz.ntmps262
    go_wp2
    go_ret
    first | exact ⟨rfl, rfl⟩ | exact ⟨ret_bool (none_plain (by omega)), rfl⟩
  · subst h; rw [plain_false (by omega)]
    go_enter Tryz.func262, Tryz.ntmps262
    go_wp2
    go_ret
    first | exact ⟨rfl, rfl⟩ | exact ⟨ret_bool (none_plain (by omega)), rfl⟩
  · rw [plain_true (by omega)]
    go_enter Tryz.func262, Tryz.ntmps262
    go_wp2
    go_ret
    first | exact ⟨rfl, rfl⟩ | exact ⟨ret_bool (none_plain (by omega)), rfl⟩
  · rw [plain_false (by omega)]
    go_enter Tryz.func262, Tryz.ntmps262
    go_wp2
    go_ret
    first | exact ⟨rfl, rfl⟩ | exact ⟨ret_bool (none_plain (by omega)), rfl⟩
  · rw [plain_true (by omega)]
    go_enter Tryz.func262, Tryz.ntmps262
    go_wp2
    go_ret
    first | exact ⟨rfl, rfl⟩ | exact ⟨ret_bool (none_plain (by omega)), rfl⟩
  · rw [plain_false (by omega)]
    go_enter Tryz.func262, Tryz.ntmps262
    go_wp2
    go_ret
    first | exact ⟨rfl, rfl⟩ | exact ⟨ret_bool (none_plain (by omega)), rfl⟩
  · subst h; rw [plain_true (by omega)]
    go_enter Tryz.func262, Tryz.ntmps262
    go_wp2
    go_ret
    first | exact ⟨rfl, rfl⟩ | exact ⟨ret_bool (none_plain (by omega)), rfl⟩
  · subst h; rw [plain_false (by omega)]
    go_enter Tryz.func262, Tryz.ntmps262
    go_wp2
    go_ret
    first | exact ⟨rfl, rfl⟩ | exact ⟨ret_bool (none_plain (by omega)), rfl⟩
  · rw [plain_true (by omega)]
    go_enter Tryz.func262, Tryz.ntmps262
    go_wp2
    go_ret
    first | exact ⟨rfl, rfl⟩ | exact ⟨ret_bool (none_plain (by omega)), rfl⟩
  · rw [plain_false (by omega)]
    go_enter Tryz.func262, Tryz.ntmps262
    go_wp2
    go_ret
    first | exact ⟨rfl, rfl⟩ | exact ⟨ret_bool (none_plain (by omega)), rfl⟩


set_option maxRecDepth 100000 in
/-- the first place of a byte -/
theorem slIndexByte_any (s : ByteArray) (c : Int) (w : World) :
    Calls Tryz.prog 281 #[.string s, .int .u8 c] w fun e w' => e = .returned (.int .i64 (Lib.indexByte s.data.toList c.toNat.toUInt8)) ∧ w' = w := by
  go_enter Tryz.func281, Tryz.ntmps281
  go_wp2
  rw [run_callFunc_extern Tryz.func317 (by kernel_rfl) (by kernel_rfl) (by kernel_rfl) (e := Extern.BytealgIndexByte.indexByte) (by kernel_rfl), Lib.run_indexByteString]
  simp only [Result.andThen]
  rw [Oper.upon_value]
  go_wp2
  go_ret
  exact ⟨rfl, rfl⟩
theorem sIndexByte_any (s : ByteArray) (c : Int) (w : World) :
    Calls Tryz.prog 307 #[.string s, .int .u8 c] w fun e w' => e = .returned (.int .i64 (Lib.indexByte s.data.toList c.toNat.toUInt8)) ∧ w' = w := by
  go_enter Tryz.func307, Tryz.ntmps307
  go_wp2_with (go_at_call 281; refine (slIndexByte_any _ _ _).mono ?_; rintro e w2 ⟨rfl, hw2⟩; rw [hw2]; clear hw2)
  go_ret
  exact ⟨rfl, rfl⟩
end Go.Proofs.YtnmgebpccbachaaGreatDoor.Lk
