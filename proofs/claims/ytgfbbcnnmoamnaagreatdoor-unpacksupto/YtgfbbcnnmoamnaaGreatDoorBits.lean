/- Bits of numbers. -/
import Derived.Test.YtgfbbcnnmoamnaaGreatDoorBase
import Derived.Laws.BitsAllLaws
namespace Go.Proofs.YtgfbbcnnmoamnaaGreatDoor
open Go.RowKit

theorem wrap64_in' (n : Int) (h : -9223372036854775808 ≤ n ∧ n ≤ 9223372036854775807) : wrap64 n = n := by unfold wrap64; omega
theorem wrap_i64_in (n : Nat) (h : n < 4611686018427387904) : IntKind.i64.wrap (n : Int) = (n : Int) := by rw [IntKind.wrap_i64]; omega
theorem ofInt_i64 (a : Nat) (ha : a < 4611686018427387904) : (BitVec.ofInt 64 (a : Int)).toNat = a := by
  rw [BitVec.ofInt_natCast, BitVec.toNat_ofNat]; exact Nat.mod_eq_of_lt (by omega)
theorem i64_and_nat (a b : Nat) (ha : a < 4611686018427387904) (hb : b < 4611686018427387904) : bits .and .i64 (a : Int) (b : Int) = ((a &&& b : Nat) : Int) := by
  have hx : a &&& b < 2 ^ 62 := Nat.and_lt_two_pow _ (by omega)
  show IntKind.i64.wrap ((BitVec.ofInt 64 (a : Int) &&& BitVec.ofInt 64 (b : Int)).toNat : Int) = _
  rw [BitVec.toNat_and, ofInt_i64 a ha, ofInt_i64 b hb, wrap_i64_in _ (by omega)]
theorem i64_or_nat (a b : Nat) (ha : a < 4611686018427387904) (hb : b < 4611686018427387904) : bits .or .i64 (a : Int) (b : Int) = ((a ||| b : Nat) : Int) := by
  have hx : a ||| b < 2 ^ 62 := Nat.or_lt_two_pow (by omega) (by omega)
  show IntKind.i64.wrap ((BitVec.ofInt 64 (a : Int) ||| BitVec.ofInt 64 (b : Int)).toNat : Int) = _
  rw [BitVec.toNat_or, ofInt_i64 a ha, ofInt_i64 b hb, wrap_i64_in _ (by omega)]
theorem i64_xor_nat (a b : Nat) (ha : a < 4611686018427387904) (hb : b < 4611686018427387904) : bits .xor .i64 (a : Int) (b : Int) = ((a ^^^ b : Nat) : Int) := by
  have hx : a ^^^ b < 2 ^ 62 := Nat.xor_lt_two_pow (by omega) (by omega)
  show IntKind.i64.wrap ((BitVec.ofInt 64 (a : Int) ^^^ BitVec.ofInt 64 (b : Int)).toNat : Int) = _
  rw [BitVec.toNat_xor, ofInt_i64 a ha, ofInt_i64 b hb, wrap_i64_in _ (by omega)]
theorem pow_small (n : Nat) (hn : n < 32) : 2 ^ n < 4294967296 ∧ 0 < 2 ^ n := by
  constructor
  · have : (2:Nat) ^ n ≤ 2 ^ 31 := Nat.pow_le_pow_right (by omega) (by omega)
    omega
  · exact Nat.pow_pos (by omega)
theorem or_bit (a b n : Nat) (ha : a < 2 ^ n) (hb : b < 2) (hn : n < 32) : bits .or .i64 (a : Int) (wrap64 ((b : Int) * 2 ^ n)) = ((a + 2 ^ n * b : Nat) : Int) := by
  obtain ⟨h1, h2⟩ := pow_small n hn
  have hm : 2 ^ n * b < 4294967296 := by
    rcases (by omega : b = 0 ∨ b = 1) with rfl | rfl <;> omega
  have e : (b : Int) * 2 ^ n = ((2 ^ n * b : Nat) : Int) := by rw [Nat.mul_comm]; simp
  rw [e, wrap64_in' _ (by omega), i64_or_nat _ _ (by omega) (by omega), Nat.or_comm, nat_join n _ _ (by simp) ha, Nat.add_comm]
theorem bit_val (x : UInt8) (n : Nat) : bits .and .u8 ((x.toNat : Int) / 2 ^ n) 1 = ((x.toNat / 2 ^ n % 2 : Nat) : Int) := by
  have h : x.toNat / 2 ^ n < 256 := Nat.lt_of_le_of_lt (Nat.div_le_self _ _) x.toNat_lt
  have e : ((x.toNat : Int) / 2 ^ n) = ((x.toNat / 2 ^ n : Nat) : Int) := by simp
  rw [e]
  generalize x.toNat / 2 ^ n = y at h
  have h2 := u8_and_nat y 1 h (by omega)
  rw [Nat.and_one_is_mod] at h2
  exact h2
theorem turned16 (n : Nat) (hn : n < 65536) : bits .xor .i64 (n : Int) 65535 = ((65535 - n : Nat) : Int) := by
  have h := i64_xor_nat n 65535 (by omega) (by omega)
  have e : n ^^^ 65535 = 65535 - n := by
    apply Nat.eq_of_testBit_eq
    intro i
    have h3 : (65535 : Nat) = 2 ^ 16 - 1 := rfl
    rw [Nat.testBit_xor, show (65535 - n : Nat) = 2 ^ 16 - (n + 1) by omega, Nat.testBit_two_pow_sub_succ (by omega), h3, Nat.testBit_two_pow_sub_one]
    by_cases hi : i < 16
    · simp [hi]
    · have : n.testBit i = false := Nat.testBit_lt_two_pow (Nat.lt_of_lt_of_le hn (by have : (2:Nat)^16 ≤ 2^i := Nat.pow_le_pow_right (by omega) (by omega); omega))
      simp [hi, this]
  rw [e] at h
  exact h
end Go.Proofs.YtgfbbcnnmoamnaaGreatDoor
