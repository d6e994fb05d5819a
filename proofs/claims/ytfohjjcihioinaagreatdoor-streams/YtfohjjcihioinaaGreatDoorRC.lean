/- The document's bits of a number; are lengths right?. -/
import Derived.Test.YtfohjjcihioinaaGreatDoorRB
import Derived.Test.YtfohjjcihioinaaGreatDoorSort
namespace Go.Proofs.YtfohjjcihioinaaGreatDoor
open Go.RowKit

theorem cat_zero (l : List UInt8) : (⟨#[48, 49]⟩ : ByteArray).extract 0 1 ++ ⟨l.toArray⟩ = ⟨(dig 0 :: l).toArray⟩ := by
  apply ByteArray.ext
  simp [dig]
theorem cat_one (l : List UInt8) : (⟨#[48, 49]⟩ : ByteArray).extract 1 2 ++ ⟨l.toArray⟩ = ⟨(dig 1 :: l).toArray⟩ := by
  apply ByteArray.ext
  simp [dig]
set_option maxHeartbeats 400000 in
set_option maxRecDepth 8000 in
theorem rbinary_any (n bits : Nat) (hn : n < 1000000000) (hb : bits ≤ 15) (w : World) :
    Calls Tryz.prog 127 #[.int .i64 n, .int .i64 bits] w fun r w' => r = .returned (.string ⟨(digs n bits).toArray⟩) ∧ w' = w := by
  go_enter Tryz.func127, Tryz.ntmps127
  go_wp2
  go_loopw [0, 5, 6] (fun vn vs vi wr => ∃ i : Nat, i ≤ bits ∧ vn = .int .i64 ((n / 2 ^ i : Nat) : Int) ∧ vs = .string ⟨(digs n i).toArray⟩ ∧ vi = .int .i64 i ∧ wr = w) (fun _ _ vi _ => bits - (intOf vi).toNat)
  case atStart => exact ⟨0, by omega, by simp, rfl, rfl, rfl⟩
  case round =>
    obtain ⟨i, hi, rfl, rfl, rfl, rfl⟩ := hrel
    have hle : n / 2 ^ i ≤ n := Nat.div_le_self ..
    have HD : Hid (digs n (i + 1) = dig (n / 2 ^ i % 2) :: digs n i) := rfl
    have HN : Hid (n / 2 ^ (i + 1) = n / 2 ^ i / 2) := by show _ = _; rw [Nat.pow_succ, Nat.div_div_eq_div_mul]
    obtain ⟨m, HM⟩ := hid_intro (n / 2 ^ i)
    rw [← HM.out] at hle HD HN ⊢
    have hll := digs_len n i
    obtain ⟨l, HL⟩ := hid_intro (digs n i)
    rw [← HL.out] at HD hll ⊢
    by_cases hlt : i < bits
    · rcases (by omega : (m : Int) % 2 = 0 ∨ (m : Int) % 2 = 1) with h0 | h0
      · go_wp2
        go_roundw
        case rel => exact ⟨i + 1, by omega, by rw [HN.out]; go_num, by rw [HD.out, show m % 2 = 0 by omega]; exact congrArg Value.string (cat_zero l), by go_num, by first | rfl | trivial⟩
        case measure => simp [intOf]; omega
      · go_wp2
        go_roundw
        case rel => exact ⟨i + 1, by omega, by rw [HN.out]; go_num, by rw [HD.out, show m % 2 = 1 by omega]; exact congrArg Value.string (cat_one l), by go_num, by first | rfl | trivial⟩
        case measure => simp [intOf]; omega
    · obtain rfl : i = bits := by omega
      go_wp2
      go_ret
      exact ⟨by rw [HL.out]; rfl, rfl⟩
end Go.Proofs.YtfohjjcihioinaaGreatDoor
