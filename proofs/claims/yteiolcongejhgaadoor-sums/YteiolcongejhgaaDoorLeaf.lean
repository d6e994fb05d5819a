/- What the program's and the document's smallest functions answer, at every word. -/
import Derived.Test.YteiolcongejhgaaDoorMath
import Derived.Test.YteiolcongejhgaaDoorRows
import Derived.WalkSpells
import Derived.WalkLawsBesides
import Derived.Deep.QuietTactic
import Derived.BigQuiet
namespace Go.Proofs.YteiolcongejhgaaDoor
open Go.RowKit

theorem ret_int {k : IntKind} {a b : Int} (h : a = b) : Ending.returned (.int k a) = .returned (.int k b) := by rw [h]

/-- a callee that only draws, met behind draws -/
theorem quiet_plus {P : Program} {f : FuncId} {args : Array Value} {w : World} {k n : Nat} {v : Value}
    (h : Calls P f args (w.drewN (k + n)) fun e w' => e = .returned v ∧ ∃ m, w' = (w.drewN (k + n)).drewN m) : Calls P f args (w.drewN (k + n)) fun e w'' => e = .returned v ∧ ∃ m, w'' = w.drewN (k + m) :=
  h.mono fun _ _ ⟨he, m, hm⟩ => ⟨he, n + m, by rw [hm, World.drewN_drewN, Nat.add_assoc]⟩
theorem quiet_plus_same {P : Program} {f : FuncId} {args : Array Value} {w : World} {k n : Nat} {v : Value}
    (h : Calls P f args (w.drewN (k + n)) fun e w' => e = .returned v ∧ w' = w.drewN (k + n)) : Calls P f args (w.drewN (k + n)) fun e w'' => e = .returned v ∧ ∃ m, w'' = w.drewN (k + m) :=
  h.mono fun _ _ ⟨he, hm⟩ => ⟨he, n, hm⟩

theorem rot_any (x : W32) (n : Nat) (h1 : 1 ≤ n) (h2 : n < 32) (w : World) :
    Calls Tryd.prog 43 #[.int .u32 x.toNat, .int .i64 (-(n:Int))] w fun e w' => e = .returned (.int .u32 (rr x n).toNat) ∧ w' = w := by
  have hk := rot_count n h1 h2
  have hx := x.isLt
  go_enter Tryd.func43, Tryd.ntmps43
  go_wp2
  go_ret
  have e : 32 - (32 - n) = n := by omega
  exact ⟨ret_int (by rw [e, b_shr, b_shl, b_or, BitVec.or_comm]; rfl), rfl⟩
theorem choose_any (x y z : W32) (w : World) :
    Calls Tryd.prog 35 #[.int .u32 x.toNat, .int .u32 y.toNat, .int .u32 z.toNat] w fun e w' => e = .returned (.int .u32 (ch x y z).toNat) ∧ w' = w := by
  go_enter Tryd.func35, Tryd.ntmps35
  go_wp2
  go_ret
  exact ⟨ret_int (by rw [b_and, b_not, b_and, b_xor]; rfl), rfl⟩
theorem maj_any (x y z : W32) (w : World) :
    Calls Tryd.prog 37 #[.int .u32 x.toNat, .int .u32 y.toNat, .int .u32 z.toNat] w fun e w' => e = .returned (.int .u32 (maj x y z).toNat) ∧ w' = w := by
  go_enter Tryd.func37, Tryd.ntmps37
  go_wp2
  go_ret
  exact ⟨ret_int (by rw [b_and, b_and, b_and, b_xor, b_xor]; rfl), rfl⟩
theorem turned_any (x : W32) (n : Nat) (hn : n < 32) (w : World) :
    Calls Tryd.prog 41 #[.int .u32 x.toNat, .int .i64 (n:Int)] w fun e w' => e = .returned (.int .u32 (rr x n).toNat) ∧ ∃ k, w' = w.drewN k := by
  have hx := x.isLt
  go_enter Tryd.func41, Tryd.ntmps41
  go_wp2
  go_quiet (fail)
  go_wp2
  go_ret
  exact ⟨ret_int (by rw [b_shr, b_shl, b_or]; rfl), nq, rfl⟩
theorem turn_any (x : W32) (n : Nat) (h1 : 1 ≤ n) (h2 : n < 32) (w : World) :
    Calls Tryd.prog 42 #[.int .u32 x.toNat, .int .i64 (n:Int)] w fun e w' => e = .returned (.int .u32 (rr x n).toNat) ∧ w' = w := by
  go_enter Tryd.func42, Tryd.ntmps42
  go_wp2_with (go_at_call 43; refine (rot_any _ n h1 h2 _).mono ?_; rintro e w' ⟨rfl, rfl⟩)
  go_ret
  exact ⟨rfl, rfl⟩
theorem turn_z (x : W32) (m : Int) (h1 : 1 ≤ m) (h2 : m < 32) (w : World) :
    Calls Tryd.prog 42 #[.int .u32 x.toNat, .int .i64 m] w fun e w' => e = .returned (.int .u32 (rr x m.toNat).toNat) ∧ w' = w := by
  obtain ⟨n, rfl⟩ := Int.eq_ofNat_of_zero_le (show 0 ≤ m by omega)
  exact turn_any x n (by omega) (by omega) w
theorem turned_z (x : W32) (m : Int) (h1 : 0 ≤ m) (h2 : m < 32) (w : World) :
    Calls Tryd.prog 41 #[.int .u32 x.toNat, .int .i64 m] w fun e w' => e = .returned (.int .u32 (rr x m.toNat).toNat) ∧ ∃ k, w' = w.drewN k := by
  obtain ⟨n, rfl⟩ := Int.eq_ofNat_of_zero_le h1
  exact turned_any x n (by omega) w
theorem bS0_any (x : W32) (w : World) : Calls Tryd.prog 36 #[.int .u32 x.toNat] w fun e w' => e = .returned (.int .u32 (bS0 x).toNat) ∧ w' = w := by
  go_enter Tryd.func36, Tryd.ntmps36
  go_wp2_with (go_at_call 42; refine (turn_z _ _ (by decide) (by decide) _).mono ?_; rintro e w' ⟨rfl, rfl⟩)
  go_ret
  exact ⟨ret_int (by rw [b_xor, b_xor]; rfl), rfl⟩
theorem bS1_any (x : W32) (w : World) : Calls Tryd.prog 34 #[.int .u32 x.toNat] w fun e w' => e = .returned (.int .u32 (bS1 x).toNat) ∧ w' = w := by
  go_enter Tryd.func34, Tryd.ntmps34
  go_wp2_with (go_at_call 42; refine (turn_z _ _ (by decide) (by decide) _).mono ?_; rintro e w' ⟨rfl, rfl⟩)
  go_ret
  exact ⟨ret_int (by rw [b_xor, b_xor]; rfl), rfl⟩
theorem sS0_any (x : W32) (w : World) : Calls Tryd.prog 32 #[.int .u32 x.toNat] w fun e w' => e = .returned (.int .u32 (sS0 x).toNat) ∧ w' = w := by
  go_enter Tryd.func32, Tryd.ntmps32
  go_wp2_with (go_at_call 42; refine (turn_z _ _ (by decide) (by decide) _).mono ?_; rintro e w' ⟨rfl, rfl⟩)
  go_ret
  have h8 := b_shr x 3
  simp only [show (2 : Int) ^ 3 = 8 from rfl] at h8
  exact ⟨ret_int (by rw [h8, b_xor, b_xor]; rfl), rfl⟩
theorem sS1_any (x : W32) (w : World) : Calls Tryd.prog 33 #[.int .u32 x.toNat] w fun e w' => e = .returned (.int .u32 (sS1 x).toNat) ∧ w' = w := by
  go_enter Tryd.func33, Tryd.ntmps33
  go_wp2_with (go_at_call 42; refine (turn_z _ _ (by decide) (by decide) _).mono ?_; rintro e w' ⟨rfl, rfl⟩)
  go_ret
  have h8 := b_shr x 10
  simp only [show (2 : Int) ^ 10 = 1024 from rfl] at h8
  exact ⟨ret_int (by rw [h8, b_xor, b_xor]; rfl), rfl⟩
end Go.Proofs.YteiolcongejhgaaDoor
