/- What the document's product of two rows of parts is. -/
import Derived.Test.YteiolcongejhgaaDoorRefA
namespace Go.Proofs.YteiolcongejhgaaDoor
open Go.RowKit

theorem wrap_u64x (n : Int) : IntKind.u64.wrap n = n % 18446744073709551616 := by simp [IntKind.wrap, IntKind.bits, IntKind.signed]
theorem mul_int (o x y c : Nat) : IntKind.u64.wrap (IntKind.u64.wrap ((o : Int) + IntKind.u64.wrap ((x : Int) * (y : Int))) + (c : Int)) = ((mulX o x y c : Nat) : Int) := by
  simp only [wrap_u64x, mulX, Int.natCast_emod, Int.natCast_add, Int.natCast_mul]
  generalize (x : Int) * (y : Int) = z
  omega
theorem mul_mod (o x y c : Nat) : (IntKind.u64.wrap (IntKind.u64.wrap ((o : Int) + IntKind.u64.wrap ((x : Int) * (y : Int))) + (c : Int))).tmod 65536 = ((mulX o x y c % 65536 : Nat) : Int) := by
  rw [mul_int, Int.tmod_eq_emod_of_nonneg (by omega)]
  omega
theorem mul_div (o x y c : Nat) : IntKind.u64.wrap ((IntKind.u64.wrap (IntKind.u64.wrap ((o : Int) + IntKind.u64.wrap ((x : Int) * (y : Int))) + (c : Int))).tdiv 65536) = ((mulX o x y c / 65536 : Nat) : Int) := by
  rw [mul_int, Int.tdiv_eq_ediv_of_nonneg (by omega), wrap_u64x]
  have : mulX o x y c < 18446744073709551616 := Nat.mod_lt _ (by omega)
  omega
theorem add_int (o c : Nat) : IntKind.u64.wrap ((o : Int) + (c : Int)) = (((o + c) % 18446744073709551616 : Nat) : Int) := by
  rw [wrap_u64x]; omega

set_option maxHeartbeats 1000000 in
theorem times_any (a b : List Nat) (ga gb : Nat) (w : World) (ha : a.length ≤ 20) (hb : b.length ≤ 20) (hga : w.heap[ga]? = some (.cells (rowu a) 49 (0, 0))) (hgb : w.heap[gb]? = some (.cells (rowu b) 49 (0, 0))) :
    Calls Tryd.prog 39 #[.slice (some ⟨ga, 0, none⟩) a.length a.length, .slice (some ⟨gb, 0, none⟩) b.length b.length] w fun en w' => ∃ n, en = .returned (.slice (some ⟨w.heap.size, 0, none⟩) n n) ∧ Hid (n = (timesF a b).length) ∧ w'.heap[w.heap.size]? = some (.cells (rowu (timesF a b)) 49 (0, 0)) ∧ Below w.heap.size w w' := by
  obtain ⟨la, HA⟩ : ∃ l, Hid (l = a.length) := ⟨_, rfl⟩
  obtain ⟨lb, HB⟩ : ∃ l, Hid (l = b.length) := ⟨_, rfl⟩
  rw [← HA.out] at ha ⊢
  rw [← HB.out] at hb ⊢
  have mk := fun w => make_u64 (la + lb + 1) ((la : Int) + lb + 1) (by omega) (by omega) w
  go_enter Tryd.func39, Tryd.ntmps39
  go_wp2
  go_loopw [6] (fun i wr => ∃ k : Nat, k ≤ la ∧ i = .int .i64 k ∧ wr.heap[w.heap.size]? = some (.cells (rowu (outer a b k)) 49 (0, 0)) ∧ Below w.heap.size w wr) (fun i _ => la - (intOf i).toNat)
  case atStart => exact ⟨0, by omega, rfl, by rw [heap_alloc_new]; simp [outer, HA.out, HB.out], (Below.refl _ _).alloc (Nat.le_refl _) _⟩
  case round =>
    clear mk
    obtain ⟨i, hi, rfl, ho, hl⟩ := hrel
    by_cases hlt : i < la
    · obtain ⟨x, HX⟩ : ∃ x, Hid (x = a.getD i 0) := ⟨_, rfl⟩
      go_wp2
      go_loopw [7, 8] (fun c j wx => ∃ k : Nat, k ≤ lb ∧ j = .int .i64 k ∧ c = .int .u64 ((inner x b i (outer a b i) k).2 : Nat) ∧ wx.heap[w.heap.size]? = some (.cells (rowu (inner x b i (outer a b i) k).1) 49 (0, 0)) ∧ Below w.heap.size w wx) (fun _ j _ => lb - (intOf j).toNat)
      case atStart => exact ⟨0, by omega, rfl, rfl, ho, hl⟩
      case round =>
        clear ho hl
        obtain ⟨k, hk, rfl, rfl, ho, hl⟩ := hrel
        have hlo : (inner x b i (outer a b i) k).1.length = la + lb + 1 := by rw [inner_len, outer_len, HA.out, HB.out]
        by_cases hlk : k < lb
        · have co := rowu_cell (i + k) ho (by omega)
          have hf := frozen_of_row _ w.heap.size (i + k) _ _ ho
          have ca := (hl.cell (p := ⟨ga, i, none⟩) (lt_of_block hga)).trans (rowu_cell i hga (by have := HA.out; omega))
          have cb := (hl.cell (p := ⟨gb, k, none⟩) (lt_of_block hgb)).trans (rowu_cell k hgb (by have := HB.out; omega))
          rw [← HX.out] at ca
          obtain ⟨y, HY⟩ : ∃ y, Hid (y = b.getD k 0) := ⟨_, rfl⟩
          rw [← HY.out] at cb
          obtain ⟨o, HO⟩ : ∃ o, Hid (o = (inner x b i (outer a b i) k).1.getD (i + k) 0) := ⟨_, rfl⟩
          rw [← HO.out] at co
          obtain ⟨c, HC⟩ : ∃ c, Hid (c = (inner x b i (outer a b i) k).2) := ⟨_, rfl⟩
          rw [← HC.out]
          have HN : Hid (inner x b i (outer a b i) (k + 1) = ((inner x b i (outer a b i) k).1.set (i + k) (mulX o x y c % 65536), mulX o x y c / 65536)) := by rw [HO.out, HY.out, HC.out]; rfl
          go_wp2
          go_quiet (fail)
          go_wp2
          go_roundw
          case rel =>
            refine ⟨k + 1, by omega, by go_num, ?_, ?_, ?_⟩
            · rw [HN.out, mul_div]
            · rw [HN.out]; exact rowu_step _ (mul_mod o x y c) (show (wr.drewN nq).heap[w.heap.size]? = _ from ho)
            · exact (below_drewN hl _).setCell (Nat.le_refl _) _
          case measure => simp [intOf]; omega
        · obtain rfl : k = lb := by omega
          have co := rowu_cell (i + k) ho (by omega)
          have hf := frozen_of_row _ w.heap.size (i + k) _ _ ho
          obtain ⟨o, HO⟩ : ∃ o, Hid (o = (inner x b i (outer a b i) k).1.getD (i + k) 0) := ⟨_, rfl⟩
          rw [← HO.out] at co
          obtain ⟨c, HC⟩ : ∃ c, Hid (c = (inner x b i (outer a b i) k).2) := ⟨_, rfl⟩
          rw [← HC.out]
          have HN : Hid (outer a b (i + 1) = (inner x b i (outer a b i) k).1.set (i + k) ((o + c) % 18446744073709551616)) := by rw [HO.out, HC.out, HB.out, HX.out]; rfl
          go_wp2
          go_roundw
          case rel => exact ⟨i + 1, by omega, by go_num, by rw [HN.out]; exact rowu_step _ (add_int o c) ho, hl.setCell (Nat.le_refl _) _⟩
          case measure => simp [intOf]; omega
    · obtain rfl : i = la := by omega
      go_wp2
      go_ret
      exact ⟨_, rfl, by rw [timesF_len, ← HA.out, ← HB.out]; rfl, by rw [timesF, ← HA.out]; exact ho, hl⟩
end Go.Proofs.YteiolcongejhgaaDoor
