/- Are lengths right?. -/
import Derived.Test.YtgfbbcnnmoamnaaGreatDoorPH
import Derived.ChangeKeysEq
namespace Go.Proofs.YtgfbbcnnmoamnaaGreatDoor
open Go.RowKit

/-- the sum of the first counts -/
def rsum (cs : List Nat) : Nat → Nat
  | 0 => 0
  | i + 1 => rsum cs i + cs.getD i 0 * 2 ^ (15 - i)
theorem ret_bool {a b : Bool} (h : a = b) : Ending.returned (.bool a) = .returned (.bool b) := by rw [h]
theorem beq_nat (a b : Nat) : ((a : Int) == (b : Int)) = decide (a = b) := by
  by_cases h : a = b
  · subst h; simp
  · have : (a : Int) ≠ (b : Int) := by omega
    simp [h, this]
theorem len16 (l : List Nat) (h : l.length = 16) : ∃ a b c d e f g i j k m n o p q r, l = [a, b, c, d, e, f, g, i, j, k, m, n, o, p, q, r] := by
  match l, h with
  | [a, b, c, d, e, f, g, i, j, k, m, n, o, p, q, r], _ => exact ⟨a, b, c, d, e, f, g, i, j, k, m, n, o, p, q, r, rfl⟩
theorem idx_counts (cs : List Nat) (hl : cs.length = 16) (i : Int) (j : Nat) (hij : i = j) (hj : j < 16) (w : World) :
    (Instr.index 181 (.agg (rowi cs)) (.int .i64 i)).run Tryz.prog w = .ok (.int .i64 ((cs.getD j 0 : Nat) : Int)) w := by
  subst hij
  have hn : (0 : Int) ≤ (j : Int) ∧ (j : Int) < 16 := by omega
  have hg := rowi_get cs j (by omega)
  simp [Instr.index, run_underlying Tryz.underlying181, asIntOf, hn, go_sem, hj, hg]
theorem rsum_le (cs : List Nat) (hc : ∀ n ∈ cs, n ≤ 400) : ∀ i, rsum cs i ≤ i * (400 * 32768)
  | 0 => by simp [rsum]
  | i + 1 => by
    have ih := rsum_le cs hc i
    have h1 : cs.getD i 0 ≤ 400 := by
      rcases Nat.lt_or_ge i cs.length with h | h
      · exact hc _ (getD_mem h)
      · simp [h]
    have h2 : (2:Nat) ^ (15 - i) ≤ 2 ^ 15 := Nat.pow_le_pow_right (by omega) (by omega)
    have h3 : cs.getD i 0 * 2 ^ (15 - i) ≤ 400 * 32768 := Nat.mul_le_mul h1 h2
    simp only [rsum]; omega
set_option maxHeartbeats 1000000 in
set_option maxRecDepth 8000 in
theorem right_any (cs : List Nat) (hl : cs.length = 16) (hc : ∀ n ∈ cs, n ≤ 400) (w : World) :
    Calls Tryz.prog 350 #[.agg (rowi cs)] w fun e w' => e = .returned (.bool (decide (rsum cs 16 = 32768))) ∧ Below w.heap.size w w' := by
  have hb0 : (w.alloc (.cells (rowi cs) 181)).heap[w.heap.size]? = some (.cells (rowi cs) 181 (0, 0)) := heap_alloc_new w _
  have hsz : (rowi cs).size = 16 := by rw [rowi_size, hl]
  go_enter Tryz.func350, Tryz.ntmps350
  go_wp2_with (refine wpList_load_row rfl 181 (.tmp 1) rfl w.heap.size rfl 181 (rowi cs) (0, 0) _ hb0 Tryz.underlying181 rfl ?_ ?_; (rw [hsz]; exact sizeCounts))
  go_loopw [3, 7] (fun vs vi wr => ∃ i : Nat, i ≤ 16 ∧ vi = .int .i64 i ∧ vs = .int .i64 (rsum cs i) ∧ Below w.heap.size w wr) (fun _ vi _ => 16 - (intOf vi).toNat)
  case atStart => exact ⟨0, by omega, rfl, rfl, (Below.refl _ _).alloc (Nat.le_refl _) _⟩
  case round =>
    obtain ⟨i, hi, rfl, rfl, hb⟩ := hrel
    by_cases hlt : i < 16
    · obtain ⟨c, Hc⟩ := hid_intro (cs.getD i 0)
      have q0 : ∀ w, (Instr.index 181 (.agg (rowi cs)) (.int .i64 (i : Int))).run Tryz.prog w = .ok (.int .i64 (c : Int)) w := fun w => by rw [Hc.out]; exact idx_counts cs hl (i : Int) i rfl hlt w
      have hS := rsum_le cs hc i
      have hS2 := rsum_le cs hc (i + 1)
      have HS : Hid (rsum cs (i + 1) = rsum cs i + c * 2 ^ (15 - i)) := by rw [Hc.out]; rfl
      obtain ⟨S, HSS⟩ := hid_intro (rsum cs i)
      rw [← HSS.out] at hS HS ⊢
      obtain ⟨M, HM⟩ := hid_intro (c * 2 ^ (15 - i))
      rw [← HM.out] at HS
      have hM : S + M ≤ 300000000 := by rw [← HS.out]; omega
      have hM2 : (c : Int) * 2 ^ (15 - i) = (M : Int) := by rw [HM.out]; simp
      clear hS2
      go_wp2
      go_roundw
      case rel => exact ⟨i + 1, by omega, by go_num, by rw [HS.out]; simp, hb⟩
      case measure => simp [intOf]; omega
    · obtain rfl : i = 16 := by omega
      go_wp2
      go_ret
      exact ⟨ret_bool (beq_nat _ _), hb⟩
theorem cellsInt : Tryz.prog.cellsOf 3 = 1 := by kernel_rfl
theorem part_int (a : List Nat) (i : Nat) (hi : i < a.length) (w : World) : (part 3 (rowi a) (i * 1)).run Tryz.prog w = .ok (.int .i64 ((a.getD i 0 : Nat) : Int)) w := by
  have hg := rowi_get a i hi
  have u := Tryz.isAgg3
  simp [part, u, hg, go_sem]
theorem eqItems_rows (a b : List Nat) (w : World) : ∀ is : List Nat, (∀ i ∈ is, i < a.length ∧ i < b.length) → (Op.eqItems 9999 3 1 (rowi a) (rowi b) is).run Tryz.prog w = .ok (is.all fun i => a.getD i 0 == b.getD i 0) w
  | [], _ => by simp [Op.eqItems]
  | i :: is, h => by
    have ih := eqItems_rows a b w is (fun j hj => h j (by simp [hj]))
    obtain ⟨h1, h2⟩ := h i (by simp)
    have e := run_equalIn_int w 9998 3 .i64 .i64 ((a.getD i 0 : Nat) : Int) ((b.getD i 0 : Nat) : Int) Tryz.underlying3
    simp only [Op.eqItems, Sem.run_bind, part_int a i h1, part_int b i h2, Result.andThen_ok, e]
    by_cases hq : a.getD i 0 = b.getD i 0
    · simp only [hq, beq_self_eq_true, Bool.not_true, Bool.false_eq_true, if_false, ih, List.all_cons, Bool.true_and]
    · have : (((a.getD i 0 : Nat) : Int) == ((b.getD i 0 : Nat) : Int)) = false := by simp only [beq_eq_false_iff_ne, ne_eq]; omega
      have h3 : (a.getD i 0 == b.getD i 0) = false := by simp only [beq_eq_false_iff_ne, ne_eq]; exact hq
      simp only [this, Bool.not_false, if_true, List.all_cons, h3, Bool.false_and, Sem.run_pure]
theorem all_same (a b : List Nat) (n : Nat) (ha : a.length = n) (hb : b.length = n) : ((List.range n).all fun i => a.getD i 0 == b.getD i 0) = decide (a = b) := by
  by_cases h : a = b
  · subst h; simp
  · have : ¬ ((List.range n).all fun i => a.getD i 0 == b.getD i 0) = true := fun hall => h (by
      apply List.ext_getElem (by omega)
      intro i h1 h2
      have := List.all_eq_true.1 hall i (List.mem_range.2 (by omega))
      simpa [h1, h2] using this)
    rw [Bool.eq_false_iff.2 this]; simp [h]
theorem eq_counts (a b : List Nat) (ha : a.length = 16) (hb : b.length = 16) (w : World) : (Op.equalIn 10000 181 (.agg (rowi a)) (.agg (rowi b))).run Tryz.prog w = .ok (decide (a = b)) w := by
  obtain ⟨i, hi⟩ : ∃ i, Tryz.prog.info? 3 = some i := ⟨_, (info_parts infoInt).choose_spec.1⟩
  rw [run_equalIn_array w 9999 (rowi a) (rowi b) Tryz.underlying181 hi, cellsInt, eqItems_rows a b w _ (fun i hi => by have := List.mem_range.1 hi; omega), all_same a b 16 ha hb]
set_option maxHeartbeats 1000000 in
set_option maxRecDepth 8000 in
theorem most_any (cs : List Nat) (hl : cs.length = 16) (w : World) :
    Calls Tryz.prog 351 #[.agg (rowi cs)] w fun e w' => e = .returned (.bool (decide (cs = List.replicate 16 0 ∨ cs = [0, 1, 0, 0, 0, 0, 0, 0, 0, 0, 0, 0, 0, 0, 0, 0]))) ∧ Below w.heap.size w w' := by
  obtain ⟨c0, c1, c2, c3, c4, c5, c6, c7, c8, c9, c10, c11, c12, c13, c14, c15, rfl⟩ := len16 cs hl
  have e1 := fun w => eq_counts [c0, c1, c2, c3, c4, c5, c6, c7, c8, c9, c10, c11, c12, c13, c14, c15] (List.replicate 16 0) hl rfl w
  have e2 := fun w => eq_counts [c0, c1, c2, c3, c4, c5, c6, c7, c8, c9, c10, c11, c12, c13, c14, c15] [0, 1, 0, 0, 0, 0, 0, 0, 0, 0, 0, 0, 0, 0, 0, 0] hl rfl w
  have HE := (show Hid _ from Bool.decide_or ([c0, c1, c2, c3, c4, c5, c6, c7, c8, c9, c10, c11, c12, c13, c14, c15] = List.replicate 16 0) ([c0, c1, c2, c3, c4, c5, c6, c7, c8, c9, c10, c11, c12, c13, c14, c15] = [0, 1, 0, 0, 0, 0, 0, 0, 0, 0, 0, 0, 0, 0, 0, 0]))
  obtain ⟨b1, H1⟩ := hid_intro (decide ([c0, c1, c2, c3, c4, c5, c6, c7, c8, c9, c10, c11, c12, c13, c14, c15] = List.replicate 16 0))
  obtain ⟨b2, H2⟩ := hid_intro (decide ([c0, c1, c2, c3, c4, c5, c6, c7, c8, c9, c10, c11, c12, c13, c14, c15] = [0, 1, 0, 0, 0, 0, 0, 0, 0, 0, 0, 0, 0, 0, 0, 0]))
  rw [← H1.out] at e1 HE
  rw [← H2.out] at e2 HE
  have e1' : ∀ w, (Op.equalIn 10000 181 (.agg #[.int .i64 (c0 : Int), .int .i64 (c1 : Int), .int .i64 (c2 : Int), .int .i64 (c3 : Int), .int .i64 (c4 : Int), .int .i64 (c5 : Int), .int .i64 (c6 : Int), .int .i64 (c7 : Int), .int .i64 (c8 : Int), .int .i64 (c9 : Int), .int .i64 (c10 : Int), .int .i64 (c11 : Int), .int .i64 (c12 : Int), .int .i64 (c13 : Int), .int .i64 (c14 : Int), .int .i64 (c15 : Int)]) (.agg #[.int .i64 0, .int .i64 0, .int .i64 0, .int .i64 0, .int .i64 0, .int .i64 0, .int .i64 0, .int .i64 0, .int .i64 0, .int .i64 0, .int .i64 0, .int .i64 0, .int .i64 0, .int .i64 0, .int .i64 0, .int .i64 0])).run Tryz.prog w = .ok b1 w := e1
  have e2' : ∀ w, (Op.equalIn 10000 181 (.agg #[.int .i64 (c0 : Int), .int .i64 (c1 : Int), .int .i64 (c2 : Int), .int .i64 (c3 : Int), .int .i64 (c4 : Int), .int .i64 (c5 : Int), .int .i64 (c6 : Int), .int .i64 (c7 : Int), .int .i64 (c8 : Int), .int .i64 (c9 : Int), .int .i64 (c10 : Int), .int .i64 (c11 : Int), .int .i64 (c12 : Int), .int .i64 (c13 : Int), .int .i64 (c14 : Int), .int .i64 (c15 : Int)]) (.agg #[.int .i64 0, .int .i64 1, .int .i64 0, .int .i64 0, .int .i64 0, .int .i64 0, .int .i64 0, .int .i64 0, .int .i64 0, .int .i64 0, .int .i64 0, .int .i64 0, .int .i64 0, .int .i64 0, .int .i64 0, .int .i64 0])).run Tryz.prog w = .ok b2 w := e2
  rw [HE.out]
  clear e1 e2 H1 H2 HE
  rw [show rowi [c0, c1, c2, c3, c4, c5, c6, c7, c8, c9, c10, c11, c12, c13, c14, c15] = #[.int .i64 (c0 : Int), .int .i64 (c1 : Int), .int .i64 (c2 : Int), .int .i64 (c3 : Int), .int .i64 (c4 : Int), .int .i64 (c5 : Int), .int .i64 (c6 : Int), .int .i64 (c7 : Int), .int .i64 (c8 : Int), .int .i64 (c9 : Int), .int .i64 (c10 : Int), .int .i64 (c11 : Int), .int .i64 (c12 : Int), .int .i64 (c13 : Int), .int .i64 (c14 : Int), .int .i64 (c15 : Int)] from rfl]
  go_enter Tryz.func351, Tryz.ntmps351
  cases b1
  · go_wp2
    go_ret
    exact ⟨rfl, (Below.refl _ _).alloc (Nat.le_refl _) _⟩
  · go_wp2
    go_ret
    exact ⟨rfl, (Below.refl _ _).alloc (Nat.le_refl _) _⟩
end Go.Proofs.YtgfbbcnnmoamnaaGreatDoor
