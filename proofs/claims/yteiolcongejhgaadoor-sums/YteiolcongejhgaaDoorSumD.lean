/- What the program's folding of all blocks answers. -/
import Derived.Test.YteiolcongejhgaaDoorSumC
namespace Go.Proofs.YteiolcongejhgaaDoor
open Go.RowKit

theorem slice_str (s : ByteArray) (i j : Int) (a b : Nat) (hi : i = a) (hj : j = b) (h1 : a ≤ b) (h2 : b ≤ s.size) (w : World) :
    (Instr.slice 9 (.string s) (some (.int .i64 i)) (some (.int .i64 j)) none).run Tryd.prog w = .ok (.string (s.extract a b)) w := by
  subst hi hj
  rw [run_slice_string w 9 s .i64 .i64 a b Tryd.underlying9 (by omega) (by omega) (by omega)]
  simp
theorem extract_words (s : ByteArray) (k i : Nat) (hi : i < 16) : wordsOf (s.extract (64 * k) (64 * k + 64)) i = blk s.data.toList k i := by
  have e : ∀ j, j < 64 → (s.extract (64 * k) (64 * k + 64)).data.toList.getD j 0 = s.data.toList.getD (64 * k + j) 0 := by
    intro j hj
    simp only [ByteArray.data_extract, Array.toList_extract, List.extract_eq_take_drop, List.getD_eq_getElem?_getD]
    rw [List.getElem?_take_of_lt (by omega), List.getElem?_drop]
  unfold wordsOf blk
  simp only [Nat.add_assoc]
  rw [e (4 * i) (by omega), e (4 * i + 1) (by omega), e (4 * i + 2) (by omega), e (4 * i + 3) (by omega)]

/-- the blocks of the folding of all: the state, the result -/
def AllInv (w : World) (st : List W32) (wr : World) : Prop :=
  wr.heap[w.heap.size]? = some (.cells (row st) 39 (0, 0)) ∧ wr.heap[w.heap.size + 1]? = some (.cells (row (zeros 8)) 39 (0, 0)) ∧ Below w.heap.size w wr
theorem AllInv.call {w : World} {st : List W32} {wr w2 : World} (i : AllInv w st wr) (hb : Below wr.heap.size wr w2) : AllInv w st w2 :=
  ⟨(hb.block _ (lt_of_block i.1)).trans i.1, (hb.block _ (lt_of_block i.2.1)).trans i.2.1, i.2.2.trans (hb.mono i.2.2.size)⟩
theorem AllInv.drew {w : World} {st : List W32} {wr : World} (i : AllInv w st wr) : AllInv w st wr.drew := ⟨i.1, i.2.1, i.2.2.drew⟩
theorem AllInv.row {w : World} {st st' : List W32} {wr : World} (i : AllInv w st wr) : AllInv w st' (wr.setRow w.heap.size (row st')) :=
  ⟨setRow_heap _ _ _ _ _ _ i.1, (setRow_other wr _ _ _ (by omega)).trans i.2.1, below_row i.2.2 (Nat.le_refl _) _⟩

set_option maxHeartbeats 1000000 in
theorem foldAll_any (h : List W32) (hh : h.length = 8) (s : ByteArray) (m : Nat) (hm : s.size = 64 * m) (hs : s.size ≤ 140737488355328) (w : World) (hK : KeysAt w) :
    Calls Tryd.prog 12 #[.agg (row h), .string s] w fun en w' => en = .returned (.agg (row (foldB h s.data.toList m))) ∧ Below w.heap.size w w' := by
  have HM : Hid (s.size = 64 * m) := hm
  clear hm
  go_enter Tryd.func12, Tryd.ntmps12
  go_wp2
  go_loopw [5] (fun i wr => ∃ k n : Nat, Hid (n = 64 * k) ∧ k ≤ m ∧ i = .int .i64 n ∧ AllInv w (foldB h s.data.toList k) wr) (fun i _ => s.size - (intOf i).toNat)
  case atStart => exact ⟨0, 0, rfl, by omega, rfl, heap_alloc2_old w _ _, heap_alloc2_new w _ _, ((Below.refl _ _).alloc (Nat.le_refl _) _).alloc (by simp) _⟩
  case round =>
    obtain ⟨k, n, HN, hk, rfl, inv⟩ := hrel
    by_cases hlt : n < s.size
    · have hkm : k < m := by have := HN.out; have := HM.out; omega
      have hn64 : n + 64 ≤ s.size := by have := HN.out; have := HM.out; omega
      have HR : Hid (foldB h s.data.toList (k + 1) = compress (foldB h s.data.toList k) (wordsOf (s.extract n (n + 64)))) := by
        rw [HN.out]; exact compress_congr _ _ _ (fun i hi => (extract_words s k i hi).symm)
      have hes : (s.extract n (n + 64)).size = 64 := by simp; omega
      have e64 : IntKind.i64.wrap ((n : Int) + 64) = (n : Int) + 64 := by rw [IntKind.wrap_i64]; omega
      have sl := fun w => slice_str s (n : Int) ((n : Int) + 64) n (n + 64) rfl (by omega) (by omega) hn64 w
      have hl8 := foldB_len h hh s.data.toList k
      go_wp2
      refine region_tail 6 (by kernel_rfl) (by kernel_rfl) ?_
      simp only [List.take_succ_cons, List.take_zero, List.drop_succ_cons, List.drop_zero]
      refine wpStill_step (fun K hK => ?_)
      refine still_load_row 39 (.tmp 2) rfl w.heap.size rfl 39 _ (0, 0) _ inv.drew.1 Tryd.underlying39 rfl (by rw [row_size, hl8]; exact size39) (hK _ ?_)
      clear hK K
      repeat still_step
      refine wpStill_nil ?_
      go_wp2_with (first
        | (go_at_call 20; refine (fold_any _ hl8 _ hes _ (hK.below inv.drew.2.2 hK.1)).mono ?_; rintro e w2 ⟨rfl, hb2⟩; have inv2 := inv.drew.call hb2; clear hb2)
        | (refine wpList_store_row rfl 39 (.tmp 2) (.tmp 18) rfl w.heap.size _ rfl rfl 39 _ inv2.1 (by rw [row_size, compress_len]; exact size39) (by rw [row_size, row_size, hl8, compress_len]) (row_one _) ?_))
      go_roundw
      case rel =>
        first
          | exact ⟨k + 1, n + 64, by have := HN.out; show n + 64 = 64 * (k + 1); omega, by omega, by go_num, by rw [HR.out]; exact inv2.row⟩
          | ((repeat apply Exists.intro); exact ⟨⟨k + 1, n + 64, by have := HN.out; show n + 64 = 64 * (k + 1); omega, by omega, by go_num, by rw [HR.out]; exact inv2.row⟩, rfl⟩)
      case measure => simp [intOf]; omega
    · obtain rfl : k = m := by have := HN.out; have := HM.out; omega
      have hl8 := foldB_len h hh s.data.toList k
      go_wp2_with (first
        | (refine wpList_load_row rfl 39 (.tmp 2) rfl w.heap.size rfl 39 _ (0, 0) _ inv.1 Tryd.underlying39 rfl (by rw [row_size, hl8]; exact size39) ?_)
        | (refine wpList_store_row rfl 39 (.tmp 4) _ rfl (w.heap.size + 1) _ rfl rfl 39 _ inv.2.1 (by rw [row_size, hl8]; exact size39) (by rw [row_size, row_size, hl8]; rfl) (row_one _) ?_))
      refine bodyPost_ret_by (v := .agg (row (foldB h s.data.toList k))) (results_cell_row Tryd.results12 _ _ (w.heap.size + 1) 39 _ (0, 0) _ rfl (setRow_heap _ _ _ _ _ _ inv.2.1) Tryd.underlying39 rfl (by rw [row_size, hl8]; exact size39)) rfl ⟨rfl, ?_⟩
      exact below_row inv.2.2 (by omega) _
end Go.Proofs.YteiolcongejhgaaDoor
