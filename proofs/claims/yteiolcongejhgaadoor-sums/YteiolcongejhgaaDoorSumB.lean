/- What the program's schedule answers. -/
import Derived.Test.YteiolcongejhgaaDoorSumA
import Derived.StillTailTactics
namespace Go.Proofs.YteiolcongejhgaaDoor
open Go.RowKit

/-- the words of a text of 64 bytes -/
def wordsOf (s : ByteArray) (i : Nat) : W32 := be4 (s.data.toList.getD (4 * i) 0).toNat (s.data.toList.getD (4 * i + 1) 0).toNat (s.data.toList.getD (4 * i + 2) 0).toNat (s.data.toList.getD (4 * i + 3) 0).toNat
theorem byte_at (s : ByteArray) (i : Nat) (h : i < s.size) : s[i] = s.data.toList.getD i 0 := by
  have h' : i < s.data.size := h
  simp [ByteArray.getElem_eq_getElem_data, Array.getElem?_eq_getElem h']
theorem word_any (s : ByteArray) (i : Nat) (hi : 4 * i + 3 < s.size) (hs : s.size ≤ maxLen) (w : World) :
    Calls Tryd.prog 31 #[.string s, .int .i64 (4 * (i : Int))] w fun en w' => en = .returned (.int .u32 (wordsOf s i).toNat) ∧ ∃ k, w' = w.drewN k := by
  have h := wordAt_any s (4 * i) hi hs w
  unfold wordsOf
  rw [← byte_at, ← byte_at, ← byte_at, ← byte_at]
  simpa using h

theorem row_step {wr : World} {g k : Nat} {l : List W32} {T : TypeId} (x : W32) (h : wr.heap[g]? = some (.cells (row l) T (0, 0))) : (wr.setCell ⟨g, k, none⟩ (.int .u32 (x.toNat : Int))).heap[g]? = some (.cells (row (l.set k x)) T (0, 0)) := by
  rw [heap_setCell_same _ _ _ _ _ _ h, row_set]
theorem row_cell {wr : World} {g : Nat} {l : List W32} {T : TypeId} (k : Nat) (h : wr.heap[g]? = some (.cells (row l) T (0, 0))) (hk : k < l.length) : wr.cell? ⟨g, k, none⟩ = some (.int .u32 ((l.getD k 0).toNat : Int)) :=
  (cell_of_row wr g k _ _ _ h).trans (row_get _ k hk)

theorem region_tail {P : Program} {id : Nat} {Q : Exit → Act → World → Prop} {a : Act} {w : World} {l : List Oper} (n : Nat) (hm : P.follows .mixedOrders = true) (hB : Region.lexTailB .any l.toArray n = true)
    (h : wpStill P l.toArray w.drew (fun a' => wpList P l.toArray Q (l.drop n) a' w.drew) (l.take n) a) : (Code.region id l.toArray true).wp P Q a w := wp_region_still_tail n hm hB h

theorem wrap_small (x : Int) (n : Nat) (h : x = n) (hn : n < 4294967296) : IntKind.i64.wrap x = (n : Int) := by
  subst h
  rw [IntKind.wrap_i64]
  omega

theorem next_eq (f : Nat → W32) (k : Nat) : nextW (sch f k) = (sch f k)[k - 16]?.getD 0#32 + sS0 ((sch f k)[k - 15]?.getD 0#32) + (sch f k)[k - 7]?.getD 0#32 + sS1 ((sch f k)[k - 2]?.getD 0#32) := by
  simp [nextW, sch_len]

theorem below_row {B : Nat} {a w : World} (h : Below B a w) {g : Nat} (hg : B ≤ g) (cs : Array Value) : Below B a (w.setRow g cs) :=
  ⟨h.os, h.tape, h.output, by simp; exact h.size, fun k hk => (setRow_other w g k cs (by omega)).trans (h.block k hk)⟩
theorem hi_step (f : Nat → W32) {k : Nat} {w wr : World} (hk1 : 16 ≤ k) (hlt : k < 64) (h1 : wr.heap[w.heap.size + 1]? = some (.cells (row (sch f k ++ zeros (64 - k))) 56 (0, 0)))
    (h0 : wr.heap[w.heap.size]? = some (.cells (row (zeros 64)) 56 (0, 0))) (hb : Below w.heap.size w wr) {v : Int} (hv : v = ((nextW (sch f k)).toNat : Int)) :
    ((wr.setCell ⟨w.heap.size + 1, k, none⟩ (.int .u32 v)).drew.heap[w.heap.size + 1]? = some (.cells (row (sch f (k + 1) ++ zeros (64 - (k + 1)))) 56 (0, 0))) ∧
    ((wr.setCell ⟨w.heap.size + 1, k, none⟩ (.int .u32 v)).drew.heap[w.heap.size]? = some (.cells (row (zeros 64)) 56 (0, 0))) ∧
    Below w.heap.size w (wr.setCell ⟨w.heap.size + 1, k, none⟩ (.int .u32 v)).drew := by
  subst hv
  refine ⟨?_, ?_, (hb.setCell (by simp) _).drew⟩
  · rw [heap_drew, row_step _ h1, sch_set_hi _ _ hk1 hlt]
  · rw [heap_drew, heap_setCell_other _ _ _ _ (by simp)]; exact h0
theorem next_int (f : Nat → W32) (k : Nat) : (((((sch f k)[k - 16]?.getD 0#32).toNat : Int) + ((sS0 ((sch f k)[k - 15]?.getD 0#32)).toNat : Int) + (((sch f k)[k - 7]?.getD 0#32).toNat : Int) + ((sS1 ((sch f k)[k - 2]?.getD 0#32)).toNat : Int)) % 4294967296 : Int) = ((nextW (sch f k)).toNat : Int) := by
  rw [next_eq]; simp [BitVec.toNat_add]

set_option maxHeartbeats 400000 in
theorem schedule_any (s : ByteArray) (hs : s.size = 64) (w : World) :
    Calls Tryd.prog 26 #[.string s] w fun en w' => en = .returned (.agg (row (sch (wordsOf s) 64))) ∧ Below w.heap.size w w' := by
  have hs' : s.size ≤ maxLen := by unfold maxLen; omega
  go_enter Tryd.func26, Tryd.ntmps26
  go_wp2
  go_loopw [6] (fun i wr => ∃ k : Nat, k ≤ 16 ∧ i = .int .i64 k ∧ wr.heap[w.heap.size + 1]? = some (.cells (row (sch (wordsOf s) k ++ zeros (64 - k))) 56 (0, 0)) ∧ wr.heap[w.heap.size]? = some (.cells (row (zeros 64)) 56 (0, 0)) ∧ Below w.heap.size w wr)
    (fun i _ => 16 - (intOf i).toNat)
  case atStart => exact ⟨0, by omega, rfl, heap_alloc2_new w _ _, heap_alloc2_old w _ _, ((Below.refl _ _).alloc (Nat.le_refl _) _).alloc (by simp) _⟩
  case round =>
    obtain ⟨k, hk, rfl, h1, h0, hb⟩ := hrel
    by_cases hlt : k < 16
    · have hc := row_cell k h1 (by simp [sch_len, zeros]; omega)
      have hf := frozen_of_row wr (w.heap.size + 1) k _ _ h1
      go_wp2_with (go_at_call 31; refine (word_any s k (by omega) hs' _).mono ?_; rintro e w' ⟨rfl, m, rfl⟩)
      go_roundw
      case rel =>
        refine ⟨k + 1, by omega, by go_num, ?_, ?_, ?_⟩
        · rw [row_step (wordsOf s k) (show (wr.drewN m).heap[w.heap.size + 1]? = _ from h1), sch_set_lo _ _ hlt]
        · rw [heap_setCell_other _ _ _ _ (by simp)]; exact h0
        · exact (below_drewN hb _).setCell (by simp) _
      case measure => simp [intOf]; omega
    · obtain rfl : k = 16 := by omega
      clear hlt hk
      go_wp2
      go_loopw [5] (fun i wx => ∃ k : Nat, 16 ≤ k ∧ k ≤ 64 ∧ i = .int .i64 k ∧ wx.heap[w.heap.size + 1]? = some (.cells (row (sch (wordsOf s) k ++ zeros (64 - k))) 56 (0, 0)) ∧ wx.heap[w.heap.size]? = some (.cells (row (zeros 64)) 56 (0, 0)) ∧ Below w.heap.size w wx)
        (fun i _ => 64 - (intOf i).toNat)
      case atStart => exact ⟨16, by omega, by omega, rfl, h1, h0, hb⟩
      case round =>
        clear h1 h0 hb
        obtain ⟨k, hk1, hk, rfl, h1, h0, hb⟩ := hrel
        by_cases hlt : k < 64
        · have hl : (sch (wordsOf s) k ++ zeros (64 - k)).length = 64 := by simp [sch_len, zeros]; omega
          have c0 := row_cell k h1 (by omega)
          have c16 := row_cell (k - 16) h1 (by omega)
          have c15 := row_cell (k - 15) h1 (by omega)
          have c7 := row_cell (k - 7) h1 (by omega)
          have c2 := row_cell (k - 2) h1 (by omega)
          have hf := frozen_of_row _ (w.heap.size + 1) k _ _ h1
          rw [sch_get _ _ _ _ (by omega)] at c16 c15 c7 c2
          have hadd := b_add
          have e16 := wrap_small ((k : Int) - 16) (k - 16) (by omega) (by omega)
          have e15 := wrap_small ((k : Int) - 15) (k - 15) (by omega) (by omega)
          have e7 := wrap_small ((k : Int) - 7) (k - 7) (by omega) (by omega)
          have e2 := wrap_small ((k : Int) - 2) (k - 2) (by omega) (by omega)
          have b16 : ((k - 16 : Nat) : Int) < 64 := by omega
          have b15 : ((k - 15 : Nat) : Int) < 64 := by omega
          have b7 : ((k - 7 : Nat) : Int) < 64 := by omega
          have b2 : ((k - 2 : Nat) : Int) < 64 := by omega
          have b0 : (k : Int) < 64 := by omega
          go_wp2
          refine region_tail 22 (by kernel_rfl) (by kernel_rfl) ?_
          simp only [List.take_succ_cons, List.take_zero, List.drop_succ_cons, List.drop_zero]
          repeat (first | still_step | still_call (sS0_any _ _) | still_call (sS1_any _ _))
          refine wpStill_nil ?_
          go_wp2
          go_roundw
          case rel =>
            have R := hi_step (wordsOf s) hk1 hlt h1 h0 hb (next_int (wordsOf s) k)
            (repeat apply Exists.intro)
            exact ⟨⟨k + 1, by omega, by omega, by go_num, R.1, R.2.1, R.2.2⟩, rfl⟩
          case measure => simp [intOf]; omega
        · obtain rfl : k = 64 := by omega
          go_wp2_with (first
            | (refine wpList_load_row rfl 56 _ rfl (w.heap.size + 1) rfl 56 _ (0, 0) _ h1 Tryd.underlying56 rfl ?_ ?_; kernel_rfl)
            | (refine wpList_store_row rfl 56 _ _ rfl w.heap.size _ rfl rfl 56 _ h0 ?_ ?_ ?_ ?_; kernel_rfl; simp [row_size, sch_len, zeros]; exact row_one _))
          refine bodyPost_ret_by (v := .agg (row (sch (wordsOf s) 64))) (results_cell_row Tryd.results26 _ _ w.heap.size 56 _ (0, 0) _ rfl ?_ Tryd.underlying56 rfl ?_) rfl ⟨rfl, ?_⟩
          · rw [setRow_heap _ _ _ _ _ _ h0]; simp [zeros]
          · rw [row_size, sch_len]; kernel_rfl
          · exact below_row hb (Nat.le_refl _) _
end Go.Proofs.YteiolcongejhgaaDoor
