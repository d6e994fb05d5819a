/- What the program's last bytes and its digits are. -/
import Derived.Test.YteiolcongejhgaaDoorSumE
namespace Go.Proofs.YteiolcongejhgaaDoor
open Go.RowKit

theorem size25 : (Tryd.prog.info? 25).map (·.size) = some 32 := by kernel_rfl
theorem idx_agg (h : List W32) (hh : h.length = 8) (i : Int) (j : Nat) (hij : i = j) (hj : j < 8) (w : World) :
    (Instr.index 39 (.agg (row h)) (.int .i64 i)).run Tryd.prog w = .ok (.int .u32 ((h.getD j 0).toNat : Int)) w := by
  subst hij
  obtain ⟨a, b, c, d, e, f, g, k, rfl⟩ := len8 h hh
  match j, hj with
  | 0, _ => rfl
  | 1, _ => rfl
  | 2, _ => rfl
  | 3, _ => rfl
  | 4, _ => rfl
  | 5, _ => rfl
  | 6, _ => rfl
  | 7, _ => rfl
theorem brow_step {wr : World} {g k : Nat} {l : List UInt8} {T : TypeId} (x : UInt8) (h : wr.heap[g]? = some (.cells (brow l) T (0, 0))) : (wr.setCell ⟨g, k, none⟩ (.int .u8 (x.toNat : Int))).heap[g]? = some (.cells (brow (l.set k x)) T (0, 0)) := by
  rw [heap_setCell_same _ _ _ _ _ _ h, brow_set]
theorem brow_cell {wr : World} {g : Nat} {l : List UInt8} {T : TypeId} (k : Nat) (h : wr.heap[g]? = some (.cells (brow l) T (0, 0))) (hk : k < l.length) : wr.cell? ⟨g, k, none⟩ = some (.int .u8 ((l.getD k 0).toNat : Int)) :=
  (cell_of_row wr g k _ _ _ h).trans (brow_get _ k hk)

theorem heap_alloc3_new (w : World) (A B C : Obj) : (((w.alloc A).alloc B).alloc C).heap[w.heap.size + 1 + 1]? = some C := by
  have h := heap_alloc_new ((w.alloc A).alloc B) C
  simpa using h
theorem byte_step (h : List W32) {k j : Nat} {w wr : World} (hk : k < 8) (hj : j < 4) {v : Int} (hv : v = ((byteAt h (4 * k + j)).toNat : Int)) (h2 : wr.heap[w.heap.size + 1 + 1]? = some (.cells (brow (bpart h (4 * k + j))) 25 (0, 0)))
    (h1 : wr.heap[w.heap.size + 1]? = some (.cells (brow (bpart h 0)) 25 (0, 0))) (hb : Below w.heap.size w wr) :
    (wr.setCell ⟨w.heap.size + 1 + 1, 4 * k + j, none⟩ (.int .u8 v)).heap[w.heap.size + 1 + 1]? = some (.cells (brow (bpart h (4 * k + (j + 1)))) 25 (0, 0)) ∧
    (wr.setCell ⟨w.heap.size + 1 + 1, 4 * k + j, none⟩ (.int .u8 v)).heap[w.heap.size + 1]? = some (.cells (brow (bpart h 0)) 25 (0, 0)) ∧
    Below w.heap.size w (wr.setCell ⟨w.heap.size + 1 + 1, 4 * k + j, none⟩ (.int .u8 v)) := by
  subst hv
  refine ⟨?_, ?_, hb.setCell (by simp; omega) _⟩
  · rw [brow_step _ h2, bpart_step _ _ (by omega), Nat.add_assoc]
  · rw [heap_setCell_other _ _ _ _ (by simp)]; exact h1

set_option maxHeartbeats 1000000 in
theorem bytesOf_any (h : List W32) (hh : h.length = 8) (w : World) :
    Calls Tryd.prog 15 #[.agg (row h)] w fun en w' => en = .returned (.agg (brow (bytesL h))) ∧ Below w.heap.size w w' := by
  go_enter Tryd.func15, Tryd.ntmps15
  go_wp2_with (refine wpList_load_row rfl 39 (.tmp 1) rfl w.heap.size rfl 39 _ (0, 0) _ (alloc_keeps (heap_alloc2_old w _ _)) Tryd.underlying39 rfl (by rw [row_size, hh]; exact size39) ?_)
  go_loopw [8] (fun i wr => ∃ k : Nat, k ≤ 8 ∧ i = .int .i64 k ∧ wr.heap[w.heap.size + 1 + 1]? = some (.cells (brow (bpart h (4 * k))) 25 (0, 0)) ∧ wr.heap[w.heap.size + 1]? = some (.cells (brow (bpart h 0)) 25 (0, 0)) ∧ Below w.heap.size w wr) (fun i _ => 8 - (intOf i).toNat)
  case atStart => exact ⟨0, by omega, rfl, heap_alloc3_new w _ _ _, alloc_keeps (heap_alloc2_new w _ _), (((Below.refl _ _).alloc (Nat.le_refl _) _).alloc (by simp) _).alloc (by simp; omega) _⟩
  case round =>
    obtain ⟨k, hk, rfl, h2, h1, hb⟩ := hrel
    by_cases hlt : k < 8
    · obtain ⟨x, HX⟩ : ∃ x, Hid (x = h.getD k 0) := ⟨_, rfl⟩
      have hi : ∀ w, (Instr.index 39 (.agg (row h)) (.int .i64 (k : Int))).run Tryd.prog w = .ok (.int .u32 (x.toNat : Int)) w := fun w => by rw [HX.out]; exact idx_agg h hh (k : Int) k rfl hlt w
      go_wp2
      go_loopw [12] (fun i wx => ∃ j : Nat, j ≤ 4 ∧ i = .int .i64 j ∧ wx.heap[w.heap.size + 1 + 1]? = some (.cells (brow (bpart h (4 * k + j))) 25 (0, 0)) ∧ wx.heap[w.heap.size + 1]? = some (.cells (brow (bpart h 0)) 25 (0, 0)) ∧ Below w.heap.size w wx) (fun i _ => 4 - (intOf i).toNat)
      case atStart => exact ⟨0, by omega, rfl, h2, h1, hb⟩
      case round =>
        clear h2 h1 hb
        obtain ⟨j, hj, rfl, h2, h1, hb⟩ := hrel
        by_cases hlj : j < 4
        · have c := brow_cell (4 * k + j) h2 (by rw [bpart_len]; omega)
          have hf := frozen_of_row _ (w.heap.size + 1 + 1) (4 * k + j) _ _ h2
          go_wp2
          go_roundw
          case rel =>
            have R := byte_step h hlt hlj (by rw [HX.out]; exact byte_int h k j hlj : (x.toNat : Int) / 2 ^ (24 - 8 * j) % 256 = _) h2 h1 hb
            exact ⟨j + 1, by omega, by go_num, R.1, R.2.1, R.2.2⟩
          case measure => simp [intOf]; omega
        · obtain rfl : j = 4 := by omega
          go_wp2
          go_roundw
          case rel => exact ⟨k + 1, by omega, by go_num, h2, h1, hb⟩
          case measure => simp [intOf]; omega
    · obtain rfl : k = 8 := by omega
      go_wp2_with (first
        | (refine wpList_load_row rfl 25 (.tmp 3) rfl (w.heap.size + 1 + 1) rfl 25 _ (0, 0) _ h2 Tryd.underlying25 rfl (by rw [brow_size, bpart_len]; exact size25) ?_)
        | (refine wpList_store_row rfl 25 (.tmp 2) _ rfl (w.heap.size + 1) _ rfl rfl 25 _ h1 (by rw [brow_size, bpart_len]; exact size25) (by rw [brow_size, brow_size, bpart_len, bpart_len]) (brow_one _) ?_))
      refine bodyPost_ret_by (v := .agg (brow (bytesL h))) (results_cell_row Tryd.results15 _ _ (w.heap.size + 1) 25 _ (0, 0) _ rfl (by rw [← bpart_end]; exact setRow_heap _ _ _ _ _ _ h1) Tryd.underlying25 rfl (by rw [brow_size, bytesL_len]; exact size25)) rfl ⟨rfl, ?_⟩
      exact below_row hb (by omega) _

theorem idx_bytes (h : List UInt8) (hh : h.length = 32) (i : Int) (j : Nat) (hij : i = j) (hj : j < 32) (w : World) :
    (Instr.index 25 (.agg (brow h)) (.int .i64 i)).run Tryd.prog w = .ok (.int .u8 ((h.getD j 0).toNat : Int)) w := by
  subst hij
  have hc := brow_get h j (by omega)
  have h0 : (0 : Int) ≤ (j : Int) ∧ (j : Int) < 32 := by omega
  simp [Instr.index, asIntOf, run_underlying Tryd.underlying25, part, Tryd.isAgg5, Tryd.sizeOf5, hc]
  omega
theorem digit_at (n : Nat) (h : n < (⟨#[48, 49, 50, 51, 52, 53, 54, 55, 56, 57, 97, 98, 99, 100, 101, 102]⟩ : ByteArray).size) : (⟨#[48, 49, 50, 51, 52, 53, 54, 55, 56, 57, 97, 98, 99, 100, 101, 102]⟩ : ByteArray)[n] = digit n := by
  match n, h with
  | 0, _ => rfl
  | 1, _ => rfl
  | 2, _ => rfl
  | 3, _ => rfl
  | 4, _ => rfl
  | 5, _ => rfl
  | 6, _ => rfl
  | 7, _ => rfl
  | 8, _ => rfl
  | 9, _ => rfl
  | 10, _ => rfl
  | 11, _ => rfl
  | 12, _ => rfl
  | 13, _ => rfl
  | 14, _ => rfl
  | 15, _ => rfl
  | n + 16, h => exact absurd h (by simp [ByteArray.size])
theorem wbd {B b : Nat} {l : List UInt8} (n : Nat) (hn : n < (⟨#[48, 49, 50, 51, 52, 53, 54, 55, 56, 57, 97, 98, 99, 100, 101, 102]⟩ : ByteArray).size) {w : World} (h : Lib.IsBuilderF 30 5 B b (Lib.byteCells l) w) (hl : l.length < 1000000) (hBw : B ≤ w.heap.size) :
    Calls Tryd.prog 10 #[.pointer (some ⟨b, 0, none⟩), .int .u8 (((⟨#[48, 49, 50, 51, 52, 53, 54, 55, 56, 57, 97, 98, 99, 100, 101, 102]⟩ : ByteArray)[n]'hn).toNat : Int)] w fun e w' => e = .returned .nilIface ∧ Lib.IsBuilderF 30 5 B b (Lib.byteCells (l ++ [digit n])) w' ∧ Below B w w' :=
  wb (digit n) h (by rw [digit_at]) hl hBw
theorem low_digit (x : UInt8) : bits .and .u8 (x.toNat : Int) 15 = (x.toNat : Int) % 16 := by
  have h := u8_and_nat x.toNat 15 x.toNat_lt (by omega)
  have e := Nat.and_two_pow_sub_one_eq_mod x.toNat 4
  have e2 : x.toNat &&& 15 = x.toNat % 16 := e
  rw [e2] at h
  simpa using h
theorem hex_step (h : List UInt8) (k : Nat) (hk : k < h.length) : hexL (h.take (k + 1)) = hexL (h.take k) ++ [digit ((h.getD k 0).toNat / 16)] ++ [digit ((h.getD k 0).toNat % 16)] := by
  rw [List.take_succ_eq_append_getElem hk, hexL_snoc]
  simp [hk]

set_option maxHeartbeats 1000000 in
theorem text_any (h : List UInt8) (hh : h.length = 32) (w : World) :
    Calls Tryd.prog 6 #[.agg (brow h)] w fun en w' => en = .returned (.string ⟨(hexL h).toArray⟩) ∧ Below w.heap.size w w' := by
  go_enter Tryd.func6, Tryd.ntmps6
  go_wp2_with (first
    | (go_at_call 9; refine (Tryd.Builder_Grow_fresh (w.heap.size + 1) (w.heap.size + 1) 64 _ (Nat.le_refl _) (heap_alloc2_new w _ _) (by simp) (by omega)).mono ?_; rintro e w1 ⟨rfl, hg1, hl1⟩; have hr1 := (hl1.block w.heap.size (by omega)).trans (heap_alloc2_old w _ _))
    | (refine wpList_load_row rfl 25 (.tmp 1) rfl w.heap.size rfl 25 _ (0, 0) _ hr1 Tryd.underlying25 rfl (by rw [brow_size, hh]; exact size25) ?_))
  have hb1 : Lib.IsBuilderF 30 5 (w.heap.size + 1) (w.heap.size + 1) (Lib.byteCells (hexL (h.take 0))) w1 := .inr (Lib.BuilderAtF.of hg1)
  have hl : Below w.heap.size w w1 := (((Below.refl _ _).alloc (Nat.le_refl _) _).alloc (by simp) _).trans (hl1.mono (by omega))
  have hsz : w.heap.size + 1 ≤ w1.heap.size := by have := hl1.size; simp at this; omega
  clear hg1 hl1 hr1
  go_loopw [8] (fun i wr => ∃ k : Nat, k ≤ 32 ∧ i = .int .i64 k ∧ Lib.IsBuilderF 30 5 (w.heap.size + 1) (w.heap.size + 1) (Lib.byteCells (hexL (h.take k))) wr ∧ Below w.heap.size w wr ∧ w.heap.size + 1 ≤ wr.heap.size) (fun i _ => 32 - (intOf i).toNat)
  case atStart => exact ⟨0, by omega, rfl, hb1, hl, hsz⟩
  case round =>
    clear hb1 hl hsz
    obtain ⟨k, hk, rfl, hb, hl, hsz⟩ := hrel
    by_cases hlt : k < 32
    · obtain ⟨x, HX⟩ : ∃ x, Hid (x = h.getD k 0) := ⟨_, rfl⟩
      have hi : ∀ w, (Instr.index 25 (.agg (brow h)) (.int .i64 (k : Int))).run Tryd.prog w = .ok (.int .u8 (x.toNat : Int)) w := fun w => by rw [HX.out]; exact idx_bytes h hh (k : Int) k rfl hlt w
      have HS : Hid (hexL (h.take (k + 1)) = hexL (h.take k) ++ [digit (x.toNat / 16)] ++ [digit (x.toNat % 16)]) := by rw [HX.out]; exact hex_step h k (by omega)
      have hx := x.toNat_lt
      have ha := low_digit x
      have hll : (hexL (h.take k)).length ≤ 64 := by rw [hexL_len, List.length_take]; omega
      go_wp2_with (first
        | (go_at_call 10; refine (wbd (x.toNat / 16) _ hb (by omega) hsz).mono ?_; rintro e w2 ⟨rfl, hb2, hl2⟩; have hsz2 := hl2.size; clear hb)
        | (go_at_call 10; refine (wbd (x.toNat % 16) _ hb2 (by simp; omega) (by omega)).mono ?_; rintro e w3 ⟨rfl, hb3, hl3⟩; have hsz3 := hl3.size; clear hb2))
      go_roundw
      case rel => exact ⟨k + 1, by omega, by go_num, by rw [HS.out]; exact hb3, (hl.trans (hl2.mono (by omega))).trans (hl3.mono (by omega)), by omega⟩
      case measure => simp [intOf]; omega
    · obtain rfl : k = 32 := by omega
      go_wp2_with (go_at_call 11; refine (Tryd.Builder_String_any _ _ _ _ hb hsz).mono ?_; rintro e w3 ⟨rfl, _, hl3, _⟩)
      go_ret
      exact ⟨ret_str (by rw [List.take_of_length_le (by omega)]), hl.trans (hl3.mono (by omega))⟩
end Go.Proofs.YteiolcongejhgaaDoor
