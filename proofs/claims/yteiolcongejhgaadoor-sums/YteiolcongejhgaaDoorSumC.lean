/- What the program's folding of one block answers. -/
import Derived.Test.YteiolcongejhgaaDoorSumB
namespace Go.Proofs.YteiolcongejhgaaDoor
open Go.RowKit

/-- the program's table of round words lies where it was laid -/
def KeysAt (w : World) : Prop := 0 < w.heap.size ∧ ∀ i, i < 64 → w.cell? ⟨0, i, none⟩ = some (.int .u32 ((keys.getD i 0).toNat : Int))
theorem KeysAt.below {B : Nat} {w w' : World} (h : KeysAt w) (hb : Below B w w') (hB : 0 < B) : KeysAt w' :=
  ⟨Nat.lt_of_lt_of_le h.1 hb.size, fun i hi => (hb.cell (p := ⟨0, i, none⟩) hB).trans (h.2 i hi)⟩

theorem size39 : (Tryd.prog.info? 39).map (·.size) = some 8 := by kernel_rfl
theorem size56 : (Tryd.prog.info? 56).map (·.size) = some 64 := by kernel_rfl

theorem fold_head {w w1 : World} {o : Obj} {z : Array Value} (hb1 : Below ((w.alloc o).alloc (.cells z 39)).heap.size ((w.alloc o).alloc (.cells z 39)) w1) :
    Below w.heap.size w w1 ∧ w.heap.size + 1 < w1.heap.size ∧ w1.heap[w.heap.size]? = some o ∧ w1.heap[w.heap.size + 1]? = some (.cells z 39 (0, 0)) := by
  refine ⟨(((Below.refl _ _).alloc (Nat.le_refl _) _).alloc (by simp) _).trans (hb1.mono (by simp; omega)), ?_, ?_, ?_⟩
  · have := hb1.size; simp at this; omega
  · exact (hb1.block _ (by simp; omega)).trans (heap_alloc2_old w _ _)
  · exact (hb1.block _ (by simp)).trans (heap_alloc2_new w _ _)
theorem alloc_keeps {w : World} {o o' : Obj} {b : Nat} (h : w.heap[b]? = some o) : (w.alloc o').heap[b]? = some o := by
  rw [Below.heap_alloc _ _ _ (lt_of_block h)]; exact h
theorem setRow_alloc2 (w : World) (o : Obj) (c c' : Array Value) (t : TypeId) : ((w.alloc o).alloc (.cells c t)).setRow (w.heap.size + 1) c' = (w.alloc o).alloc (.cells c' t) := by
  have := World.setRow_alloc_new (w.alloc o) c c' t
  simpa using this

theorem round_list (st : List W32) (hst : st.length = 8) (key : W32) (w : World) :
    Calls Tryd.prog 27 #[.agg (row st), .int .u32 key.toNat] w fun en w' => en = .returned (.agg (row (rnd st key))) ∧ Below w.heap.size w w' := by
  obtain ⟨a, b, c, d, e, f, g, h, rfl⟩ := len8 st hst
  exact round_any a b c d e f g h key w

theorem round_sum (st : List W32) (hst : st.length = 8) (x y : W32) (w : World) :
    Calls Tryd.prog 27 #[.agg (row st), .int .u32 (((x.toNat : Int) + (y.toNat : Int)) % 4294967296)] w fun en w' => en = .returned (.agg (row (rnd st (x + y)))) ∧ Below w.heap.size w w' := by
  rw [b_add']; exact round_list st hst (x + y) w

theorem still_load_row {P : Program} {o : Oper} {a : Act} {w : World} {K : Act → Prop} (ty : TypeId) (x : Operand) (ho : o.op = .load ty x)
    (g : Nat) (hx : a.eval x = .pointer (some ⟨g, 0, none⟩)) (t : TypeId) (cs : Array Value) (fr : Nat × Nat) (d : TypeDesc) (hg : w.heap[g]? = some (.cells cs t fr))
    (hu : P.underlying ty = some d) (hd : (match d with | .struct _ | .array _ _ => true | _ => false) = true) (hi : (P.info? ty).map (·.size) = some cs.size)
    (h : K (a.put o.dst (.agg cs))) : o.still P a w K := by
  unfold Oper.still execOp
  simp only [ho, hx, Instr.loadAt, Instr.sureAddr, Sem.run_bind, Sem.run_pure, Result.andThen_ok, run_loadVar_row w g t ty cs fr d hg hu hd hi]
  exact ⟨rfl, h⟩

/-- the blocks of a folding: the old state, the result, the schedule, the state that turns -/
def FoldInv (w : World) (B G : Nat) (h ws st : List W32) (wr : World) : Prop :=
  wr.heap[B]? = some (.cells (row h) 39 (0, 0)) ∧ wr.heap[B + 1]? = some (.cells (row (zeros 8)) 39 (0, 0)) ∧ wr.heap[G]? = some (.cells (row ws) 56 (0, 0)) ∧ wr.heap[G + 1]? = some (.cells (row st) 39 (0, 0)) ∧ Below B w wr
theorem FoldInv.call {w : World} {B G : Nat} {h ws st : List W32} {wr w2 : World} (i : FoldInv w B G h ws st wr) (hb : Below wr.heap.size wr w2) (hB : B ≤ wr.heap.size) : FoldInv w B G h ws st w2 :=
  ⟨(hb.block _ (lt_of_block i.1)).trans i.1, (hb.block _ (lt_of_block i.2.1)).trans i.2.1, (hb.block _ (lt_of_block i.2.2.1)).trans i.2.2.1, (hb.block _ (lt_of_block i.2.2.2.1)).trans i.2.2.2.1, i.2.2.2.2.trans (hb.mono hB)⟩
theorem FoldInv.drew {w : World} {B G : Nat} {h ws st : List W32} {wr : World} (i : FoldInv w B G h ws st wr) : FoldInv w B G h ws st wr.drew :=
  ⟨i.1, i.2.1, i.2.2.1, i.2.2.2.1, i.2.2.2.2.drew⟩
theorem FoldInv.row {w : World} {B G : Nat} {h ws st st' : List W32} {wr : World} (i : FoldInv w B G h ws st wr) (hG : B + 1 < G) : FoldInv w B G h ws st' (wr.setRow (G + 1) (row st')) :=
  ⟨(setRow_other wr _ _ _ (by omega)).trans i.1, (setRow_other wr _ _ _ (by omega)).trans i.2.1, (setRow_other wr _ _ _ (by omega)).trans i.2.2.1, setRow_heap _ _ _ _ _ _ i.2.2.2.1, below_row i.2.2.2.2 (by omega) _⟩
theorem FoldInv.cell {w : World} {B G : Nat} {h ws st : List W32} {wr : World} (i : FoldInv w B G h ws st wr) (hG : B + 1 < G) (k : Nat) {v : Int} (x : W32) (hv : v = (x.toNat : Int)) : FoldInv w B G h ws (st.set k x) (wr.setCell ⟨G + 1, k, none⟩ (.int .u32 v)) := by
  subst hv
  exact ⟨(heap_setCell_other wr _ _ _ (by simp; omega)).trans i.1, (heap_setCell_other wr _ _ _ (by simp; omega)).trans i.2.1, (heap_setCell_other wr _ _ _ (by simp)).trans i.2.2.1, row_step x i.2.2.2.1, i.2.2.2.2.setCell (by simp; omega) _⟩

set_option maxHeartbeats 1000000 in
theorem fold_any (h : List W32) (hh : h.length = 8) (s : ByteArray) (hs : s.size = 64) (w : World) (hK : KeysAt w) :
    Calls Tryd.prog 20 #[.agg (row h), .string s] w fun en w' => en = .returned (.agg (row (compress h (wordsOf s)))) ∧ Below w.heap.size w w' := by
  go_enter Tryd.func20, Tryd.ntmps20
  go_wp2_with (first
    | (go_at_call 26; refine (schedule_any s hs _).mono ?_; rintro e w1 ⟨rfl, hb1⟩; obtain ⟨hlow, hz, f0, f1⟩ := fold_head hb1; clear hb1; have g0 := fun o' => alloc_keeps (o' := o') f0)
    | (refine wpList_store_row rfl 56 (.tmp 5) (.tmp 10) rfl w1.heap.size _ rfl rfl 56 _ (heap_alloc_new w1 _) (by rw [row_size, sch_len]; exact size56) (by rw [row_size, sch_len]; rfl) (row_one _) ?_; rw [World.setRow_alloc_new])
    | (refine wpList_load_row rfl 39 (.tmp 2) rfl w.heap.size rfl 39 _ (0, 0) _ (g0 _) Tryd.underlying39 rfl (by rw [row_size, hh]; exact size39) ?_)
    | (refine wpList_store_row rfl 39 (.tmp 6) (.tmp 11) rfl (w1.heap.size + 1) _ rfl rfl 39 _ (heap_alloc2_new w1 _ _) (by rw [row_size, hh]; exact size39) (by rw [row_size, hh]; rfl) (row_one _) ?_; rw [setRow_alloc2]))
  obtain ⟨G, hG⟩ : ∃ G, G = w1.heap.size := ⟨_, rfl⟩
  have i0 : FoldInv w w.heap.size G h (sch (wordsOf s) 64) (rnds h (sch (wordsOf s) 64) 0) ((w1.alloc (Obj.cells (row (sch (wordsOf s) 64)) 56)).alloc (Obj.cells (row h) 39)) := by
    subst hG
    exact ⟨alloc_keeps (alloc_keeps f0), alloc_keeps (alloc_keeps f1), heap_alloc2_old w1 _ _, heap_alloc2_new w1 _ _, (hlow.alloc (by omega) _).alloc (by simp; omega) _⟩
  rw [← hG] at hz ⊢
  clear f0 f1 g0 hlow hG
  obtain ⟨ws, hws⟩ : ∃ ws, ws = sch (wordsOf s) 64 := ⟨_, rfl⟩
  have hwl : ws.length = 64 := by rw [hws, sch_len]
  go_loopw [12] (fun i wr => ∃ k : Nat, k ≤ 64 ∧ i = .int .i64 k ∧ FoldInv w w.heap.size G h (sch (wordsOf s) 64) (rnds h (sch (wordsOf s) 64) k) wr) (fun i _ => 64 - (intOf i).toNat)
  case atStart => exact ⟨0, by omega, rfl, i0⟩
  case round =>
    clear i0
    obtain ⟨k, hk, rfl, inv⟩ := hrel
    by_cases hlt : k < 64
    · have hkr : KeysAt wr := hK.below inv.2.2.2.2 hK.1
      have ck := hkr.2 k hlt
      have cw := row_cell k inv.2.2.1 (by rw [sch_len]; exact hlt)
      have b0 : (k : Int) < 64 := by omega
      have hadd := b_add
      obtain ⟨kk, hkk⟩ : ∃ kk, kk = keys.getD k 0 := ⟨_, rfl⟩
      obtain ⟨ww, hww⟩ : ∃ ww, ww = (sch (wordsOf s) 64).getD k 0 := ⟨_, rfl⟩
      rw [← hkk] at ck
      rw [← hww] at cw
      have HR : Hid (rnds h (sch (wordsOf s) 64) (k + 1) = rnd (rnds h (sch (wordsOf s) 64) k) (kk + ww)) := by rw [hkk, hww]; rfl
      have hsz : w.heap.size ≤ wr.heap.size := inv.2.2.2.2.size
      clear hkk hww
      go_wp2
      refine region_tail 8 (by kernel_rfl) (by kernel_rfl) ?_
      simp only [List.take_succ_cons, List.take_zero, List.drop_succ_cons, List.drop_zero]
      refine wpStill_step (fun K hK => ?_)
      refine still_load_row 39 (.tmp 6) rfl (G + 1) rfl 39 _ (0, 0) _ inv.drew.2.2.2.1 Tryd.underlying39 rfl (by rw [row_size, rnds_len _ _ hh]; exact size39) (hK _ ?_)
      clear hK K
      repeat still_step
      refine wpStill_nil ?_
      go_wp2_with (first
        | (go_at_call 27; refine (round_sum _ (rnds_len _ _ hh k) _ _ _).mono ?_; rintro e w2 ⟨rfl, hb2⟩; have inv2 := inv.drew.call hb2 hsz; clear hb2)
        | (refine wpList_store_row rfl 39 (.tmp 6) (.tmp 23) rfl (G + 1) _ rfl rfl 39 _ inv2.2.2.2.1 (by rw [row_size, rnd_len _ _ (rnds_len _ _ hh k)]; exact size39) (by rw [row_size, row_size, rnd_len _ _ (rnds_len _ _ hh k), rnds_len _ _ hh k]) (row_one _) ?_))
      go_roundw
      case rel =>
        first
          | exact ⟨k + 1, by omega, by go_num, by rw [HR.out]; exact inv2.row hz⟩
          | ((repeat apply Exists.intro); exact ⟨⟨k + 1, by omega, by go_num, by rw [HR.out]; exact inv2.row hz⟩, rfl⟩)
      case measure => simp [intOf]; omega
    · obtain rfl : k = 64 := by omega
      have hR := rnds_len h (sch (wordsOf s) 64) hh 64
      go_wp2
      go_loopw [25] (fun i wx => ∃ k : Nat, k ≤ 8 ∧ i = .int .i64 k ∧ FoldInv w w.heap.size G h (sch (wordsOf s) 64) (mix k (rnds h (sch (wordsOf s) 64) 64) h) wx) (fun i _ => 8 - (intOf i).toNat)
      case atStart => exact ⟨0, by omega, rfl, by rw [mix_zero _ _ hR]; exact inv⟩
      case round =>
        clear inv
        obtain ⟨k, hk, rfl, inv⟩ := hrel
        by_cases hlt : k < 8
        · have c1 := row_cell k inv.2.2.2.1 (by rw [mix_len]; exact hlt)
          have c2 := row_cell k inv.1 (by rw [hh]; exact hlt)
          rw [mix_get _ _ _ hlt] at c1
          obtain ⟨aa, haa⟩ : ∃ aa, aa = (rnds h (sch (wordsOf s) 64) 64).getD k 0 := ⟨_, rfl⟩
          obtain ⟨bb, hbb⟩ : ∃ bb, bb = h.getD k 0 := ⟨_, rfl⟩
          rw [← haa] at c1
          rw [← hbb] at c2
          have HM : Hid ((mix k (rnds h (sch (wordsOf s) 64) 64) h).set k (aa + bb) = mix (k + 1) (rnds h (sch (wordsOf s) 64) 64) h) := by rw [haa, hbb]; exact mix_step _ _ _ hlt
          have hf := frozen_of_row _ (G + 1) k _ _ inv.2.2.2.1
          have b0 : (k : Int) < 8 := by omega
          have hadd := b_add
          clear haa hbb
          go_wp2
          refine region_tail 8 (by kernel_rfl) (by kernel_rfl) ?_
          simp only [List.take_succ_cons, List.take_zero, List.drop_succ_cons, List.drop_zero]
          repeat still_step
          refine wpStill_nil ?_
          go_wp2
          go_roundw
          case rel =>
            first
              | exact ⟨k + 1, by omega, by go_num, by rw [← HM.out]; exact (inv.cell hz k (aa + bb) (by first | rfl | simp [BitVec.toNat_add])).drew⟩
              | ((repeat apply Exists.intro); exact ⟨⟨k + 1, by omega, by go_num, by rw [← HM.out]; exact (inv.cell hz k (aa + bb) (by first | rfl | simp [BitVec.toNat_add])).drew⟩, rfl⟩)
          case measure => simp [intOf]; omega
        · obtain rfl : k = 8 := by omega
          go_wp2_with (first
            | (refine wpList_load_row rfl 39 (.tmp 6) rfl (G + 1) rfl 39 _ (0, 0) _ inv.2.2.2.1 Tryd.underlying39 rfl (by rw [row_size, mix_len]; exact size39) ?_)
            | (refine wpList_store_row rfl 39 (.tmp 4) _ rfl (w.heap.size + 1) _ rfl rfl 39 _ inv.2.1 (by rw [row_size, mix_len]; exact size39) (by rw [row_size, row_size, mix_len]; rfl) (row_one _) ?_))
          refine bodyPost_ret_by (v := .agg (row (compress h (wordsOf s)))) (results_cell_row Tryd.results20 _ _ (w.heap.size + 1) 39 _ (0, 0) _ rfl (setRow_heap _ _ _ _ _ _ inv.2.1) Tryd.underlying39 rfl (by rw [row_size, compress_len]; exact size39)) rfl ⟨rfl, ?_⟩
          exact below_row inv.2.2.2.2 (by omega) _
end Go.Proofs.YteiolcongejhgaaDoor
