/- The program's finder: what it notes. -/
import Derived.Test.YtfohjjcihioinaaGreatDoorDH
import Derived.Deep.DeepCutAuto
namespace Go.Proofs.YtfohjjcihioinaaGreatDoor
open Go.RowKit Go.Maps

section
variable {F M Bf : Nat} {s : ByteArray} {p : Nat} {w : World}
set_option maxRecDepth 100000 in
theorem Fnd.look (h : Fnd F M Bf s p w) (t : UInt8 × UInt8 × UInt8) : (Instr.lookup 246 (.map (some M)) (keyV t) false).run Tryz.prog w = .ok (.int .i64 ((lastOcc s.data.toList p t : Nat) : Int)) w := by
  obtain ⟨n, D, _, _, _, ho, hD⟩ := h.mp
  obtain ⟨c, hr, hat, _⟩ := ho.lookup_int lawStart Tryz.underlying246 Tryz.underlying3 (zeroInt w) (keyL_of t)
  rw [hD t] at hat
  have : c = ((lastOcc s.data.toList p t : Nat) : Int) := by injection hat with hat; injection hat with _ hat; exact hat.symm
  rw [hr, this]
theorem wf_small (n : Nat) (h : n ≤ 100000) : (Lit.int .i64 (n : Int)).wf = true := WalkArith.wf_i64 (by omega)
/-- one place more -/
theorem Fnd.note {w w1 w2 : World} (h : Fnd F M Bf s p w) (hp : p + 3 ≤ s.size) (h1 : w1 = w.setCell ⟨Bf, p, none⟩ (.int .i64 ((lastOcc s.data.toList p (start3 s.data.toList p) : Nat) : Int))) {n : Nat} {D : DataW Unit} (hn : n ≤ p) (hI : IsMap D) (hD : ∀ t, D.atKey (keyL t) (.lit (.int .i64 0)) = .lit (.int .i64 ((lastOcc s.data.toList p t : Nat) : Int)))
    (ho : w2.ownsMap Tryz.prog 250 (plainElem Tryz.prog 3) M (n + 1) (D.put (keyL (start3 s.data.toList p)) (.lit (.int .i64 ((p + 1 : Nat) : Int))))) (hg : w1.grownBy w2 (some M)) : Fnd F M Bf s (p + 1) w2 := by
  have hlF := h.ltF
  have hlB := h.ltB
  have hs := h.hs
  have hB1 : w1.heap[Bf]? = some (.cells (rowi (befs s.data.toList (p + 1))) 3 (0, 0)) := by
    rw [h1, ← befs_step s.data.toList p (by simpa using hp)]
    exact rowi_step _ rfl h.bef
  have hF1 : w1.heap[F]? = w.heap[F]? := by rw [h1]; exact heap_setCell_other _ _ _ _ (by have := h.hFB; simpa using this)
  have hsz : w1.heap.size = w.heap.size := by rw [h1]; simp [World.setCell]
  have hle : lastOcc s.data.toList (p + 1) = fun t => if start3 s.data.toList p = t then p + 1 else lastOcc s.data.toList p t := by
    funext t
    rw [lastOcc]
    have : p + 3 ≤ s.data.toList.length := by simpa using hp
    by_cases ht : start3 s.data.toList p = t
    · rw [if_pos ⟨this, ht⟩, if_pos ht]
    · rw [if_neg (fun h => ht h.2), if_neg ht]
  refine ⟨hs, h.hFM, h.hFB, h.hMB, ?_, ?_, n + 1, _, by omega, by omega, ?_, ho, fun t => ?_⟩
  · exact (hg.block F (by omega) (fun e => h.hFM (by injection e))).trans (hF1.trans h.blk)
  · exact (hg.block Bf (by omega) (fun e => h.hMB (by injection e with e; exact e.symm))).trans hB1
  · obtain ⟨es, rfl⟩ := hI; exact ⟨_, rfl⟩
  · rw [hle]
    simp only []
    by_cases ht : start3 s.data.toList p = t
    · rw [if_pos ht, ← ht, atKey_put_same hI (lawStart.key (keyL_of _))]
    · rw [if_neg ht, atKey_put_other (keyL_ne (fun e => ht e.symm)), hD t]
/-- nothing is left to note -/
theorem Fnd.tail (h : Fnd F M Bf s p w) (hp : s.size < p + 3) (q : Nat) (hq : p ≤ q) : Fnd F M Bf s q w := by
  obtain ⟨n, D, hn, hnp, hI, ho, hD⟩ := h.mp
  refine ⟨h.hs, h.hFM, h.hFB, h.hMB, h.blk, ?_, n, D, hn, by omega, hI, ho, fun t => ?_⟩
  · rw [befs_tail s.data.toList p q (by simpa using hp) hq]; exact h.bef
  · rw [hD t]
    have := lastOcc_tail s.data.toList p (by simpa using hp) t (q - p)
    rw [show p + (q - p) = q by omega] at this
    rw [this]
/-- the finder's own blocks may turn, and nothing else that was there -/
structure Kep (M Bf : Nat) (w w' : World) : Prop where
  os : w'.os = w.os
  tape : w'.tape = w.tape
  output : w'.output = w.output
  size : w.heap.size ≤ w'.heap.size
  block : ∀ k, k < w.heap.size → k ≠ M → k ≠ Bf → w'.heap[k]? = w.heap[k]?
theorem Kep.refl (w : World) : Kep M Bf w w := ⟨rfl, rfl, rfl, Nat.le_refl _, fun _ _ _ _ => rfl⟩
theorem Kep.trans {w w1 w2 : World} (h : Kep M Bf w w1) (k : Kep M Bf w1 w2) : Kep M Bf w w2 :=
  ⟨k.os.trans h.os, k.tape.trans h.tape, k.output.trans h.output, Nat.le_trans h.size k.size, fun i hi h1 h2 => (k.block i (Nat.lt_of_lt_of_le hi h.size) h1 h2).trans (h.block i hi h1 h2)⟩
theorem Kep.of_below {w w' : World} (h : Below w.heap.size w w') : Kep M Bf w w' := ⟨h.os, h.tape, h.output, h.size, fun k hk _ _ => h.block k hk⟩
set_option maxHeartbeats 1000000 in
set_option maxRecDepth 8000 in
theorem pass_any (a e : Nat) (hae : a ≤ e) (he : e ≤ s.size) (w : World) (h : Fnd F M Bf s a w) :
    Calls Tryz.prog 106 #[.pointer (some ⟨F, 0, none⟩), .int .i64 (a : Int), .int .i64 (e : Int)] w fun r w' => r = .returned (.tuple #[]) ∧ Fnd F M Bf s e w' ∧ Kep M Bf w w' := by
  have hs := h.hs
  have HF := (show Hid (Fnd F M Bf s a w) from h)
  clear h
  go_enter Tryz.func106, Tryz.ntmps106
  go_wp2
  go_loopw [1] (fun va wr => ∃ q : Nat, a ≤ q ∧ q ≤ e ∧ va = .int .i64 (q : Int) ∧ Fnd F M Bf s q wr ∧ Kep M Bf w wr) (fun va _ => e - (intOf va).toNat)
  case atStart => exact ⟨a, by omega, hae, rfl, HF.out, Kep.refl w⟩
  case round =>
    clear HF
    obtain ⟨q, haq, hqe, rfl, hF, hK0⟩ := hrel
    have hc0 := hF.c0
    by_cases hlt : q < e
    · by_cases h3 : q + 3 ≤ s.size
      · have hl3 : (q : Int) + 3 ≤ (s.size : Int) := by omega
        have HF := (show Hid (Fnd F M Bf s q wr) from hF)
        have HK := (show Hid (Kep M Bf w wr) from hK0)
        have HSA := (show Hid _ from startAt_any q h3 wr hF)
        have HLK := (show Hid _ from fun w1 (hf : Fnd F M Bf s q w1) => hf.look (start3 s.data.toList q))
        have hlo := lastOcc_le s.data.toList (start3 s.data.toList q) q
        obtain ⟨V, HV⟩ := hid_intro (lastOcc s.data.toList q (start3 s.data.toList q))
        rw [← HV.out] at HLK hlo
        obtain ⟨t, Ht⟩ := hid_intro (start3 s.data.toList q)
        rw [← Ht.out] at HSA HLK
        have hkt := keyL_of t
        obtain ⟨x, y, z⟩ := t
        unfold keyV at HSA HLK hkt
        simp only [] at HSA HLK hkt
        clear hF hK0
        go_upto_region 3 with (first
          | (go_at_call 163; refine Calls.mono HSA.out ?_; rintro r w1 ⟨rfl, hb1⟩; have HB1 := (show Hid (Below wr.heap.size wr w1) from hb1); clear hb1)
          | (refine wpList_store_row rfl 250 _ _ rfl w1.heap.size #[.int .u8 (x.toNat : Int), .int .u8 (y.toNat : Int), .int .u8 (z.toNat : Int)] rfl rfl 250 _ (heap_alloc_new w1 _) sizeStart rfl ?_ ?_; (simp [Value.oneCell']); rw [World.setRow_alloc_new]))
        obtain ⟨G, HG⟩ := hid_intro w1.heap.size
        obtain ⟨X, HX⟩ := hid_intro (w1.alloc (.cells #[.int .u8 (x.toNat : Int), .int .u8 (y.toNat : Int), .int .u8 (z.toNat : Int)] 250))
        rw [← HX.out, ← HG.out]
        have HBX : Hid (Below wr.heap.size wr X) := by rw [HX.out]; exact HB1.out.alloc HB1.out.size _
        have hfX : Fnd F M Bf s q X := HF.out.below HBX.out
        have hxr : X.heap[G]? = some (.cells #[.int .u8 (x.toNat : Int), .int .u8 (y.toNat : Int), .int .u8 (z.toNat : Int)] 250 (0, 0)) := by rw [HX.out, HG.out]; exact heap_alloc_new w1 _
        have HGN : Hid (wr.heap.size ≤ G ∧ G ≠ F ∧ G ≠ M ∧ G ≠ Bf) := by
          have h1 := HB1.out.size
          have h2 := HF.out.ltF
          have h3 := HF.out.ltM
          have h4 := HF.out.ltB
          rw [HG.out]
          exact ⟨h1, by omega, by omega, by omega⟩
        clear HX HG HB1 HSA hc0
        have hlk := HLK.out X.drew hfX.drew
        have k1 := hfX.drew.c1
        have k2 := hfX.drew.c2
        have hcB := rowi_cell q (show X.drew.heap[Bf]? = _ from hfX.bef) (by rw [befs_len]; simp; omega)
        have hfB := frozen_of_row X.drew Bf q _ _ hfX.bef
        have hqi : (q : Int) < (s.size : Int) := by omega
        have HFX := (show Hid (Fnd F M Bf s q X) from hfX)
        have hxr1 := (show X.drew.heap[G]? = _ from hxr)
        clear hfX
        refine region_tail 12 (by kernel_rfl) (by kernel_rfl) ?_
        simp only [List.take_succ_cons, List.take_zero, List.drop_succ_cons, List.drop_zero]
        iterate 9 still_step
        refine wpStill_step (fun K hK => ?_)
        refine still_load_row 250 (.tmp 6) rfl G rfl 250 _ (0, 0) _ hxr1 Tryz.underlying250 rfl sizeStart (hK _ ?_)
        clear hK K
        repeat still_step
        refine wpStill_nil ?_
        go_wp2
        clear hcB hfB k1 k2 hlk hxr1
        obtain ⟨n, D, hn, hnp, hI, ho, hD⟩ := HFX.out.mp
        have HY1 : Hid ((X.setCell ⟨Bf, q, none⟩ (.int .i64 (V : Int))).drew.drew = (X.drew.drew).setCell ⟨Bf, q, none⟩ (.int .i64 (V : Int))) := (rfl : _ = _)
        obtain ⟨Y, HY⟩ := hid_intro ((X.setCell ⟨Bf, q, none⟩ (.int .i64 (V : Int))).drew)
        rw [← HY.out] at HY1 ⊢
        have hYo : ∀ k, k ≠ Bf → Y.heap[k]? = X.heap[k]? := fun k hk => by rw [HY.out]; exact heap_setCell_other X ⟨Bf, q, none⟩ k _ (fun e => hk e)
        have hoY : Y.drew.ownsMap Tryz.prog 250 (plainElem Tryz.prog 3) M n D := by
          obtain ⟨es, clock, hb, hr⟩ := ho
          exact ⟨es, clock, (hYo M HFX.out.hMB).trans hb, hr⟩
        have k1 : Y.drew.cell? ⟨F, 1, none⟩ = some (.map (some M)) := cell_of_row Y.drew F 1 _ _ _ ((hYo F HFX.out.hFB).trans HFX.out.blk)
        have hyr : Y.drew.heap[G]? = some (.cells #[.int .u8 (x.toNat : Int), .int .u8 (y.toNat : Int), .int .u8 (z.toNat : Int)] 250 (0, 0)) := (hYo G HGN.out.2.2.2).trans hxr
        have HOY := (show Hid (Y.drew.ownsMap _ _ _ _ _ _) from hoY)
        have HDD := (show Hid _ from hD)
        have hwq : IntKind.i64.wrap ((q : Int) + 1) = (q : Int) + 1 := by rw [IntKind.wrap_i64]; omega
        have hwf : (Lit.int .i64 ((q : Int) + 1)).wf = true := WalkArith.wf_i64 (by omega)
        clear hYo hoY hD ho hxr
        refine region_tail 7 (by kernel_rfl) (by kernel_rfl) ?_
        simp only [List.take_succ_cons, List.take_zero, List.drop_succ_cons, List.drop_zero]
        iterate 4 still_step
        refine wpStill_step (fun K hK => ?_)
        refine still_load_row 250 (.tmp 6) rfl G rfl 250 _ (0, 0) _ hyr Tryz.underlying250 rfl sizeStart (hK _ ?_)
        clear hK K
        repeat still_step
        refine wpStill_nil ?_
        go_wp2_with (at_mapUpdate; refine wpList_mapUpdate_own _ rfl _ _ _ 246 rfl 250 3 lawStart Tryz.underlying246 _ M n D rfl HOY.out (by unfold maxLen; omega) _ _ (keyL (x, y, z)) rfl rfl hkt _ [] (plainElem_int Tryz.underlying3 hwf) ?_; intro w5 hown5 hg5)
        have hnote : Fnd F M Bf s (q + 1) w5 := by
          refine Fnd.note (HFX.out.drew.drew) h3 rfl hnp hI HDD.out (n := n) (D := D) ?_ ?_
          · rw [← Ht.out]
            have e : ((q + 1 : Nat) : Int) = (q : Int) + 1 := by omega
            rw [e]; exact hown5
          · rw [← HV.out, ← HY1.out]; exact hg5
        have hkep : Kep M Bf w w5 := by
          refine HK.out.trans ((Kep.of_below HBX.out).trans ?_)
          have hg := hg5
          rw [HY.out] at hg
          exact ⟨hg.os, hg.tape, hg.output, Nat.le_trans (by simp [World.setCell]) hg.size, fun k hk h1 h2 => (hg.block k (by simpa [World.setCell] using hk) (fun e => h1 (by injection e))).trans (heap_setCell_other X ⟨Bf, q, none⟩ k _ (fun e => h2 e))⟩
        go_roundw
        case rel => exact ⟨q + 1, by omega, by omega, by go_num, hnote, hkep⟩
        case measure => simp [intOf]; omega
      · have hl3 : ¬ (q : Int) + 3 ≤ (s.size : Int) := by omega
        go_wp2
        refine bodyPost_end (results_none rfl _ _ _) rfl ⟨rfl, hF.tail (by omega) e (by omega), hK0⟩
    · obtain rfl : q = e := by omega
      go_wp2
      refine bodyPost_end (results_none rfl _ _ _) rfl ⟨rfl, hF, hK0⟩
end
end Go.Proofs.YtfohjjcihioinaaGreatDoor
