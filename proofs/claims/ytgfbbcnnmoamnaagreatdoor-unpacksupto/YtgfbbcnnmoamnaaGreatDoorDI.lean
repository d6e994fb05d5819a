/- The program's finder: what it notes. The program's finder: the longest repetition. -/
import Derived.Test.YtgfbbcnnmoamnaaGreatDoorDG
import Derived.Deep.DeepCutAuto
import Derived.Deep.CutBlock
namespace Go.Proofs.YtgfbbcnnmoamnaaGreatDoor
open Go.RowKit Go.Maps

section
variable {F M Bf : Nat} {s : ByteArray} {p : Nat} {w : World}
set_option maxRecDepth 100000 in
theorem Fnd.look (h : Fnd F M Bf s p w) (t : UInt8 × UInt8 × UInt8) : (Instr.lookup 204 (.map (some M)) (keyV t) false).run Tryz.prog w = .ok (.int .i64 ((lastOcc s.data.toList p t : Nat) : Int)) w := by
  obtain ⟨n, D, _, _, _, ho, hD⟩ := h.mp
  obtain ⟨c, hr, hat, _⟩ := ho.lookup_int lawStart Tryz.underlying204 Tryz.underlying3 (zeroInt w) (keyL_of t)
  rw [hD t] at hat
  have : c = ((lastOcc s.data.toList p t : Nat) : Int) := by injection hat with hat; injection hat with _ hat; exact hat.symm
  rw [hr, this]
theorem wf_small (n : Nat) (h : n ≤ 100000) : (Lit.int .i64 (n : Int)).wf = true := WalkArith.wf_i64 (by omega)
/-- one place more -/
theorem Fnd.note {w w1 w2 : World} (h : Fnd F M Bf s p w) (hp : p + 3 ≤ s.size) (h1 : w1 = w.setCell ⟨Bf, p, none⟩ (.int .i64 ((lastOcc s.data.toList p (start3 s.data.toList p) : Nat) : Int))) {n : Nat} {D : DataW Unit} (hn : n ≤ p) (hI : IsMap D) (hD : ∀ t, D.atKey (keyL t) (.lit (.int .i64 0)) = .lit (.int .i64 ((lastOcc s.data.toList p t : Nat) : Int)))
    (ho : w2.ownsMap Tryz.prog 208 (plainElem Tryz.prog 3) M (n + 1) (D.put (keyL (start3 s.data.toList p)) (.lit (.int .i64 ((p + 1 : Nat) : Int))))) (hg : w1.grownBy w2 (some M)) : Fnd F M Bf s (p + 1) w2 := by
  have hlF := h.ltF
  have hlB := h.ltB
  have hs := h.hs
  have hB1 : w1.heap[Bf]? = some (.cells (rowi (befs s.data.toList (p + 1))) 3 (0, 0)) := by
    rw [h1, ← befs_step s.data.toList p (by simpa using hp)]
    exact rowi_step _ rfl h.bef
  have hF1 : w1.heap[F]? = w.heap[F]? := by rw [h1]; exact heap_setCell_other _ _ _ _ (by have := h.hFB; simpa using this)
  have hsz : w1.heap.size = w.heap.size := by rw [h1]; simp [World.setCell]
  have hle : lastOcc s.data.toList (p + 1) = fun t => if start3 s.data.toList p = t then p + 1 else lastOcc s.data.toList p t := by
    funext t
    rw [lastOcc]
    have : p + 3 ≤ s.data.toList.length := by simpa using hp
    by_cases ht : start3 s.data.toList p = t
    · rw [if_pos ⟨this, ht⟩, if_pos ht]
    · rw [if_neg (fun h => ht h.2), if_neg ht]
  refine ⟨hs, h.hFM, h.hFB, h.hMB, ?_, ?_, n + 1, _, by omega, by omega, ?_, ho, fun t => ?_⟩
  · exact (hg.block F (by omega) (fun e => h.hFM (by injection e))).trans (hF1.trans h.blk)
  · exact (hg.block Bf (by omega) (fun e => h.hMB (by injection e with e; exact e.symm))).trans hB1
  · obtain ⟨es, rfl⟩ := hI; exact ⟨_, rfl⟩
  · rw [hle]
    simp only []
    by_cases ht : start3 s.data.toList p = t
    · rw [if_pos ht, ← ht, atKey_put_same hI (lawStart.key (keyL_of _))]
    · rw [if_neg ht, atKey_put_other (keyL_ne (fun e => ht e.symm)), hD t]
/-- nothing is left to note -/
theorem Fnd.tail (h : Fnd F M Bf s p w) (hp : s.size < p + 3) (q : Nat) (hq : p ≤ q) : Fnd F M Bf s q w := by
  obtain ⟨n, D, hn, hnp, hI, ho, hD⟩ := h.mp
  refine ⟨h.hs, h.hFM, h.hFB, h.hMB, h.blk, ?_, n, D, hn, by omega, hI, ho, fun t => ?_⟩
  · rw [befs_tail s.data.toList p q (by simpa using hp) hq]; exact h.bef
  · rw [hD t]
    have := lastOcc_tail s.data.toList p (by simpa using hp) t (q - p)
    rw [show p + (q - p) = q by omega] at this
    rw [this]
/-- the finder's own blocks may turn, and nothing else that was there -/
structure Kep (M Bf : Nat) (w w' : World) : Prop where
  os : w'.os = w.os
  tape : w'.tape = w.tape
  output : w'.output = w.output
  size : w.heap.size ≤ w'.heap.size
  block : ∀ k, k < w.heap.size → k ≠ M → k ≠ Bf → w'.heap[k]? = w.heap[k]?
theorem Kep.refl (w : World) : Kep M Bf w w := ⟨rfl, rfl, rfl, Nat.le_refl _, fun _ _ _ _ => rfl⟩
theorem Kep.trans {w w1 w2 : World} (h : Kep M Bf w w1) (k : Kep M Bf w1 w2) : Kep M Bf w w2 :=
  ⟨k.os.trans h.os, k.tape.trans h.tape, k.output.trans h.output, Nat.le_trans h.size k.size, fun i hi h1 h2 => (k.block i (Nat.lt_of_lt_of_le hi h.size) h1 h2).trans (h.block i hi h1 h2)⟩
theorem Kep.of_below {w w' : World} (h : Below w.heap.size w w') : Kep M Bf w w' := ⟨h.os, h.tape, h.output, h.size, fun k hk _ _ => h.block k hk⟩
set_option maxHeartbeats 1000000 in
set_option maxRecDepth 8000 in
theorem pass_any (a e : Nat) (hae : a ≤ e) (he : e ≤ s.size) (w : World) (h : Fnd F M Bf s a w) :
    Calls Tryz.prog 56 #[.pointer (some ⟨F, 0, none⟩), .int .i64 (a : Int), .int .i64 (e : Int)] w fun r w' => r = .returned (.tuple #[]) ∧ Fnd F M Bf s e w' ∧ Kep M Bf w w' := by
  have hs := h.hs
  have HF := (show Hid (Fnd F M Bf s a w) from h)
  clear h
  go_enter Tryz.func56, Tryz.ntmps56
  go_wp2
  go_loopw [1] (fun va wr => ∃ q : Nat, a ≤ q ∧ q ≤ e ∧ va = .int .i64 (q : Int) ∧ Fnd F M Bf s q wr ∧ Kep M Bf w wr) (fun va _ => e - (intOf va).toNat)
  case atStart => exact ⟨a, by omega, hae, rfl, HF.out, Kep.refl w⟩
  case round =>
    clear HF
    obtain ⟨q, haq, hqe, rfl, hF, hK0⟩ := hrel
    have hc0 := hF.c0
    by_cases hlt : q < e
    · by_cases h3 : q + 3 ≤ s.size
      · have hl3 : (q : Int) + 3 ≤ (s.size : Int) := by omega
        have HF := (show Hid (Fnd F M Bf s q wr) from hF)
        have HK := (show Hid (Kep M Bf w wr) from hK0)
        have HSA := (show Hid _ from startAt_any q h3 wr hF)
        have HLK := (show Hid _ from fun w1 (hf : Fnd F M Bf s q w1) => hf.look (start3 s.data.toList q))
        have hlo := lastOcc_le s.data.toList (start3 s.data.toList q) q
        obtain ⟨V, HV⟩ := hid_intro (lastOcc s.data.toList q (start3 s.data.toList q))
        rw [← HV.out] at HLK hlo
        obtain ⟨t, Ht⟩ := hid_intro (start3 s.data.toList q)
        rw [← Ht.out] at HSA HLK
        have hkt := keyL_of t
        obtain ⟨x, y, z⟩ := t
        unfold keyV at HSA HLK hkt
        simp only [] at HSA HLK hkt
        clear hF hK0
        go_upto_region 3 with (first
          | (go_at_call 115; refine Calls.mono HSA.out ?_; rintro r w1 ⟨rfl, hb1⟩; have HB1 := (show Hid (Below wr.heap.size wr w1) from hb1); clear hb1)
          | (refine wpList_store_row rfl 208 _ _ rfl w1.heap.size #[.int .u8 (x.toNat : Int), .int .u8 (y.toNat : Int), .int .u8 (z.toNat : Int)] rfl rfl 208 _ (heap_alloc_new w1 _) sizeStart rfl ?_ ?_; (simp [Value.oneCell']); rw [World.setRow_alloc_new]))
        obtain ⟨G, HG⟩ := hid_intro w1.heap.size
        obtain ⟨X, HX⟩ := hid_intro (w1.alloc (.cells #[.int .u8 (x.toNat : Int), .int .u8 (y.toNat : Int), .int .u8 (z.toNat : Int)] 208))
        rw [← HX.out, ← HG.out]
        have HBX : Hid (Below wr.heap.size wr X) := by rw [HX.out]; exact HB1.out.alloc HB1.out.size _
        have hfX : Fnd F M Bf s q X := HF.out.below HBX.out
        have hxr : X.heap[G]? = some (.cells #[.int .u8 (x.toNat : Int), .int .u8 (y.toNat : Int), .int .u8 (z.toNat : Int)] 208 (0, 0)) := by rw [HX.out, HG.out]; exact heap_alloc_new w1 _
        have HGN : Hid (wr.heap.size ≤ G ∧ G ≠ F ∧ G ≠ M ∧ G ≠ Bf) := by
          have h1 := HB1.out.size
          have h2 := HF.out.ltF
          have h3 := HF.out.ltM
          have h4 := HF.out.ltB
          rw [HG.out]
          exact ⟨h1, by omega, by omega, by omega⟩
        clear HX HG HB1 HSA hc0
        have hlk := HLK.out X.drew hfX.drew
        have k1 := hfX.drew.c1
        have k2 := hfX.drew.c2
        have hcB := rowi_cell q (show X.drew.heap[Bf]? = _ from hfX.bef) (by rw [befs_len]; simp; omega)
        have hfB := frozen_of_row X.drew Bf q _ _ hfX.bef
        have hqi : (q : Int) < (s.size : Int) := by omega
        have HFX := (show Hid (Fnd F M Bf s q X) from hfX)
        have hxr1 := (show X.drew.heap[G]? = _ from hxr)
        clear hfX
        refine region_tail 12 (by kernel_rfl) (by kernel_rfl) ?_
        simp only [List.take_succ_cons, List.take_zero, List.drop_succ_cons, List.drop_zero]
        iterate 9 still_step
        refine wpStill_step (fun K hK => ?_)
        refine still_load_row 208 (.tmp 6) rfl G rfl 208 _ (0, 0) _ hxr1 Tryz.underlying208 rfl sizeStart (hK _ ?_)
        clear hK K
        repeat still_step
        refine wpStill_nil ?_
        go_wp2
        clear hcB hfB k1 k2 hlk hxr1
        obtain ⟨n, D, hn, hnp, hI, ho, hD⟩ := HFX.out.mp
        have HY1 : Hid ((X.setCell ⟨Bf, q, none⟩ (.int .i64 (V : Int))).drew.drew = (X.drew.drew).setCell ⟨Bf, q, none⟩ (.int .i64 (V : Int))) := (rfl : _ = _)
        obtain ⟨Y, HY⟩ := hid_intro ((X.setCell ⟨Bf, q, none⟩ (.int .i64 (V : Int))).drew)
        rw [← HY.out] at HY1 ⊢
        have hYo : ∀ k, k ≠ Bf → Y.heap[k]? = X.heap[k]? := fun k hk => by rw [HY.out]; exact heap_setCell_other X ⟨Bf, q, none⟩ k _ (fun e => hk e)
        have hoY : Y.drew.ownsMap Tryz.prog 208 (plainElem Tryz.prog 3) M n D := by
          obtain ⟨es, clock, hb, hr⟩ := ho
          exact ⟨es, clock, (hYo M HFX.out.hMB).trans hb, hr⟩
        have k1 : Y.drew.cell? ⟨F, 1, none⟩ = some (.map (some M)) := cell_of_row Y.drew F 1 _ _ _ ((hYo F HFX.out.hFB).trans HFX.out.blk)
        have hyr : Y.drew.heap[G]? = some (.cells #[.int .u8 (x.toNat : Int), .int .u8 (y.toNat : Int), .int .u8 (z.toNat : Int)] 208 (0, 0)) := (hYo G HGN.out.2.2.2).trans hxr
        have HOY := (show Hid (Y.drew.ownsMap _ _ _ _ _ _) from hoY)
        have HDD := (show Hid _ from hD)
        have hwq : IntKind.i64.wrap ((q : Int) + 1) = (q : Int) + 1 := by rw [IntKind.wrap_i64]; omega
        have hwf : (Lit.int .i64 ((q : Int) + 1)).wf = true := WalkArith.wf_i64 (by omega)
        clear hYo hoY hD ho hxr
        refine region_tail 7 (by kernel_rfl) (by kernel_rfl) ?_
        simp only [List.take_succ_cons, List.take_zero, List.drop_succ_cons, List.drop_zero]
        iterate 4 still_step
        refine wpStill_step (fun K hK => ?_)
        refine still_load_row 208 (.tmp 6) rfl G rfl 208 _ (0, 0) _ hyr Tryz.underlying208 rfl sizeStart (hK _ ?_)
        clear hK K
        repeat still_step
        refine wpStill_nil ?_
        go_wp2_with (at_mapUpdate; refine wpList_mapUpdate_own _ rfl _ _ _ 204 rfl 208 3 lawStart Tryz.underlying204 _ M n D rfl HOY.out (by unfold maxLen; omega) _ _ (keyL (x, y, z)) rfl rfl hkt _ [] (plainElem_int Tryz.underlying3 hwf) ?_; intro w5 hown5 hg5)
        have hnote : Fnd F M Bf s (q + 1) w5 := by
          refine Fnd.note (HFX.out.drew.drew) h3 rfl hnp hI HDD.out (n := n) (D := D) ?_ ?_
          · rw [← Ht.out]
            have e : ((q + 1 : Nat) : Int) = (q : Int) + 1 := by omega
            rw [e]; exact hown5
          · rw [← HV.out, ← HY1.out]; exact hg5
        have hkep : Kep M Bf w w5 := by
          refine HK.out.trans ((Kep.of_below HBX.out).trans ?_)
          have hg := hg5
          rw [HY.out] at hg
          exact ⟨hg.os, hg.tape, hg.output, Nat.le_trans (by simp [World.setCell]) hg.size, fun k hk h1 h2 => (hg.block k (by simpa [World.setCell] using hk) (fun e => h1 (by injection e))).trans (heap_setCell_other X ⟨Bf, q, none⟩ k _ (fun e => h2 e))⟩
        go_roundw
        case rel => exact ⟨q + 1, by omega, by omega, by go_num, hnote, hkep⟩
        case measure => simp [intOf]; omega
      · have hl3 : ¬ (q : Int) + 3 ≤ (s.size : Int) := by omega
        go_wp2
        refine bodyPost_end (results_none rfl _ _ _) rfl ⟨rfl, hF.tail (by omega) e (by omega), hK0⟩
    · obtain rfl : q = e := by omega
      go_wp2
      refine bodyPost_end (results_none rfl _ _ _) rfl ⟨rfl, hF, hK0⟩
end
end Go.Proofs.YtgfbbcnnmoamnaaGreatDoor

namespace Go.Proofs.YtgfbbcnnmoamnaaGreatDoor
open Go.RowKit Go.Maps

/-- what the finder tells -/
def Lng (L : List UInt8) (a len back : Nat) : Prop := (len = 0 ∧ back = 0 ∨ Alike L a len back) ∧ (Same L → 1 ≤ a → a + 3 ≤ L.length → len = min 258 (L.length - a) ∧ back = 1)
theorem alk_same {L : List UInt8} {f a n : Nat} (hS : Same L) (hfa : f < a) (h : AlkN L f a n) : n = min 258 (L.length - a) := by
  obtain ⟨h1, h2, h3, h4⟩ := h
  rcases h4 with h4 | h4 | h4
  · omega
  · omega
  · by_cases hlt : a + n < L.length
    · exact absurd ((hS (f + n) (by omega)).trans (hS (a + n) hlt).symm) h4
    · omega
section
variable {F M Bf : Nat} {s : ByteArray} {w : World}
set_option maxHeartbeats 1000000 in
set_option maxRecDepth 8000 in
theorem longest_any (a : Nat) (ha : a ≤ s.size) (w : World) (h : Fnd F M Bf s a w) :
    Calls Tryz.prog 53 #[.pointer (some ⟨F, 0, none⟩), .int .i64 (a : Int)] w fun e w' => ∃ len back : Nat, e = .returned (.tuple #[.int .i64 (len : Int), .int .i64 (back : Int)]) ∧ Below w.heap.size w w' ∧ Lng s.data.toList a len back := by
  have hs := h.hs
  have hss : s.data.toList.length = s.size := by simp
  have hc0 := h.c0
  by_cases h3 : a + 3 ≤ s.size
  · have hl3 : ¬ (s.size : Int) < (a : Int) + 3 := by omega
    have HF := (show Hid (Fnd F M Bf s a w) from h)
    have HSA := (show Hid _ from fun w (hf : Fnd F M Bf s a w) => startAt_any a h3 w hf)
    have HLK := (show Hid _ from fun w1 (hf : Fnd F M Bf s a w1) => hf.look (start3 s.data.toList a))
    have hlo := lastOcc_le s.data.toList (start3 s.data.toList a) a
    have HSV : Hid (Same s.data.toList → 1 ≤ a → lastOcc s.data.toList a (start3 s.data.toList a) = a) := fun hS h1 => hS.last a h1 (by omega)
    obtain ⟨V, HV⟩ := hid_intro (lastOcc s.data.toList a (start3 s.data.toList a))
    rw [← HV.out] at HLK hlo HSV
    obtain ⟨t, Ht⟩ := hid_intro (start3 s.data.toList a)
    rw [← Ht.out] at HSA HLK
    obtain ⟨x, y, z⟩ := t
    unfold keyV at HSA HLK
    simp only [] at HSA HLK
    have k1 := h.drew.c1
    clear h HV Ht
    go_enter Tryz.func53, Tryz.ntmps53
    go_upto_region 3 with fail
    go_cut [6] (fun s6 wx => s6 = .int .i64 (V : Int) ∧ Below w.heap.size w wx)
    case first =>
      go_region_with (go_at_call 115; refine Calls.mono (HSA.out _ HF.out.drew) ?_; rintro r w1 ⟨rfl, hb1⟩; have hf1 := HF.out.drew.below hb1; have k2 := hf1.c1; have hlk := HLK.out w1 hf1; have HB1 := (show Hid (Below w.heap.size w w1) from (⟨hb1.os, hb1.tape, hb1.output, hb1.size, hb1.block⟩ : Below w.heap.size w w1)); clear hb1 hf1)
      all_goals
        go_wp2_with fail
        go_meet
        exact ⟨rfl, HB1.out⟩
    case rest =>
    obtain ⟨rfl, hb⟩ := hcut
    clear k1 hc0 HSA HLK
    go_wp2
    go_loopw [4, 5, 6, 25] (fun vl vb vp vi wr => ∃ i len back pl : Nat, i ≤ 64 ∧ vi = .int .i64 (i : Int) ∧ vl = .int .i64 (len : Int) ∧ vb = .int .i64 (back : Int) ∧ vp = .int .i64 (pl : Int) ∧ pl ≤ a ∧ len ≤ 258 ∧ Below w.heap.size w wr ∧ Hid (len = 0 ∧ back = 0 ∨ Alike s.data.toList a len back) ∧ Hid (Same s.data.toList → 1 ≤ a → (i = 0 ∧ pl = a ∧ len = 0) ∨ (1 ≤ i ∧ len = min 258 (s.size - a) ∧ back = 1))) (fun _ _ _ vi _ => 64 - (intOf vi).toNat)
    case atStart => exact ⟨0, 0, 0, V, by omega, rfl, rfl, rfl, rfl, hlo, by omega, hb, .inl ⟨rfl, rfl⟩, fun hS h1 => .inl ⟨rfl, HSV.out hS h1, rfl⟩⟩
    case round =>
      clear hb HSV hlo
      obtain ⟨i, len, back, pl, hi, rfl, rfl, rfl, rfl, hpl, hlen, hb, HA, HS⟩ := hrel
      have hend : ∀ (hx : ¬ (i = 0 ∧ pl = a ∧ len = 0) ∨ a = 0), Lng s.data.toList a len back := fun hx => ⟨HA.out, fun hS h1 h2 => by
        rcases HS.out hS h1 with h4 | h4
        · rcases hx with hx | hx
          · exact absurd h4 hx
          · omega
        · rw [hss]; exact h4.2⟩
      have HEND := (show Hid _ from hend)
      clear hend
      by_cases hi64 : i < 64
      · by_cases hp0 : pl = 0
        · have hpb : ((pl : Int) == 0) = true := beq_iff_eq.2 (by omega)
          have HP0 := (show Hid _ from hp0)
          clear hp0
          go_wp2
          go_ret2
          exact ⟨len, back, rfl, hb, HEND.out (by by_cases h0 : a = 0; exact .inr h0; exact .inl (fun h => h0 (by have := HP0.out; omega)))⟩
        · have hpb : ((pl : Int) == 0) = false := beq_eq_false_iff_ne.2 (by omega)
          by_cases hl : len = 258
          · have hlb : ((len : Int) == 258) = true := beq_iff_eq.2 (by omega)
            have HL := (show Hid _ from hl)
            clear hl
            go_wp2
            go_ret2
            exact ⟨len, back, rfl, hb, HEND.out (.inl (fun h => by have := HL.out; omega))⟩
          · have hlb : ((len : Int) == 258) = false := beq_eq_false_iff_ne.2 (by omega)
            obtain ⟨f, rfl⟩ : ∃ f, pl = f + 1 := ⟨pl - 1, by omega⟩
            have hF := HF.out.below hb
            have k2 := hF.c2
            have hcB := rowi_cell f hF.bef (by rw [befs_len]; simp; omega)
            have hbg : (befs s.data.toList a).getD f 0 = befAt s.data.toList f := by rw [befs_get, if_pos ⟨by omega, by simp; omega⟩]
            have hbl := befAt_le s.data.toList f
            rw [hbg] at hcB
            obtain ⟨nx, HNX⟩ := hid_intro (befAt s.data.toList f)
            rw [← HNX.out] at hcB hbl
            have HAL := (show Hid _ from alike_any f a (by omega) ha wr hF)
            have HB := (show Hid (Below w.heap.size w wr) from hb)
            have hfi : (f : Int) < (s.size : Int) := by omega
            clear hF hb hbg hp0 hl
            go_upto_if 41 with (go_at_call 116; refine Calls.mono HAL.out ?_; rintro r w2 ⟨n, rfl, hn, m, hw2⟩; rw [hw2]; clear hw2; have hn258 := hn.1; have HNN := (show Hid (AlkN s.data.toList f a n) from hn); clear hn)
            have HBM : Hid (Below w.heap.size w (wr.drewN m)) := below_drewN HB.out m
            by_cases hnl : len < n
            · have HAN : Hid (Alike s.data.toList a n (a - f)) := by
                obtain ⟨q1, q2, q3, q4⟩ := HNN.out
                exact ⟨q1, by omega, by omega, q2, fun i hi => by rw [show a - (a - f) + i = f + i by omega]; exact q3 i hi⟩
              have HSN : Hid (Same s.data.toList → 1 ≤ a → (i + 1 = 0 ∧ nx = a ∧ n = 0) ∨ (1 ≤ i + 1 ∧ n = min 258 (s.size - a) ∧ a - f = 1)) := fun hS h1 => by
                have hnn := alk_same hS (by omega) HNN.out
                rw [hss] at hnn
                rcases HS.out hS h1 with ⟨q1, q2, q3⟩ | ⟨q1, q2, q3⟩
                · exact .inr ⟨by omega, hnn, by omega⟩
                · omega
              have hz : IntKind.i64.wrap ((a : Int) - (f : Int)) = (a : Int) - (f : Int) := by rw [IntKind.wrap_i64]; omega
              go_wp2
              go_roundw
              case rel => exact ⟨i + 1, n, a - f, nx, by omega, by go_num, rfl, by have : ((a - f : Nat) : Int) = (a : Int) - (f : Int) := (by omega); rw [this], rfl, by omega, hn258, HBM.out, .inr HAN.out, HSN⟩
              case measure => simp [intOf]; omega
            · have HSN : Hid (Same s.data.toList → 1 ≤ a → (i + 1 = 0 ∧ nx = a ∧ len = 0) ∨ (1 ≤ i + 1 ∧ len = min 258 (s.size - a) ∧ back = 1)) := fun hS h1 => by
                have hnn := alk_same hS (by omega) HNN.out
                rw [hss] at hnn
                rcases HS.out hS h1 with ⟨q1, q2, q3⟩ | ⟨q1, q2, q3⟩
                · omega
                · exact .inr ⟨by omega, q2, q3⟩
              go_wp2
              go_roundw
              case rel => exact ⟨i + 1, len, back, nx, by omega, by go_num, rfl, rfl, rfl, by omega, hlen, HBM.out, HA, HSN⟩
              case measure => simp [intOf]; omega
      · go_wp2
        go_ret2
        exact ⟨len, back, rfl, hb, HEND.out (.inl (fun h => by omega))⟩
  · have hl3 : (s.size : Int) < (a : Int) + 3 := by omega
    go_enter Tryz.func53, Tryz.ntmps53
    go_wp2
    go_ret2
    exact ⟨0, 0, rfl, Below.refl .., .inl ⟨rfl, rfl⟩, fun _ _ h => by omega⟩
end
end Go.Proofs.YtgfbbcnnmoamnaaGreatDoor
