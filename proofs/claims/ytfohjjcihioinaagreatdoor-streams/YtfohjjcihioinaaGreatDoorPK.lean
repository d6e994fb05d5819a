/- The program's codes. -/
import Derived.Test.YtfohjjcihioinaaGreatDoorPJ
import Derived.Test.YtfohjjcihioinaaGreatDoorSort
import Derived.Great.BuildSlice
namespace Go.Proofs.YtfohjjcihioinaaGreatDoor
open Go.RowKit

theorem make_int (n : Nat) (L : Int) (hL : L = n) (hn : n ≤ 100000) (w : World) :
    (Instr.makeSlice 84 (.int .i64 L) (.int .i64 L)).run Tryz.prog w = .ok (.slice (some ⟨w.heap.size, 0, none⟩) n n) (w.alloc (.cells (rowi (List.replicate n 0)) 3 (0, 0))) := by
  subst hL
  rw [run_make_row' 84 3 (.int .i64 0) 8 Tryz.underlying84 infoInt rfl .i64 .i64 n (by omega) (by omega) w, made_int]
theorem build_code (cs : List Nat) (hl : cs.length = 16) : Tryz.prog.built 107 [(0, .agg (rowi cs))] = some ((rowi cs).push (.slice none 0 0)) := by
  obtain ⟨c0, c1, c2, c3, c4, c5, c6, c7, c8, c9, c10, c11, c12, c13, c14, c15, rfl⟩ := len16 cs hl
  kernel_rfl
set_option maxHeartbeats 400000 in
set_option maxRecDepth 8000 in
theorem codeOf_any (lens : List Nat) (hl : lens.length ≤ 400) (h15 : ∀ n ∈ lens, n ≤ 15) (h off cap : Nat) (w : World) (hI : IntsAt w h off lens) :
    Calls Tryz.prog 116 #[.slice (some ⟨h, off, none⟩) lens.length cap] w fun e w' => ∃ b, e = .returned (.agg (CA lens b)) ∧ w.heap.size ≤ b ∧ w'.heap[b]? = some (.cells (rowi (codeSyms lens)) 3 (0, 0)) ∧ Below w.heap.size w w' := by
  obtain ⟨N, HN⟩ := hid_intro lens.length
  have hc := fun w hI => countsOf_any lens hl h15 h off cap w hI
  rw [← HN.out] at hl hc ⊢
  have hbd := build_code (cntsL lens) (cntsL_len lens)
  have hsA : (rowi (cntsL lens)).size = 16 := by rw [rowi_size, cntsL_len]
  have h1A := rowi_one (cntsL lens)
  obtain ⟨A, HA⟩ := hid_intro (rowi (cntsL lens))
  rw [← HA.out] at hc hbd hsA h1A
  have HC : Hid _ := hc
  have HBD : Hid _ := hbd
  have HI : Hid (IntsAt w h off lens) := hI
  have H15 : Hid (∀ n ∈ lens, n ≤ 15) := h15
  clear hI h15 hc hbd
  have rangeA : ∀ w1 : World, ((w1.alloc (.cells (A.push (.slice none 0 0)) 107)).alloc (.cells (rowi (List.replicate 17 0)) 274)).rangeAt w1.heap.size 0 A.toList := fun w1 => by
    have h : ((w1.alloc (.cells (A.push (.slice none 0 0)) 107)).alloc (.cells (rowi (List.replicate 17 0)) 274)).heap[w1.heap.size]? = some (.cells (#[] ++ A ++ #[.slice none 0 0]) 107 (0, 0)) := by
      rw [show (#[] ++ A ++ #[.slice none 0 0] : Array Value) = A.push (.slice none 0 0) by simp]
      exact alloc_keeps (heap_alloc_new w1 _)
    exact range_of_block h
  go_enter Tryz.func116, Tryz.ntmps116
  go_wp2_with (first
    | (go_at_call 160; refine (HC.out _ (HI.out.keep ((Below.refl _ w).alloc (Nat.le_refl _) _))).mono ?_; rintro e w1 ⟨rfl, hb1⟩; have HB1 := (show Hid _ from hb1); clear hb1)
    | (refine wpList_buildTo rfl 107 #[(0, .tmp 10)] rfl (some 11) rfl (A.push (.slice none 0 0)) ?_ ?_; (simp only [List.map_toArray, List.map_cons, List.map_nil]; exact HBD.out))
    | (refine wpList_store_row rfl 107 (.tmp 3) (.tmp 11) rfl w1.heap.size (A.push (.slice none 0 0)) rfl rfl 107 _ (heap_alloc_new w1 _) ?_ ?_ ?_ ?_; (rw [Array.size_push, hsA]; exact sizeCode); (rw [Array.size_push, hsA]; rfl); (rw [Array.all_push, h1A]; rfl); rw [World.setRow_alloc_new])
    | (refine wpList_load_part rfl 105 _ rfl w1.heap.size 0 rfl A _ ?_ Tryz.underlying105 rfl ?_ ?_; exact (rangeA w1); (rw [hsA]; exact sizeCounts)))
  obtain ⟨W, HW⟩ : ∃ W, Hid (W = (w1.alloc (.cells (A.push (.slice none 0 0)) 107)).alloc (.cells #[.int .i64 0, .int .i64 0, .int .i64 0, .int .i64 0, .int .i64 0, .int .i64 0, .int .i64 0, .int .i64 0, .int .i64 0, .int .i64 0, .int .i64 0, .int .i64 0, .int .i64 0, .int .i64 0, .int .i64 0, .int .i64 0, .int .i64 0] 274)) := ⟨_, rfl⟩
  rw [← HW.out]
  have hRG : w.heap.size < w1.heap.size := by have := HB1.out.size; simp at this; omega
  have hb0 : Below w.heap.size w W := by rw [HW.out]; exact ((((Below.refl _ w).alloc (Nat.le_refl _) _).trans (HB1.out.mono (by simp))).alloc (by omega) _).alloc (by simp; omega) _
  have hr0 : W.heap[w.heap.size]? = some (.cells #[.int .i64 0, .int .i64 0, .int .i64 0, .int .i64 0, .int .i64 0, .int .i64 0, .int .i64 0, .int .i64 0, .int .i64 0, .int .i64 0, .int .i64 0, .int .i64 0, .int .i64 0, .int .i64 0, .int .i64 0, .int .i64 0, .slice none 0 0] 107 (0, 0)) := by
    rw [HW.out]; exact alloc_keeps (alloc_keeps ((HB1.out.block w.heap.size (by simp)).trans (heap_alloc_new w _)))
  have hc0 : W.heap[w1.heap.size]? = some (.cells (A.push (.slice none 0 0)) 107 (0, 0)) := by rw [HW.out]; exact alloc_keeps (heap_alloc_new w1 _)
  have hn0 : W.heap[w1.heap.size + 1]? = some (.cells (rowi (begArr lens 0)) 274 (0, 0)) := by
    rw [HW.out]; exact heap_alloc2_new w1 _ _
  obtain ⟨G, HG⟩ := hid_intro w1.heap.size
  obtain ⟨Z, HZ⟩ : ∃ Z : Array Value, Hid (Z = #[.int .i64 0, .int .i64 0, .int .i64 0, .int .i64 0, .int .i64 0, .int .i64 0, .int .i64 0, .int .i64 0, .int .i64 0, .int .i64 0, .int .i64 0, .int .i64 0, .int .i64 0, .int .i64 0, .int .i64 0, .int .i64 0, .slice none 0 0]) := ⟨_, rfl⟩
  rw [← HZ.out] at hr0
  rw [← HG.out] at hRG hc0 hn0 ⊢
  have HZ17 : Hid (Z.size = 17) := by rw [HZ.out]; rfl
  have HIL : Hid (h < w.heap.size) := HI.out.1
  clear HB1 HW HZ HG rangeA HC HBD
  go_loopw [14] (fun vi wr => ∃ i : Nat, i ≤ 16 ∧ vi = .int .i64 i ∧ wr.heap[G + 1]? = some (.cells (rowi (begArr lens i)) 274 (0, 0)) ∧ wr.heap[G]? = some (.cells (A.push (.slice none 0 0)) 107 (0, 0)) ∧ wr.heap[w.heap.size]? = some (.cells Z 107 (0, 0)) ∧ Below w.heap.size w wr) (fun vi _ => 16 - (intOf vi).toNat)
  case atStart => exact ⟨0, by omega, rfl, hn0, hc0, hr0, hb0⟩
  case round =>
    clear hn0 hc0 hr0 hb0
    obtain ⟨i, hi, rfl, hn, hc, hr, hb⟩ := hrel
    by_cases hlt : i < 16
    · obtain ⟨c, Hc⟩ := hid_intro (cnt lens i)
      obtain ⟨P, HP⟩ := hid_intro (psd lens i)
      have hcl : c ≤ 400 := by rw [Hc.out]; exact Nat.le_trans (cnt_le _ _) (by have := HN.out; omega)
      have hPl : P ≤ 6400 := by
        rw [HP.out]
        have : ∀ m, psd lens m ≤ m * 400 := by
          intro m
          induction m with
          | zero => simp [psd]
          | succ m ih => have := cnt_le lens m; have := HN.out; simp only [psd]; omega
        have := this i; omega
      have q0 : ∀ w, (Instr.index 105 (.agg A) (.int .i64 (i : Int))).run Tryz.prog w = .ok (.int .i64 (c : Int)) w := fun w => by
        rw [HA.out, idx_counts _ (cntsL_len lens) (i : Int) i rfl hlt w, cntsL_get lens i hlt, Hc.out]
      have c0 := rowi_cell i hn (by rw [begArr_len]; omega)
      rw [begArr_get lens i (by omega), ← HP.out] at c0
      have c1 := rowi_cell (i + 1) hn (by rw [begArr_len]; omega)
      have ff := frozen_of_row wr (G + 1) (i + 1) _ _ hn
      have HS : Hid ((begArr lens i).set (i + 1) (P + c) = begArr lens (i + 1)) := by rw [HP.out, Hc.out]; exact begArr_step lens i hlt
      go_wp2
      go_roundw
      case rel => exact ⟨i + 1, by omega, by go_num, by rw [← HS.out]; exact rowi_step (P + c) (by simp) hn, (heap_setCell_other wr _ _ _ (by simp)).trans hc, (heap_setCell_other wr _ _ _ (by simp; omega)).trans hr, hb.setCell (by simp; omega) _⟩
      case measure => simp [intOf]; omega
    · obtain rfl : i = 16 := by omega
      have c0 := rowi_cell 16 hn (by rw [begArr_len]; omega)
      rw [begArr_get lens 16 (by omega)] at c0
      obtain ⟨T, HT⟩ := hid_intro (psd lens 16)
      rw [← HT.out] at c0
      rw [begArr_end] at hn
      have hTl : T ≤ 6400 := by
        rw [HT.out]
        have : ∀ m, psd lens m ≤ m * 400 := by
          intro m
          induction m with
          | zero => simp [psd]
          | succ m ih => have := cnt_le lens m; have := HN.out; simp only [psd]; omega
        have := this 16; omega
      have mk := fun w => make_int T (T : Int) rfl (by omega) w
      have cG := (cell_of_row wr G 16 _ _ _ hc).trans (by rw [Array.getElem?_push, if_pos hsA.symm])
      have fG := frozen_of_row wr G 16 _ _ hc
      have hGs : G < wr.heap.size := lt_of_block hc
      go_wp2
      obtain ⟨S, HS⟩ := hid_intro wr.heap.size
      rw [← HS.out] at hGs ⊢
      have HCA : Hid (A.push (.slice (some ⟨S, 0, none⟩) T T) = CA lens S) := by
        show _ = CA lens S
        unfold CA
        rw [show (codeSyms lens).length = T by rw [HT.out]; exact symsBelow_len lens 16, HA.out]
      obtain ⟨X, HX⟩ : ∃ X, Hid (X = (wr.setCell ⟨G, 16, none⟩ (.slice (some ⟨S, 0, none⟩) T T)).alloc (.cells (rowi (List.replicate T 0)) 3 (0, 0))) := ⟨_, rfl⟩
      rw [← HX.out]
      have hs0 : X.heap[S]? = some (.cells (rowi (symsArr lens 0)) 3 (0, 0)) := by
        have := heap_alloc_new (wr.setCell ⟨G, 16, none⟩ (.slice (some ⟨S, 0, none⟩) T T)) (.cells (rowi (List.replicate T 0)) 3 (0, 0))
        rw [HX.out, symsArr, ← HT.out]
        rwa [show (wr.setCell ⟨G, 16, none⟩ (.slice (some ⟨S, 0, none⟩) T T)).heap.size = S by rw [HS.out]; simp [World.setCell]] at this
      have hn0 : X.heap[G + 1]? = some (.cells (rowi (nextArr lens 0)) 274 (0, 0)) := by
        rw [HX.out]; exact alloc_keeps ((heap_setCell_other _ _ _ _ (by simp)).trans hn)
      have hc0 : X.heap[G]? = some (.cells (A.push (.slice (some ⟨S, 0, none⟩) T T)) 107 (0, 0)) := by
        rw [HX.out]
        refine alloc_keeps ?_
        rw [heap_setCell_same _ _ _ _ _ _ hc]
        congr 2
        have e : ∀ (B : Array Value) (x y : Value), B.size = 16 → (B.push x).setIfInBounds 16 y = B.push y := fun B x y hB => by
          apply Array.ext_getElem?
          intro q
          rw [Array.getElem?_setIfInBounds, Array.getElem?_push, Array.getElem?_push, Array.size_push, hB]
          by_cases hq : q = 16
          · subst hq; simp
          · rw [if_neg (fun e => hq e.symm), if_neg hq, if_neg hq]
        exact e A _ _ hsA
      have hr0 : X.heap[w.heap.size]? = some (.cells Z 107 (0, 0)) := by
        rw [HX.out]; exact alloc_keeps ((heap_setCell_other _ _ _ _ (by simp; omega)).trans hr)
      have hb0 : Below w.heap.size w X := by rw [HX.out]; exact (hb.setCell (by simp; omega) _).alloc (by simp [World.setCell]; exact hb.size) _
      have hGS : G + 1 < S := by rw [HS.out]; exact lt_of_block hn
      clear hn hc hr hb HX HS c0 cG fG mk
      go_loopw [33] (fun vi xr => ∃ i : Nat, i ≤ N ∧ vi = .int .i64 i ∧ xr.heap[S]? = some (.cells (rowi (symsArr lens i)) 3 (0, 0)) ∧ xr.heap[G + 1]? = some (.cells (rowi (nextArr lens i)) 274 (0, 0)) ∧ xr.heap[G]? = some (.cells (A.push (.slice (some ⟨S, 0, none⟩) T T)) 107 (0, 0)) ∧ xr.heap[w.heap.size]? = some (.cells Z 107 (0, 0)) ∧ Below w.heap.size w xr) (fun vi _ => N - (intOf vi).toNat)
      case atStart => exact ⟨0, by omega, rfl, hs0, hn0, hc0, hr0, hb0⟩
      case round =>
        clear hs0 hn0 hc0 hr0 hb0
        obtain ⟨i, hi, rfl, hs, hn, hc, hr, hb⟩ := hrel
        by_cases hlt : i < N
        · have hil : i < lens.length := by have := HN.out; omega
          obtain ⟨x, HX⟩ := hid_intro (lens.getD i 0)
          have hcx := (hb.cell (p := ⟨h, off + i, none⟩) HIL.out).trans (HI.out.2 i hil)
          rw [← HX.out] at hcx
          have hx15 : x ≤ 15 := by rw [HX.out]; exact H15.out _ (getD_mem hil)
          by_cases hx0 : x = 0
          · have HS1 : Hid (symsArr lens (i + 1) = symsArr lens i ∧ nextArr lens (i + 1) = nextArr lens i) := ⟨by rw [symsArr, if_pos (by rw [← HX.out]; exact hx0)], nextArr_same lens i hil (by rw [← HX.out]; exact hx0)⟩
            go_wp2
            go_roundw
            case rel => exact ⟨i + 1, by omega, by go_num, by rw [HS1.out.1]; exact hs, by rw [HS1.out.2]; exact hn, hc, hr, hb⟩
            case measure => simp [intOf]; omega
          · obtain ⟨p, HP⟩ := hid_intro (psd lens x + cnt (lens.take i) x)
            have hroom : cnt (lens.take i) x < cnt lens x := by rw [HX.out]; exact cnt_take_lt lens i hil (by rw [← HX.out]; exact hx0)
            have hpT : p < T := by rw [HP.out, HT.out]; exact spot_lt lens x _ (by omega) hroom
            have cG := (cell_of_row _ G 16 _ _ _ hc).trans (by rw [Array.getElem?_push, if_pos hsA.symm])
            have cn := rowi_cell x hn (by rw [nextArr_len]; omega)
            rw [nextArr_get lens i x (by omega), ← HP.out] at cn
            have fn := frozen_of_row _ (G + 1) x _ _ hn
            have cs := rowi_cell p hs (by rw [symsArr_len, ← HT.out]; exact hpT)
            have fs := frozen_of_row _ S p _ _ hs
            have HS1 : Hid (symsArr lens (i + 1) = (symsArr lens i).set p i) := by show _ = _; rw [symsArr, if_neg (by rw [← HX.out]; exact hx0), ← HX.out, ← HP.out]
            have HS2 : Hid ((nextArr lens i).set x (p + 1) = nextArr lens (i + 1)) := by
              show _ = _
              have := nextArr_step lens i hil (by rw [← HX.out]; exact hx0) (by rw [← HX.out]; exact hx15)
              rw [← HX.out, ← HP.out] at this
              exact this
            have b1 : (0 : Int) ≤ (x : Int) := by omega
            have b2 : (x : Int) < 17 := by omega
            have b3 : (0 : Int) ≤ (p : Int) := by omega
            have b4 : (p : Int) < (T : Int) := by omega
            have hGS1 : ¬ G + 1 = S := by omega
            have hGS2 : ¬ S = G + 1 := by omega
            go_wp2
            refine region_tail 7 (by kernel_rfl) (by kernel_rfl) ?_
            simp only [List.take_succ_cons, List.take_zero, List.drop_succ_cons, List.drop_zero]
            repeat still_step
            refine wpStill_nil ?_
            go_wp2
            go_roundw
            case rel =>
              first
                | exact ⟨i + 1, by omega, by go_num, by rw [HS1.out]; exact (heap_setCell_other _ _ _ _ (by simp; omega)).trans (rowi_step i rfl hs), by rw [← HS2.out]; exact rowi_step (p + 1) (by simp) ((heap_setCell_other _ _ _ _ (by simp; omega)).trans hn), (heap_setCell_other _ _ _ _ (by simp)).trans ((heap_setCell_other _ _ _ _ (by simp; omega)).trans hc), (heap_setCell_other _ _ _ _ (by simp; omega)).trans ((heap_setCell_other _ _ _ _ (by simp; omega)).trans hr), (hb.drew.setCell (by simp; omega) _).setCell (by simp; omega) _⟩
                | ((repeat apply Exists.intro); exact ⟨⟨i + 1, by omega, by go_num, by rw [HS1.out]; exact (heap_setCell_other _ _ _ _ (by simp; omega)).trans (rowi_step i rfl hs), by rw [← HS2.out]; exact rowi_step (p + 1) (by simp) ((heap_setCell_other _ _ _ _ (by simp; omega)).trans hn), (heap_setCell_other _ _ _ _ (by simp)).trans ((heap_setCell_other _ _ _ _ (by simp; omega)).trans hc), (heap_setCell_other _ _ _ _ (by simp; omega)).trans ((heap_setCell_other _ _ _ _ (by simp; omega)).trans hr), (hb.drew.setCell (by simp; omega) _).setCell (by simp; omega) _⟩, rfl⟩)
            case measure => simp [intOf]; omega
        · obtain rfl : i = N := by omega
          rw [HN.out, symsArr_end lens H15.out] at hs
          go_wp2_with (first
            | (refine wpList_load_row rfl 107 (.tmp 3) rfl G rfl 107 (A.push (.slice (some ⟨S, 0, none⟩) T T)) (0, 0) _ hc Tryz.underlying107 rfl ?_ ?_; (rw [Array.size_push, hsA]; exact sizeCode))
            | (refine wpList_store_row rfl 107 (.tmp 2) _ rfl w.heap.size (A.push (.slice (some ⟨S, 0, none⟩) T T)) rfl rfl 107 _ hr ?_ ?_ ?_ ?_; (rw [Array.size_push, hsA]; exact sizeCode); (rw [Array.size_push, hsA]; exact HZ17.out); (rw [Array.all_push, h1A]; rfl)))
          refine bodyPost_ret_by (v := .agg (A.push (.slice (some ⟨S, 0, none⟩) T T))) (results_cell_row Tryz.results116 _ _ w.heap.size 107 _ (0, 0) _ rfl (setRow_heap _ _ _ _ _ _ hr) Tryz.underlying107 rfl (by rw [Array.size_push, hsA]; exact sizeCode)) rfl ⟨S, ?_, by omega, ?_, ?_⟩
          · rw [HCA.out]
          · exact (setRow_other _ _ _ _ (by omega)).trans hs
          · exact below_row hb (Nat.le_refl _) _
end Go.Proofs.YtfohjjcihioinaaGreatDoor
