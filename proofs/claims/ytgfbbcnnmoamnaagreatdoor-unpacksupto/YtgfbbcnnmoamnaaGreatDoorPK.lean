/- The program's codes. The program's codes, if lengths are right. -/
import Derived.Test.YtgfbbcnnmoamnaaGreatDoorPJ
import Derived.Test.YtgfbbcnnmoamnaaGreatDoorSort
import Derived.Great.BuildSlice
namespace Go.Proofs.YtgfbbcnnmoamnaaGreatDoor
open Go.RowKit

theorem make_int (n : Nat) (L : Int) (hL : L = n) (hn : n ≤ 100000) (w : World) :
    (Instr.makeSlice 87 (.int .i64 L) (.int .i64 L)).run Tryz.prog w = .ok (.slice (some ⟨w.heap.size, 0, none⟩) n n) (w.alloc (.cells (rowi (List.replicate n 0)) 3 (0, 0))) := by
  subst hL
  rw [run_make_row' 87 3 (.int .i64 0) 8 Tryz.underlying87 infoInt rfl .i64 .i64 n (by omega) (by omega) w, made_int]
theorem build_code (cs : List Nat) (hl : cs.length = 16) : Tryz.prog.built 183 [(0, .agg (rowi cs))] = some ((rowi cs).push (.slice none 0 0)) := by
  obtain ⟨c0, c1, c2, c3, c4, c5, c6, c7, c8, c9, c10, c11, c12, c13, c14, c15, rfl⟩ := len16 cs hl
  kernel_rfl
set_option maxHeartbeats 400000 in
set_option maxRecDepth 8000 in
theorem codeOf_any (lens : List Nat) (hl : lens.length ≤ 400) (h15 : ∀ n ∈ lens, n ≤ 15) (h off cap : Nat) (w : World) (hI : IntsAt w h off lens) :
    Calls Tryz.prog 159 #[.slice (some ⟨h, off, none⟩) lens.length cap] w fun e w' => ∃ b, e = .returned (.agg (CA lens b)) ∧ w.heap.size ≤ b ∧ w'.heap[b]? = some (.cells (rowi (codeSyms lens)) 3 (0, 0)) ∧ Below w.heap.size w w' := by
  obtain ⟨N, HN⟩ := hid_intro lens.length
  have hc := fun w hI => countsOf_any lens hl h15 h off cap w hI
  rw [← HN.out] at hl hc ⊢
  have hbd := build_code (cntsL lens) (cntsL_len lens)
  have hsA : (rowi (cntsL lens)).size = 16 := by rw [rowi_size, cntsL_len]
  have h1A := rowi_one (cntsL lens)
  obtain ⟨A, HA⟩ := hid_intro (rowi (cntsL lens))
  rw [← HA.out] at hc hbd hsA h1A
  have HC : Hid _ := hc
  have HBD : Hid _ := hbd
  have HI : Hid (IntsAt w h off lens) := hI
  have H15 : Hid (∀ n ∈ lens, n ≤ 15) := h15
  clear hI h15 hc hbd
  have rangeA : ∀ w1 : World, ((w1.alloc (.cells (A.push (.slice none 0 0)) 183)).alloc (.cells (rowi (List.replicate 17 0)) 325)).rangeAt w1.heap.size 0 A.toList := fun w1 => by
    have h : ((w1.alloc (.cells (A.push (.slice none 0 0)) 183)).alloc (.cells (rowi (List.replicate 17 0)) 325)).heap[w1.heap.size]? = some (.cells (#[] ++ A ++ #[.slice none 0 0]) 183 (0, 0)) := by
      rw [show (#[] ++ A ++ #[.slice none 0 0] : Array Value) = A.push (.slice none 0 0) by simp]
      exact alloc_keeps (heap_alloc_new w1 _)
    exact range_of_block h
  go_enter Tryz.func159, Tryz.ntmps159
  go_wp2_with (first
    | (go_at_call 112; refine (HC.out _ (HI.out.keep ((Below.refl _ w).alloc (Nat.le_refl _) _))).mono ?_; rintro e w1 ⟨rfl, hb1⟩; have HB1 := (show Hid _ from hb1); clear hb1)
    | (refine wpList_buildTo rfl 183 #[(0, .tmp 10)] rfl (some 11) rfl (A.push (.slice none 0 0)) ?_ ?_; (simp only [List.map_toArray, List.map_cons, List.map_nil]; exact HBD.out))
    | (refine wpList_store_row rfl 183 (.tmp 3) (.tmp 11) rfl w1.heap.size (A.push (.slice none 0 0)) rfl rfl 183 _ (heap_alloc_new w1 _) ?_ ?_ ?_ ?_; (rw [Array.size_push, hsA]; exact sizeCode); (rw [Array.size_push, hsA]; rfl); (rw [Array.all_push, h1A]; rfl); rw [World.setRow_alloc_new])
    | (refine wpList_load_part rfl 181 _ rfl w1.heap.size 0 rfl A _ ?_ Tryz.underlying181 rfl ?_ ?_; exact (rangeA w1); (rw [hsA]; exact sizeCounts)))
  obtain ⟨W, HW⟩ : ∃ W, Hid (W = (w1.alloc (.cells (A.push (.slice none 0 0)) 183)).alloc (.cells #[.int .i64 0, .int .i64 0, .int .i64 0, .int .i64 0, .int .i64 0, .int .i64 0, .int .i64 0, .int .i64 0, .int .i64 0, .int .i64 0, .int .i64 0, .int .i64 0, .int .i64 0, .int .i64 0, .int .i64 0, .int .i64 0, .int .i64 0] 325)) := ⟨_, rfl⟩
  rw [← HW.out]
  have hRG : w.heap.size < w1.heap.size := by have := HB1.out.size; simp at this; omega
  have hb0 : Below w.heap.size w W := by rw [HW.out]; exact ((((Below.refl _ w).alloc (Nat.le_refl _) _).trans (HB1.out.mono (by simp))).alloc (by omega) _).alloc (by simp; omega) _
  have hr0 : W.heap[w.heap.size]? = some (.cells #[.int .i64 0, .int .i64 0, .int .i64 0, .int .i64 0, .int .i64 0, .int .i64 0, .int .i64 0, .int .i64 0, .int .i64 0, .int .i64 0, .int .i64 0, .int .i64 0, .int .i64 0, .int .i64 0, .int .i64 0, .int .i64 0, .slice none 0 0] 183 (0, 0)) := by
    rw [HW.out]; exact alloc_keeps (alloc_keeps ((HB1.out.block w.heap.size (by simp)).trans (heap_alloc_new w _)))
  have hc0 : W.heap[w1.heap.size]? = some (.cells (A.push (.slice none 0 0)) 183 (0, 0)) := by rw [HW.out]; exact alloc_keeps (heap_alloc_new w1 _)
  have hn0 : W.heap[w1.heap.size + 1]? = some (.cells (rowi (begArr lens 0)) 325 (0, 0)) := by
    rw [HW.out]; exact heap_alloc2_new w1 _ _
  obtain ⟨G, HG⟩ := hid_intro w1.heap.size
  obtain ⟨Z, HZ⟩ : ∃ Z : Array Value, Hid (Z = #[.int .i64 0, .int .i64 0, .int .i64 0, .int .i64 0, .int .i64 0, .int .i64 0, .int .i64 0, .int .i64 0, .int .i64 0, .int .i64 0, .int .i64 0, .int .i64 0, .int .i64 0, .int .i64 0, .int .i64 0, .int .i64 0, .slice none 0 0]) := ⟨_, rfl⟩
  rw [← HZ.out] at hr0
  rw [← HG.out] at hRG hc0 hn0 ⊢
  have HZ17 : Hid (Z.size = 17) := by rw [HZ.out]; rfl
  have HIL : Hid (h < w.heap.size) := HI.out.1
  clear HB1 HW HZ HG rangeA HC HBD
  go_loopw [14] (fun vi wr => ∃ i : Nat, i ≤ 16 ∧ vi = .int .i64 i ∧ wr.heap[G + 1]? = some (.cells (rowi (begArr lens i)) 325 (0, 0)) ∧ wr.heap[G]? = some (.cells (A.push (.slice none 0 0)) 183 (0, 0)) ∧ wr.heap[w.heap.size]? = some (.cells Z 183 (0, 0)) ∧ Below w.heap.size w wr) (fun vi _ => 16 - (intOf vi).toNat)
  case atStart => exact ⟨0, by omega, rfl, hn0, hc0, hr0, hb0⟩
  case round =>
    clear hn0 hc0 hr0 hb0
    obtain ⟨i, hi, rfl, hn, hc, hr, hb⟩ := hrel
    by_cases hlt : i < 16
    · obtain ⟨c, Hc⟩ := hid_intro (cnt lens i)
      obtain ⟨P, HP⟩ := hid_intro (psd lens i)
      have hcl : c ≤ 400 := by rw [Hc.out]; exact Nat.le_trans (cnt_le _ _) (by have := HN.out; omega)
      have hPl : P ≤ 6400 := by
        rw [HP.out]
        have : ∀ m, psd lens m ≤ m * 400 := by
          intro m
          induction m with
          | zero => simp [psd]
          | succ m ih => have := cnt_le lens m; have := HN.out; simp only [psd]; omega
        have := this i; omega
      have q0 : ∀ w, (Instr.index 181 (.agg A) (.int .i64 (i : Int))).run Tryz.prog w = .ok (.int .i64 (c : Int)) w := fun w => by
        rw [HA.out, idx_counts _ (cntsL_len lens) (i : Int) i rfl hlt w, cntsL_get lens i hlt, Hc.out]
      have c0 := rowi_cell i hn (by rw [begArr_len]; omega)
      rw [begArr_get lens i (by omega), ← HP.out] at c0
      have c1 := rowi_cell (i + 1) hn (by rw [begArr_len]; omega)
      have ff := frozen_of_row wr (G + 1) (i + 1) _ _ hn
      have HS : Hid ((begArr lens i).set (i + 1) (P + c) = begArr lens (i + 1)) := by rw [HP.out, Hc.out]; exact begArr_step lens i hlt
      go_wp2
      go_roundw
      case rel => exact ⟨i + 1, by omega, by go_num, by rw [← HS.out]; exact rowi_step (P + c) (by simp) hn, (heap_setCell_other wr _ _ _ (by simp)).trans hc, (heap_setCell_other wr _ _ _ (by simp; omega)).trans hr, hb.setCell (by simp; omega) _⟩
      case measure => simp [intOf]; omega
    · obtain rfl : i = 16 := by omega
      have c0 := rowi_cell 16 hn (by rw [begArr_len]; omega)
      rw [begArr_get lens 16 (by omega)] at c0
      obtain ⟨T, HT⟩ := hid_intro (psd lens 16)
      rw [← HT.out] at c0
      rw [begArr_end] at hn
      have hTl : T ≤ 6400 := by
        rw [HT.out]
        have : ∀ m, psd lens m ≤ m * 400 := by
          intro m
          induction m with
          | zero => simp [psd]
          | succ m ih => have := cnt_le lens m; have := HN.out; simp only [psd]; omega
        have := this 16; omega
      have mk := fun w => make_int T (T : Int) rfl (by omega) w
      have cG := (cell_of_row wr G 16 _ _ _ hc).trans (by rw [Array.getElem?_push, if_pos hsA.symm])
      have fG := frozen_of_row wr G 16 _ _ hc
      have hGs : G < wr.heap.size := lt_of_block hc
      go_wp2
      obtain ⟨S, HS⟩ := hid_intro wr.heap.size
      rw [← HS.out] at hGs ⊢
      have HCA : Hid (A.push (.slice (some ⟨S, 0, none⟩) T T) = CA lens S) := by
        show _ = CA lens S
        unfold CA
        rw [show (codeSyms lens).length = T by rw [HT.out]; exact symsBelow_len lens 16, HA.out]
      obtain ⟨X, HX⟩ : ∃ X, Hid (X = (wr.setCell ⟨G, 16, none⟩ (.slice (some ⟨S, 0, none⟩) T T)).alloc (.cells (rowi (List.replicate T 0)) 3 (0, 0))) := ⟨_, rfl⟩
      rw [← HX.out]
      have hs0 : X.heap[S]? = some (.cells (rowi (symsArr lens 0)) 3 (0, 0)) := by
        have := heap_alloc_new (wr.setCell ⟨G, 16, none⟩ (.slice (some ⟨S, 0, none⟩) T T)) (.cells (rowi (List.replicate T 0)) 3 (0, 0))
        rw [HX.out, symsArr, ← HT.out]
        rwa [show (wr.setCell ⟨G, 16, none⟩ (.slice (some ⟨S, 0, none⟩) T T)).heap.size = S by rw [HS.out]; simp [World.setCell]] at this
      have hn0 : X.heap[G + 1]? = some (.cells (rowi (nextArr lens 0)) 325 (0, 0)) := by
        rw [HX.out]; exact alloc_keeps ((heap_setCell_other _ _ _ _ (by simp)).trans hn)
      have hc0 : X.heap[G]? = some (.cells (A.push (.slice (some ⟨S, 0, none⟩) T T)) 183 (0, 0)) := by
        rw [HX.out]
        refine alloc_keeps ?_
        rw [heap_setCell_same _ _ _ _ _ _ hc]
        congr 2
        have e : ∀ (B : Array Value) (x y : Value), B.size = 16 → (B.push x).setIfInBounds 16 y = B.push y := fun B x y hB => by
          apply Array.ext_getElem?
          intro q
          rw [Array.getElem?_setIfInBounds, Array.getElem?_push, Array.getElem?_push, Array.size_push, hB]
          by_cases hq : q = 16
          · subst hq; simp
          · rw [if_neg (fun e => hq e.symm), if_neg hq, if_neg hq]
        exact e A _ _ hsA
      have hr0 : X.heap[w.heap.size]? = some (.cells Z 183 (0, 0)) := by
        rw [HX.out]; exact alloc_keeps ((heap_setCell_other _ _ _ _ (by simp; omega)).trans hr)
      have hb0 : Below w.heap.size w X := by rw [HX.out]; exact (hb.setCell (by simp; omega) _).alloc (by simp [World.setCell]; exact hb.size) _
      have hGS : G + 1 < S := by rw [HS.out]; exact lt_of_block hn
      clear hn hc hr hb HX HS c0 cG fG mk
      go_loopw [33] (fun vi xr => ∃ i : Nat, i ≤ N ∧ vi = .int .i64 i ∧ xr.heap[S]? = some (.cells (rowi (symsArr lens i)) 3 (0, 0)) ∧ xr.heap[G + 1]? = some (.cells (rowi (nextArr lens i)) 325 (0, 0)) ∧ xr.heap[G]? = some (.cells (A.push (.slice (some ⟨S, 0, none⟩) T T)) 183 (0, 0)) ∧ xr.heap[w.heap.size]? = some (.cells Z 183 (0, 0)) ∧ Below w.heap.size w xr) (fun vi _ => N - (intOf vi).toNat)
      case atStart => exact ⟨0, by omega, rfl, hs0, hn0, hc0, hr0, hb0⟩
      case round =>
        clear hs0 hn0 hc0 hr0 hb0
        obtain ⟨i, hi, rfl, hs, hn, hc, hr, hb⟩ := hrel
        by_cases hlt : i < N
        · have hil : i < lens.length := by have := HN.out; omega
          obtain ⟨x, HX⟩ := hid_intro (lens.getD i 0)
          have hcx := (hb.cell (p := ⟨h, off + i, none⟩) HIL.out).trans (HI.out.2 i hil)
          rw [← HX.out] at hcx
          have hx15 : x ≤ 15 := by rw [HX.out]; exact H15.out _ (getD_mem hil)
          by_cases hx0 : x = 0
          · have HS1 : Hid (symsArr lens (i + 1) = symsArr lens i ∧ nextArr lens (i + 1) = nextArr lens i) := ⟨by rw [symsArr, if_pos (by rw [← HX.out]; exact hx0)], nextArr_same lens i hil (by rw [← HX.out]; exact hx0)⟩
            go_wp2
            go_roundw
            case rel => exact ⟨i + 1, by omega, by go_num, by rw [HS1.out.1]; exact hs, by rw [HS1.out.2]; exact hn, hc, hr, hb⟩
            case measure => simp [intOf]; omega
          · obtain ⟨p, HP⟩ := hid_intro (psd lens x + cnt (lens.take i) x)
            have hroom : cnt (lens.take i) x < cnt lens x := by rw [HX.out]; exact cnt_take_lt lens i hil (by rw [← HX.out]; exact hx0)
            have hpT : p < T := by rw [HP.out, HT.out]; exact spot_lt lens x _ (by omega) hroom
            have cG := (cell_of_row _ G 16 _ _ _ hc).trans (by rw [Array.getElem?_push, if_pos hsA.symm])
            have cn := rowi_cell x hn (by rw [nextArr_len]; omega)
            rw [nextArr_get lens i x (by omega), ← HP.out] at cn
            have fn := frozen_of_row _ (G + 1) x _ _ hn
            have cs := rowi_cell p hs (by rw [symsArr_len, ← HT.out]; exact hpT)
            have fs := frozen_of_row _ S p _ _ hs
            have HS1 : Hid (symsArr lens (i + 1) = (symsArr lens i).set p i) := by show _ = _; rw [symsArr, if_neg (by rw [← HX.out]; exact hx0), ← HX.out, ← HP.out]
            have HS2 : Hid ((nextArr lens i).set x (p + 1) = nextArr lens (i + 1)) := by
              show _ = _
              have := nextArr_step lens i hil (by rw [← HX.out]; exact hx0) (by rw [← HX.out]; exact hx15)
              rw [← HX.out, ← HP.out] at this
              exact this
            have b1 : (0 : Int) ≤ (x : Int) := by omega
            have b2 : (x : Int) < 17 := by omega
            have b3 : (0 : Int) ≤ (p : Int) := by omega
            have b4 : (p : Int) < (T : Int) := by omega
            have hGS1 : ¬ G + 1 = S := by omega
            have hGS2 : ¬ S = G + 1 := by omega
            go_wp2
            refine region_tail 7 (by kernel_rfl) (by kernel_rfl) ?_
            simp only [List.take_succ_cons, List.take_zero, List.drop_succ_cons, List.drop_zero]
            repeat still_step
            refine wpStill_nil ?_
            go_wp2
            go_roundw
            case rel =>
              first
                | exact ⟨i + 1, by omega, by go_num, by rw [HS1.out]; exact (heap_setCell_other _ _ _ _ (by simp; omega)).trans (rowi_step i rfl hs), by rw [← HS2.out]; exact rowi_step (p + 1) (by simp) ((heap_setCell_other _ _ _ _ (by simp; omega)).trans hn), (heap_setCell_other _ _ _ _ (by simp)).trans ((heap_setCell_other _ _ _ _ (by simp; omega)).trans hc), (heap_setCell_other _ _ _ _ (by simp; omega)).trans ((heap_setCell_other _ _ _ _ (by simp; omega)).trans hr), (hb.drew.setCell (by simp; omega) _).setCell (by simp; omega) _⟩
                | ((repeat apply Exists.intro); exact ⟨⟨i + 1, by omega, by go_num, by rw [HS1.out]; exact (heap_setCell_other _ _ _ _ (by simp; omega)).trans (rowi_step i rfl hs), by rw [← HS2.out]; exact rowi_step (p + 1) (by simp) ((heap_setCell_other _ _ _ _ (by simp; omega)).trans hn), (heap_setCell_other _ _ _ _ (by simp)).trans ((heap_setCell_other _ _ _ _ (by simp; omega)).trans hc), (heap_setCell_other _ _ _ _ (by simp; omega)).trans ((heap_setCell_other _ _ _ _ (by simp; omega)).trans hr), (hb.drew.setCell (by simp; omega) _).setCell (by simp; omega) _⟩, rfl⟩)
            case measure => simp [intOf]; omega
        · obtain rfl : i = N := by omega
          rw [HN.out, symsArr_end lens H15.out] at hs
          go_wp2_with (first
            | (refine wpList_load_row rfl 183 (.tmp 3) rfl G rfl 183 (A.push (.slice (some ⟨S, 0, none⟩) T T)) (0, 0) _ hc Tryz.underlying183 rfl ?_ ?_; (rw [Array.size_push, hsA]; exact sizeCode))
            | (refine wpList_store_row rfl 183 (.tmp 2) _ rfl w.heap.size (A.push (.slice (some ⟨S, 0, none⟩) T T)) rfl rfl 183 _ hr ?_ ?_ ?_ ?_; (rw [Array.size_push, hsA]; exact sizeCode); (rw [Array.size_push, hsA]; exact HZ17.out); (rw [Array.all_push, h1A]; rfl)))
          refine bodyPost_ret_by (v := .agg (A.push (.slice (some ⟨S, 0, none⟩) T T))) (results_cell_row Tryz.results159 _ _ w.heap.size 183 _ (0, 0) _ rfl (setRow_heap _ _ _ _ _ _ hr) Tryz.underlying183 rfl (by rw [Array.size_push, hsA]; exact sizeCode)) rfl ⟨S, ?_, by omega, ?_, ?_⟩
          · rw [HCA.out]
          · exact (setRow_other _ _ _ _ (by omega)).trans hs
          · exact below_row hb (Nat.le_refl _) _
end Go.Proofs.YtgfbbcnnmoamnaaGreatDoor

namespace Go.Proofs.YtgfbbcnnmoamnaaGreatDoor
open Go.RowKit

/-- no code -/
def zeroCode : Array Value := #[.int .i64 0, .int .i64 0, .int .i64 0, .int .i64 0, .int .i64 0, .int .i64 0, .int .i64 0, .int .i64 0, .int .i64 0, .int .i64 0, .int .i64 0, .int .i64 0, .int .i64 0, .int .i64 0, .int .i64 0, .int .i64 0, .slice none 0 0]
theorem zeroCode_size : zeroCode.size = 17 := rfl
theorem zeroCode_one : zeroCode.all (·.oneCell') = true := by kernel_rfl
theorem rsum_csum (lens : List Nat) : ∀ i, i ≤ 16 → rsum (cntsL lens) i = csum (fun n => 2 ^ (15 - n)) lens i
  | 0, _ => rfl
  | i + 1, h => by simp only [rsum, csum]; rw [rsum_csum lens i (by omega), cntsL_get lens i (by omega)]
theorem right_iff (lens : List Nat) (h : ∀ n ∈ lens, n ≤ 15) : rsum (cntsL lens) 16 = kraft lens := by rw [rsum_csum lens 16 (by omega), csum_kraft lens h]
theorem cntsL_le (lens : List Nat) (hl : lens.length ≤ 400) : ∀ n ∈ cntsL lens, n ≤ 400 := by
  intro n hn
  simp only [cntsL, List.mem_map] at hn
  obtain ⟨m, _, rfl⟩ := hn
  exact Nat.le_trans (cnt_le lens m) hl
theorem results_row_tmp {P : Program} {fn : Func} {p t : Tmp} {ty : TypeId} (h : fn.results = #[.cell p ty, .tmp t]) (tmps : Array Value) (w : World) (g : Nat) (tt : TypeId) (cs : Array Value) (fr : Nat × Nat) (d : TypeDesc)
    (hp : tmps.getD p undef = .pointer (some ⟨g, 0, none⟩)) (hg : w.heap[g]? = some (.cells cs tt fr))
    (hu : P.underlying ty = some d) (hd : (match d with | .struct _ | .array _ _ => true | _ => false) = true) (hi : (P.info? ty).map (·.size) = some cs.size) :
    (results fn tmps).run P w = .ok (.tuple #[.agg cs, tmps.getD t undef]) w := by
  have hp' : tmps[p]?.getD undef = .pointer (some ⟨g, 0, none⟩) := by simpa using hp
  simp [results, h, hp', asAddr, run_loadVar_row w g tt ty cs fr d hg hu hd hi]
theorem CA_one (lens : List Nat) (b : Nat) : (CA lens b).all (·.oneCell') = true := by
  unfold CA; rw [Array.all_push, rowi_one]; rfl
set_option maxHeartbeats 1000000 in
set_option maxRecDepth 8000 in
theorem rightCode_any {er : Errs} (lens : List Nat) (hl : lens.length ≤ 400) (h15 : ∀ n ∈ lens, n ≤ 15) (h off cap : Nat) (w : World) (hI : IntsAt w h off lens) (hE : er.At w) :
    Calls Tryz.prog 321 #[.slice (some ⟨h, off, none⟩) lens.length cap] w fun e w' =>
      (kraft lens = 32768 ∧ ∃ b, e = .returned (.tuple #[.agg (CA lens b), .nilIface]) ∧ w.heap.size ≤ b ∧ w'.heap[b]? = some (.cells (rowi (codeSyms lens)) 3 (0, 0)) ∧ Below w.heap.size w w') ∨
      (kraft lens ≠ 32768 ∧ e = .returned (.tuple #[.agg zeroCode, errV er.lengths]) ∧ Below w.heap.size w w') := by
  obtain ⟨N, HN⟩ := hid_intro lens.length
  have hc := fun w hI => countsOf_any lens hl h15 h off cap w hI
  have hr := fun w => right_any (cntsL lens) (cntsL_len lens) (cntsL_le lens hl) w
  have hk := fun w hI => codeOf_any lens hl h15 h off cap w hI
  rw [right_iff lens h15] at hr
  rw [← HN.out] at hc hk ⊢
  obtain ⟨A, HA⟩ := hid_intro (rowi (cntsL lens))
  rw [← HA.out] at hc hr
  have HC : Hid _ := hc
  have HR : Hid _ := hr
  have HK : Hid _ := hk
  have HI : Hid (IntsAt w h off lens) := hI
  clear hI h15 hc hr hk
  by_cases hkr : kraft lens = 32768
  · rw [decide_eq_true hkr] at HR
    refine Calls.mono ?_ (fun e w' (x : ∃ b, e = .returned (.tuple #[.agg (CA lens b), .nilIface]) ∧ w.heap.size ≤ b ∧ w'.heap[b]? = some (.cells (rowi (codeSyms lens)) 3 (0, 0)) ∧ Below w.heap.size w w') => .inl ⟨hkr, x⟩)
    clear hkr hE
    go_enter Tryz.func321, Tryz.ntmps321
    go_wp2_with (first
      | (go_at_call 112; refine (HC.out _ (HI.out.keep ((Below.refl _ w).alloc (Nat.le_refl _) _))).mono ?_; rintro e w1 ⟨rfl, hb1⟩; have HB1 := (show Hid _ from hb1); clear hb1)
      | (go_at_call 350; refine (HR.out _).mono ?_; rintro e w2 ⟨rfl, hb2⟩; have HB2 := (show Hid _ from hb2); clear hb2)
      | (go_at_call 159; refine (HK.out _ (((HI.out.keep ((Below.refl _ w).alloc (Nat.le_refl _) _)).keep HB1.out).keep HB2.out)).mono ?_; rintro e w3 ⟨b, rfl, hb3, hcs3, hbl3⟩; have z1 := HB1.out.size; have z2 := HB2.out.size; simp only [World.size_alloc] at z1; have HR3 := (show Hid _ from ((hbl3.block w.heap.size (by omega)).trans ((HB2.out.block w.heap.size (by omega)).trans ((HB1.out.block w.heap.size (by simp)).trans (heap_alloc_new w _))))); have HB3 := (show Hid (Below w.heap.size w w3) from ((((Below.refl _ w).alloc (Nat.le_refl _) _).trans (HB1.out.mono (by simp))).trans (HB2.out.mono (by omega))).trans (hbl3.mono (by omega))); clear hbl3)
      | (refine wpList_store_row rfl 183 (.tmp 2) (.tmp 11) rfl w.heap.size (CA lens b) rfl rfl 183 _ HR3.out ?_ ?_ ?_ ?_; (rw [CA_size]; exact sizeCode); (rw [CA_size]; rfl); exact CA_one lens b))
    refine bodyPost_ret_by (v := .tuple #[.agg (CA lens b), .nilIface]) (results_row_tmp Tryz.results321 _ _ w.heap.size 183 (CA lens b) (0, 0) _ rfl (setRow_heap _ _ _ _ _ _ HR3.out) Tryz.underlying183 rfl (by rw [CA_size]; exact sizeCode)) rfl ⟨b, rfl, by omega, ?_, below_row HB3.out (Nat.le_refl _) _⟩
    exact (setRow_other _ _ _ _ (by omega)).trans hcs3
  · rw [decide_eq_false hkr] at HR
    refine Calls.mono ?_ (fun e w' (x : e = .returned (.tuple #[.agg zeroCode, errV er.lengths]) ∧ Below w.heap.size w w') => .inr ⟨hkr, x⟩)
    have HE : Hid (er.At w) := hE
    clear hkr hE
    go_enter Tryz.func321, Tryz.ntmps321
    go_wp2_with (first
      | (go_at_call 112; refine (HC.out _ (HI.out.keep ((Below.refl _ w).alloc (Nat.le_refl _) _))).mono ?_; rintro e w1 ⟨rfl, hb1⟩; have HB1 := (show Hid _ from hb1); clear hb1)
      | (go_at_call 350; refine (HR.out _).mono ?_; rintro e w2 ⟨rfl, hb2⟩; have HB2 := (show Hid _ from hb2); clear hb2; have z1 := HB1.out.size; simp only [World.size_alloc] at z1; have HB3 := (show Hid (Below w.heap.size w w2) from (((Below.refl _ w).alloc (Nat.le_refl _) _).trans (HB1.out.mono (by simp))).trans (HB2.out.mono (by omega))); have he := (HE.out.below HB3.out HE.out.size).lengths; have HR3 := (show Hid _ from (((HB2.out.block w.heap.size (by omega)).trans ((HB1.out.block w.heap.size (by simp)).trans (heap_alloc_new w _)))))))
    refine wp_region_still_lit (by kernel_rfl) (by kernel_rfl) ?_
    still_step
    still_step
    refine wpStill_step (fun K hK => ?_)
    refine still_store_row 183 (.tmp 2) (.tmp 8) rfl w.heap.size _ rfl rfl 183 HR3.out sizeCode (by kernel_rfl) (hK _ ?_)
    clear hK K
    repeat still_step
    refine wpStill_nil ?_
    go_wp2
    refine bodyPost_ret_by (results_row_tmp Tryz.results321 _ _ w.heap.size 183 _ (0, 0) _ rfl HR3.out Tryz.underlying183 rfl sizeCode) rfl ⟨rfl, HB3.out.drew⟩
set_option maxHeartbeats 1000000 in
set_option maxRecDepth 8000 in
theorem distanceCode_any {er : Errs} (lens : List Nat) (hl : lens.length ≤ 400) (h15 : ∀ n ∈ lens, n ≤ 15) (h off cap : Nat) (w : World) (hI : IntsAt w h off lens) (hE : er.At w) :
    Calls Tryz.prog 324 #[.slice (some ⟨h, off, none⟩) lens.length cap] w fun e w' =>
      (¬ (kraft lens ≠ 32768 ∧ lens.sum > 1) ∧ ∃ b, e = .returned (.tuple #[.agg (CA lens b), .nilIface]) ∧ w.heap.size ≤ b ∧ w'.heap[b]? = some (.cells (rowi (codeSyms lens)) 3 (0, 0)) ∧ Below w.heap.size w w') ∨
      ((kraft lens ≠ 32768 ∧ lens.sum > 1) ∧ e = .returned (.tuple #[.agg zeroCode, errV er.lengths]) ∧ Below w.heap.size w w') := by
  obtain ⟨N, HN⟩ := hid_intro lens.length
  have hc := fun w hI => countsOf_any lens hl h15 h off cap w hI
  have hr := fun w => right_any (cntsL lens) (cntsL_len lens) (cntsL_le lens hl) w
  have hm := fun w => most_any (cntsL lens) (cntsL_len lens) w
  have hk := fun w hI => codeOf_any lens hl h15 h off cap w hI
  have hmi := most_iff lens h15
  rw [right_iff lens h15] at hr
  rw [← HN.out] at hc hk ⊢
  have hsA : (rowi (cntsL lens)).size = 16 := by rw [rowi_size, cntsL_len]
  have h1A := rowi_one (cntsL lens)
  obtain ⟨A, HA⟩ := hid_intro (rowi (cntsL lens))
  rw [← HA.out] at hc hr hm hsA h1A
  have HC : Hid _ := hc
  have HR : Hid _ := hr
  have HM : Hid _ := hm
  have HK : Hid _ := hk
  have HI : Hid (IntsAt w h off lens) := hI
  have HE : Hid (er.At w) := hE
  clear hI h15 hc hr hk hm hE
  obtain ⟨k, HKr⟩ := hid_intro (decide (kraft lens = 32768))
  obtain ⟨m, HMo⟩ := hid_intro (decide (lens.sum ≤ 1))
  have HM2 : Hid (∀ w, Calls Tryz.prog 351 #[.agg A] w fun e w' => e = .returned (.bool m) ∧ Below w.heap.size w w') := by
    have e : decide (cntsL lens = List.replicate 16 0 ∨ cntsL lens = [0, 1, 0, 0, 0, 0, 0, 0, 0, 0, 0, 0, 0, 0, 0, 0]) = m := by rw [HMo.out]; exact decide_eq_decide.2 hmi
    intro w; have := HM.out w; rw [e] at this; exact this
  rw [← HKr.out] at HR
  have HP : Hid ((¬ (kraft lens ≠ 32768 ∧ lens.sum > 1)) ↔ (k || m) = true) := by
    show _ ↔ _
    rw [HKr.out, HMo.out, Bool.or_eq_true, decide_eq_true_iff, decide_eq_true_iff]
    constructor
    · intro h
      by_cases hk : kraft lens = 32768
      · exact .inl hk
      · exact .inr (by rcases Nat.lt_or_ge 1 lens.sum with h2 | h2
                       · exact absurd ⟨hk, h2⟩ h
                       · exact h2)
    · rintro (h | h) ⟨h1, h2⟩
      · exact h1 h
      · omega
  clear HM hmi HKr HMo
  obtain ⟨J, HJ⟩ := hid_intro (k || m)
  have HJ2 : Hid (if J = true then (∀ e w', (∃ b, e = .returned (.tuple #[.agg (CA lens b), .nilIface]) ∧ w.heap.size ≤ b ∧ w'.heap[b]? = some (.cells (rowi (codeSyms lens)) 3 (0, 0)) ∧ Below w.heap.size w w') → ((¬ (kraft lens ≠ 32768 ∧ lens.sum > 1) ∧ ∃ b, e = Ending.returned (.tuple #[.agg (CA lens b), .nilIface]) ∧ w.heap.size ≤ b ∧ w'.heap[b]? = some (.cells (rowi (codeSyms lens)) 3 (0, 0)) ∧ Below w.heap.size w w') ∨
      ((kraft lens ≠ 32768 ∧ lens.sum > 1) ∧ e = Ending.returned (.tuple #[.agg zeroCode, errV er.lengths]) ∧ Below w.heap.size w w')))
     else (∀ e w', (e = Ending.returned (.tuple #[.agg zeroCode, errV er.lengths]) ∧ Below w.heap.size w w') → ((¬ (kraft lens ≠ 32768 ∧ lens.sum > 1) ∧ ∃ b, e = Ending.returned (.tuple #[.agg (CA lens b), .nilIface]) ∧ w.heap.size ≤ b ∧ w'.heap[b]? = some (.cells (rowi (codeSyms lens)) 3 (0, 0)) ∧ Below w.heap.size w w') ∨
      ((kraft lens ≠ 32768 ∧ lens.sum > 1) ∧ e = Ending.returned (.tuple #[.agg zeroCode, errV er.lengths]) ∧ Below w.heap.size w w')))) := by
    show (if J = true then _ else _)
    split
    · rename_i hj; intro e w' x; exact .inl ⟨HP.out.2 (by rw [← HJ.out]; exact hj), x⟩
    · rename_i hj; intro e w' x
      refine .inr ⟨?_, x⟩
      by_cases hq : kraft lens ≠ 32768 ∧ lens.sum > 1
      · exact hq
      · exact absurd (HP.out.1 hq) (by rw [← HJ.out]; exact hj)
  have key : Calls Tryz.prog 324 #[.slice (some ⟨h, off, none⟩) N cap] w fun e w' => if J = true then (∃ b, e = .returned (.tuple #[.agg (CA lens b), .nilIface]) ∧ w.heap.size ≤ b ∧ w'.heap[b]? = some (.cells (rowi (codeSyms lens)) 3 (0, 0)) ∧ Below w.heap.size w w') else (e = .returned (.tuple #[.agg zeroCode, errV er.lengths]) ∧ Below w.heap.size w w') := by
    clear HJ2 HP
    cases k <;> cases m
    · have hJ : J = false := HJ.out
      subst hJ
      go_enter Tryz.func324, Tryz.ntmps324
      go_wp2_with (first
        | (go_at_call 112; refine (HC.out _ (HI.out.keep ((Below.refl _ w).alloc (Nat.le_refl _) _))).mono ?_; rintro e w1 ⟨rfl, hb1⟩; have HB1 := (show Hid _ from hb1); clear hb1; have z1 := HB1.out.size; simp only [World.size_alloc] at z1)
        | (refine wpList_store_row rfl 181 (.tmp 4) (.tmp 6) rfl w1.heap.size A rfl rfl 181 _ (heap_alloc_new w1 _) ?_ ?_ ?_ ?_; (rw [hsA]; exact sizeCounts); (rw [hsA]; rfl); exact h1A; (rw [World.setRow_alloc_new]; have hA1 := heap_alloc_new w1 (.cells A 181)))
        | (go_at_call 350; refine (HR.out _).mono ?_; rintro e w2 ⟨rfl, hb2⟩; have HB2 := (show Hid _ from hb2); clear hb2; have z2 := HB2.out.size; simp only [World.size_alloc] at z2; have hA2 := (HB2.out.block w1.heap.size (by simp)).trans hA1; clear hA1)
        | (refine wpList_load_row rfl 181 (.tmp 4) rfl w1.heap.size rfl 181 A (0, 0) _ hA1 Tryz.underlying181 rfl ?_ ?_; (rw [hsA]; exact sizeCounts))
        | (refine wpList_load_rowW ?_ 181 (.tmp 4) rfl w1.heap.size rfl 181 A (0, 0) _ hA2 Tryz.underlying181 rfl ?_ ?_; rfl; (rw [hsA]; exact sizeCounts))
        | (go_at_call 351; refine (HM2.out _).mono ?_; rintro e w3 ⟨rfl, hb3⟩; have HB3 := (show Hid _ from hb3); clear hb3; have z3 := HB3.out.size; have HBX := (show Hid (Below w.heap.size w w3) from (((((Below.refl _ w).alloc (Nat.le_refl _) _).trans (HB1.out.mono (by simp))).alloc (by omega) _).trans (HB2.out.mono (by simp; omega))).trans (HB3.out.mono (by omega))); have HRX := (show Hid _ from ((HB3.out.block w.heap.size (by omega)).trans ((HB2.out.block w.heap.size (by simp; omega)).trans (alloc_keeps ((HB1.out.block w.heap.size (by simp)).trans (heap_alloc_new w _))))))))
      have he := (HE.out.below HBX.out HE.out.size).lengths
      refine wp_region_still_lit (by kernel_rfl) (by kernel_rfl) ?_
      still_step
      still_step
      refine wpStill_step (fun K hK => ?_)
      refine still_store_row 183 (.tmp 2) (.tmp 15) rfl w.heap.size _ rfl rfl 183 HRX.out sizeCode (by kernel_rfl) (hK _ ?_)
      clear hK K
      repeat still_step
      refine wpStill_nil ?_
      go_wp2
      refine bodyPost_ret_by (results_row_tmp Tryz.results324 _ _ w.heap.size 183 _ (0, 0) _ rfl HRX.out Tryz.underlying183 rfl sizeCode) rfl ⟨rfl, HBX.out.drew⟩
    · have hJ : J = true := HJ.out
      subst hJ
      go_enter Tryz.func324, Tryz.ntmps324
      go_wp2_with (first
        | (go_at_call 112; refine (HC.out _ (HI.out.keep ((Below.refl _ w).alloc (Nat.le_refl _) _))).mono ?_; rintro e w1 ⟨rfl, hb1⟩; have HB1 := (show Hid _ from hb1); clear hb1; have z1 := HB1.out.size; simp only [World.size_alloc] at z1)
        | (refine wpList_store_row rfl 181 (.tmp 4) (.tmp 6) rfl w1.heap.size A rfl rfl 181 _ (heap_alloc_new w1 _) ?_ ?_ ?_ ?_; (rw [hsA]; exact sizeCounts); (rw [hsA]; rfl); exact h1A; (rw [World.setRow_alloc_new]; have hA1 := heap_alloc_new w1 (.cells A 181)))
        | (go_at_call 350; refine (HR.out _).mono ?_; rintro e w2 ⟨rfl, hb2⟩; have HB2 := (show Hid _ from hb2); clear hb2; have z2 := HB2.out.size; simp only [World.size_alloc] at z2; have hA2 := (HB2.out.block w1.heap.size (by simp)).trans hA1; clear hA1)
        | (refine wpList_load_row rfl 181 (.tmp 4) rfl w1.heap.size rfl 181 A (0, 0) _ hA1 Tryz.underlying181 rfl ?_ ?_; (rw [hsA]; exact sizeCounts))
        | (refine wpList_load_rowW ?_ 181 (.tmp 4) rfl w1.heap.size rfl 181 A (0, 0) _ hA2 Tryz.underlying181 rfl ?_ ?_; rfl; (rw [hsA]; exact sizeCounts))
        | (go_at_call 351; refine (HM2.out _).mono ?_; rintro e w3 ⟨rfl, hb3⟩; have HB3 := (show Hid _ from hb3); clear hb3; have z3 := HB3.out.size; have HBX := (show Hid (Below w.heap.size w w3) from (((((Below.refl _ w).alloc (Nat.le_refl _) _).trans (HB1.out.mono (by simp))).alloc (by omega) _).trans (HB2.out.mono (by simp; omega))).trans (HB3.out.mono (by omega))); have HRX := (show Hid _ from ((HB3.out.block w.heap.size (by omega)).trans ((HB2.out.block w.heap.size (by simp; omega)).trans (alloc_keeps ((HB1.out.block w.heap.size (by simp)).trans (heap_alloc_new w _)))))))
        | (go_at_call 159; refine (HK.out _ (HI.out.below HBX.out HI.out.1)).mono ?_; rintro e w4 ⟨b, rfl, hb4, hcs4, hbl4⟩; have HR4 := (show Hid _ from ((hbl4.block w.heap.size (by omega)).trans HRX.out)); have HB4 := (show Hid (Below w.heap.size w w4) from HBX.out.trans (hbl4.mono (by omega))); clear hbl4)
        | (refine wpList_store_row rfl 183 (.tmp 2) _ rfl w.heap.size (CA lens b) rfl rfl 183 _ HR4.out ?_ ?_ ?_ ?_; (rw [CA_size]; exact sizeCode); (rw [CA_size]; rfl); exact CA_one lens b))
      refine bodyPost_ret_by (v := .tuple #[.agg (CA lens b), .nilIface]) (results_row_tmp Tryz.results324 _ _ w.heap.size 183 (CA lens b) (0, 0) _ rfl (setRow_heap _ _ _ _ _ _ HR4.out) Tryz.underlying183 rfl (by rw [CA_size]; exact sizeCode)) rfl ⟨b, rfl, by omega, ?_, below_row HB4.out (Nat.le_refl _) _⟩
      exact (setRow_other _ _ _ _ (by omega)).trans hcs4
    · have hJ : J = true := HJ.out
      subst hJ
      go_enter Tryz.func324, Tryz.ntmps324
      go_wp2_with (first
        | (go_at_call 112; refine (HC.out _ (HI.out.keep ((Below.refl _ w).alloc (Nat.le_refl _) _))).mono ?_; rintro e w1 ⟨rfl, hb1⟩; have HB1 := (show Hid _ from hb1); clear hb1; have z1 := HB1.out.size; simp only [World.size_alloc] at z1)
        | (refine wpList_store_row rfl 181 (.tmp 4) (.tmp 6) rfl w1.heap.size A rfl rfl 181 _ (heap_alloc_new w1 _) ?_ ?_ ?_ ?_; (rw [hsA]; exact sizeCounts); (rw [hsA]; rfl); exact h1A; (rw [World.setRow_alloc_new]; have hA1 := heap_alloc_new w1 (.cells A 181)))
        | (go_at_call 350; refine (HR.out _).mono ?_; rintro e w2 ⟨rfl, hb2⟩; have HB2 := (show Hid _ from hb2); clear hb2; have z2 := HB2.out.size; simp only [World.size_alloc] at z2; have hA2 := (HB2.out.block w1.heap.size (by simp)).trans hA1; clear hA1; have HBX := (show Hid (Below w.heap.size w w2) from ((((Below.refl _ w).alloc (Nat.le_refl _) _).trans (HB1.out.mono (by simp))).alloc (by omega) _).trans (HB2.out.mono (by simp; omega))); have HRX := (show Hid _ from ((HB2.out.block w.heap.size (by simp; omega)).trans (alloc_keeps ((HB1.out.block w.heap.size (by simp)).trans (heap_alloc_new w _))))))
        | (refine wpList_load_row rfl 181 (.tmp 4) rfl w1.heap.size rfl 181 A (0, 0) _ hA1 Tryz.underlying181 rfl ?_ ?_; (rw [hsA]; exact sizeCounts))
        | (refine wpList_load_rowW ?_ 181 (.tmp 4) rfl w1.heap.size rfl 181 A (0, 0) _ hA2 Tryz.underlying181 rfl ?_ ?_; rfl; (rw [hsA]; exact sizeCounts))
        | (go_at_call 351; refine (HM2.out _).mono ?_; rintro e w3 ⟨rfl, hb3⟩; have HB3 := (show Hid _ from hb3); clear hb3; have z3 := HB3.out.size)
        | (go_at_call 159; refine (HK.out _ (HI.out.below HBX.out HI.out.1)).mono ?_; rintro e w4 ⟨b, rfl, hb4, hcs4, hbl4⟩; have HR4 := (show Hid _ from ((hbl4.block w.heap.size (by omega)).trans HRX.out)); have HB4 := (show Hid (Below w.heap.size w w4) from HBX.out.trans (hbl4.mono (by omega))); clear hbl4)
        | (refine wpList_store_row rfl 183 (.tmp 2) _ rfl w.heap.size (CA lens b) rfl rfl 183 _ HR4.out ?_ ?_ ?_ ?_; (rw [CA_size]; exact sizeCode); (rw [CA_size]; rfl); exact CA_one lens b))
      refine bodyPost_ret_by (v := .tuple #[.agg (CA lens b), .nilIface]) (results_row_tmp Tryz.results324 _ _ w.heap.size 183 (CA lens b) (0, 0) _ rfl (setRow_heap _ _ _ _ _ _ HR4.out) Tryz.underlying183 rfl (by rw [CA_size]; exact sizeCode)) rfl ⟨b, rfl, by omega, ?_, below_row HB4.out (Nat.le_refl _) _⟩
      exact (setRow_other _ _ _ _ (by omega)).trans hcs4
    · have hJ : J = true := HJ.out
      subst hJ
      go_enter Tryz.func324, Tryz.ntmps324
      go_wp2_with (first
        | (go_at_call 112; refine (HC.out _ (HI.out.keep ((Below.refl _ w).alloc (Nat.le_refl _) _))).mono ?_; rintro e w1 ⟨rfl, hb1⟩; have HB1 := (show Hid _ from hb1); clear hb1; have z1 := HB1.out.size; simp only [World.size_alloc] at z1)
        | (refine wpList_store_row rfl 181 (.tmp 4) (.tmp 6) rfl w1.heap.size A rfl rfl 181 _ (heap_alloc_new w1 _) ?_ ?_ ?_ ?_; (rw [hsA]; exact sizeCounts); (rw [hsA]; rfl); exact h1A; (rw [World.setRow_alloc_new]; have hA1 := heap_alloc_new w1 (.cells A 181)))
        | (go_at_call 350; refine (HR.out _).mono ?_; rintro e w2 ⟨rfl, hb2⟩; have HB2 := (show Hid _ from hb2); clear hb2; have z2 := HB2.out.size; simp only [World.size_alloc] at z2; have hA2 := (HB2.out.block w1.heap.size (by simp)).trans hA1; clear hA1; have HBX := (show Hid (Below w.heap.size w w2) from ((((Below.refl _ w).alloc (Nat.le_refl _) _).trans (HB1.out.mono (by simp))).alloc (by omega) _).trans (HB2.out.mono (by simp; omega))); have HRX := (show Hid _ from ((HB2.out.block w.heap.size (by simp; omega)).trans (alloc_keeps ((HB1.out.block w.heap.size (by simp)).trans (heap_alloc_new w _))))))
        | (refine wpList_load_row rfl 181 (.tmp 4) rfl w1.heap.size rfl 181 A (0, 0) _ hA1 Tryz.underlying181 rfl ?_ ?_; (rw [hsA]; exact sizeCounts))
        | (refine wpList_load_rowW ?_ 181 (.tmp 4) rfl w1.heap.size rfl 181 A (0, 0) _ hA2 Tryz.underlying181 rfl ?_ ?_; rfl; (rw [hsA]; exact sizeCounts))
        | (go_at_call 351; refine (HM2.out _).mono ?_; rintro e w3 ⟨rfl, hb3⟩; have HB3 := (show Hid _ from hb3); clear hb3; have z3 := HB3.out.size)
        | (go_at_call 159; refine (HK.out _ (HI.out.below HBX.out HI.out.1)).mono ?_; rintro e w4 ⟨b, rfl, hb4, hcs4, hbl4⟩; have HR4 := (show Hid _ from ((hbl4.block w.heap.size (by omega)).trans HRX.out)); have HB4 := (show Hid (Below w.heap.size w w4) from HBX.out.trans (hbl4.mono (by omega))); clear hbl4)
        | (refine wpList_store_row rfl 183 (.tmp 2) _ rfl w.heap.size (CA lens b) rfl rfl 183 _ HR4.out ?_ ?_ ?_ ?_; (rw [CA_size]; exact sizeCode); (rw [CA_size]; rfl); exact CA_one lens b))
      refine bodyPost_ret_by (v := .tuple #[.agg (CA lens b), .nilIface]) (results_row_tmp Tryz.results324 _ _ w.heap.size 183 (CA lens b) (0, 0) _ rfl (setRow_heap _ _ _ _ _ _ HR4.out) Tryz.underlying183 rfl (by rw [CA_size]; exact sizeCode)) rfl ⟨b, rfl, by omega, ?_, below_row HB4.out (Nat.le_refl _) _⟩
      exact (setRow_other _ _ _ _ (by omega)).trans hcs4
  refine key.mono fun e w' x => ?_
  have := HJ2.out
  cases J
  · exact this e w' x
  · exact this e w' x
end Go.Proofs.YtgfbbcnnmoamnaaGreatDoor
