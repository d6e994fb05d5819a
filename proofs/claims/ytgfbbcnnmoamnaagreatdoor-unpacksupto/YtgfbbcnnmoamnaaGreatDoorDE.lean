/- The program's words of symbols. The program's words of symbols, made. -/
import Derived.Test.YtgfbbcnnmoamnaaGreatDoorDD
import Derived.Test.YtgfbbcnnmoamnaaGreatDoorPM
namespace Go.Proofs.YtgfbbcnnmoamnaaGreatDoor
open Go.RowKit

/-- the first codes, of lengths below n -/
def nxA (lens : List Nat) (n : Nat) : List Nat := (List.range 16).map fun j => if j < n then fst lens j else 0
theorem nxA_len (lens : List Nat) (n : Nat) : (nxA lens n).length = 16 := by simp [nxA]
theorem nxA_get (lens : List Nat) (n j : Nat) (h : j < n) (hj : j < 16) : (nxA lens n).getD j 0 = fst lens j := by simp [nxA, hj, h]
theorem nxA_step (lens : List Nat) (n : Nat) (_h : n < 16) : (nxA lens n).set n (fst lens n) = nxA lens (n + 1) := by
  apply List.ext_getElem
  · simp [nxA]
  · intro i h1 h2
    rw [List.getElem_set]
    split
    · rename_i e; subst e; simp [nxA]
    · rename_i e
      simp only [nxA, List.getElem_map, List.getElem_range]
      by_cases hi : i < n
      · rw [if_pos hi, if_pos (by omega)]
      · rw [if_neg hi, if_neg (by omega)]
theorem nxA_one (lens : List Nat) : nxA lens 1 = List.replicate 16 0 := by
  apply List.ext_getElem
  · simp [nxA]
  · intro i h1 h2
    simp only [nxA, List.getElem_map, List.getElem_range, List.getElem_replicate]
    split
    · obtain rfl : i = 0 := by omega
      rfl
    · rfl
/-- the next codes, behind some symbols -/
def nxB (lens : List Nat) (i : Nat) : List Nat := (List.range 16).map fun j => fst lens j + (lens.take i).count j
theorem nxB_len (lens : List Nat) (n : Nat) : (nxB lens n).length = 16 := by simp [nxB]
theorem nxB_get (lens : List Nat) (i j : Nat) (hj : j < 16) : (nxB lens i).getD j 0 = fst lens j + (lens.take i).count j := by simp [nxB, hj]
theorem nxB_zero (lens : List Nat) : nxB lens 0 = nxA lens 16 := by
  apply List.ext_getElem
  · simp [nxA, nxB]
  · intro i h1 h2
    have : i < 16 := by simpa [nxB] using h1
    simp [nxA, nxB, this]
theorem nxB_step (lens : List Nat) (i : Nat) (hi : i < lens.length) : (nxB lens i).set (lens.getD i 0) ((nxB lens i).getD (lens.getD i 0) 0 + 1) = nxB lens (i + 1) := by
  apply List.ext_getElem
  · simp [nxB]
  · intro j h1 h2
    have hj : j < 16 := by simpa [nxB] using h2
    rw [List.getElem_set]
    have e : lens.take (i + 1) = lens.take i ++ [lens.getD i 0] := take_next lens i hi
    split
    · rename_i e2
      rw [e2, nxB_get _ _ _ hj]
      simp only [nxB, List.getElem_map, List.getElem_range, e, List.count_append]
      rw [e2]; simp; omega
    · rename_i e2
      simp only [nxB, List.getElem_map, List.getElem_range, e, List.count_append]
      rw [List.count_singleton]
      have e3 : ¬ lens[i]?.getD 0 = j := e2
      simp [e3]
/-- a symbol's word -/
def wrd (lens : List Nat) (i : Nat) : Nat × Nat := (fst lens (lens.getD i 0) + (lens.take i).count (lens.getD i 0), lens.getD i 0)
/-- the words of the first i symbols -/
def wrds (lens : List Nat) (n i : Nat) : List (Nat × Nat) := (List.range n).map fun j => if j < i then wrd lens j else (0, 0)
theorem wrds_len (lens : List Nat) (n i : Nat) : (wrds lens n i).length = n := by simp [wrds]
theorem wrds_step (lens : List Nat) (n i : Nat) : (wrds lens n i).set i (wrd lens i) = wrds lens n (i + 1) := by
  apply List.ext_getElem
  · simp [wrds]
  · intro j h1 h2
    rw [List.getElem_set]
    split
    · rename_i e; subst e; simp [wrds]
    · rename_i e
      simp only [wrds, List.getElem_map, List.getElem_range]
      by_cases hj : j < i
      · rw [if_pos hj, if_pos (by omega)]
      · rw [if_neg hj, if_neg (by omega)]
theorem wcells_set (l : List (Nat × Nat)) : ∀ (i : Nat) (p : Nat × Nat), i < l.length → ((wcells l).set (i * 2) (.int .i64 (p.1 : Int))).set (i * 2 + 1) (.int .i64 (p.2 : Int)) = wcells (l.set i p) := by
  induction l with
  | nil => intro i p h; simp at h
  | cons q l ih =>
    intro i p h
    have e2 : ∀ (q : Nat × Nat) l, wcells (q :: l) = .int .i64 (q.1 : Int) :: .int .i64 (q.2 : Int) :: wcells l := fun q l => by simp [wcells]
    cases i with
    | zero => simp [e2]
    | succ i =>
      rw [e2, show (i + 1) * 2 = i * 2 + 1 + 1 by omega]
      simp only [List.set_cons_succ]
      rw [ih i p (by simpa using h), e2]
theorem made_words (n : Nat) : madeCells #[.int .i64 0, .int .i64 0] (n * 2) = (wcells (List.replicate n (0, 0))).toArray := by
  apply Array.ext
  · simp [madeCells, wcells_len]; omega
  · intro i h1 h2
    have hn : i < n * 2 := by simpa [madeCells] using h1
    have hw : ∀ j, j < n * 2 → (wcells (List.replicate n (0, 0)))[j]? = some (.int .i64 0) := fun j hj => by
      have g := wcells_get (List.replicate n (0, 0)) (j / 2) (by simp; omega)
      have e0 : ((List.replicate n ((0 : Nat), (0 : Nat))).getD (j / 2) (0, 0)) = (0, 0) := by
        simp only [List.getD_eq_getElem?_getD]; rw [List.getElem?_replicate]; split <;> rfl
      rw [e0] at g
      rcases Nat.mod_two_eq_zero_or_one j with h | h
      · rw [show j = j / 2 * 2 by omega]; exact g.1
      · rw [show j = j / 2 * 2 + 1 by omega]; exact g.2
    have h3 := hw i hn
    have h4 : (wcells (List.replicate n (0, 0))).toArray[i] = .int .i64 0 := by
      have : (wcells (List.replicate n (0, 0))).toArray[i]? = some (.int .i64 0) := by rw [List.getElem?_toArray]; exact h3
      rw [Array.getElem?_eq_getElem h2] at this
      exact Option.some.inj this
    rw [h4]
    simp only [madeCells, Array.getElem_map, Array.getElem_range]
    rcases Nat.mod_two_eq_zero_or_one i with h | h
    · simp [h]
    · simp [h]
theorem infoWord : (Tryz.prog.info? 124).map (fun i => (i.zero, i.size, i.bytes)) = some (some (.agg #[.int .i64 0, .int .i64 0]), 2, 16) := by kernel_rfl
theorem make_words (n : Nat) (L : Int) (hL : L = n) (hn : n ≤ 100000) (w : World) :
    (Instr.makeSlice 109 (.int .i64 L) (.int .i64 L)).run Tryz.prog w = .ok (.slice (some ⟨w.heap.size, 0, none⟩) n n) (w.alloc (.cells (wcells (List.replicate n (0, 0))).toArray 124 (0, 0))) := by
  subst hL
  obtain ⟨i0, hi0, hz0, hz1, hz2⟩ := info_parts infoWord
  rw [run_make w 109 124 i0 (.agg #[.int .i64 0, .int .i64 0]) Tryz.underlying109 hi0 hz0 .i64 .i64 n n (by omega) (by omega) (by rw [hz2]; omega) (by omega), hz1]
  have : (Value.agg #[.int .i64 0, .int .i64 0]).cells = #[.int .i64 0, .int .i64 0] := rfl
  rw [this, Int.toNat_natCast, made_words]
theorem words_step {w : World} {b i : Nat} {l : List (Nat × Nat)} {T : TypeId} (h : w.heap[b]? = some (.cells (wcells l).toArray T (0, 0))) (hi : i < l.length) (p : Nat × Nat) :
    ((w.setCell ⟨b, i * 2, none⟩ (.int .i64 (p.1 : Int))).setCell ⟨b, i * 2 + 1, none⟩ (.int .i64 (p.2 : Int))).heap[b]? = some (.cells (wcells (l.set i p)).toArray T (0, 0)) := by
  have h1 := heap_setCell_same w b (i * 2) _ _ (.int .i64 (p.1 : Int)) h
  rw [heap_setCell_same _ b (i * 2 + 1) _ _ (.int .i64 (p.2 : Int)) h1]
  simp [wcells_set l i p hi]
theorem fix_wrds : wrds fixedL 288 288 = fixWords := by
  unfold wrds fixWords
  apply List.map_congr_left
  intro j hj
  have hj' := List.mem_range.1 hj
  rw [if_pos hj']
  have : ∀ j, j < 288 → wrd fixedL j = fixWord j := by decide +kernel
  exact this j hj'
theorem dist_wrds : wrds fixedD 32 32 = distWords := by decide +kernel
end Go.Proofs.YtgfbbcnnmoamnaaGreatDoor

namespace Go.Proofs.YtgfbbcnnmoamnaaGreatDoor
open Go.RowKit

theorem fst_cap2 (lens : List Nat) (hl : lens.length ≤ 400) (n : Nat) (hn : n ≤ 16) : fst lens n ≤ 100000000 := by
  have h : ∀ n, fst lens n + 800 ≤ 800 * 2 ^ n := by
    intro n
    induction n with
    | zero => simp [fst]
    | succ n ih =>
      have h2 : cnt lens n ≤ 400 := Nat.le_trans (cnt_le _ _) hl
      rw [fst, Nat.pow_succ]; omega
  have h1 := h n
  have h2 : 2 ^ n ≤ 2 ^ 16 := Nat.pow_le_pow_right (by omega) hn
  have h3 : (2 : Nat) ^ 16 = 65536 := rfl
  omega
set_option maxHeartbeats 1000000 in
set_option maxRecDepth 8000 in
theorem wordsOf_any (lens : List Nat) (hl : lens.length ≤ 400) (h15 : ∀ n ∈ lens, n ≤ 15) (h off cap : Nat) (w : World) (hI : IntsAt w h off lens) :
    Calls Tryz.prog 48 #[.slice (some ⟨h, off, none⟩) lens.length cap] w fun e w' => ∃ b, e = .returned (.slice (some ⟨b, 0, none⟩) lens.length lens.length) ∧ w.heap.size ≤ b ∧ w'.heap[b]? = some (.cells (wcells (wrds lens lens.length lens.length)).toArray 124 (0, 0)) ∧ Below w.heap.size w w' := by
  obtain ⟨N, HN⟩ := hid_intro lens.length
  have HC := (show Hid _ from fun w hI => countsOf_any lens hl h15 h off cap w hI)
  have HFC := (show Hid _ from fst_cap2 lens hl)
  rw [← HN.out] at hl HC ⊢
  have hsA : (rowi (cntsL lens)).size = 16 := by rw [rowi_size, cntsL_len]
  have h1A := rowi_one (cntsL lens)
  obtain ⟨A, HA⟩ := hid_intro (rowi (cntsL lens))
  rw [← HA.out] at HC hsA h1A
  have HI : Hid (IntsAt w h off lens) := hI
  have HIL : Hid (h < w.heap.size) := hI.1
  have H15 : Hid (∀ n ∈ lens, n ≤ 15) := h15
  have mk := fun w => make_words N (N : Int) rfl (by omega) w
  clear hI h15
  go_enter Tryz.func48, Tryz.ntmps48
  go_wp2_with (first
    | (go_at_call 112; refine Calls.mono (HC.out _ HI.out) ?_; rintro e w1 ⟨rfl, hb1⟩; have HB1 := (show Hid (Below w.heap.size w w1) from hb1); clear hb1)
    | (refine wpList_store_row rfl 181 _ _ rfl w1.heap.size A rfl rfl 181 _ (heap_alloc_new w1 _) ?_ ?_ ?_ ?_; (rw [hsA]; exact sizeCounts); (rw [hsA]; rfl); exact h1A; rw [World.setRow_alloc_new]))
  have hRG : w.heap.size ≤ w1.heap.size := HB1.out.size
  obtain ⟨W, HW⟩ : ∃ W, Hid (W = (w1.alloc (.cells A 181)).alloc (.cells (rowi (List.replicate 16 0)) 180)) := ⟨_, rfl⟩
  have hW : ((w1.alloc (.cells A 181)).alloc (.cells #[.int .i64 0, .int .i64 0, .int .i64 0, .int .i64 0, .int .i64 0, .int .i64 0, .int .i64 0, .int .i64 0, .int .i64 0, .int .i64 0, .int .i64 0, .int .i64 0, .int .i64 0, .int .i64 0, .int .i64 0, .int .i64 0] 180)) = W := by rw [HW.out]; rfl
  rw [hW]
  have hb0 : Below w.heap.size w W := by rw [HW.out]; exact (HB1.out.alloc hRG _).alloc (by simp; omega) _
  have hc0 : W.heap[w1.heap.size]? = some (.cells (rowi (cntsL lens)) 181 (0, 0)) := by rw [HW.out, ← HA.out]; exact alloc_keeps (heap_alloc_new w1 _)
  have hn0 : W.heap[w1.heap.size + 1]? = some (.cells (rowi (nxA lens 1)) 180 (0, 0)) := by rw [HW.out, nxA_one]; exact heap_alloc2_new w1 _ _
  obtain ⟨G, HG⟩ := hid_intro w1.heap.size
  rw [← HG.out] at hRG hc0 hn0 ⊢
  clear HB1 HW hW HG HC hsA h1A HA
  go_loopw [5] (fun vi wr => ∃ n : Nat, 1 ≤ n ∧ n ≤ 16 ∧ vi = .int .i64 (n : Int) ∧ wr.heap[G + 1]? = some (.cells (rowi (nxA lens n)) 180 (0, 0)) ∧ wr.heap[G]? = some (.cells (rowi (cntsL lens)) 181 (0, 0)) ∧ Below w.heap.size w wr) (fun vi _ => 16 - (intOf vi).toNat)
  case atStart => exact ⟨1, by omega, by omega, rfl, hn0, hc0, hb0⟩
  case round =>
    clear hn0 hc0 hb0
    obtain ⟨n, hn1, hn16, rfl, hn, hc, hb⟩ := hrel
    by_cases hlt : n ≤ 15
    · obtain ⟨m, rfl⟩ : ∃ m, n = m + 1 := ⟨n - 1, by omega⟩
      have hd : decide (((m + 1 : Nat) : Int) ≤ 15) = true := decide_eq_true (by omega)
      have c1 := rowi_cell m (show wr.drew.heap[G + 1]? = _ from hn) (by rw [nxA_len]; omega)
      have c2 := rowi_cell m (show wr.drew.heap[G]? = _ from hc) (by rw [cntsL_len]; omega)
      have c3 := rowi_cell (m + 1) (show wr.drew.heap[G + 1]? = _ from hn) (by rw [nxA_len]; omega)
      have f3 := frozen_of_row wr.drew (G + 1) (m + 1) _ _ hn
      rw [nxA_get _ _ _ (by omega) (by omega)] at c1
      rw [cntsL_get _ _ (by omega)] at c2
      have HS := (show Hid _ from nxA_step lens (m + 1) (by omega))
      have hF := HFC.out m (by omega)
      have hCn : cnt lens m ≤ 400 := by have := cnt_le lens m; have := HN.out; omega
      rw [fst] at HS
      obtain ⟨F, HF⟩ := hid_intro (fst lens m)
      obtain ⟨C, HC⟩ := hid_intro (cnt lens m)
      rw [← HF.out] at c1 hF HS
      rw [← HC.out] at c2 hCn HS
      have hz2 : (m : Int) < 16 := by omega
      have hz4 : (m : Int) + 1 < 16 := by omega
      have hz7 : ((m : Int) + 1).toNat = m + 1 := by omega
      have hz8 : (0 : Int) ≤ (m : Int) + 1 := by omega
      have hwm : IntKind.i64.wrap (m : Int) = (m : Int) := wrap_i64_in m (by omega)
      have hwf : IntKind.i64.wrap ((F : Int) + (C : Int)) = (F : Int) + (C : Int) := by rw [IntKind.wrap_i64]; omega
      have hz6 : wrap64 (((F : Int) + (C : Int)) * 2) = ((2 * (F + C) : Nat) : Int) := by rw [wrap64_in' _ (by omega)]; omega
      go_wp2
      refine region_tail 12 (by kernel_rfl) (by kernel_rfl) ?_
      simp only [List.take_succ_cons, List.take_zero, List.drop_succ_cons, List.drop_zero]
      repeat still_step
      refine wpStill_nil ?_
      go_wp2
      go_roundw
      case rel => exact ⟨m + 2, by omega, by omega, by go_num, by rw [← HS.out]; exact rowi_step (2 * (F + C)) (by omega) hn, (heap_setCell_other wr _ _ _ (by simp)).trans hc, (hb.setCell (by simp; omega) _).drew⟩
      case measure => simp [intOf]; omega
    · obtain rfl : n = 16 := by omega
      rw [show ((16 : Nat) : Int) = 16 from rfl]
      rw [← nxB_zero] at hn
      have hsz := hb.size
      have hGs := lt_of_block hn
      go_wp2
      obtain ⟨D, HD⟩ := hid_intro wr.heap.size
      obtain ⟨X, HX⟩ := hid_intro (wr.alloc (.cells (wcells (List.replicate N (0, 0))).toArray 124 (0, 0)))
      rw [← HX.out, ← HD.out]
      have hx1 : X.heap[G + 1]? = some (.cells (rowi (nxB lens 0)) 180 (0, 0)) := by rw [HX.out]; exact alloc_keeps hn
      have hxd : X.heap[D]? = some (.cells (wcells (wrds lens N 0)).toArray 124 (0, 0)) := by
        rw [HX.out, HD.out, show wrds lens N 0 = List.replicate N (0, 0) by apply List.ext_getElem; simp [wrds]; intro i h1 h2; simp [wrds]]
        exact heap_alloc_new wr _
      have hxb : Below w.heap.size w X := by rw [HX.out]; exact hb.alloc hsz _
      have hDG : G + 1 < D := by rw [HD.out]; exact hGs
      clear HX HD hn hc hb hGs hsz mk
      go_loopw [32] (fun vi wq => ∃ i : Nat, i ≤ N ∧ vi = .int .i64 (i : Int) ∧ wq.heap[G + 1]? = some (.cells (rowi (nxB lens i)) 180 (0, 0)) ∧ wq.heap[D]? = some (.cells (wcells (wrds lens N i)).toArray 124 (0, 0)) ∧ Below w.heap.size w wq) (fun vi _ => N - (intOf vi).toNat)
      case atStart => exact ⟨0, by omega, rfl, hx1, hxd, hxb⟩
      case round =>
        clear hx1 hxd hxb
        obtain ⟨i, hi, rfl, h1, h2, hb⟩ := hrel
        by_cases hlt2 : i < N
        · have hil : i < lens.length := by have := HN.out; omega
          obtain ⟨x, HX⟩ := hid_intro (lens.getD i 0)
          have hcx : wr.cell? ⟨h, off + i, none⟩ = some (.int .i64 (x : Int)) := (hb.cell HIL.out).trans (by rw [HX.out]; exact HI.out.2 i hil)
          have hx15 : x ≤ 15 := by rw [HX.out]; exact H15.out _ (getD_mem hil)
          have hcn := rowi_cell x h1 (by rw [nxB_len]; omega)
          have hfn := frozen_of_row wr (G + 1) x _ _ h1
          have HSt : Hid _ := nxB_step lens i hil
          rw [← HX.out] at HSt
          have hnb := nxB_get lens i x (by omega)
          have hF := HFC.out x (by omega)
          have hct : (lens.take i).count x ≤ 400 := by
            have := List.count_le_length (a := x) (l := lens.take i)
            simp at this; have := HN.out; omega
          obtain ⟨V, HV⟩ := hid_intro ((nxB lens i).getD x 0)
          rw [← HV.out] at hcn HSt hnb
          have hV : V ≤ 200000000 := by omega
          have HWS := (show Hid _ from words_step h2 (i := i) (by rw [wrds_len]; exact hlt2) (V, x))
          have hW : wrd lens i = (V, x) := by unfold wrd; rw [← HX.out, hnb]
          have HWR : Hid ((wrds lens N i).set i (V, x) = wrds lens N (i + 1)) := by rw [← hW]; exact wrds_step lens N i
          have hg2 := wcells_get (wrds lens N i) i (by rw [wrds_len]; exact hlt2)
          have hd0 : wr.cell? ⟨D, i * 2, none⟩ = some _ := (cell_of_row wr D (i * 2) _ _ _ h2).trans (by rw [List.getElem?_toArray]; exact hg2.1)
          have hd1 : wr.cell? ⟨D, i * 2 + 1, none⟩ = some _ := (cell_of_row wr D (i * 2 + 1) _ _ _ h2).trans (by rw [List.getElem?_toArray]; exact hg2.2)
          have hfd0 := frozen_of_row wr D (i * 2) _ _ h2
          have hfd1 := frozen_of_row wr D (i * 2 + 1) _ _ h2
          clear hg2 hW hnb hF hct
          have hxi : (x : Int) < 16 := by omega
          go_wp2
          go_roundw
          case rel =>
            have h1' : ((wr.setCell ⟨D, i * 2, none⟩ (.int .i64 (V : Int))).setCell ⟨D, i * 2 + 1, none⟩ (.int .i64 (x : Int))).heap[G + 1]? = some (.cells (rowi (nxB lens i)) 180 (0, 0)) :=
              (heap_setCell_other _ _ _ _ (by simp; omega)).trans ((heap_setCell_other _ _ _ _ (by simp; omega)).trans h1)
            refine ⟨i + 1, by omega, by go_num, ?_, ?_, ((hb.setCell (by simp; omega) _).setCell (by simp; omega) _).setCell (by simp; omega) _⟩
            · rw [← HSt.out]; exact rowi_step (V + 1) (by simp) h1'
            · rw [← HWR.out]; exact (heap_setCell_other _ _ _ _ (by simp; omega)).trans HWS.out
          case measure => simp [intOf]; omega
        · obtain rfl : i = N := by omega
          go_wp2
          go_ret
          refine ⟨D, rfl, by omega, ?_, hb⟩
          exact h2
end Go.Proofs.YtgfbbcnnmoamnaaGreatDoor
