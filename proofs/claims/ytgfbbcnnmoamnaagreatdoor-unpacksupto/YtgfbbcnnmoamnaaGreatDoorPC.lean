/- The program's inflater: a byte comes out. The program's reading of a symbol. -/
import Derived.Test.YtgfbbcnnmoamnaaGreatDoorPA
import Derived.Deep.AppendLies
import Derived.Test.YtgfbbcnnmoamnaaGreatDoorBase
namespace Go.Proofs.YtgfbbcnnmoamnaaGreatDoor
open Go.RowKit

section
variable {er : Errs} {g : Nat} {s : ByteArray} {lim : Nat} {fx : List Value} {k : Nat} {o : Value} {out : List UInt8}
/-- behind an append, ahead of the store -/
theorem Inf.grown {w w2 w3 : World} {H g2 cap2 : Nat} {x : UInt8} (h : Inf er g s lim fx k o out w) (hb : Below w.heap.size w w2) (hg3 : w2.grownBy w3 o.ownBlock) (hat : o.ownBlock = some g2 ∨ g2 = H) (hH : w.heap.size ≤ H)
    (hown : w3.ownsRow (g + 1) 5 1 (.slice (some ⟨g2, 0, none⟩) (out.length + 1) cap2) (out.length + 1) (Lib.byteCells out ++ [.int .u8 (x.toNat : Int)])) (hl : ¬ out.length ≥ lim) :
    w3.cell? ⟨g, 2, none⟩ = some o ∧ w3.frozen? ⟨g, 2, none⟩ = false ∧ Inf er g s lim fx k (.slice (some ⟨g2, 0, none⟩) (out.length + 1) cap2) (out ++ [x]) (w3.setCell ⟨g, 2, none⟩ (.slice (some ⟨g2, 0, none⟩) (out.length + 1) cap2)) ∧
      Step g o (.slice (some ⟨g2, 0, none⟩) (out.length + 1) cap2) w (w3.setCell ⟨g, 2, none⟩ (.slice (some ⟨g2, 0, none⟩) (out.length + 1) cap2)) := by
  have hg := h.hg
  have hlt := h.lt
  have hne : ∀ b, b < g + 1 → o.ownBlock ≠ some b := fun b hb e => by have := h.ownge e; omega
  have st : Step g o (.slice (some ⟨g2, 0, none⟩) (out.length + 1) cap2) w w3 := by
    refine ⟨hg3.os.trans hb.os, hg3.tape.trans hb.tape, hg3.output.trans hb.output, Nat.le_trans hb.size hg3.size, fun j hj _ ho => (hg3.block j (Nat.lt_of_lt_of_le hj hb.size) fun e => ho e.symm).trans (hb.block j hj), fun j hj => ?_⟩
    have e : g2 = j := by simpa [Value.ownBlock] using hj
    rcases hat with h1 | h1
    · exact .inl (e ▸ h1)
    · exact .inr (by omega)
  have hblk : w3.heap[g]? = some (.cells (IB s k o lim fx) 188 (0, 0)) :=
    (hg3.block g (Nat.lt_of_lt_of_le hlt hb.size) fun e => hne g (by omega) e.symm).trans ((hb.block g hlt).trans h.blk)
  have st2 := st.trans (Step.cell w3 ⟨g, 2, none⟩ rfl (.slice (some ⟨g2, 0, none⟩) (out.length + 1) cap2))
  refine ⟨(cell_of_row w3 g 2 _ _ _ hblk).trans (IB2 ..), frozen_of_row w3 g 2 _ _ hblk, ⟨h.errs.same st2.size fun j hj => st2.block j (by have := h.errs.size; omega) (by omega) (hne j (by omega)), h.hg, h.hs, h.hl, ?_, ?_, h.hk, by simp; omega⟩, st2⟩
  · rw [heap_setCell_same _ _ _ _ _ _ hblk, IB_out]
  · have e : Lib.byteCells (out ++ [x]) = Lib.byteCells out ++ [.int .u8 (x.toNat : Int)] := by simp [Lib.byteCells]
    have e2 : (out ++ [x]).length = out.length + 1 := by simp
    rw [e, e2]
    exact ownsRow_setCell_below hown (by simp) _
set_option maxHeartbeats 400000 in
theorem put_full (x : UInt8) (w : World) (h : Inf er g s lim fx k o out w) (hl : out.length ≥ lim) :
    Calls Tryz.prog 276 #[.pointer (some ⟨g, 0, none⟩), .int .u8 x.toNat] w fun e w' => e = .returned (errV er.lim) ∧ Inf er g s lim fx k o out w' ∧ Step g o o w w' := by
  have h2 := h.c2
  have h3 := h.c3
  have he := h.errs.lim
  obtain ⟨ao, cap, rfl⟩ := own_shape h.own
  go_enter Tryz.func276, Tryz.ntmps276
  go_wp2
  go_quiet (fail)
  go_wp2
  go_ret
  exact ⟨rfl, h.drewN _, Step.drewN (Step.refl ..) _⟩
set_option maxHeartbeats 400000 in
theorem put_ok (x : UInt8) (w : World) (h : Inf er g s lim fx k o out w) (hl : ¬ out.length ≥ lim) :
    Calls Tryz.prog 276 #[.pointer (some ⟨g, 0, none⟩), .int .u8 x.toNat] w fun e w' => e = .returned .nilIface ∧ ∃ o', Inf er g s lim fx k o' (out ++ [x]) w' ∧ Step g o o' w w' := by
  have h2 := h.c2
  have h3 := h.c3
  have hf := h.free 2
  obtain ⟨ao, cap, rfl⟩ := own_shape h.own
  obtain ⟨i0, hi0, hz0, hz1, hz2⟩ := info_parts infoU8
  have HN : Hid (out.length ≤ 20000 ∧ g < w.heap.size) := ⟨by have := h.ho; have := h.hl; omega, h.lt⟩
  have HO : Hid (w.ownsRow (g + 1) 5 1 (Value.slice ao out.length cap) out.length (Lib.byteCells out)) := h.own
  have HI : Hid (Inf er g s lim fx k (Value.slice ao out.length cap) out w) := h
  clear h
  go_enter Tryz.func276, Tryz.ntmps276
  go_wp2
  go_quiet (fail)
  go_wp2_with (at_builtin; refine wpList_append_lies _ rfl (.tmp 20) (.tmp 22) 66 rfl (g + 1) 5 i0 (.int .u8 0) 1 1 Tryz.underlying66 hi0 hz0 hz1 hz2 rfl (by decide) _ out.length _ rfl (World.ownsRow.alloc (show (w.drewN nq).ownsRow _ _ _ _ _ _ from HO.out) _) ⟨w.heap.size, 0, none⟩ 1 1 [.int .u8 (x.toNat : Int)] rfl rfl (cell_one_new _ _ _) (by simp [Value.oneCell']) (by decide) (by have := HN.out; unfold maxLen; omega) (by have := HN.out; omega) (by have := HN.out; simp; omega) (w.heap.size + 1) (by simp) ?_; intro g2 cap2 w3 hown3 hg3 hat _; obtain ⟨hc, hff, hres⟩ := Inf.grown HI.out ((below_drewN (Below.refl _ w) nq).alloc (Nat.le_refl _) _) hg3 hat (by omega) hown3 hl; have HR := (show Hid _ from hres); clear hown3 hg3 hat hres)
  go_ret
  exact ⟨rfl, _, HR.out.1, HR.out.2⟩
end
end Go.Proofs.YtgfbbcnnmoamnaaGreatDoor

namespace Go.Proofs.YtgfbbcnnmoamnaaGreatDoor
open Go.RowKit

/-- the cells of a code: how many symbols of each length, and the symbols -/
def CA (lens : List Nat) (h : Nat) : Array Value := (rowi (cntsL lens)).push (.slice (some ⟨h, 0, none⟩) (codeSyms lens).length (codeSyms lens).length)
theorem CA_size (lens : List Nat) (h : Nat) : (CA lens h).size = 17 := by simp [CA, rowi_size, cntsL_len]
theorem CA_get (lens : List Nat) (h n : Nat) (hn : n < 16) : (CA lens h)[n]? = some (.int .i64 (cnt lens n)) := by
  rw [CA, Array.getElem?_push, if_neg (by rw [rowi_size, cntsL_len]; omega), rowi_get _ n (by rw [cntsL_len]; exact hn), cntsL_get lens n hn]
theorem CA_last (lens : List Nat) (h : Nat) : (CA lens h)[16]? = some (.slice (some ⟨h, 0, none⟩) (codeSyms lens).length (codeSyms lens).length) := by
  rw [CA, Array.getElem?_push, if_pos (by rw [rowi_size, cntsL_len])]
theorem fst_le (lens : List Nat) (j got : Nat) (h : fst lens j + cnt lens j ≤ got) (b : Nat) : fst lens (j + 1) ≤ 2 * got + b := by
  have : fst lens (j + 1) = 2 * (fst lens j + cnt lens j) := rfl
  omega
theorem shl_or (got b : Nat) (hg : got < 1000000) (hb : b < 2) : bits .or .i64 ((got : Int) * 2) (b : Int) = ((2 * got + b : Nat) : Int) := by
  have e : (got : Int) * 2 = ((2 * got : Nat) : Int) := by omega
  rw [e, i64_or_nat _ _ (by omega) (by omega), nat_join 1 _ _ (by simp) (by simpa using hb)]
section
variable {er : Errs} {g : Nat} {s : ByteArray} {lim : Nat} {fx : List Value} {k : Nat} {o : Value} {out : List UInt8}
set_option maxHeartbeats 1000000 in
theorem read_any (lens : List Nat) (hl : lens.length ≤ 400) (h : Nat) (w : World) (hi : Inf er g s lim fx k o out w) (ht : Tab g h (codeSyms lens) o w) :
    Calls Tryz.prog 277 #[.agg (CA lens h), .pointer (some ⟨g, 0, none⟩)] w fun e w' => (∃ x k', dec lens s.data.toList k = some (x, k') ∧ e = .returned (.tuple #[.int .i64 (x : Int), .nilIface]) ∧ Inf er g s lim fx k' o out w' ∧ Step g o o w w') ∨
      (dec lens s.data.toList k = none ∧ ∃ b k', er.bad b ∧ e = .returned (.tuple #[.int .i64 0, errV b]) ∧ Inf er g s lim fx k' o out w' ∧ Step g o o w w') := by
  obtain ⟨C, HC⟩ := hid_intro (CA lens h)
  rw [← HC.out]
  obtain ⟨D, HD⟩ := hid_intro (dec lens s.data.toList k)
  rw [← HD.out]
  have hi0 := hi.alloc (.cells C 183)
  have st0 : Step g o o w (w.alloc (.cells C 183)) := Step.alloc (Step.refl ..) _
  have ht0 := ht.step st0
  have hb0 : (w.alloc (.cells C 183)).heap[w.heap.size]? = some (.cells C 183 (0, 0)) := heap_alloc_new w _
  have HN : Hid (w.heap.size ≠ g ∧ o.ownBlock ≠ some w.heap.size) := ⟨by have := hi.lt; omega, fun e => by have := (hi.own.lt _ e).2; omega⟩
  have HL : Hid ((codeSyms lens).length = psd lens 16) := symsBelow_len lens 16
  obtain ⟨N, HN0⟩ := hid_intro (codeSyms lens).length
  have hN : N ≤ 10000 := by
    have := HN0.out; have := HL.out
    have h2 : psd lens 16 ≤ 16 * 400 := by
      have : ∀ m, psd lens m ≤ m * 400 := by
        intro m
        induction m with
        | zero => simp [psd]
        | succ m ih => have := cnt_le lens m; simp only [psd]; omega
      exact this 16
    omega
  clear hi ht
  go_enter Tryz.func277, Tryz.ntmps277
  go_wp2
  go_loopw [6, 7, 8, 9] (fun vg vf vp vn wr => ∃ j got : Nat, j ≤ 15 ∧ got < 2 ^ j ∧ Hid (fst lens j + cnt lens j ≤ got) ∧ vg = .int .i64 got ∧ vf = .int .i64 ((fst lens j + cnt lens j : Nat) : Int) ∧ vp = .int .i64 (psd lens (j + 1)) ∧ vn = .int .i64 ((j : Int) + 1) ∧
    Hid (D = decGo lens s.data.toList (15 - j) j got (k + j)) ∧ Inf er g s lim fx (k + j) o out wr ∧ Step g o o (w.alloc (.cells C 183)) wr) (fun _ _ _ vn _ => 17 - (intOf vn).toNat)
  case atStart => exact ⟨0, 0, by omega, by simp, by simp [Hid, fst, cnt], rfl, by simp [fst, cnt], by simp [psd, cnt], rfl, HD, hi0, Step.refl ..⟩
  case round =>
    obtain ⟨j, got, hj, hgot, HF, rfl, rfl, rfl, rfl, HDc, hi, st⟩ := hrel
    have hb := (st.block w.heap.size (by simp) HN.out.1 HN.out.2).trans hb0
    have ht := ht0.step st
    have hsz : wr.cell? ⟨w.heap.size, 16, none⟩ = some (.slice (some ⟨h, 0, none⟩) N N) := (cell_of_row wr w.heap.size 16 _ _ _ hb).trans (by rw [HC.out, HN0.out]; exact CA_last lens h)
    obtain ⟨F, HF0⟩ := hid_intro (fst lens j + cnt lens j)
    obtain ⟨P, HP0⟩ := hid_intro (psd lens (j + 1))
    rw [← HF0.out] at HF ⊢
    rw [← HP0.out]
    have hpw := pow_small j (by omega)
    have hP : P ≤ N := by rw [HP0.out, HN0.out, HL.out]; exact psd_le _ _ _ (by omega)
    by_cases hlt : P < N
    · have hj15 : j < 15 := by
        rcases Nat.lt_or_ge j 15 with h | h
        · exact h
        · exfalso
          have e : j = 15 := by omega
          have a := HP0.out; have b := HN0.out; have c := HL.out
          rw [e] at a
          have : psd lens (15 + 1) = psd lens 16 := rfl
          omega
      have hgot2 : got < 65536 := by have : (2:Nat) ^ j ≤ 2 ^ 15 := Nat.pow_le_pow_right (by omega) (by omega); omega
      have hFg : F ≤ got := HF.out
      have HSt : Hid (D = if has s.data.toList (k + j) 1 then (if 2 * got + bitAt s.data.toList (k + j) - fst lens (j + 1) < cnt lens (j + 1) then some ((symsOf lens (j + 1)).getD (2 * got + bitAt s.data.toList (k + j) - fst lens (j + 1)) 0, k + j + 1) else decGo lens s.data.toList (15 - (j + 1)) (j + 1) (2 * got + bitAt s.data.toList (k + j)) (k + j + 1)) else none) := by
        show D = _
        rw [HDc.out, show 15 - j = (15 - (j + 1)) + 1 by omega, decGo]
      have HF2 : Hid (fst lens (j + 1) = 2 * F) := by rw [HF0.out]; rfl
      have hk := hi.hk
      have hss : s.data.toList.length = s.size := by simp
      by_cases hend : k + j < 8 * s.size
      · obtain ⟨b, Hb⟩ := hid_intro (bitAt s.data.toList (k + j))
        have hb2 : b < 2 := by rw [Hb.out]; exact bitAt_lt _ _
        have hsh := shl_or got b (by omega) hb2
        obtain ⟨G, HG⟩ := hid_intro (2 * got + b)
        rw [← HG.out] at hsh
        have hG1 : 2 * F ≤ G := by have := HG.out; omega
        have hG2 : G < 2 * 65536 := by have := HG.out; omega
        have HG3 : Hid (G < 2 ^ (j + 1)) := by show G < 2 ^ (j + 1); have := HG.out; rw [Nat.pow_succ]; omega
        obtain ⟨c, Hc⟩ := hid_intro (cnt lens (j + 1))
        have hcn : c ≤ 400 := by rw [Hc.out]; exact Nat.le_trans (cnt_le _ _) hl
        have hcc : wr.cell? ⟨w.heap.size, j + 1, none⟩ = some (.int .i64 (c : Int)) := (cell_of_row wr w.heap.size (j + 1) _ _ _ hb).trans (by rw [HC.out, Hc.out]; exact CA_get lens h (j + 1) (by omega))
        rw [← Hb.out, ← HG.out, HF2.out, ← Hc.out, if_pos (show has s.data.toList (k + j) 1 by unfold has; omega)] at HSt
        by_cases hm : G - 2 * F < c
        · have hPc : P + c ≤ N := by
            have a := psd_le lens (j + 2) 16 (by omega)
            have b : psd lens (j + 2) = psd lens (j + 1) + cnt lens (j + 1) := rfl
            have := HP0.out; have := HN0.out; have := HL.out; have := Hc.out
            omega
          obtain ⟨x, Hx⟩ := hid_intro ((symsOf lens (j + 1)).getD (G - 2 * F) 0)
          have hx1 : ∀ w1, Step g o o wr w1 → w1.cell? ⟨h, P + G - F * 2, none⟩ = some (.int .i64 (x : Int)) := fun w1 st1 => by
            rw [Nat.mul_comm F 2]
            rw [rowi_cell (P + G - 2 * F) (ht.step st1).1 (by have := HN0.out; omega), Hx.out, show P + G - 2 * F = psd lens (j + 1) + (G - 2 * F) by have := HP0.out; omega, codeSyms_at lens (j + 1) (G - 2 * F) (by omega) (by have := Hc.out; omega)]
          rw [if_pos hm, ← Hx.out] at HSt
          go_wp2_with (go_at_call 160; refine (bit_ok wr hi hend).mono ?_; rintro e w1 ⟨rfl, hi1, st1⟩; rw [← Hb.out]; have hb1 := (st1.block w.heap.size (lt_of_block hb) HN.out.1 HN.out.2).trans hb; have hcc1 : w1.cell? ⟨w.heap.size, j + 1, none⟩ = some (.int .i64 (c : Int)) := (World.cell?_of_block (w := wr) (hb1.trans hb.symm)).trans hcc; have hsz1 : w1.cell? ⟨w.heap.size, 16, none⟩ = some (.slice (some ⟨h, 0, none⟩) N N) := (World.cell?_of_block (w := wr) (hb1.trans hb.symm)).trans hsz; have hxc := hx1 w1 st1; clear hx1)
          go_ret2
          exact .inl ⟨x, _, HSt.out, rfl, hi1, (st0.trans st).trans st1⟩
        · go_wp2_with (go_at_call 160; refine (bit_ok wr hi hend).mono ?_; rintro e w1 ⟨rfl, hi1, st1⟩; rw [← Hb.out]; have hb1 := (st1.block w.heap.size (lt_of_block hb) HN.out.1 HN.out.2).trans hb; have hcc1 : w1.cell? ⟨w.heap.size, j + 1, none⟩ = some (.int .i64 (c : Int)) := (World.cell?_of_block (w := wr) (hb1.trans hb.symm)).trans hcc; have hsz1 : w1.cell? ⟨w.heap.size, 16, none⟩ = some (.slice (some ⟨h, 0, none⟩) N N) := (World.cell?_of_block (w := wr) (hb1.trans hb.symm)).trans hsz)
          go_roundw
          case rel =>
            rw [if_neg hm] at HSt
            exact ⟨j + 1, G, by omega, HG3.out, by show fst lens (j + 1) + cnt lens (j + 1) ≤ G; rw [HF2.out, ← Hc.out]; omega, rfl, by rw [HF2.out, ← Hc.out]; congr 1; omega, by rw [show psd lens (j + 1 + 1) = psd lens (j + 1) + cnt lens (j + 1) from rfl, ← HP0.out, ← Hc.out]; congr 1, by congr 1, HSt, hi1, st.trans st1⟩
          case measure => simp [intOf]; omega
      · rw [if_neg (show ¬ has s.data.toList (k + j) 1 by unfold has; omega)] at HSt
        have HE : Hid (k + j = 8 * s.size) := by show k + j = 8 * s.size; omega
        clear hend hk
        go_wp2_with (go_at_call 160; refine (bit_end wr hi HE.out).mono ?_; rintro e w1 ⟨rfl, hi1, st1⟩; unfold errV)
        go_ret2
        exact .inr ⟨HSt.out, er.short, _, .inl rfl, rfl, hi1, (st0.trans st).trans st1⟩
    · have HE : Hid (D = none) := by
        show D = none
        rw [HDc.out]; exact decGo_none lens _ _ _ _ _ (by omega) (by have := HP0.out; have := HN0.out; have := HL.out; omega)
      have he := hi.errs.code
      go_wp2
      go_quiet (fail)
      go_wp2
      go_ret2
      exact .inr ⟨HE.out, er.code, _, by simp [Errs.bad], rfl, hi.drewN _, Step.drewN (st0.trans st) _⟩
end
end Go.Proofs.YtgfbbcnnmoamnaaGreatDoor
