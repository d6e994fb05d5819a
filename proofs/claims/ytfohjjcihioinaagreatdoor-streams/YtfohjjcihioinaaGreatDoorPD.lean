/- The program's reading of a symbol. -/
import Derived.Test.YtfohjjcihioinaaGreatDoorPC
import Derived.Test.YtfohjjcihioinaaGreatDoorBase
namespace Go.Proofs.YtfohjjcihioinaaGreatDoor
open Go.RowKit

/-- the cells of a code: how many symbols of each length, and the symbols -/
def CA (lens : List Nat) (h : Nat) : Array Value := (rowi (cntsL lens)).push (.slice (some ⟨h, 0, none⟩) (codeSyms lens).length (codeSyms lens).length)
theorem CA_size (lens : List Nat) (h : Nat) : (CA lens h).size = 17 := by simp [CA, rowi_size, cntsL_len]
theorem CA_get (lens : List Nat) (h n : Nat) (hn : n < 16) : (CA lens h)[n]? = some (.int .i64 (cnt lens n)) := by
  rw [CA, Array.getElem?_push, if_neg (by rw [rowi_size, cntsL_len]; omega), rowi_get _ n (by rw [cntsL_len]; exact hn), cntsL_get lens n hn]
theorem CA_last (lens : List Nat) (h : Nat) : (CA lens h)[16]? = some (.slice (some ⟨h, 0, none⟩) (codeSyms lens).length (codeSyms lens).length) := by
  rw [CA, Array.getElem?_push, if_pos (by rw [rowi_size, cntsL_len])]
theorem fst_le (lens : List Nat) (j got : Nat) (h : fst lens j + cnt lens j ≤ got) (b : Nat) : fst lens (j + 1) ≤ 2 * got + b := by
  have : fst lens (j + 1) = 2 * (fst lens j + cnt lens j) := rfl
  omega
theorem shl_or (got b : Nat) (hg : got < 1000000) (hb : b < 2) : bits .or .i64 ((got : Int) * 2) (b : Int) = ((2 * got + b : Nat) : Int) := by
  have e : (got : Int) * 2 = ((2 * got : Nat) : Int) := by omega
  rw [e, i64_or_nat _ _ (by omega) (by omega), nat_join 1 _ _ (by simp) (by simpa using hb)]
section
variable {er : Errs} {g : Nat} {s : ByteArray} {lim : Nat} {fx : List Value} {k : Nat} {o : Value} {out : List UInt8}
set_option maxHeartbeats 1000000 in
theorem read_any (lens : List Nat) (hl : lens.length ≤ 400) (h : Nat) (w : World) (hi : Inf er g s lim fx k o out w) (ht : Tab g h (codeSyms lens) o w) :
    Calls Tryz.prog 220 #[.agg (CA lens h), .pointer (some ⟨g, 0, none⟩)] w fun e w' => (∃ x k', dec lens s.data.toList k = some (x, k') ∧ e = .returned (.tuple #[.int .i64 (x : Int), .nilIface]) ∧ Inf er g s lim fx k' o out w' ∧ Step g o o w w') ∨
      (dec lens s.data.toList k = none ∧ ∃ b k', er.bad b ∧ e = .returned (.tuple #[.int .i64 0, errV b]) ∧ Inf er g s lim fx k' o out w' ∧ Step g o o w w') := by
  obtain ⟨C, HC⟩ := hid_intro (CA lens h)
  rw [← HC.out]
  obtain ⟨D, HD⟩ := hid_intro (dec lens s.data.toList k)
  rw [← HD.out]
  have hi0 := hi.alloc (.cells C 107)
  have st0 : Step g o o w (w.alloc (.cells C 107)) := Step.alloc (Step.refl ..) _
  have ht0 := ht.step st0
  have hb0 : (w.alloc (.cells C 107)).heap[w.heap.size]? = some (.cells C 107 (0, 0)) := heap_alloc_new w _
  have HN : Hid (w.heap.size ≠ g ∧ o.ownBlock ≠ some w.heap.size) := ⟨by have := hi.lt; omega, fun e => by have := (hi.own.lt _ e).2; omega⟩
  have HL : Hid ((codeSyms lens).length = psd lens 16) := symsBelow_len lens 16
  obtain ⟨N, HN0⟩ := hid_intro (codeSyms lens).length
  have hN : N ≤ 10000 := by
    have := HN0.out; have := HL.out
    have h2 : psd lens 16 ≤ 16 * 400 := by
      have : ∀ m, psd lens m ≤ m * 400 := by
        intro m
        induction m with
        | zero => simp [psd]
        | succ m ih => have := cnt_le lens m; simp only [psd]; omega
      exact this 16
    omega
  clear hi ht
  go_enter Tryz.func220, Tryz.ntmps220
  go_wp2
  go_loopw [6, 7, 8, 9] (fun vg vf vp vn wr => ∃ j got : Nat, j ≤ 15 ∧ got < 2 ^ j ∧ Hid (fst lens j + cnt lens j ≤ got) ∧ vg = .int .i64 got ∧ vf = .int .i64 ((fst lens j + cnt lens j : Nat) : Int) ∧ vp = .int .i64 (psd lens (j + 1)) ∧ vn = .int .i64 ((j : Int) + 1) ∧
    Hid (D = decGo lens s.data.toList (15 - j) j got (k + j)) ∧ Inf er g s lim fx (k + j) o out wr ∧ Step g o o (w.alloc (.cells C 107)) wr) (fun _ _ _ vn _ => 17 - (intOf vn).toNat)
  case atStart => exact ⟨0, 0, by omega, by simp, by simp [Hid, fst, cnt], rfl, by simp [fst, cnt], by simp [psd, cnt], rfl, HD, hi0, Step.refl ..⟩
  case round =>
    obtain ⟨j, got, hj, hgot, HF, rfl, rfl, rfl, rfl, HDc, hi, st⟩ := hrel
    have hb := (st.block w.heap.size (by simp) HN.out.1 HN.out.2).trans hb0
    have ht := ht0.step st
    have hsz : wr.cell? ⟨w.heap.size, 16, none⟩ = some (.slice (some ⟨h, 0, none⟩) N N) := (cell_of_row wr w.heap.size 16 _ _ _ hb).trans (by rw [HC.out, HN0.out]; exact CA_last lens h)
    obtain ⟨F, HF0⟩ := hid_intro (fst lens j + cnt lens j)
    obtain ⟨P, HP0⟩ := hid_intro (psd lens (j + 1))
    rw [← HF0.out] at HF ⊢
    rw [← HP0.out]
    have hpw := pow_small j (by omega)
    have hP : P ≤ N := by rw [HP0.out, HN0.out, HL.out]; exact psd_le _ _ _ (by omega)
    by_cases hlt : P < N
    · have hj15 : j < 15 := by
        rcases Nat.lt_or_ge j 15 with h | h
        · exact h
        · exfalso
          have e : j = 15 := by omega
          have a := HP0.out; have b := HN0.out; have c := HL.out
          rw [e] at a
          have : psd lens (15 + 1) = psd lens 16 := rfl
          omega
      have hgot2 : got < 65536 := by have : (2:Nat) ^ j ≤ 2 ^ 15 := Nat.pow_le_pow_right (by omega) (by omega); omega
      have hFg : F ≤ got := HF.out
      have HSt : Hid (D = if has s.data.toList (k + j) 1 then (if 2 * got + bitAt s.data.toList (k + j) - fst lens (j + 1) < cnt lens (j + 1) then some ((symsOf lens (j + 1)).getD (2 * got + bitAt s.data.toList (k + j) - fst lens (j + 1)) 0, k + j + 1) else decGo lens s.data.toList (15 - (j + 1)) (j + 1) (2 * got + bitAt s.data.toList (k + j)) (k + j + 1)) else none) := by
        show D = _
        rw [HDc.out, show 15 - j = (15 - (j + 1)) + 1 by omega, decGo]
      have HF2 : Hid (fst lens (j + 1) = 2 * F) := by rw [HF0.out]; rfl
      have hk := hi.hk
      have hss : s.data.toList.length = s.size := by simp
      by_cases hend : k + j < 8 * s.size
      · obtain ⟨b, Hb⟩ := hid_intro (bitAt s.data.toList (k + j))
        have hb2 : b < 2 := by rw [Hb.out]; exact bitAt_lt _ _
        have hsh := shl_or got b (by omega) hb2
        obtain ⟨G, HG⟩ := hid_intro (2 * got + b)
        rw [← HG.out] at hsh
        have hG1 : 2 * F ≤ G := by have := HG.out; omega
        have hG2 : G < 2 * 65536 := by have := HG.out; omega
        have HG3 : Hid (G < 2 ^ (j + 1)) := by show G < 2 ^ (j + 1); have := HG.out; rw [Nat.pow_succ]; omega
        obtain ⟨c, Hc⟩ := hid_intro (cnt lens (j + 1))
        have hcn : c ≤ 400 := by rw [Hc.out]; exact Nat.le_trans (cnt_le _ _) hl
        have hcc : wr.cell? ⟨w.heap.size, j + 1, none⟩ = some (.int .i64 (c : Int)) := (cell_of_row wr w.heap.size (j + 1) _ _ _ hb).trans (by rw [HC.out, Hc.out]; exact CA_get lens h (j + 1) (by omega))
        rw [← Hb.out, ← HG.out, HF2.out, ← Hc.out, if_pos (show has s.data.toList (k + j) 1 by unfold has; omega)] at HSt
        by_cases hm : G - 2 * F < c
        · have hPc : P + c ≤ N := by
            have a := psd_le lens (j + 2) 16 (by omega)
            have b : psd lens (j + 2) = psd lens (j + 1) + cnt lens (j + 1) := rfl
            have := HP0.out; have := HN0.out; have := HL.out; have := Hc.out
            omega
          obtain ⟨x, Hx⟩ := hid_intro ((symsOf lens (j + 1)).getD (G - 2 * F) 0)
          have hx1 : ∀ w1, Step g o o wr w1 → w1.cell? ⟨h, P + G - F * 2, none⟩ = some (.int .i64 (x : Int)) := fun w1 st1 => by
            rw [Nat.mul_comm F 2]
            rw [rowi_cell (P + G - 2 * F) (ht.step st1).1 (by have := HN0.out; omega), Hx.out, show P + G - 2 * F = psd lens (j + 1) + (G - 2 * F) by have := HP0.out; omega, codeSyms_at lens (j + 1) (G - 2 * F) (by omega) (by have := Hc.out; omega)]
          rw [if_pos hm, ← Hx.out] at HSt
          go_wp2_with (go_at_call 117; refine (bit_ok wr hi hend).mono ?_; rintro e w1 ⟨rfl, hi1, st1⟩; rw [← Hb.out]; have hb1 := (st1.block w.heap.size (lt_of_block hb) HN.out.1 HN.out.2).trans hb; have hcc1 : w1.cell? ⟨w.heap.size, j + 1, none⟩ = some (.int .i64 (c : Int)) := (World.cell?_of_block (w := wr) (hb1.trans hb.symm)).trans hcc; have hsz1 : w1.cell? ⟨w.heap.size, 16, none⟩ = some (.slice (some ⟨h, 0, none⟩) N N) := (World.cell?_of_block (w := wr) (hb1.trans hb.symm)).trans hsz; have hxc := hx1 w1 st1; clear hx1)
          go_ret2
          exact .inl ⟨x, _, HSt.out, rfl, hi1, (st0.trans st).trans st1⟩
        · go_wp2_with (go_at_call 117; refine (bit_ok wr hi hend).mono ?_; rintro e w1 ⟨rfl, hi1, st1⟩; rw [← Hb.out]; have hb1 := (st1.block w.heap.size (lt_of_block hb) HN.out.1 HN.out.2).trans hb; have hcc1 : w1.cell? ⟨w.heap.size, j + 1, none⟩ = some (.int .i64 (c : Int)) := (World.cell?_of_block (w := wr) (hb1.trans hb.symm)).trans hcc; have hsz1 : w1.cell? ⟨w.heap.size, 16, none⟩ = some (.slice (some ⟨h, 0, none⟩) N N) := (World.cell?_of_block (w := wr) (hb1.trans hb.symm)).trans hsz)
          go_roundw
          case rel =>
            rw [if_neg hm] at HSt
            exact ⟨j + 1, G, by omega, HG3.out, by show fst lens (j + 1) + cnt lens (j + 1) ≤ G; rw [HF2.out, ← Hc.out]; omega, rfl, by rw [HF2.out, ← Hc.out]; congr 1; omega, by rw [show psd lens (j + 1 + 1) = psd lens (j + 1) + cnt lens (j + 1) from rfl, ← HP0.out, ← Hc.out]; congr 1, by congr 1, HSt, hi1, st.trans st1⟩
          case measure => simp [intOf]; omega
      · rw [if_neg (show ¬ has s.data.toList (k + j) 1 by unfold has; omega)] at HSt
        have HE : Hid (k + j = 8 * s.size) := by show k + j = 8 * s.size; omega
        clear hend hk
        go_wp2_with (go_at_call 117; refine (bit_end wr hi HE.out).mono ?_; rintro e w1 ⟨rfl, hi1, st1⟩; unfold errV)
        go_ret2
        exact .inr ⟨HSt.out, er.short, _, .inl rfl, rfl, hi1, (st0.trans st).trans st1⟩
    · have HE : Hid (D = none) := by
        show D = none
        rw [HDc.out]; exact decGo_none lens _ _ _ _ _ (by omega) (by have := HP0.out; have := HN0.out; have := HL.out; omega)
      have he := hi.errs.code
      go_wp2
      go_quiet (fail)
      go_wp2
      go_ret2
      exact .inr ⟨HE.out, er.code, _, by simp [Errs.bad], rfl, hi.drewN _, Step.drewN (st0.trans st) _⟩
end
end Go.Proofs.YtfohjjcihioinaaGreatDoor
