/- The program's fixed codes. The program's fixed codes, both. The program's code of the lengths. -/
import Derived.Test.YtgfbbcnnmoamnaaGreatDoorPK
import Derived.Laws.CopyOwn
import Derived.Deep.RegionLaw
namespace Go.Proofs.YtgfbbcnnmoamnaaGreatDoor
open Go.RowKit

/-- the first i of a row, the rest 0 -/
def filled (l : List Nat) (n i : Nat) : List Nat := l.take i ++ List.replicate (n - i) 0
theorem filled_len (l : List Nat) (n i : Nat) (hl : l.length = n) (hi : i ≤ n) : (filled l n i).length = n := by simp [filled]; omega
theorem filled_step (l : List Nat) (n i : Nat) (hl : l.length = n) (hi : i < n) : (filled l n i).set i (l.getD i 0) = filled l n (i + 1) := by
  unfold filled
  have e : l.take (i + 1) = l.take i ++ [l.getD i 0] := by
    rw [List.take_succ_eq_append_getElem (by omega)]; simp [hl, hi]
  rw [List.set_append_right _ _ (by simp; omega), e, List.append_assoc]
  have h1 : (l.take i).length = i := by simp; omega
  rw [h1, Nat.sub_self, show n - i = n - (i + 1) + 1 by omega, List.replicate_succ]
  rfl
theorem filled_end (l : List Nat) (n : Nat) (hl : l.length = n) : filled l n n = l := by
  unfold filled; rw [List.take_of_length_le (by omega)]; simp
theorem fixedL_len : fixedL.length = 288 := by simp [fixedL]
theorem fixedL_get (i : Nat) (h : i < 288) : fixedL.getD i 0 = if i ≤ 143 then 8 else if i ≤ 255 then 9 else if i ≤ 279 then 7 else 8 := by simp [fixedL, h]
set_option maxHeartbeats 1000000 in
set_option maxRecDepth 8000 in
theorem fixedLiterals_any (w : World) :
    Calls Tryz.prog 49 #[] w fun e w' => e = .returned (.slice (some ⟨w.heap.size, 0, none⟩) 288 288) ∧ w'.heap[w.heap.size]? = some (.cells (rowi fixedL) 3 (0, 0)) ∧ Below w.heap.size w w' := by
  have mk := fun w => make_int 288 288 rfl (by omega) w
  go_enter Tryz.func49, Tryz.ntmps49
  go_wp2
  go_loopw [6] (fun vi wr => ∃ i : Nat, i ≤ 288 ∧ vi = .int .i64 i ∧ wr.heap[w.heap.size]? = some (.cells (rowi (filled fixedL 288 i)) 3 (0, 0)) ∧ Below w.heap.size w wr) (fun vi _ => 288 - (intOf vi).toNat)
  case atStart => exact ⟨0, by omega, rfl, by rw [heap_alloc_new]; rfl, (Below.refl _ _).alloc (Nat.le_refl _) _⟩
  case round =>
    clear mk
    obtain ⟨i, hi, rfl, hr, hb⟩ := hrel
    by_cases hlt : i < 288
    · have HS := (show Hid _ from filled_step fixedL 288 i fixedL_len hlt)
      have hc := rowi_cell i hr (by rw [filled_len _ _ _ fixedL_len (by omega)]; exact hlt)
      have hf := frozen_of_row wr w.heap.size i _ _ hr
      rw [fixedL_get i hlt] at HS
      by_cases h1 : i ≤ 143
      · rw [if_pos h1] at HS
        go_wp2
        go_roundw
        case rel => exact ⟨i + 1, by omega, by go_num, by rw [← HS.out]; exact rowi_step 8 rfl hr, hb.setCell (Nat.le_refl _) _⟩
        case measure => simp [intOf]; omega
      · rw [if_neg h1] at HS
        by_cases h2 : i ≤ 255
        · rw [if_pos h2] at HS
          go_wp2
          go_roundw
          case rel => exact ⟨i + 1, by omega, by go_num, by rw [← HS.out]; exact rowi_step 9 rfl hr, hb.setCell (Nat.le_refl _) _⟩
          case measure => simp [intOf]; omega
        · rw [if_neg h2] at HS
          by_cases h3 : i ≤ 279
          · rw [if_pos h3] at HS
            go_wp2
            go_roundw
            case rel => exact ⟨i + 1, by omega, by go_num, by rw [← HS.out]; exact rowi_step 7 rfl hr, hb.setCell (Nat.le_refl _) _⟩
            case measure => simp [intOf]; omega
          · rw [if_neg h3] at HS
            go_wp2
            go_roundw
            case rel => exact ⟨i + 1, by omega, by go_num, by rw [← HS.out]; exact rowi_step 8 rfl hr, hb.setCell (Nat.le_refl _) _⟩
            case measure => simp [intOf]; omega
    · obtain rfl : i = 288 := by omega
      rw [filled_end _ _ fixedL_len] at hr
      go_wp2
      go_ret
      exact ⟨rfl, hr, hb⟩
/-- n fives and zeros behind them -/
def fives (n : Nat) : List Nat := List.replicate n 5 ++ List.replicate (32 - n) 0
def ivals (l : List Nat) : List Value := l.map fun (x : Nat) => Value.int .i64 (x : Int)
theorem ivals_one (l : List Nat) : ∀ v ∈ ivals l, v.oneCell' = true := by
  intro v hv
  simp only [ivals, List.mem_map] at hv
  obtain ⟨x, _, rfl⟩ := hv
  rfl
theorem fives_len (n : Nat) (h : n ≤ 32) : (fives n).length = 32 := by simp [fives]; omega
theorem fives_splice (n : Nat) (h : 2 * n ≤ 32) : (splice (ivals (fives n)) n (ivals (List.replicate n 5))).toArray = rowi (fives (n + n)) := by
  apply Array.toList_inj.1
  unfold splice
  have e : (ivals (List.replicate n 5)).length = n := by simp [ivals]
  rw [e]
  simp only [rowi, fives, ivals, List.map_append, List.map_replicate]
  rw [List.take_append_of_le_length (by simp), List.take_of_length_le (by simp), List.drop_append, List.drop_eq_nil_of_le (by simp)]
  simp only [List.length_replicate, List.nil_append, List.drop_replicate]
  rw [show n + n - n = n by omega, show 32 - n - n = 32 - (n + n) by omega, ← List.append_assoc, List.replicate_append_replicate]
theorem fives_src {w : World} {B : Nat} (n : Nat) (h : n ≤ 32) (hg : w.heap[B]? = some (.cells (rowi (fives n)) 3 (0, 0))) : ∀ j v, (ivals (List.replicate n 5))[j]? = some v → w.cell? ((⟨B, 0, none⟩ : Addr).add j) = some v := by
  intro j v hj
  have e : (⟨B, 0, none⟩ : Addr).add j = ⟨B, j, none⟩ := by unfold Addr.add; split <;> simp_all
  have hjn : j < n := by have := List.getElem?_eq_some_iff.1 hj; simpa [ivals] using this.1
  rw [e, rowi_cell j hg (by rw [fives_len n h]; omega), ← hj]
  simp [ivals, fives, hjn, List.getElem?_append_left]
set_option maxHeartbeats 400000 in
theorem mul_any (w : World) : Calls Tryz.prog 181 #[.int .u64 1, .int .u64 32] w fun e w' => e = .returned (.tuple #[.int .u64 0, .int .u64 32]) ∧ w' = w := by
  have b1 : bits .and .u64 1 4294967295 = 1 := by decide
  have b2 : bits .and .u64 32 4294967295 = 32 := by decide
  have b0 : bits .and .u64 0 4294967295 = 0 := by decide
  go_enter Tryz.func181, Tryz.ntmps181
  go_wp2
  go_ret2
  exact ⟨rfl, rfl⟩
set_option maxHeartbeats 1000000 in
set_option maxRecDepth 8000 in
theorem repeat5_any (h : Nat) (w : World) (hc : w.cell? ⟨h, 0, none⟩ = some (.int .i64 5)) (hh : h < w.heap.size) :
    Calls Tryz.prog 113 #[.slice (some ⟨h, 0, none⟩) 1 1, .int .i64 32] w fun e w' => e = .returned (.slice (some ⟨w.heap.size, 0, none⟩) 32 32) ∧ w'.heap[w.heap.size]? = some (.cells (rowi fixedD) 3 (0, 0)) ∧ Below w.heap.size w w' := by
  have mk := fun w => make_int 32 32 rfl (by omega) w
  have hsz1 : (Tryz.prog.info? 3).map (·.size) = some 1 := by kernel_rfl
  go_enter Tryz.func113, Tryz.ntmps113
  go_wp2_with (first
    | (go_at_call 181; refine (mul_any _).mono ?_; rintro e w0 ⟨rfl, hw⟩; rw [hw]; clear hw)
    | (refine wpList_copy_splice rfl (.tmp 31) (.tmp 32) 87 87 rfl 3 Tryz.underlying87 ?_ (some ⟨w.heap.size, 0, none⟩) (some ⟨h, 0, none⟩) 32 32 1 1 rfl rfl w.heap.size 0 (ivals (List.replicate 32 0)) 3 ?_ [.int .i64 5] ?_ ?_ ?_ ?_ w.heap.size w ?_ ?_ ?_; kernel_rfl; exact heap_alloc_new w _; rfl; (intro _; refine ⟨rfl, _, rfl, ?_⟩; intro j v hj; match j, hj with | 0, hj => (simp at hj; subst hj; rw [show (⟨h, 0, none⟩ : Addr).add 0 = ⟨h, 0, none⟩ from rfl]; exact (World.cell?_of_block (w := w) (Below.heap_alloc w _ h hh)).trans hc)); decide; (intro v hv; simp at hv; subst hv; rfl); exact (Below.refl _ _).alloc (Nat.le_refl _) _; exact Nat.le_refl _; (intro w1 hr1 hb1)))
  have hr1' : w1.heap[w.heap.size]? = some (.cells (rowi (fives 1)) 3 (0, 0)) := hr1.out
  clear hr1
  go_loopw [8] (fun vi wr => ∃ n : Nat, (n = 1 ∨ n = 2 ∨ n = 4 ∨ n = 8 ∨ n = 16 ∨ n = 32) ∧ vi = .int .i64 n ∧ wr.heap[w.heap.size]? = some (.cells (rowi (fives n)) 3 (0, 0)) ∧ Below w.heap.size w wr) (fun vi _ => 32 - (intOf vi).toNat)
  case atStart => exact ⟨1, by omega, rfl, hr1', hb1⟩
  case round =>
    clear hr1' hb1 mk
    obtain ⟨n, hn, rfl, hr, hb⟩ := hrel
    rcases hn with rfl | rfl | rfl | rfl | rfl | rfl
    · have HSr := (show Hid _ from fives_src (w := wr.drew) 1 (by omega) hr)
      obtain ⟨cur, Hcur⟩ := hid_intro (ivals (fives 1))
      obtain ⟨cs, Hcs⟩ := hid_intro (ivals (List.replicate 1 5))
      have hrc : wr.heap[w.heap.size]? = some (.cells cur.toArray 3 (0, 0)) := by rw [Hcur.out]; exact hr
      have hcl : cs.length = 1 := by rw [Hcs.out]; rfl
      have hcu : cur.length = 32 := by rw [Hcur.out]; rfl
      have HSp : Hid ((splice cur 1 cs).toArray = rowi (fives 2)) := by rw [Hcur.out, Hcs.out]; exact fives_splice 1 (by omega)
      have HS1 : Hid (∀ v ∈ cs, v.oneCell' = true) := by rw [Hcs.out]; exact ivals_one _
      rw [← Hcs.out] at HSr
      clear hr
      go_wp2
      go_region_law (refine step_copy_splice rfl (.tmp 41) (.tmp 44) 87 87 rfl 3 Tryz.underlying87 hsz1 (some ⟨w.heap.size, 1, none⟩) (some ⟨w.heap.size, 0, none⟩) 31 31 1 32 ?_ ?_ w.heap.size 1 cur 3 hrc cs ?_ ?_ ?_ HS1.out w.heap.size w hb.drew (Nat.le_refl _) ?_; kernel_rfl; kernel_rfl; (rw [hcl]; rfl); (intro _; exact ⟨rfl, _, rfl, HSr.out⟩); (rw [hcl, hcu]; decide); (rw [hcl]; intro w4 hg4 hb4))
      rw [HSp.out] at hg4
      go_wp2
      go_roundw
      case rel =>
        first
          | exact ⟨2, by omega, rfl, hg4.out, hb4⟩
          | ((repeat apply Exists.intro); exact ⟨⟨2, by omega, rfl, hg4.out, hb4⟩, rfl⟩)
      case measure => exact Nat.le_of_ble_eq_true (by kernel_rfl)
    · have HSr := (show Hid _ from fives_src (w := wr.drew) 2 (by omega) hr)
      obtain ⟨cur, Hcur⟩ := hid_intro (ivals (fives 2))
      obtain ⟨cs, Hcs⟩ := hid_intro (ivals (List.replicate 2 5))
      have hrc : wr.heap[w.heap.size]? = some (.cells cur.toArray 3 (0, 0)) := by rw [Hcur.out]; exact hr
      have hcl : cs.length = 2 := by rw [Hcs.out]; rfl
      have hcu : cur.length = 32 := by rw [Hcur.out]; rfl
      have HSp : Hid ((splice cur 2 cs).toArray = rowi (fives 4)) := by rw [Hcur.out, Hcs.out]; exact fives_splice 2 (by omega)
      have HS1 : Hid (∀ v ∈ cs, v.oneCell' = true) := by rw [Hcs.out]; exact ivals_one _
      rw [← Hcs.out] at HSr
      clear hr
      go_wp2
      go_region_law (refine step_copy_splice rfl (.tmp 41) (.tmp 44) 87 87 rfl 3 Tryz.underlying87 hsz1 (some ⟨w.heap.size, 2, none⟩) (some ⟨w.heap.size, 0, none⟩) 30 30 2 32 ?_ ?_ w.heap.size 2 cur 3 hrc cs ?_ ?_ ?_ HS1.out w.heap.size w hb.drew (Nat.le_refl _) ?_; kernel_rfl; kernel_rfl; (rw [hcl]; rfl); (intro _; exact ⟨rfl, _, rfl, HSr.out⟩); (rw [hcl, hcu]; decide); (rw [hcl]; intro w4 hg4 hb4))
      rw [HSp.out] at hg4
      go_wp2
      go_roundw
      case rel =>
        first
          | exact ⟨4, by omega, rfl, hg4.out, hb4⟩
          | ((repeat apply Exists.intro); exact ⟨⟨4, by omega, rfl, hg4.out, hb4⟩, rfl⟩)
      case measure => exact Nat.le_of_ble_eq_true (by kernel_rfl)
    · have HSr := (show Hid _ from fives_src (w := wr.drew) 4 (by omega) hr)
      obtain ⟨cur, Hcur⟩ := hid_intro (ivals (fives 4))
      obtain ⟨cs, Hcs⟩ := hid_intro (ivals (List.replicate 4 5))
      have hrc : wr.heap[w.heap.size]? = some (.cells cur.toArray 3 (0, 0)) := by rw [Hcur.out]; exact hr
      have hcl : cs.length = 4 := by rw [Hcs.out]; rfl
      have hcu : cur.length = 32 := by rw [Hcur.out]; rfl
      have HSp : Hid ((splice cur 4 cs).toArray = rowi (fives 8)) := by rw [Hcur.out, Hcs.out]; exact fives_splice 4 (by omega)
      have HS1 : Hid (∀ v ∈ cs, v.oneCell' = true) := by rw [Hcs.out]; exact ivals_one _
      rw [← Hcs.out] at HSr
      clear hr
      go_wp2
      go_region_law (refine step_copy_splice rfl (.tmp 41) (.tmp 44) 87 87 rfl 3 Tryz.underlying87 hsz1 (some ⟨w.heap.size, 4, none⟩) (some ⟨w.heap.size, 0, none⟩) 28 28 4 32 ?_ ?_ w.heap.size 4 cur 3 hrc cs ?_ ?_ ?_ HS1.out w.heap.size w hb.drew (Nat.le_refl _) ?_; kernel_rfl; kernel_rfl; (rw [hcl]; rfl); (intro _; exact ⟨rfl, _, rfl, HSr.out⟩); (rw [hcl, hcu]; decide); (rw [hcl]; intro w4 hg4 hb4))
      rw [HSp.out] at hg4
      go_wp2
      go_roundw
      case rel =>
        first
          | exact ⟨8, by omega, rfl, hg4.out, hb4⟩
          | ((repeat apply Exists.intro); exact ⟨⟨8, by omega, rfl, hg4.out, hb4⟩, rfl⟩)
      case measure => exact Nat.le_of_ble_eq_true (by kernel_rfl)
    · have HSr := (show Hid _ from fives_src (w := wr.drew) 8 (by omega) hr)
      obtain ⟨cur, Hcur⟩ := hid_intro (ivals (fives 8))
      obtain ⟨cs, Hcs⟩ := hid_intro (ivals (List.replicate 8 5))
      have hrc : wr.heap[w.heap.size]? = some (.cells cur.toArray 3 (0, 0)) := by rw [Hcur.out]; exact hr
      have hcl : cs.length = 8 := by rw [Hcs.out]; rfl
      have hcu : cur.length = 32 := by rw [Hcur.out]; rfl
      have HSp : Hid ((splice cur 8 cs).toArray = rowi (fives 16)) := by rw [Hcur.out, Hcs.out]; exact fives_splice 8 (by omega)
      have HS1 : Hid (∀ v ∈ cs, v.oneCell' = true) := by rw [Hcs.out]; exact ivals_one _
      rw [← Hcs.out] at HSr
      clear hr
      go_wp2
      go_region_law (refine step_copy_splice rfl (.tmp 41) (.tmp 44) 87 87 rfl 3 Tryz.underlying87 hsz1 (some ⟨w.heap.size, 8, none⟩) (some ⟨w.heap.size, 0, none⟩) 24 24 8 32 ?_ ?_ w.heap.size 8 cur 3 hrc cs ?_ ?_ ?_ HS1.out w.heap.size w hb.drew (Nat.le_refl _) ?_; kernel_rfl; kernel_rfl; (rw [hcl]; rfl); (intro _; exact ⟨rfl, _, rfl, HSr.out⟩); (rw [hcl, hcu]; decide); (rw [hcl]; intro w4 hg4 hb4))
      rw [HSp.out] at hg4
      go_wp2
      go_roundw
      case rel =>
        first
          | exact ⟨16, by omega, rfl, hg4.out, hb4⟩
          | ((repeat apply Exists.intro); exact ⟨⟨16, by omega, rfl, hg4.out, hb4⟩, rfl⟩)
      case measure => exact Nat.le_of_ble_eq_true (by kernel_rfl)
    · have HSr := (show Hid _ from fives_src (w := wr.drew) 16 (by omega) hr)
      obtain ⟨cur, Hcur⟩ := hid_intro (ivals (fives 16))
      obtain ⟨cs, Hcs⟩ := hid_intro (ivals (List.replicate 16 5))
      have hrc : wr.heap[w.heap.size]? = some (.cells cur.toArray 3 (0, 0)) := by rw [Hcur.out]; exact hr
      have hcl : cs.length = 16 := by rw [Hcs.out]; rfl
      have hcu : cur.length = 32 := by rw [Hcur.out]; rfl
      have HSp : Hid ((splice cur 16 cs).toArray = rowi (fives 32)) := by rw [Hcur.out, Hcs.out]; exact fives_splice 16 (by omega)
      have HS1 : Hid (∀ v ∈ cs, v.oneCell' = true) := by rw [Hcs.out]; exact ivals_one _
      rw [← Hcs.out] at HSr
      clear hr
      go_wp2
      go_region_law (refine step_copy_splice rfl (.tmp 41) (.tmp 44) 87 87 rfl 3 Tryz.underlying87 hsz1 (some ⟨w.heap.size, 16, none⟩) (some ⟨w.heap.size, 0, none⟩) 16 16 16 32 ?_ ?_ w.heap.size 16 cur 3 hrc cs ?_ ?_ ?_ HS1.out w.heap.size w hb.drew (Nat.le_refl _) ?_; kernel_rfl; kernel_rfl; (rw [hcl]; rfl); (intro _; exact ⟨rfl, _, rfl, HSr.out⟩); (rw [hcl, hcu]; decide); (rw [hcl]; intro w4 hg4 hb4))
      rw [HSp.out] at hg4
      go_wp2
      go_roundw
      case rel =>
        first
          | exact ⟨32, by omega, rfl, hg4.out, hb4⟩
          | ((repeat apply Exists.intro); exact ⟨⟨32, by omega, rfl, hg4.out, hb4⟩, rfl⟩)
      case measure => exact Nat.le_of_ble_eq_true (by kernel_rfl)
    · go_wp2
      go_ret
      exact ⟨rfl, hr, hb⟩
set_option maxHeartbeats 1000000 in
set_option maxRecDepth 8000 in
theorem fixedDistances_any (w : World) :
    Calls Tryz.prog 50 #[] w fun e w' => ∃ b, e = .returned (.slice (some ⟨b, 0, none⟩) 32 32) ∧ w.heap.size ≤ b ∧ w'.heap[b]? = some (.cells (rowi fixedD) 3 (0, 0)) ∧ Below w.heap.size w w' := by
  go_enter Tryz.func50, Tryz.ntmps50
  go_wp2_with (go_at_call 113; refine (repeat5_any w.heap.size _ ?_ ?_).mono ?_; simp; simp; rintro e w1 ⟨rfl, hr1, hb1⟩)
  go_ret
  exact ⟨_, rfl, by simp, by simpa using hr1, ((Below.refl _ w).alloc (Nat.le_refl _) _).trans (hb1.mono (by simp))⟩
end Go.Proofs.YtgfbbcnnmoamnaaGreatDoor

namespace Go.Proofs.YtgfbbcnnmoamnaaGreatDoor
open Go.RowKit

theorem build_codes (a b : List Nat) (ha : a.length = 16) (hb : b.length = 16) (x y : Value) (_hx : x.cells = #[x]) (_hy : y.cells = #[y]) : Tryz.prog.built 185 [(0, .agg ((rowi a).push x)), (1, .agg ((rowi b).push y))] = some ((rowi a).push x ++ (rowi b).push y) := by
  obtain ⟨a0, a1, a2, a3, a4, a5, a6, a7, a8, a9, a10, a11, a12, a13, a14, a15, rfl⟩ := len16 a ha
  obtain ⟨b0, b1, b2, b3, b4, b5, b6, b7, b8, b9, b10, b11, b12, b13, b14, b15, rfl⟩ := len16 b hb
  kernel_rfl
theorem CC_built (ll dl : List Nat) (hl hd : Nat) : Tryz.prog.built 185 [(0, .agg (CA ll hl)), (1, .agg (CA dl hd))] = some (CC ll dl hl hd) := build_codes _ _ (cntsL_len ll) (cntsL_len dl) _ _ rfl rfl
theorem CC_size (ll dl : List Nat) (hl hd : Nat) : (CC ll dl hl hd).size = 34 := by simp [CC, CA_size]
theorem CC_one (ll dl : List Nat) (hl hd : Nat) : (CC ll dl hl hd).all (·.oneCell') = true := by
  unfold CC; rw [Array.all_append, CA_one, CA_one]; rfl
theorem fixedD_len : fixedD.length = 32 := by simp [fixedD]
theorem fixedL_le : ∀ n ∈ fixedL, n ≤ 15 := by
  intro n hn
  simp only [fixedL, List.mem_map] at hn
  obtain ⟨i, _, rfl⟩ := hn
  split
  · omega
  · split
    · omega
    · split <;> omega
theorem fixedD_le : ∀ n ∈ fixedD, n ≤ 15 := by
  intro n hn
  have := List.eq_of_mem_replicate hn
  omega
theorem IntsAt.of_row {w : World} {h : Nat} {l : List Nat} (hr : w.heap[h]? = some (.cells (rowi l) 3 (0, 0))) : IntsAt w h 0 l :=
  ⟨lt_of_block hr, fun j hj => by rw [Nat.zero_add]; exact rowi_cell j hr hj⟩
set_option maxHeartbeats 1000000 in
set_option maxRecDepth 8000 in
theorem fixedCodes_any (w : World) :
    Calls Tryz.prog 102 #[] w fun e w' => ∃ hl hd, e = .returned (.agg (CC fixedL fixedD hl hd)) ∧ w.heap.size ≤ hl ∧ w.heap.size ≤ hd ∧ w'.heap[hl]? = some (.cells (rowi (codeSyms fixedL)) 3 (0, 0)) ∧ w'.heap[hd]? = some (.cells (rowi (codeSyms fixedD)) 3 (0, 0)) ∧ Below w.heap.size w w' := by
  have c1 := fun h w hI => codeOf_any fixedL (by rw [fixedL_len]; omega) fixedL_le h 0 288 w hI
  have c2 := fun h w hI => codeOf_any fixedD (by rw [fixedD_len]; omega) fixedD_le h 0 32 w hI
  rw [fixedL_len] at c1
  rw [fixedD_len] at c2
  have C1 : Hid _ := c1
  have C2 : Hid _ := c2
  clear c1 c2
  obtain ⟨FL, HFL⟩ := hid_intro fixedL
  obtain ⟨FD, HFD⟩ := hid_intro fixedD
  rw [← HFL.out] at C1 ⊢
  rw [← HFD.out] at C2 ⊢
  go_enter Tryz.func102, Tryz.ntmps102
  go_wp2_with (first
    | (go_at_call 49; refine (fixedLiterals_any _).mono ?_; rintro e w1 ⟨rfl, hr1, hb1⟩; have z1 := hb1.size; simp only [World.size_alloc] at hr1 hb1 z1; rw [← HFL.out] at hr1; have HR := (show Hid _ from (hb1.block w.heap.size (by omega)).trans (heap_alloc_new w _)); have HB := (show Hid (Below w.heap.size w w1) from ((Below.refl _ w).alloc (Nat.le_refl _) _).trans (hb1.mono (by omega))); clear hb1; have first1 : True := trivial)
    | (go_at_call 159; have := first1; refine (C1.out _ w1 (IntsAt.of_row hr1)).mono ?_; rintro e w2 ⟨hl, rfl, hl1, hl2, hb2⟩; have z2 := hb2.size; have HR2 := (show Hid _ from (hb2.block w.heap.size (by omega)).trans HR.out); have HB2 := (show Hid (Below w.heap.size w w2) from HB.out.trans (hb2.mono (by omega))); clear first1 hb2)
    | (go_at_call 50; refine (fixedDistances_any _).mono ?_; rintro e w3 ⟨b, rfl, hb3, hr3, hbl3⟩; rw [← HFD.out] at hr3; have z3 := hbl3.size; have HR3 := (show Hid _ from (hbl3.block w.heap.size (by omega)).trans HR2.out); have HB3 := (show Hid (Below w.heap.size w w3) from HB2.out.trans (hbl3.mono (by omega))); have HL3 := (show Hid _ from (hbl3.block hl (lt_of_block hl2)).trans hl2); clear hbl3)
    | (go_at_call 159; refine (C2.out _ w3 (IntsAt.of_row hr3)).mono ?_; rintro e w4 ⟨hd, rfl, hd1, hd2, hb4⟩; have z4 := hb4.size; have HR4 := (show Hid _ from (hb4.block w.heap.size (by omega)).trans HR3.out); have HB4 := (show Hid (Below w.heap.size w w4) from HB3.out.trans (hb4.mono (by omega))); have HL4 := (show Hid _ from (hb4.block hl (lt_of_block HL3.out)).trans HL3.out); clear hb4)
    | (refine wpList_buildTo rfl 185 _ rfl _ rfl (CC FL FD hl hd) ?_ ?_; (simp only [List.map_toArray, List.map_cons, List.map_nil]; exact CC_built FL FD hl hd))
    | (refine wpList_store_row rfl 185 _ _ rfl w.heap.size (CC FL FD hl hd) rfl rfl 185 _ HR4.out ?_ ?_ ?_ ?_; (rw [CC_size]; exact sizeCodes); (rw [CC_size]; rfl); exact CC_one FL FD hl hd))
  refine bodyPost_ret_by (v := .agg (CC FL FD hl hd)) (results_cell_row Tryz.results102 _ _ w.heap.size 185 _ (0, 0) _ rfl (setRow_heap _ _ _ _ _ _ HR4.out) Tryz.underlying185 rfl (by rw [CC_size]; exact sizeCodes)) rfl ⟨hl, hd, rfl, by omega, by omega, ?_, ?_, below_row HB4.out (Nat.le_refl _) _⟩
  · exact (setRow_other _ _ _ _ (by omega)).trans HL4.out
  · exact (setRow_other _ _ _ _ (by omega)).trans hd2
end Go.Proofs.YtgfbbcnnmoamnaaGreatDoor

namespace Go.Proofs.YtgfbbcnnmoamnaaGreatDoor
open Go.RowKit

theorem firstL_len (s : List UInt8) (k : Nat) : ∀ n, (firstL s k n).length = 19
  | 0 => by simp [firstL]
  | n + 1 => by simp [firstL, firstL_len s k n]
theorem firstL_le (s : List UInt8) (k : Nat) : ∀ n, ∀ x ∈ firstL s k n, x ≤ 15
  | 0, x, h => by have := List.eq_of_mem_replicate (show x ∈ List.replicate 19 0 from h); omega
  | n + 1, x, h => by
    simp only [firstL] at h
    rcases List.mem_or_eq_of_mem_set h with h | h
    · exact firstL_le s k n x h
    · have := numAt_lt s (k + 3 * n) 3; omega
theorem order19_lt : ∀ i, i < 19 → order19.getD i 0 < 19 := by decide
theorem rightCode_ok {er : Errs} (lens : List Nat) (hl : lens.length ≤ 400) (h15 : ∀ n ∈ lens, n ≤ 15) (h off cap : Nat) (w : World) (hI : IntsAt w h off lens) (hE : er.At w) (hk : kraft lens = 32768) :
    Calls Tryz.prog 321 #[.slice (some ⟨h, off, none⟩) lens.length cap] w fun e w' => ∃ b, e = .returned (.tuple #[.agg (CA lens b), .nilIface]) ∧ w.heap.size ≤ b ∧ w'.heap[b]? = some (.cells (rowi (codeSyms lens)) 3 (0, 0)) ∧ Below w.heap.size w w' := by
  refine (rightCode_any lens hl h15 h off cap w hI hE).mono ?_
  rintro e w' (⟨_, x⟩ | ⟨x, _⟩)
  · exact x
  · exact absurd hk x
theorem rightCode_bad {er : Errs} (lens : List Nat) (hl : lens.length ≤ 400) (h15 : ∀ n ∈ lens, n ≤ 15) (h off cap : Nat) (w : World) (hI : IntsAt w h off lens) (hE : er.At w) (hk : kraft lens ≠ 32768) :
    Calls Tryz.prog 321 #[.slice (some ⟨h, off, none⟩) lens.length cap] w fun e w' => e = .returned (.tuple #[.agg zeroCode, errV er.lengths]) ∧ Below w.heap.size w w' := by
  refine (rightCode_any lens hl h15 h off cap w hI hE).mono ?_
  rintro e w' (⟨x, _⟩ | ⟨_, x⟩)
  · exact absurd x hk
  · exact x
theorem Step.setRow {g : Nat} {o o' : Value} {w w' : World} (h : Step g o o' w w') {r : Nat} (hr : w.heap.size ≤ r) (cs : Array Value) : Step g o o' w (w'.setRow r cs) :=
  ⟨h.os, h.tape, h.output, by simp; exact h.size, fun j hj hg ho => (setRow_other _ _ _ _ (by omega)).trans (h.block j hj hg ho), h.moved⟩
/-- the code of the lengths, as the program reads it -/
def lenS (s : List UInt8) (k : Nat) : Option (Nat × List Nat) :=
  if has s k 4 then
    if has s (k + 4) (3 * (numAt s k 4 + 4)) then
      if kraft (firstL s (k + 4) (numAt s k 4 + 4)) = 32768 then some (k + 4 + 3 * (numAt s k 4 + 4), firstL s (k + 4) (numAt s k 4 + 4)) else none
    else none
  else none
section
variable {er : Errs} {g : Nat} {s : ByteArray} {lim : Nat} {fx : List Value} {k : Nat} {o : Value} {out : List UInt8}
set_option maxHeartbeats 1000000 in
set_option maxRecDepth 8000 in
theorem lengthsCode_any (w : World) (hi : Inf er g s lim fx k o out w) :
    Calls Tryz.prog 279 #[.pointer (some ⟨g, 0, none⟩)] w fun e w' => (∃ k' l b, lenS s.data.toList k = some (k', l) ∧ e = .returned (.tuple #[.agg (CA l b), .nilIface]) ∧ Tab g b (codeSyms l) o w' ∧ Inf er g s lim fx k' o out w' ∧ Step g o o w w') ∨
      (lenS s.data.toList k = none ∧ ∃ b k', er.bad b ∧ e = .returned (.tuple #[.agg zeroCode, errV b]) ∧ Inf er g s lim fx k' o out w' ∧ Step g o o w w') := by
  obtain ⟨R, HR⟩ := hid_intro (lenS s.data.toList k)
  rw [← HR.out]
  have hss : s.data.toList.length = s.size := by simp
  by_cases h4 : k + 4 ≤ 8 * s.size
  · go_enter Tryz.func279, Tryz.ntmps279
    have lm := numAt_lt s.data.toList k 4
    obtain ⟨m, Hm⟩ := hid_intro (numAt s.data.toList k 4)
    rw [← Hm.out] at lm
    have mk := fun w => make_int 19 19 rfl (by omega) w
    go_wp2_with (go_at_call 161; refine (number_ok 4 (by omega) _ (hi.alloc _) h4).mono ?_; rintro e w1 ⟨rfl, hi1, st1⟩; rw [← Hm.out])
    have HR0 := (show Hid _ from (st1.block w.heap.size (by simp) (by have := hi.lt; omega) (fun e => by have := (hi.own.lt _ e).2; omega)).trans (heap_alloc_new w _))
    have HN : Hid (w.heap.size ≠ g ∧ o.ownBlock ≠ some w.heap.size) := ⟨by have := hi.lt; omega, fun e => by have := (hi.own.lt _ e).2; omega⟩
    have HWg : Hid (g < w.heap.size) := hi.lt
    have HS1 : Hid (Step g o o w w1) := (Step.alloc (Step.refl ..) _).trans st1
    have hRS : w.heap.size < w1.heap.size := by have := st1.size; simp at this; omega
    clear st1 hi mk
    obtain ⟨S, HS⟩ := hid_intro w1.heap.size
    have HSg : Hid (g < S) := by rw [HS.out]; exact hi1.lt
    rw [← HS.out] at hRS
    have HSN : Hid (S ≠ g ∧ o.ownBlock ≠ some S) := by rw [HS.out]; exact ⟨by have := hi1.lt; omega, fun e => by have := (hi1.own.lt _ e).2; omega⟩
    obtain ⟨X, HX⟩ : ∃ X, Hid (X = w1.alloc (.cells (rowi (List.replicate 19 0)) 3 (0, 0))) := ⟨_, rfl⟩
    have hX : w1.alloc (.cells (rowi [0, 0, 0, 0, 0, 0, 0, 0, 0, 0, 0, 0, 0, 0, 0, 0, 0, 0, 0]) 3 (0, 0)) = X := by rw [HX.out]; rfl
    first | rw [hX] | rw [← HX.out]
    rw [← HS.out]
    have hs0 : X.heap[S]? = some (.cells (rowi (firstL s.data.toList (k + 4) 0)) 3 (0, 0)) := by rw [HX.out, HS.out]; exact heap_alloc_new w1 _
    have hiX : Inf er g s lim fx (k + 4) o out X := by rw [HX.out]; exact hi1.alloc _
    have stX : Step g o o w X := by rw [HX.out]; exact HS1.out.alloc _
    have hr0 := (show Hid _ from alloc_keeps (o' := .cells (rowi (List.replicate 19 0)) 3 (0, 0)) HR0.out)
    rw [← HX.out] at hr0
    clear hX HX HS hi1 HS1 HR0
    go_loopw [24] (fun vi wr => ∃ i : Nat, i ≤ m + 4 ∧ vi = .int .i64 i ∧ wr.heap[S]? = some (.cells (rowi (firstL s.data.toList (k + 4) i)) 3 (0, 0)) ∧ wr.heap[w.heap.size]? = some (.cells #[.int .i64 0, .int .i64 0, .int .i64 0, .int .i64 0, .int .i64 0, .int .i64 0, .int .i64 0, .int .i64 0, .int .i64 0, .int .i64 0, .int .i64 0, .int .i64 0, .int .i64 0, .int .i64 0, .int .i64 0, .int .i64 0, .slice none 0 0] 183 (0, 0)) ∧ Inf er g s lim fx (k + 4 + 3 * i) o out wr ∧ Step g o o w wr) (fun vi _ => m + 4 - (intOf vi).toNat)
    case atStart => exact ⟨0, by omega, rfl, hs0, hr0.out, hiX, stX⟩
    case round =>
      clear hs0 hiX stX hr0
      obtain ⟨i, him, rfl, hs, hr1, hi, st⟩ := hrel
      have HR1 := (show Hid _ from hr1)
      clear hr1
      by_cases hlt : i < m + 4
      · by_cases h3 : k + 4 + 3 * i + 3 ≤ 8 * s.size
        · have lx := numAt_lt s.data.toList (k + 4 + 3 * i) 3
          obtain ⟨x, Hx⟩ := hid_intro (numAt s.data.toList (k + 4 + 3 * i) 3)
          rw [← Hx.out] at lx
          have ho19 := order19_lt i (by omega)
          obtain ⟨q, Hq⟩ := hid_intro (order19.getD i 0)
          rw [← Hq.out] at ho19
          have HF : Hid (firstL s.data.toList (k + 4) (i + 1) = (firstL s.data.toList (k + 4) i).set q x) := by rw [Hq.out, Hx.out]; rfl
          have b1 : (i : Int) < 19 := by omega
          go_wp2_with (go_at_call 161; refine (number_ok 3 (by omega) _ hi h3).mono ?_; rintro e w3 ⟨rfl, hi3, st3⟩; rw [← Hx.out]; have hor := hi3.errs.order i (by omega); rw [← Hq.out] at hor; have hs3 := (st3.block S (lt_of_block hs) HSN.out.1 HSN.out.2).trans hs; have hc3 := rowi_cell q hs3 (by rw [firstL_len]; omega); have hf3 := frozen_of_row w3 S q _ _ hs3)
          have HR3 := (show Hid _ from (st3.block w.heap.size (lt_of_block HR1.out) HN.out.1 HN.out.2).trans HR1.out)
          go_roundw
          case rel => exact ⟨i + 1, by omega, by go_num, by rw [HF.out]; exact rowi_step x rfl hs3, (heap_setCell_other _ _ _ _ (by simp; omega)).trans HR3.out, hi3.other S HSN.out.1 HSN.out.2 (by have := hi3.hg; have := HSg.out; omega) (by simp [World.setCell]) (fun j hj => heap_setCell_other _ _ _ _ hj), (st.trans st3).row (by omega) _ _⟩
          case measure => simp [intOf]; omega
        · have HE : Hid (R = none) := by
            rw [HR.out]; show _ = _; unfold lenS
            rw [if_pos (show has s.data.toList k 4 by unfold has; omega), if_neg (show ¬ has s.data.toList (k + 4) (3 * (numAt s.data.toList k 4 + 4)) by rw [← Hm.out]; unfold has; omega)]
          go_wp2_with (first
            | (go_at_call 161; refine (number_end 3 (by omega) _ hi h3).mono ?_; rintro e w3 ⟨rfl, hi3, st3⟩; unfold errV; have HR3 := (show Hid _ from (st3.block w.heap.size (lt_of_block HR1.out) HN.out.1 HN.out.2).trans HR1.out))
            | (refine wpList_store_row rfl 183 (.tmp 2) _ rfl w.heap.size _ rfl rfl 183 _ HR3.out sizeCode rfl ?_ ?_; kernel_rfl; rw [setRow_same HR3.out]))
          refine bodyPost_ret_by (results_row_tmp Tryz.results279 _ _ w.heap.size 183 _ (0, 0) _ rfl HR3.out Tryz.underlying183 rfl sizeCode) rfl (.inr ⟨HE.out, er.short, _, by simp [Errs.bad], rfl, hi3, st.trans st3⟩)
      · obtain rfl : i = m + 4 := by omega
        have hIA := IntsAt.of_row hs
        have hh2 : k + 4 + 3 * (m + 4) ≤ 8 * s.size := hi.hk
        have HL : Hid (R = if kraft (firstL s.data.toList (k + 4) (m + 4)) = 32768 then some (k + 4 + 3 * (m + 4), firstL s.data.toList (k + 4) (m + 4)) else none) := by
          rw [HR.out]; show _ = _; unfold lenS
          rw [if_pos (show has s.data.toList k 4 by unfold has; omega), if_pos (show has s.data.toList (k + 4) (3 * (numAt s.data.toList k 4 + 4)) by rw [← Hm.out]; unfold has; omega), ← Hm.out]
        have hrok := rightCode_ok (er := er) (firstL s.data.toList (k + 4) (m + 4)) (by rw [firstL_len]; omega) (firstL_le _ _ _) S 0 19 _ hIA hi.errs
        have hrbad := rightCode_bad (er := er) (firstL s.data.toList (k + 4) (m + 4)) (by rw [firstL_len]; omega) (firstL_le _ _ _) S 0 19 _ hIA hi.errs
        rw [firstL_len] at hrok hrbad
        obtain ⟨L, HLL⟩ := hid_intro (firstL s.data.toList (k + 4) (m + 4))
        rw [← HLL.out] at HL hrok hrbad
        have HRO : Hid _ := hrok
        have HRB : Hid _ := hrbad
        clear hrok hrbad hIA
        by_cases hk : kraft L = 32768
        · rw [if_pos hk] at HL
          go_wp2_with (first
            | (go_at_call 321; refine (HRO.out hk).mono ?_; rintro e w4 ⟨b, rfl, hb1, hb2, hb3⟩; have HR4 := (show Hid _ from (hb3.block w.heap.size (lt_of_block HR1.out)).trans HR1.out); have HB3 := (show Hid _ from hb3); clear hb3)
            | (refine wpList_store_row rfl 183 (.tmp 2) _ rfl w.heap.size (CA L b) rfl rfl 183 _ HR4.out ?_ ?_ ?_ ?_; (rw [CA_size]; exact sizeCode); (rw [CA_size]; rfl); exact CA_one L b))
          have hw15 : 24 ≤ w.heap.size := by have := hi.hg; have := HWg.out; omega
          have hbR : b ≠ w.heap.size := by have := lt_of_block HR1.out; omega
          have hi4 := hi.below HB3.out
          have hbb : b ≠ g ∧ o.ownBlock ≠ some b := ⟨by have := hi.lt; omega, fun e => by have := (hi.own.lt _ e).2; omega⟩
          refine bodyPost_ret_by (v := .tuple #[.agg (CA L b), .nilIface]) (results_row_tmp Tryz.results279 _ _ w.heap.size 183 (CA L b) (0, 0) _ rfl (setRow_heap _ _ _ _ _ _ HR4.out) Tryz.underlying183 rfl (by rw [CA_size]; exact sizeCode)) rfl (.inl ⟨_, L, b, HL.out, rfl, ⟨(setRow_other _ _ _ _ hbR).trans hb2, hbb.1, hbb.2⟩, hi4.other w.heap.size HN.out.1 HN.out.2 hw15 (by simp) (fun j hj => setRow_other _ _ _ _ hj), (st.trans (Step.of_below HB3.out)).setRow (Nat.le_refl _) _⟩)
        · rw [if_neg hk] at HL
          go_wp2_with (first
            | (go_at_call 321; refine (HRB.out hk).mono ?_; rintro e w4 ⟨rfl, hb3⟩; have HR4 := (show Hid _ from (hb3.block w.heap.size (lt_of_block HR1.out)).trans HR1.out); have HB3 := (show Hid _ from hb3); clear hb3; unfold errV)
            | (refine wpList_store_row rfl 183 (.tmp 2) _ rfl w.heap.size zeroCode rfl rfl 183 _ HR4.out sizeCode rfl zeroCode_one ?_; rw [setRow_same (cs := zeroCode) HR4.out]))
          refine bodyPost_ret_by (results_row_tmp Tryz.results279 _ _ w.heap.size 183 _ (0, 0) _ rfl HR4.out Tryz.underlying183 rfl sizeCode) rfl (.inr ⟨HL.out, er.lengths, _, by simp [Errs.bad], rfl, hi.below HB3.out, st.trans (Step.of_below HB3.out)⟩)
  · have HE : Hid (R = none) := by rw [HR.out]; show _ = _; unfold lenS; rw [if_neg (show ¬ has s.data.toList k 4 by unfold has; omega)]
    go_enter Tryz.func279, Tryz.ntmps279
    go_wp2_with (first
      | (go_at_call 161; refine (number_end 4 (by omega) _ (hi.alloc _) h4).mono ?_; rintro e w1 ⟨rfl, hi1, st1⟩; unfold errV; have HR1 := (show Hid _ from (st1.block w.heap.size (by simp) (by have := hi.lt; omega) (fun e => by have := (hi.own.lt _ e).2; omega)).trans (heap_alloc_new w _)))
      | (refine wpList_store_row rfl 183 (.tmp 2) _ rfl w.heap.size _ rfl rfl 183 _ HR1.out sizeCode rfl ?_ ?_; kernel_rfl; rw [setRow_same HR1.out]))
    refine bodyPost_ret_by (results_row_tmp Tryz.results279 _ _ w.heap.size 183 _ (0, 0) _ rfl HR1.out Tryz.underlying183 rfl sizeCode) rfl (.inr ⟨HE.out, er.short, _, by simp [Errs.bad], rfl, hi1, (Step.alloc (Step.refl ..) _).trans st1⟩)
end
end Go.Proofs.YtgfbbcnnmoamnaaGreatDoor
