/- What the document's prime, parts and above answer. -/
import Derived.Test.YteiolcongejhgaaDoorRefMath
import Derived.Test.YteiolcongejhgaaDoorSumC
import Derived.Deep.OwnRows
namespace Go.Proofs.YteiolcongejhgaaDoor
open Go.RowKit

/-- a row of 64-bit numbers -/
def rowu (l : List Nat) : Array Value := (l.map fun (x : Nat) => Value.int .u64 (x : Int)).toArray
theorem rowu_size (l : List Nat) : (rowu l).size = l.length := by simp [rowu]
theorem rowu_get (l : List Nat) (j : Nat) (h : j < l.length) : (rowu l)[j]? = some (.int .u64 ((l.getD j 0 : Nat) : Int)) := by
  simp [rowu, h]
theorem rowu_set (l : List Nat) (j x : Nat) : (rowu l).setIfInBounds j (.int .u64 (x : Int)) = rowu (l.set j x) := by
  simp [rowu, List.map_set]
theorem rowu_step {wr : World} {g k : Nat} {l : List Nat} {T : TypeId} {v : Int} (x : Nat) (hv : v = (x : Int)) (h : wr.heap[g]? = some (.cells (rowu l) T (0, 0))) : (wr.setCell ⟨g, k, none⟩ (.int .u64 v)).heap[g]? = some (.cells (rowu (l.set k x)) T (0, 0)) := by
  subst hv; rw [heap_setCell_same _ _ _ _ _ _ h, rowu_set]
theorem rowu_cell {wr : World} {g : Nat} {l : List Nat} {T : TypeId} (k : Nat) (h : wr.heap[g]? = some (.cells (rowu l) T (0, 0))) (hk : k < l.length) : wr.cell? ⟨g, k, none⟩ = some (.int .u64 ((l.getD k 0 : Nat) : Int)) :=
  (cell_of_row wr g k _ _ _ h).trans (rowu_get _ k hk)

theorem isP_false (n d : Nat) (h1 : 2 ≤ d) (h2 : d * d ≤ n) (hn : n ≤ 312) (h : n % d = 0) : isP n = false := by
  have hd : d < 18 := by
    rcases Nat.lt_or_ge d 18 with h | h
    · exact h
    · have : 18 * 18 ≤ d * d := Nat.mul_le_mul h h
      omega
  unfold isP
  rw [List.all_eq_false]
  exact ⟨d, by simpa using hd, by simp [h, h2]; omega⟩
theorem isP_true (n d : Nat) (h2 : n < d * d) (h : ∀ e, 2 ≤ e → e < d → n % e ≠ 0) : isP n = true := by
  unfold isP
  rw [List.all_eq_true]
  intro e he
  by_cases h1 : e < 2
  · simp [h1]
  · by_cases h3 : e < d
    · simp [h e (by omega) h3]
    · have : d * d ≤ e * e := Nat.mul_le_mul (by omega) (by omega)
      have : n < e * e := by omega
      simp [this]

set_option maxHeartbeats 400000 in
theorem prime_any (n : Nat) (hn : n ≤ 312) (w : World) :
    Calls Tryd.prog 28 #[.int .i64 n] w fun en w' => en = .returned (.bool (isP n)) ∧ w' = w := by
  go_enter Tryd.func28, Tryd.ntmps28
  go_wp2
  go_loop [3] (fun i => ∃ d : Nat, 2 ≤ d ∧ d ≤ 18 ∧ i = .int .i64 d ∧ Hid (∀ e, 2 ≤ e → e < d → n % e ≠ 0)) (fun i => 18 - (intOf i).toNat)
  case atStart => exact ⟨2, by omega, by omega, rfl, fun e h1 h2 => by omega⟩
  case round =>
    obtain ⟨d, h1, h2, rfl, H⟩ := hrel
    by_cases hlt : d * d ≤ n
    · have hd : d < 18 := by
        rcases Nat.lt_or_ge d 18 with h | h
        · exact h
        · have : 18 * 18 ≤ d * d := Nat.mul_le_mul h h
          omega
      have hi : (d : Int) * (d : Int) ≤ (n : Int) := by exact_mod_cast hlt
      have h0 : (0 : Int) ≤ (d : Int) * (d : Int) := by exact_mod_cast Nat.zero_le (d * d)
      by_cases hz : n % d = 0
      · have hz' : (n : Int) % (d : Int) = 0 := by exact_mod_cast hz
        have hp : Hid (isP n = false) := isP_false n d h1 hlt hn hz
        go_wp2
        go_ret
        exact ⟨by rw [hp.out]; rfl, rfl⟩
      · have hz' : ((n : Int) % (d : Int) == 0) = false := by
          simp only [beq_eq_false_iff_ne, ne_eq]
          intro h
          exact hz (by exact_mod_cast h)
        have H2 : Hid (∀ e, 2 ≤ e → e < d + 1 → n % e ≠ 0) := fun e h3 h4 => by
          rcases Nat.lt_or_ge e d with h5 | h5
          · exact H.out e h3 h5
          · obtain rfl : e = d := by omega
            exact hz
        clear hz hlt H
        go_wp2
        go_round
        case rel => exact ⟨d + 1, by omega, by omega, by go_num, H2⟩
        case measure => simp [intOf]; omega
    · have hi : (n : Int) < (d : Int) * (d : Int) := by exact_mod_cast Nat.lt_of_not_le hlt
      have hdd : (d : Int) * (d : Int) ≤ 324 := by
        have h3 : d * d ≤ 18 * 18 := Nat.mul_le_mul h2 h2
        have h4 : ((d * d : Nat) : Int) ≤ 324 := by omega
        rwa [Int.natCast_mul] at h4
      have hp : Hid (isP n = true) := isP_true n d (Nat.lt_of_not_le hlt) H.out
      clear hlt H
      have hi' : ¬ ((d : Int) * (d : Int) ≤ (n : Int)) := by omega
      have h0 : (0 : Int) ≤ (d : Int) * (d : Int) := by exact_mod_cast Nat.zero_le (d * d)
      clear hi
      go_wp2
      go_ret
      exact ⟨by rw [hp.out]; rfl, rfl⟩

set_option maxHeartbeats 400000 in
theorem parts_any (n : Nat) (hn : n < 18446744073709551616) (w : World) :
    Calls Tryd.prog 38 #[.int .u64 n] w fun en w' => en = .returned (.slice (some ⟨w.heap.size, 0, none⟩) 4 4) ∧ w' = w.alloc (.cells (rowu (partsF n)) 49 (0, 0)) := by
  go_enter Tryd.func38, Tryd.ntmps38
  go_wp2
  go_ret
  refine ⟨rfl, ?_⟩
  simp [rowu, partsF]

theorem info49 : (Tryd.prog.info? 49).map (fun i => (i.zero, i.size, i.bytes)) = some (some (.int .u64 0), 1, 8) := by kernel_rfl
theorem made_u64 (n : Nat) : madeCells #[.int .u64 0] n = rowu (List.replicate n 0) := by
  apply Array.ext
  · simp [madeCells, rowu]
  · intro i h1 h2
    simp [madeCells, rowu, Nat.mod_one]
theorem make_u64 (n : Nat) (L : Int) (hL : L = n) (hn : n ≤ 1000) (w : World) :
    (Instr.makeSlice 65 (.int .i64 L) (.int .i64 L)).run Tryd.prog w = .ok (.slice (some ⟨w.heap.size, 0, none⟩) n n) (w.alloc (.cells (rowu (List.replicate n 0)) 49 (0, 0))) := by
  subst hL
  rw [run_make_row' 65 49 (.int .u64 0) 8 Tryd.underlying65 info49 rfl .i64 .i64 n (by omega) (by omega) w, made_u64]

set_option maxHeartbeats 400000 in
theorem above_any (a : List Nat) (n d : Nat) (g : Nat) (w : World) (ha : a.length ≤ 20) (hd : 2 * d < a.length) (hn : n < 1000) (hg : w.heap[g]? = some (.cells (rowu a) 49 (0, 0))) :
    Calls Tryd.prog 40 #[.slice (some ⟨g, 0, none⟩) a.length a.length, .int .i64 n, .int .i64 d] w fun en w' => en = .returned (.bool (aboveF a n d)) ∧ Below w.heap.size w w' := by
  obtain ⟨l, HL⟩ : ∃ l, Hid (l = a.length) := ⟨_, rfl⟩
  rw [← HL.out] at ha hd ⊢
  have mk := fun w => make_u64 l (l : Int) rfl (by omega) w
  have hz := rowu_cell (T := 49) (2 * d) (heap_alloc_new w (.cells (rowu (List.replicate l 0)) 49 (0, 0))) (by simp; omega)
  have hzf := frozen_of_row (w.alloc (.cells (rowu (List.replicate l 0)) 49 (0, 0))) w.heap.size (2 * d) _ _ (heap_alloc_new w _)
  go_enter Tryd.func40, Tryd.ntmps40
  go_wp2
  rw [rowu_set]
  obtain ⟨W, HW⟩ : ∃ W, Hid (W = w.alloc (.cells (rowu ((List.replicate l 0).set (2 * d) n)) 49 (0, 0))) := ⟨_, rfl⟩
  rw [← HW.out]
  have hbl : Below w.heap.size w W := by rw [HW.out]; exact (Below.refl _ _).alloc (Nat.le_refl _) _
  have hwant : W.heap[w.heap.size]? = some (.cells (rowu (wantF l n d)) 49 (0, 0)) := by rw [HW.out]; exact heap_alloc_new w _
  have hga : W.heap[g]? = some (.cells (rowu a) 49 (0, 0)) := by rw [HW.out]; exact alloc_keeps hg
  have hwl : (wantF l n d).length = l := by simp [wantF]
  have HA : Hid (aboveF a n d = cmpF a (wantF l n d) l) := by unfold aboveF; rw [← HL.out]; rfl
  clear hz hzf mk
  go_loopw [8] (fun i wr => ∃ k m : Nat, k ≤ l ∧ i = .int .i64 ((k : Int) - 1) ∧ wr = W.drewN m ∧ Hid (aboveF a n d = cmpF a (wantF l n d) k)) (fun i _ => (intOf i + 1).toNat)
  case atStart => exact ⟨l, 0, Nat.le_refl _, rfl, rfl, HA⟩
  case round =>
    obtain ⟨k, m, hk, rfl, rfl, H⟩ := hrel
    clear HA
    match k, hk, H with
    | 0, hk, H =>
      go_wp2
      go_ret
      exact ⟨by rw [H.out]; rfl, below_drewN hbl _⟩
    | j + 1, hk, H =>
      have ej : ((j + 1 : Nat) : Int) - 1 = (j : Int) := by omega
      rw [ej]
      have ca := rowu_cell j hga (by have := HL.out; omega)
      have cw := rowu_cell j hwant (by rw [hwl]; omega)
      obtain ⟨x, HX⟩ : ∃ x, Hid (x = a.getD j 0) := ⟨_, rfl⟩
      obtain ⟨y, HY⟩ : ∃ y, Hid (y = (wantF l n d).getD j 0) := ⟨_, rfl⟩
      rw [← HX.out] at ca
      rw [← HY.out] at cw
      have HC : Hid (aboveF a n d = if x = y then cmpF a (wantF l n d) j else decide (y < x)) := by rw [H.out, HX.out, HY.out]; rfl
      clear H hga hwant ej
      by_cases hxy : x = y
      · subst hxy
        go_wp2
        go_quiet (fail)
        go_wp2
        go_roundw
        case rel => exact ⟨j, _, by omega, rfl, rfl, by show aboveF a n d = cmpF a (wantF l n d) j; rw [HC.out]; simp⟩
        case measure => simp [intOf]
      · have hne : ((x : Int) != (y : Int)) = true := by simp; omega
        go_wp2
        go_quiet (fail)
        go_wp2
        go_quiet (fail)
        go_wp2
        go_ret
        exact ⟨by rw [HC.out, if_neg hxy]; rfl, below_drewN (below_drewN (below_drewN hbl _) _) _⟩
end Go.Proofs.YteiolcongejhgaaDoor
