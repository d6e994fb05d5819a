/- Lists that are lent. -/
import Derived.Test.YtjngbcbkapjkhaaGreatDoorLkK
namespace Go.Proofs.YtjngbcbkapjkhaaGreatDoor.Lk
open Go.RowKit Go.Proofs.YtjngbcbkapjkhaaGreatDoor

theorem lies_cells {w : World} {ao : Option Addr} {l : List M} (h : Lies w ao l) (hn : 0 < l.length) : ∃ ad, ao = some ad ∧ ∀ j v, (mcells l)[j]? = some v → w.cell? (ad.add j) = some v := by
  rcases h with h | ⟨g, o, rfl, hg, hc⟩
  · rw [h] at hn; simp at hn
  · refine ⟨_, rfl, fun j v hj => ?_⟩
    have hjl : j < l.length * 3 := by
      have := (List.getElem?_eq_some_iff.1 hj).1
      rw [mcells_len] at this; exact this
    have hadd : (⟨g, o, none⟩ : Addr).add j = ⟨g, o + j, none⟩ := by unfold Addr.add; split <;> simp_all
    rw [hadd]
    obtain ⟨m, hm⟩ : ∃ m, l[j / 3]? = some m := ⟨l[j / 3]'(by omega), List.getElem?_eq_getElem _⟩
    obtain ⟨c1, c2, c3⟩ := hc _ m hm
    obtain ⟨d1, d2, d3⟩ := mcells_get l _ m hm
    rcases (by omega : j = j / 3 * 3 ∨ j = j / 3 * 3 + 1 ∨ j = j / 3 * 3 + 2) with e | e | e
    · rw [e] at hj; rw [d1] at hj; rw [e, ← hj]; exact c1
    · rw [e] at hj; rw [d2] at hj; rw [e, ← hj, ← Nat.add_assoc]; exact c2
    · rw [e] at hj; rw [d3] at hj; rw [e, ← hj, ← Nat.add_assoc]; exact c3
theorem own_is {w : World} {B g k : Nat} {l : List M} (h : w.ownsRow B 25 3 (.slice (some ⟨g, 0, none⟩) k k) k (mcells l)) : RowIs w g l := by
  rcases h.2 with ⟨hv, _⟩ | ⟨b, cap, cur, hv, h1, hb, h2, h3, h4, h5⟩
  · cases hv
  · injection hv with hv _ hc
    injection hv with hv
    injection hv with hv
    subst hv hc
    unfold RowIs
    rw [hb, ← h5, List.take_of_length_le (by simp; omega)]
theorem row_at {w : World} {g : Nat} {l : List M} (h : RowIs w g l) {i : Nat} (hi : i < l.length) : ∃ m, l[i]? = some m ∧ w.cell? ⟨g, i * 3, none⟩ = some (.string ⟨m.n.toArray⟩) ∧ w.cell? ⟨g, i * 3 + 1, none⟩ = some (.string ⟨m.v.toArray⟩) ∧ w.cell? ⟨g, i * 3 + 2, none⟩ = some (.string ⟨m.d.toArray⟩) :=
  ⟨l[i], List.getElem?_eq_getElem hi, h.row.at0 i _ (List.getElem?_eq_getElem hi)⟩
theorem copy_mods {w : World} {g : Nat} {L : List M} (hr : RowIs w g L) (l : List M) (ao : Option Addr) (cap dCap k : Nat) (hk : k = L.length) (h : Lies w ao l) (hlen : l.length ≤ L.length) {B : Nat} {w0 : World} (hb : Below B w0 w) (hB : B ≤ g) :
    ∃ w', (Builtin.copy_ #[22, 22] 3 #[.slice (some ⟨g, 0, none⟩) k dCap, .slice ao l.length cap]).run Tryz.prog w = .ok (.int .i64 (l.length : Int)) w' ∧ RowIs w' g (l ++ L.drop l.length) ∧ Below B w0 w' := by
  subst hk
  have hm : Nat.min l.length L.length = l.length := Nat.min_eq_left hlen
  by_cases h0 : l.length = 0
  · have e : l = [] := List.length_eq_zero_iff.1 h0
    subst e
    refine ⟨w, ?_, by simpa using hr, hb⟩
    exact run_copy_noneN (P := Tryz.prog) w 22 22 3 25 (some ⟨g, 0, none⟩) ao L.length dCap 0 cap 3 Tryz.underlying22 sizeLocked hm
  · obtain ⟨ad, rfl, hsrc⟩ := lies_cells h (by omega)
    have hrun := run_copy_rowN (P := Tryz.prog) w 22 22 3 25 g 0 L.length dCap ad l.length cap 3 l.length (mcells L).toArray 25 (mcells l) Tryz.underlying22 sizeLocked hr hm (mcells_len l) hsrc (by simp [mcells_len]; omega) (mcells_one l)
    refine ⟨_, hrun, ?_, below_setRow hb hB _⟩
    have e : mcells (l ++ L.drop l.length) = mcells l ++ (mcells L).drop (mcells l).length := by
      have e2 : mcells L = mcells (L.take l.length) ++ mcells (L.drop l.length) := by rw [← mcells_append, List.take_append_drop]
      have e3 : ((mcells L).drop (mcells l).length) = mcells (L.drop l.length) := by
        rw [e2, List.drop_left' (by rw [mcells_len, mcells_len, List.length_take]; omega)]
      rw [mcells_append, e3]
    have := setRow_heap w g _ (mcells (l ++ L.drop l.length)).toArray 25 _ hr
    unfold RowIs
    rw [← this, e]
    simp
theorem set3_below' {B : Nat} {a w : World} (h : Below B a w) {g : Nat} (hg : B ≤ g) (i j k : Nat) (x y z : Value) : Below B a (((w.setCell ⟨g, i, none⟩ x).setCell ⟨g, j, none⟩ y).setCell ⟨g, k, none⟩ z) := ((h.setCell hg x).setCell hg y).setCell hg z
/-- a lent list behind k of its spares -/
def lent (l : List M) (k : Nat) : List M := l ++ (List.replicate k sp ++ List.replicate (3 - k) zm)
theorem lent_len (l : List M) {k : Nat} (h : k ≤ 3) : (lent l k).length = l.length + 3 := by simp [lent]; omega
theorem lent_step (l : List M) {k : Nat} (h : k < 3) : (lent l k).set (l.length + k) sp = lent l (k + 1) := by
  have e : List.replicate (3 - k) zm = zm :: List.replicate (3 - (k + 1)) zm := by rw [show 3 - k = 3 - (k + 1) + 1 by omega, List.replicate_succ]
  have e2 : List.replicate (k + 1) sp = List.replicate k sp ++ [sp] := by rw [List.replicate_succ']
  unfold lent
  rw [e, e2, List.set_append_right _ _ (by omega), show l.length + k - l.length = k by omega, List.set_append_right _ _ (by simp)]
  simp
set_option maxRecDepth 8000 in
set_option maxHeartbeats 1000000 in
theorem locked_any (l : List M) (hl : l.length ≤ 1048576) (ao : Option Addr) (cap : Nat) (w : World) (hat : Lies w ao l) :
    Calls Tryz.prog 39 #[.slice ao l.length cap] w fun r w' => r = .returned (.slice (some ⟨w.heap.size, 0, none⟩) (l.length + 3) (l.length + 3)) ∧ RowIs w' w.heap.size (lent l 3) ∧ Below w.heap.size w w' := by
  have HAT : Hid (Lies w ao l) := hat
  clear hat
  obtain ⟨i0, hi0, hz0, hz1, hz2⟩ := info_parts infoLocked
  have HLE := (show Hid _ from fun (k : Nat) (h : k ≤ 3) => lent_len l h)
  have HST := (show Hid _ from fun (k : Nat) (h : k < 3) => lent_step l h)
  obtain ⟨n, HN⟩ := hid_intro l.length
  rw [← HN.out] at hl HLE HST ⊢
  go_enter Tryz.func39, Tryz.ntmps39
  go_wp2_with (first
    | (at_make; refine wpList_make_full _ rfl _ _ 22 rfl w.heap.size 25 i0 (.agg #[.string ⟨#[]⟩, .string ⟨#[]⟩, .string ⟨#[]⟩]) 3 Tryz.underlying22 hi0 hz0 hz1 .i64 .i64 _ _ (n + 3) rfl rfl (by omega) (by omega) (by rw [hz2]; omega) (by unfold maxLen; omega) (Nat.le_refl _) ?_; intro w1 hown1 hg1; have hr1 : RowIs w1 w.heap.size (List.replicate (n + 3) zm) := own_is (by rw [show (madeCells (Value.agg #[.string ⟨#[]⟩, .string ⟨#[]⟩, .string ⟨#[]⟩]).cells ((n + 3) * 3)).toList = mcells (List.replicate (n + 3) zm) from made_zero (n + 3)] at hown1; exact hown1); have hb1 : Below w.heap.size w w1 := (Below.refl _ w).grown hg1 (Nat.le_refl _) (fun k hk => by cases hk); have HR1 := (show Hid (RowIs w1 w.heap.size (List.replicate (n + 3) zm)) from hr1); clear hown1 hg1 hr1))
  obtain ⟨w2, hrun, hr2, hb2⟩ := copy_mods HR1.out l ao cap (n + 3) (n + 3) (by simp) (HAT.out.below hb1) (by simp; have := HN.out; omega) hb1 (Nat.le_refl _)
  rw [← HN.out] at hrun
  have HR2 : Hid (RowIs w2 w.heap.size (lent l 0)) := by
    have e : l ++ (List.replicate (n + 3) zm).drop l.length = lent l 0 := by rw [← HN.out]; simp [lent]
    rw [← e]; exact hr2
  rw [hrun]
  clear hrun hr2 HR1
  have hb := hb2
  clear hb1 hb2
  go_wp2
  go_loopw [4] (fun vi wr => ∃ k : Nat, k ≤ 3 ∧ vi = .int .i64 ((n + k : Nat) : Int) ∧ Hid (RowIs wr w.heap.size (lent l k)) ∧ Below w.heap.size w wr) (fun vi _ => n + 3 - (intOf vi).toNat)
  case atStart => exact ⟨0, by omega, rfl, HR2, hb⟩
  case round =>
    clear hb HR2
    obtain ⟨k, hk, rfl, HR, hb⟩ := hrel
    by_cases hlt : k < 3
    · have hrow := row_at HR.out (i := n + k) (by rw [HLE.out k hk]; omega)
      obtain ⟨m, _, c1, c2, c3⟩ := hrow
      have f1 := HR.out.free ((n + k) * 3)
      have f2 := HR.out.free ((n + k) * 3 + 1)
      have f3 := HR.out.free ((n + k) * 3 + 2)
      have HR' : Hid (RowIs (((wr.setCell ⟨w.heap.size, (n + k) * 3, none⟩ (.string ⟨sp.n.toArray⟩)).setCell ⟨w.heap.size, (n + k) * 3 + 1, none⟩ (.string ⟨sp.v.toArray⟩)).setCell ⟨w.heap.size, (n + k) * 3 + 2, none⟩ (.string ⟨sp.d.toArray⟩)) w.heap.size (lent l (k + 1))) := by
        have := HR.out.set (n + k) sp (by rw [HLE.out k hk]; omega)
        rw [HST.out k hlt] at this; exact this
      obtain ⟨i, HI⟩ := hid_intro (n + k)
      rw [← HI.out] at c1 c2 c3 f1 f2 f3 HR' ⊢
      have hin : i < n + 3 := by have := HI.out; omega
      go_wp2
      go_roundw
      case rel =>
        have := HI.out
        refine ⟨k + 1, by omega, by go_num, HR', set3_below' hb (Nat.le_refl _) _ _ _ _ _ _⟩
      case measure => have := HI.out; simp [intOf]; omega
    · obtain rfl : k = 3 := by omega
      go_wp2
      go_ret
      exact ⟨rfl, HR.out, hb⟩
end Go.Proofs.YtjngbcbkapjkhaaGreatDoor.Lk
