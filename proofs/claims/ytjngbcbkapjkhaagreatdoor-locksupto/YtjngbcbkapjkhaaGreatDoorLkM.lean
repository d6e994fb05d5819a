/- A lent list is looked at again. -/
import Derived.Test.YtjngbcbkapjkhaaGreatDoorLkL
namespace Go.Proofs.YtjngbcbkapjkhaaGreatDoor.Lk
open Go.RowKit Go.Proofs.YtjngbcbkapjkhaaGreatDoor

theorem run_eql_nil {P : Program} (w : World) (t e : TypeId) (a : Option Addr) (l c : Nat) (h : P.underlying t = some (.slice e)) : (binOp .eql t (.slice a l c) (.slice none 0 0)).run P w = .ok (.bool a.isNone) w := by
  simp [binOp, run_equal_slice_nil w t e a l c h]
set_option maxRecDepth 8000 in
theorem lent_nil (v : Value) (w : World) : Calls Tryz.prog 41 #[v, .slice none 0 0] w fun r w' => r = .returned (.slice none 0 0) ∧ w' = w := by
  have hq := fun w a l c => run_eql_nil (P := Tryz.prog) w 22 25 a l c Tryz.underlying22
  go_enter Tryz.func41, Tryz.ntmps41
  go_wp2
  go_ret
  exact ⟨rfl, rfl⟩
set_option maxRecDepth 8000 in
theorem lent_some (g n : Nat) (hn : n ≤ 1048576) (a : Addr) (cap : Nat) (w : World) : Calls Tryz.prog 41 #[.slice (some ⟨g, 0, none⟩) (n + 3) (n + 3), .slice (some a) n cap] w fun r w' => r = .returned (.slice (some ⟨g, 0, none⟩) n (n + 3)) ∧ w' = w := by
  have h1 : n ≤ n + 3 := by omega
  have hq := fun w a l c => run_eql_nil (P := Tryz.prog) w 22 25 a l c Tryz.underlying22
  go_enter Tryz.func41, Tryz.ntmps41
  go_wp2
  go_ret
  exact ⟨rfl, rfl⟩
/-- a list, its first i written over -/
def over (L : List M) (i : Nat) : List M := List.replicate i ov ++ L.drop i
theorem over_len (L : List M) {i : Nat} (h : i ≤ L.length) : (over L i).length = L.length := by simp [over]; omega
theorem over_get (L : List M) {i : Nat} : (over L i)[i]? = L[i]? := by
  unfold over; rw [List.getElem?_append_right (by simp)]; simp
theorem over_set (L : List M) {i : Nat} (h : i < L.length) : (over L i).set i ov = over L (i + 1) := by
  unfold over
  rw [List.set_append_right _ _ (by simp), List.length_replicate, Nat.sub_self, List.replicate_succ', List.append_assoc]
  congr 1
  rw [List.drop_eq_getElem_cons h]
  rfl
set_option maxRecDepth 8000 in
set_option maxHeartbeats 1000000 in
theorem whole_any (l : List M) (hl : l.length ≤ 1048576) (g : Nat) (ao : Option Addr) (cap B : Nat) (w : World) (hB : B ≤ g) (hr : RowIs w g (lent l 3)) (hat : Lies w ao l) :
    Calls Tryz.prog 42 #[.slice (some ⟨g, 0, none⟩) (l.length + 3) (l.length + 3), .slice ao l.length cap] w fun r w' => r = .returned (.bool true) ∧ Below B w w' := by
  have HC := locked_any l hl ao cap w hat
  have hgl := lt_of_block hr
  have HR0 : Hid (RowIs w g (lent l 3)) := hr
  have HLE := (show Hid _ from lent_len l (Nat.le_refl 3))
  clear hat hr
  obtain ⟨n, HN⟩ := hid_intro l.length
  rw [← HN.out] at hl HC HLE ⊢
  obtain ⟨L, HL⟩ := hid_intro (lent l 3)
  rw [← HL.out] at HC HR0 HLE
  go_enter Tryz.func42, Tryz.ntmps42
  go_wp2_with (go_at_call 39; refine HC.mono ?_; clear HC; rintro e w1 ⟨rfl, hr1, hb1⟩; have HR1 := (show Hid (RowIs w1 w.heap.size L) from hr1); clear hr1)
  go_loopw [6, 7] (fun vo vi wr => ∃ i : Nat, i ≤ n + 3 ∧ vo = .bool true ∧ vi = .int .i64 i ∧ Hid (RowIs wr g (over L i)) ∧ Hid (RowIs wr w.heap.size L) ∧ Below B w wr) (fun _ vi _ => n + 3 - (intOf vi).toNat)
  case atStart => exact ⟨0, by omega, rfl, rfl, by show RowIs w1 g (over L 0); rw [show over L 0 = L by simp [over]]; exact HR0.out.below hb1, HR1, hb1.mono (by omega)⟩
  case round =>
    clear HR1 hb1 HR0
    obtain ⟨i, hi, rfl, rfl, HR, HW, hb⟩ := hrel
    have hbs := hb.size
    by_cases hlt : i < n + 3
    · have hiL : i < L.length := by rw [HLE.out]; exact hlt
      obtain ⟨m, hm, d1, d2, d3⟩ := row_at HW.out hiL
      obtain ⟨c1, c2, c3⟩ := HR.out.row.at0 i m (by rw [over_get]; exact hm)
      have f1 := HR.out.free (i * 3)
      have f2 := HR.out.free (i * 3 + 1)
      have f3 := HR.out.free (i * 3 + 2)
      have hov := over_set L hiL
      have hol := over_len L (Nat.le_of_lt hiL)
      have HRS : Hid (∀ w', RowIs w' g (over L i) → RowIs (((w'.setCell ⟨g, i * 3, none⟩ (.string ⟨ov.n.toArray⟩)).setCell ⟨g, i * 3 + 1, none⟩ (.string ⟨ov.v.toArray⟩)).setCell ⟨g, i * 3 + 2, none⟩ (.string ⟨ov.d.toArray⟩)) g (over L (i + 1))) := fun w' h => by
        have := h.set i ov (by rw [hol]; exact hiL)
        rw [hov] at this; exact this
      have HWS : Hid (∀ w' x y z, RowIs w' w.heap.size L → RowIs (((w'.setCell ⟨g, i * 3, none⟩ x).setCell ⟨g, i * 3 + 1, none⟩ y).setCell ⟨g, i * 3 + 2, none⟩ z) w.heap.size L) := fun w' x y z h => by
        unfold RowIs at h ⊢
        rw [Below.heap_setCell _ _ _ _ (by show w.heap.size ≠ g; omega), Below.heap_setCell _ _ _ _ (by show w.heap.size ≠ g; omega), Below.heap_setCell _ _ _ _ (by show w.heap.size ≠ g; omega)]
        exact h
      clear hm hov hol hiL
      go_wp2
      go_quiet (fail)
      go_wp2
      go_roundw
      case rel => exact ⟨i + 1, by omega, rfl, by go_num, HRS.out _ HR.out, HWS.out _ _ _ _ HW.out, set3_below' (below_drewN hb _) hB _ _ _ _ _ _⟩
      case measure => simp [intOf]; omega
    · obtain rfl : i = n + 3 := by omega
      go_wp2
      go_ret
      exact ⟨rfl, hb⟩
end Go.Proofs.YtjngbcbkapjkhaaGreatDoor.Lk
