/- The owner writes a list full. -/
import Derived.Test.YtjngbcbkapjkhaaGreatDoorLkN
namespace Go.Proofs.YtjngbcbkapjkhaaGreatDoor.Lk
open Go.RowKit Go.Proofs.YtjngbcbkapjkhaaGreatDoor

set_option maxRecDepth 8000 in
theorem mark_zero (w : World) : Calls Tryz.prog 17 #[.int .i64 0] w fun r w' => r = .returned (.string ⟨#[35]⟩) ∧ w' = w := by
  go_enter Tryz.func17, Tryz.ntmps17
  go_wp2
  go_loopw [3, 4] (fun vs vi wr => vs = .string ⟨#[35]⟩ ∧ vi = .int .i64 0 ∧ wr = w) (fun _ _ _ => 0)
  case atStart => exact ⟨rfl, rfl, rfl⟩
  case round =>
    obtain ⟨rfl, rfl, hw⟩ := hrel
    rw [hw]; clear hw
    go_wp2
    go_ret
    exact ⟨rfl, rfl⟩
theorem own_set3 {w : World} {B g n cap : Nat} {L : List M} (h : w.ownsRow B 25 3 (.slice (some ⟨g, 0, none⟩) n cap) n (mcells L)) (i : Nat) (m : M) (hi : i < L.length) :
    (((w.setCell ⟨g, i * 3, none⟩ (.string ⟨m.n.toArray⟩)).setCell ⟨g, i * 3 + 1, none⟩ (.string ⟨m.v.toArray⟩)).setCell ⟨g, i * 3 + 2, none⟩ (.string ⟨m.d.toArray⟩)).ownsRow B 25 3 (.slice (some ⟨g, 0, none⟩) n cap) n (mcells (L.set i m)) := by
  have hln := h.1
  refine ⟨by rw [mcells_len] at hln ⊢; simpa using hln, ?_⟩
  rcases h.2 with ⟨hv, _⟩ | ⟨b, cap', cur, hv, h1, hb, h2, h3, h4, h5⟩
  · cases hv
  · injection hv with hv _ hc
    injection hv with hv
    injection hv with hv
    subst hv hc
    have e1 := heap_setCell_same _ _ (i * 3) _ _ (.string ⟨m.n.toArray⟩) hb
    have e2 := heap_setCell_same _ _ (i * 3 + 1) _ _ (.string ⟨m.v.toArray⟩) e1
    have e3 := heap_setCell_same _ _ (i * 3 + 2) _ _ (.string ⟨m.d.toArray⟩) e2
    refine .inr ⟨g, cap, _, rfl, h1, e3, h2, h3, by simpa using h4, ?_⟩
    rw [← mcells_set L i m hi, ← h5]
    simp [List.take_set]
theorem own_cells {w : World} {B g n cap : Nat} {L : List M} (h : w.ownsRow B 25 3 (.slice (some ⟨g, 0, none⟩) n cap) n (mcells L)) (hn : n = L.length) {i : Nat} (hi : i < n) : ∃ m, w.cell? ⟨g, i * 3, none⟩ = some (.string ⟨(M.n m).toArray⟩) ∧ w.cell? ⟨g, i * 3 + 1, none⟩ = some (.string ⟨m.v.toArray⟩) ∧ w.cell? ⟨g, i * 3 + 2, none⟩ = some (.string ⟨m.d.toArray⟩) ∧ w.frozen? ⟨g, i * 3, none⟩ = false ∧ w.frozen? ⟨g, i * 3 + 1, none⟩ = false ∧ w.frozen? ⟨g, i * 3 + 2, none⟩ = false := by
  subst hn
  have hr := Row.of_own h
  obtain ⟨c1, c2, c3⟩ := hr.at0 i _ (List.getElem?_eq_getElem hi)
  rcases h.2 with ⟨hv, _⟩ | ⟨b, cap', cur, hv, h1, hb, _⟩
  · cases hv
  · injection hv with hv _ hc
    injection hv with hv
    injection hv with hv
    subst hv
    exact ⟨_, c1, c2, c3, frozen_of_row _ _ _ _ _ hb, frozen_of_row _ _ _ _ _ hb, frozen_of_row _ _ _ _ _ hb⟩
/-- a list, its first i marked -/
def marked (L : List M) (i : Nat) : List M := List.replicate i mm ++ L.drop i
theorem marked_len (L : List M) {i : Nat} (h : i ≤ L.length) : (marked L i).length = L.length := by simp [marked]; omega
theorem marked_set (L : List M) {i : Nat} (h : i < L.length) : (marked L i).set i mm = marked L (i + 1) := by
  unfold marked
  rw [List.set_append_right _ _ (by simp), List.length_replicate, Nat.sub_self, List.replicate_succ', List.append_assoc]
  congr 1
  rw [List.drop_eq_getElem_cons h]
  rfl
theorem marked_end (L : List M) : marked L L.length = List.replicate L.length mm := by simp [marked]
theorem marked_zero (L : List M) : marked L 0 = L := by simp [marked]
end Go.Proofs.YtjngbcbkapjkhaaGreatDoor.Lk
