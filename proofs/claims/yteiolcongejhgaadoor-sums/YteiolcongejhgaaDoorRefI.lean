/- What the document's sums, and its sum, are. -/
import Derived.Test.YteiolcongejhgaaDoorRefH
namespace Go.Proofs.YteiolcongejhgaaDoor
open Go.RowKit

theorem own_some {w : World} {base : Nat} {e : TypeId} {v : Value} {n : Nat} {xs : List Value} (h : w.ownsRow base e 1 v n xs) (hn : 0 < n) : ∃ g cap, v = .slice (some ⟨g, 0, none⟩) n cap ∧ base ≤ g ∧ g < w.heap.size ∧ ∀ j, j < n → w.cell? ⟨g, j, none⟩ = xs[j]? := by
  rcases h.2 with ⟨_, h0⟩ | ⟨g, cap, cur, rfl, h1, hg, _, _, _, h4⟩
  · omega
  · refine ⟨g, cap, rfl, h1, lt_of_block hg, fun j hj => ?_⟩
    have e2 : cur.toList[j]? = (cur.toList.take (n * 1))[j]? := by rw [List.getElem?_take_of_lt (by omega)]
    rw [cell_of_row _ _ _ _ _ _ hg, ← Array.getElem?_toList, e2, h4]
theorem wvals_at (l : List W32) (j : Nat) (hj : j < l.length) : (wvals l)[j]? = some (.int .u32 ((l.getD j 0).toNat : Int)) := by
  simp [wvals, hj]
theorem info9 : (Tryd.prog.info? 9).map (fun i => (i.zero, i.size, i.bytes)) = some (some (.string ⟨#[]⟩), 1, 16) := by kernel_rfl

theorem words3_k (KS : List Value) (h : Hid (KS = wvals keys)) (w : World) :
    Calls Tryd.prog 22 #[.int .i64 3] w fun en w' => ∃ v, en = .returned v ∧ w'.ownsRow w.heap.size 37 1 v 64 KS ∧ Below w.heap.size w w' := by
  rw [h.out, ← roots3]; exact words3_any w
theorem words2_k (KS : List Value) (h : Hid (KS = wvals first8)) (w : World) :
    Calls Tryd.prog 22 #[.int .i64 2] w fun en w' => ∃ v, en = .returned v ∧ w'.ownsRow w.heap.size 37 1 v 8 KS ∧ Below w.heap.size w w' := by
  rw [h.out, ← roots2]; exact words2_any w

set_option maxHeartbeats 400000 in
theorem sums_any (s : ByteArray) (hs : s.size ≤ 140737488351232) (gl : Nat) (w : World) (hgl : gl < w.heap.size) (hcl : w.cell? ⟨gl, 0, none⟩ = some (.string s)) :
    Calls Tryd.prog 17 #[.slice (some ⟨gl, 0, none⟩) 1 1] w fun en w' => ∃ g cap, en = .returned (.slice (some ⟨g, 0, none⟩) 1 cap) ∧ w'.cell? ⟨g, 0, none⟩ = some (.string ⟨(sha s.data.toList).toArray⟩) ∧ Below w.heap.size w w' := by
  obtain ⟨i0, hi0, hz0, hz1, hz2⟩ := info_parts info9
  have HCL : Hid (w.cell? ⟨gl, 0, none⟩ = some (.string s)) := hcl
  clear hcl
  obtain ⟨S, HS⟩ := hid_intro (⟨(sha s.data.toList).toArray⟩ : ByteArray)
  rw [← HS.out]
  go_enter Tryd.func17, Tryd.ntmps17
  obtain ⟨K3, H3⟩ := hid_intro (wvals keys)
  obtain ⟨K2, H2⟩ := hid_intro (wvals first8)
  have tok : Hid True := trivial
  go_wp2_with (first
    | (go_at_call 22; have _t := tok; refine (words3_k K3 H3 _).mono ?_; rintro en w1 ⟨v1, rfl, hown1, hb1⟩; clear tok)
    | (go_at_call 22; refine (words2_k K2 H2 _).mono ?_; rintro en w2 ⟨v2, rfl, hown2, hb2⟩))
  have hown1' := own_below hown1 hb2
  have hz1' := hb1.size
  have hz2' := hb2.size
  obtain ⟨gk, capk, hv1, _, hgk, hkc⟩ := own_some hown1' (by omega)
  obtain ⟨gf, capf, hv2, _, hgf, hfc⟩ := own_some hown2 (by omega)
  subst hv1 hv2
  have hbw : Below w.heap.size w w2 := hb1.trans (hb2.mono hz1')
  have KC : Hid (∀ j, j < 64 → w2.cell? ⟨gk, j, none⟩ = some (.int .u32 ((keys.getD j 0).toNat : Int))) := fun j hj => (hkc j hj).trans (by rw [H3.out]; exact wvals_at keys j hj)
  have FC : Hid (∀ j, j < 8 → w2.cell? ⟨gf, j, none⟩ = some (.int .u32 ((first8.getD j 0).toNat : Int))) := fun j hj => (hfc j hj).trans (by rw [H2.out]; exact wvals_at first8 j hj)
  clear hown1 hown1' hown2 hkc hfc
  go_loopw [5, 6] (fun v q wr => ∃ k cap : Nat, ∃ ao : Option Addr, k ≤ 1 ∧ q = .int .i64 k ∧ v = .slice ao k cap ∧ wr.ownsRow w.heap.size 9 1 (.slice ao k cap) k (List.replicate k (.string S)) ∧ Below w.heap.size w wr ∧ (k = 0 → wr = w2)) (fun _ q _ => 1 - (intOf q).toNat)
  case atStart => exact ⟨0, 0, none, by omega, rfl, rfl, World.ownsRow_nil _ _ _ _, hbw, fun _ => rfl⟩
  case round =>
    obtain ⟨k, cap, ao, hk, rfl, rfl, hown, hl, hk0⟩ := hrel
    by_cases hlt : k < 1
    · obtain rfl : k = 0 := by omega
      obtain rfl := hk0 rfl
      have cl := (hbw.cell (p := ⟨gl, 0, none⟩) hgl).trans HCL.out
      have hsm := summed_any s hs gk capk gf capf wr hgk hgf KC.out FC.out
      rw [← HS.out] at hsm
      go_wp2_with (first
        | (go_at_call 23; refine hsm.mono ?_; rintro en w3 ⟨rfl, hb3⟩; have hown3 := own_below hown hb3; have hz3 := hb3.size)
        | (at_builtin; refine wpList_append_own _ rfl (.tmp 15) (.tmp 23) 44 rfl w.heap.size 9 i0 (.string ⟨#[]⟩) 1 16 Tryd.underlying44 hi0 hz0 hz1 hz2 rfl (by decide) _ 0 _ rfl (hown3.alloc _) ⟨w3.heap.size, 0, none⟩ 1 1 [.string S] rfl rfl (cell_one_new _ _ _) (by simp [Value.oneCell']) (by unfold maxLen; omega) (by omega) (by simp; omega) ?_; intro v' w4 hown4 hg4 _))
      obtain ⟨ao', cap', hv'⟩ := own_shape hown4
      have hb4 : Below w.heap.size w w4 := grown_below ((hl.trans (hb3.mono hl.size)).alloc (by omega) _) (hown3.alloc _) (Nat.le_refl _) (by simp; omega) hg4
      go_roundw
      case rel => exact ⟨1, cap', ao', by omega, rfl, hv', by rw [hv'] at hown4; simpa using hown4, hb4, fun h => by omega⟩
      case measure => simp [intOf]
    · obtain rfl : k = 1 := by omega
      obtain ⟨g, cap', hv, _, _, hc⟩ := own_some hown (by omega)
      have hc0 := hc 0 (by omega)
      simp only [Value.slice.injEq, true_and] at hv
      obtain ⟨rfl, rfl⟩ := hv
      clear hown hc hk0
      go_wp2
      go_ret
      exact ⟨g, cap, rfl, hc0, hl⟩

set_option maxHeartbeats 400000 in
theorem refSum_any (s : ByteArray) (hs : s.size ≤ 140737488351232) (w : World) :
    Calls Tryd.prog 8 #[.string s] w fun en w' => en = .returned (.string ⟨(hexL (sha s.data.toList)).toArray⟩) ∧ Below w.heap.size w w' := by
  obtain ⟨L, HL⟩ := hid_intro (sha s.data.toList)
  have hL : L.length = 32 := by rw [HL.out]; exact sha_len _
  have hsm := sums_any s hs w.heap.size (w.alloc (.cells #[.string s] 9)) (by simp) (by simp)
  rw [← HL.out] at hsm ⊢
  go_enter Tryd.func8, Tryd.ntmps8
  go_wp2_with (first
    | (go_at_call 17; refine hsm.mono ?_; rintro en w1 ⟨g, cap, rfl, hc1, hb1⟩; have hz1 := hb1.size; simp only [World.size_alloc] at hz1)
    | (go_at_call 16; refine (hex_any L hL _).mono ?_; rintro en w2 ⟨rfl, hb2⟩))
  go_ret
  exact ⟨rfl, (((Below.refl _ _).alloc (Nat.le_refl _) _).trans (hb1.mono (by simp))).trans (hb2.mono (by omega))⟩
end Go.Proofs.YteiolcongejhgaaDoor
