/- The law's walk: the program's sum is the document's, at every text, and that of abc is the known one. -/
import Derived.Test.YteiolcongejhgaaDoorRefI
namespace Go.Proofs.YteiolcongejhgaaDoor
open Go.RowKit

theorem abc_sum : hexL (sha [97, 98, 99]) = [98, 97, 55, 56, 49, 54, 98, 102, 56, 102, 48, 49, 99, 102, 101, 97, 52, 49, 52, 49, 52, 48, 100, 101, 53, 100, 97, 101, 50, 50, 50, 51, 98, 48, 48, 51, 54, 49, 97, 51, 57, 54, 49, 55, 55, 97, 57, 99, 98, 52, 49, 48, 102, 102, 54, 49, 102, 50, 48, 48, 49, 53, 97, 100] := by decide +kernel

set_option maxHeartbeats 400000 in
theorem summedLaw (s : ByteArray) (hs : s.size ≤ 140737488351232) (w : World) (hK : KeysAt w) :
    Calls Tryd.prog 5 #[.string s] w fun en w' => en = .returned (.bool true) ∧ Below w.heap.size w w' := by
  obtain ⟨L, HL⟩ := hid_intro (⟨(hexL (sha s.data.toList)).toArray⟩ : ByteArray)
  have h1 := sum_any s hs w hK
  have h2 := fun w => refSum_any s hs w
  rw [← HL.out] at h1
  simp only [← HL.out] at h2
  go_enter Tryd.func5, Tryd.ntmps5
  go_wp2_with (first
    | (go_at_call 4; refine h1.mono ?_; rintro en w1 ⟨rfl, hb1⟩)
    | (go_at_call 8; refine (h2 _).mono ?_; rintro en w2 ⟨rfl, hb2⟩))
  go_ret
  exact ⟨rfl, hb1.trans (hb2.mono hb1.size)⟩

set_option maxHeartbeats 400000 in
theorem sumsLaw (s : ByteArray) (hs : s.size ≤ 140737488351232) (w : World) (hK : KeysAt w) :
    Calls Tryd.prog 3 #[.string s] w fun en w' => en = .returned (.bool true) ∧ Below w.heap.size w w' := by
  have h1 := sum_any ⟨#[97, 98, 99]⟩ (by decide) w hK
  rw [abc_sum] at h1
  go_enter Tryd.func3, Tryd.ntmps3
  go_wp2_with (first
    | (go_at_call 4; refine h1.mono ?_; rintro en w1 ⟨rfl, hb1⟩; have hK1 := hK.below hb1 hK.1)
    | (go_at_call 5; refine (summedLaw s hs _ hK1).mono ?_; rintro en w2 ⟨rfl, hb2⟩))
  go_ret
  exact ⟨rfl, hb1.trans (hb2.mono hb1.size)⟩
end Go.Proofs.YteiolcongejhgaaDoor
