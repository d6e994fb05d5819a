/- The law: ReadLock of any text, PrintLock of any list. -/
import Derived.Test.YtjngbcbkapjkhaaGreatDoorLkU
namespace Go.Proofs.YtjngbcbkapjkhaaGreatDoor.Lk
open Go.RowKit Go.Proofs.YtjngbcbkapjkhaaGreatDoor

theorem plays_first (S D : ByteArray) (hS : S.size ≤ 1048576) (hD : D.size ≤ 1048576) (w : World) : Calls Tryz.prog 4 #[.slice (some ⟨w.heap.size + 1, 0, none⟩) 1 1, .int .i64 7, .int .i64 7] ((w.alloc (.cells #[.string ⟨#[97]⟩, .string ⟨#[49]⟩, .string D] 25 (0, 0))).alloc (.cells #[.int .i64 7, .int .i64 0, .string S, .string ⟨#[]⟩, .string ⟨#[]⟩, .slice none 0 0, .slice (some ⟨w.heap.size, 0, none⟩) 1 1, .bool false] 28 (0, 0))) fun r w' => r = .returned (.bool true) ∧ Below w.heap.size w w' := by
  have hb : Below w.heap.size w ((w.alloc (.cells #[.string ⟨#[97]⟩, .string ⟨#[49]⟩, .string D] 25 (0, 0))).alloc (.cells #[.int .i64 7, .int .i64 0, .string S, .string ⟨#[]⟩, .string ⟨#[]⟩, .slice none 0 0, .slice (some ⟨w.heap.size, 0, none⟩) 1 1, .bool false] 28 (0, 0))) := ((Below.refl _ w).alloc (Nat.le_refl _) _).alloc (by simp) _
  have hD' : (⟨D.data.toList.toArray⟩ : ByteArray) = D := by cases D; simp
  have hr : Row (w.alloc (.cells #[.string ⟨#[97]⟩, .string ⟨#[49]⟩, .string D] 25 (0, 0))) w.heap.size [⟨[97], [49], D.data.toList⟩] := ⟨by simp, fun j m hj => by
    match j, hj with
    | 0, hj =>
      have : m = ⟨[97], [49], D.data.toList⟩ := by simpa using hj.symm
      subst this
      refine ⟨cell_three_new w _ _ _ _ 0 _ rfl, cell_three_new w _ _ _ _ 1 _ rfl, ?_⟩
      rw [show (⟨(M.mk [97] [49] D.data.toList).d.toArray⟩ : ByteArray) = D from hD']
      exact cell_three_new w _ _ _ _ 2 _ rfl
    | j + 1, hj => simp at hj⟩
  have hlies := (Row.lies hr).below ((Below.refl _ _).alloc (Nat.le_refl _) (.cells #[.int .i64 7, .int .i64 0, .string S, .string ⟨#[]⟩, .string ⟨#[]⟩, .slice none 0 0, .slice (some ⟨w.heap.size, 0, none⟩) 1 1, .bool false] 28 (0, 0)))
  have hg := heap_alloc_new (w.alloc (.cells #[.string ⟨#[97]⟩, .string ⟨#[49]⟩, .string D] 25 (0, 0))) (.cells #[.int .i64 7, .int .i64 0, .string S, .string ⟨#[]⟩, .string ⟨#[]⟩, .slice none 0 0, .slice (some ⟨w.heap.size, 0, none⟩) 1 1, .bool false] 28 (0, 0))
  have hz : (w.alloc (.cells #[.string ⟨#[97]⟩, .string ⟨#[49]⟩, .string D] 25 (0, 0))).heap.size = w.heap.size + 1 := by simp
  rw [hz] at hg
  refine (plays_one (w.heap.size + 1) S [⟨[97], [49], D.data.toList⟩] (some ⟨w.heap.size, 0, none⟩) 1 _ hS (by simp) (fun m hm => ?_) (fun h => by cases h) hlies hg).mono fun e w' ⟨he, hw⟩ => ⟨he, hb.trans (hw.mono hb.size)⟩
  have : m = ⟨[97], [49], D.data.toList⟩ := by simpa using hm
  subst this
  exact ⟨by simp, by simp, by show D.data.toList.length ≤ _; rw [len_data]; exact hD⟩
set_option maxRecDepth 8000 in
set_option maxHeartbeats 1000000 in
theorem locksLaw (s : ByteArray) (l : List M) (ao : Option Addr) (cap : Nat) (w : World) (hs : s.size ≤ 1048576) (hl : l.length ≤ 1048576) (hf : Fit l) (hnil : ao = none → l = [] ∧ cap = 0) (hat : Lies w ao l) :
    Calls Tryz.prog 3 #[.string s, .slice ao l.length cap] w fun r w' => r = .returned (.bool true) ∧ Below w.heap.size w w' := by
  have HAT : Hid (Lies w ao l) := hat
  have HF : Hid (Fit l) := hf
  have HNIL := (show Hid _ from hnil)
  clear hat hf hnil
  have HP2 : Hid (∀ w1, Below w.heap.size w w1 → Calls Tryz.prog 4 #[.slice (some ⟨w1.heap.size, 0, none⟩) 1 1, .int .i64 7, .int .i64 7] (w1.alloc (.cells #[.int .i64 7, .int .i64 0, .string s, .string ⟨#[]⟩, .string ⟨#[]⟩, .slice none 0 0, .slice ao l.length cap, .bool false] 28 (0, 0))) fun r w' => r = .returned (.bool true) ∧ Below w.heap.size w w') := fun w1 h => by
    have h2 : Below w1.heap.size w1 (w1.alloc (.cells #[.int .i64 7, .int .i64 0, .string s, .string ⟨#[]⟩, .string ⟨#[]⟩, .slice none 0 0, .slice ao l.length cap, .bool false] 28 (0, 0))) := (Below.refl _ w1).alloc (Nat.le_refl _) _
    have h3 := h.trans (h2.mono h.size)
    exact (plays_one w1.heap.size s l ao cap _ hs hl HF.out HNIL.out ((HAT.out.below h).below h2) (heap_alloc_new w1 _)).mono fun e w' ⟨he, hw⟩ => ⟨he, h3.trans (hw.mono h3.size)⟩
  obtain ⟨n, HN⟩ := hid_intro l.length
  rw [← HN.out] at hl HP2 ⊢
  have HT1 : Hid True := trivial
  go_enter Tryz.func3, Tryz.ntmps3
  go_wp2_with (first
    | (go_at_call 4; clear HT1; refine (plays_first _ _ (by rw [ByteArray.size_append, ByteArray.size_append]; decide) (by decide) w).mono ?_; rintro e w1 ⟨rfl, hb1⟩; have HB1 := (show Hid (Below w.heap.size w w1) from hb1); clear hb1)
    | (go_at_call 4; refine (HP2.out _ HB1.out).mono ?_; rintro e w2 ⟨rfl, hb2⟩; have HB2 := (show Hid (Below w.heap.size w w2) from hb2); clear hb2))
  go_ret
  exact ⟨rfl, HB2.out⟩
end Go.Proofs.YtjngbcbkapjkhaaGreatDoor.Lk
