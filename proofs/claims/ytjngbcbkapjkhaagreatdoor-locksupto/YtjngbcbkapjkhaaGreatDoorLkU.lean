/- A step of a script, a script of one step. -/
import Derived.Test.YtjngbcbkapjkhaaGreatDoorLkS
namespace Go.Proofs.YtjngbcbkapjkhaaGreatDoor.Lk
open Go.RowKit Go.Proofs.YtjngbcbkapjkhaaGreatDoor

theorem Ask.below {w w' : World} {B p : Nat} {s : ByteArray} {l : List M} {ao : Option Addr} {cap : Nat} (h : Ask w B p s l ao cap) (hb : Below w.heap.size w w') : Ask w' B p s l ao cap :=
  ⟨h.hs, h.hl, h.fit, h.hnil, h.lies.below hb, (hb.block p (lt_of_block h.blk)).trans h.blk, h.hBp, h.low⟩
/-- the step: a call of ReadLock and of PrintLock -/
def opV (s : ByteArray) (m : Value) : Array Value := #[.int .i64 7, .int .i64 0, .string s, .string ⟨#[]⟩, .string ⟨#[]⟩, .slice none 0 0, m, .bool false]
set_option maxRecDepth 8000 in
set_option maxHeartbeats 1000000 in
theorem step_any (B p : Nat) (s : ByteArray) (l : List M) (ao : Option Addr) (cap : Nat) (w : World) (hA : Ask w B p s l ao cap) :
    Calls Tryz.prog 5 #[.pointer (some ⟨p, 0, none⟩), .agg (opV s (.slice ao l.length cap))] w fun r w' => r = .returned (.bool true) ∧ Below B w w' ∧ ∃ k v, k ≤ 10 ∧ Kept w' B p k v := by
  have hb : Below w.heap.size w (w.alloc (.cells (opV s (.slice ao l.length cap)) 28 (0, 0))) := (Below.refl _ w).alloc (Nat.le_refl _) _
  have hB : B ≤ w.heap.size := by have := hA.hBp; have := lt_of_block hA.blk; omega
  have HC := locks_any B p s l ao cap _ (hA.below hb)
  have HB := (show Hid (Below w.heap.size w (w.alloc (.cells (opV s (.slice ao l.length cap)) 28 (0, 0)))) from hb)
  clear hA hb
  obtain ⟨n, HN⟩ := hid_intro l.length
  rw [← HN.out] at HC HB ⊢
  unfold opV at HC HB ⊢
  go_enter Tryz.func5, Tryz.ntmps5
  go_wp2_with (go_at_call 13; refine HC.mono ?_; clear HC; rintro e w2 ⟨rfl, hb2, hk2⟩)
  go_ret
  exact ⟨rfl, (HB.out.mono hB).trans hb2, hk2⟩

set_option maxRecDepth 8000 in
set_option maxHeartbeats 1000000 in
theorem plays_one (gs : Nat) (s : ByteArray) (l : List M) (ao : Option Addr) (cap : Nat) (w : World) (hs : s.size ≤ 1048576) (hl : l.length ≤ 1048576) (hf : Fit l) (hnil : ao = none → l = [] ∧ cap = 0) (hat : Lies w ao l) (hg : w.heap[gs]? = some (.cells (opV s (.slice ao l.length cap)) 28 (0, 0))) :
    Calls Tryz.prog 4 #[.slice (some ⟨gs, 0, none⟩) 1 1, .int .i64 7, .int .i64 7] w fun r w' => r = .returned (.bool true) ∧ Below w.heap.size w w' := by
  have hgl := lt_of_block hg
  have HB1 : Hid (Below w.heap.size w (w.alloc (.cells #[.slice none 0 0, .slice none 0 0, .slice none 0 0, .slice none 0 0, .slice none 0 0] 39 (0, 0)))) := (Below.refl _ w).alloc (Nat.le_refl _) _
  have HB2 : Hid (Below (w.alloc (.cells #[.slice none 0 0, .slice none 0 0, .slice none 0 0, .slice none 0 0, .slice none 0 0] 39 (0, 0))).heap.size (w.alloc (.cells #[.slice none 0 0, .slice none 0 0, .slice none 0 0, .slice none 0 0, .slice none 0 0] 39 (0, 0))) ((w.alloc (.cells #[.slice none 0 0, .slice none 0 0, .slice none 0 0, .slice none 0 0, .slice none 0 0] 39 (0, 0))).alloc (.cells (opV s (.slice ao l.length cap)) 28 (0, 0)))) := (Below.refl _ _).alloc (Nat.le_refl _) _
  have hA1 : Ask (w.alloc (.cells #[.slice none 0 0, .slice none 0 0, .slice none 0 0, .slice none 0 0, .slice none 0 0] 39 (0, 0))) w.heap.size w.heap.size s l ao cap := ⟨hs, hl, hf, hnil, hat.below HB1.out, heap_alloc_new w _, Nat.le_refl _, fun a ha hne => by
    rcases hat with h | ⟨g, o, h1, h2, _⟩
    · exact absurd h hne
    · rw [h1] at ha; injection ha with ha; rw [← ha]; exact h2⟩
  have HC := step_any w.heap.size w.heap.size s l ao cap _ (hA1.below HB2.out)
  have hgA := (HB1.out.block gs hgl).trans hg
  clear hA1 hs hl hf hnil hat hg
  obtain ⟨n, HN⟩ := hid_intro l.length
  rw [← HN.out] at HC HB2 hgA
  obtain ⟨wA, hWA⟩ : ∃ wA, wA = w.alloc (.cells #[.slice none 0 0, .slice none 0 0, .slice none 0 0, .slice none 0 0, .slice none 0 0] 39 (0, 0)) := ⟨_, rfl⟩
  rw [← hWA] at HB1 HB2 HC hgA
  have HWA := (show Hid _ from hWA)
  clear hWA
  have hsz : w.heap.size ≤ wA.heap.size := HB1.out.size
  have c0 := (cell_of_row wA gs 0 _ _ _ hgA).trans (show _ = some (Value.int .i64 7) from rfl)
  have c1 := (cell_of_row wA gs 1 _ _ _ hgA).trans (show _ = some (Value.int .i64 0) from rfl)
  have c2 := (cell_of_row wA gs 2 _ _ _ hgA).trans (show _ = some (Value.string s) from rfl)
  have c3 := (cell_of_row wA gs 3 _ _ _ hgA).trans (show _ = some (Value.string ⟨#[]⟩) from rfl)
  have c4 := (cell_of_row wA gs 4 _ _ _ hgA).trans (show _ = some (Value.string ⟨#[]⟩) from rfl)
  have c5 := (cell_of_row wA gs 5 _ _ _ hgA).trans (show _ = some (Value.slice none 0 0) from rfl)
  have c6 := (cell_of_row wA gs 6 _ _ _ hgA).trans (show _ = some (Value.slice ao n cap) from rfl)
  have c7 := (cell_of_row wA gs 7 _ _ _ hgA).trans (show _ = some (Value.bool false) from rfl)
  clear hgA
  unfold opV at HC HB2
  go_enter Tryz.func4, Tryz.ntmps4
  go_wp2
  rw [← HWA.out]
  go_loopw [8] (fun vi wr => (vi = .int .i64 0 ∧ wr = wA) ∨ (vi = .int .i64 1 ∧ Below w.heap.size w wr)) (fun vi _ => 1 - (intOf vi).toNat)
  case atStart => exact .inl ⟨rfl, rfl⟩
  case round =>
    rcases hrel with ⟨rfl, hw⟩ | ⟨rfl, hb⟩
    · rw [hw]; clear hw
      go_wp2_with (first
        | (go_at_call 5; refine HC.mono ?_; clear HC; rintro e w2 ⟨rfl, hb2, k, v, hk10, hk2⟩; have HK2 := (show Hid (Kept w2 w.heap.size w.heap.size k v) from hk2); have HB3 := (show Hid (Below w.heap.size _ w2) from hb2); clear hk2 hb2)
        | (go_at_call 6; refine (still_any w.heap.size w.heap.size k v _ HK2.out hk10).mono ?_; rintro e w3 ⟨rfl, hb3⟩; have HB4 := (show Hid (Below w2.heap.size w2 w3) from hb3); clear hb3))
      refine ⟨.inr ⟨rfl, ?_⟩, by simp [intOf]⟩
      have h2 := HB1.out.trans (HB2.out.mono hsz)
      have h3 := h2.trans HB3.out
      exact h3.trans (HB4.out.mono h3.size)
    · go_wp2
      go_ret
      exact ⟨rfl, hb⟩
end Go.Proofs.YtjngbcbkapjkhaaGreatDoor.Lk
