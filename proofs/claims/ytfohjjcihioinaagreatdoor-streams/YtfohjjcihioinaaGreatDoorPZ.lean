/- The program's Inflate at its door. -/
import Derived.Test.YtfohjjcihioinaaGreatDoorPY
namespace Go.Proofs.YtfohjjcihioinaaGreatDoor
open Go.RowKit

/-- the errors lie there, each at a place of its own -/
structure Errs.Full (er : Errs) (w : World) : Prop where
  lay : er.At w
  type : w.cell? ⟨2, 0, none⟩ = some (Value.iface 260 (Value.agg #[Value.pointer (some (Addr.mk 24 65 none))]))
  bad : ∀ b, er.bad b → b ≠ er.lim ∧ ∃ c t, w.heap[b.block]? = some (Obj.cells c t (0, 0))
  lim : ∃ c t, w.heap[er.lim.block]? = some (Obj.cells c t (0, 0))
theorem Errs.Full.below {er : Errs} {w w' : World} (h : er.Full w) (hb : Below w.heap.size w w') : er.Full w' := by
  have k : ∀ b : Nat, (∃ c t, w.heap[b]? = some (Obj.cells c t (0, 0))) → ∃ c t, w'.heap[b]? = some (Obj.cells c t (0, 0)) := by
    rintro b ⟨c, t, hc⟩
    exact ⟨c, t, (hb.block b (lt_of_block hc)).trans hc⟩
  have h15 := h.lay.size
  refine ⟨h.lay.below hb h15, ?_, fun b hbb => ⟨(h.bad b hbb).1, k b.block (h.bad b hbb).2⟩, k _ h.lim⟩
  exact (World.cell?_of_block (w := w) (hb.block 2 (by omega))).trans h.type
set_option maxHeartbeats 1000000 in
set_option maxRecDepth 8000 in
theorem streamErrno_nil (w : World) : Calls Tryz.prog 21 #[.nilIface] w fun e w' => e = .returned (.int .i64 0) ∧ Below w.heap.size w w' := by
  go_enter Tryz.func21, Tryz.ntmps21
  go_wp2
  go_ret
  exact ⟨rfl, (Below.refl _ w).alloc (Nat.le_refl _) _⟩
set_option maxHeartbeats 1000000 in
set_option maxRecDepth 8000 in
theorem streamErrno_many {er : Errs} (w : World) (he : er.Full w) : Calls Tryz.prog 21 #[errV er.many] w fun e w' => e = .returned (.int .i64 1) ∧ Below w.heap.size w w' := by
  have HE : Hid _ := (he.below ((Below.refl _ w).alloc (Nat.le_refl _) (.cells #[.pointer none] 98))).type
  have HA : Hid _ := as_miss er.many w.heap.size _ HE.out
  unfold errV at HA ⊢
  go_enter Tryz.func21, Tryz.ntmps21
  go_wp2_with (go_at_call 43; refine Calls.mono HA.out ?_; rintro e w1 ⟨rfl, hb1⟩)
  go_ret
  exact ⟨rfl, ((Below.refl _ w).alloc (Nat.le_refl _) _).trans (hb1.mono (by simp))⟩
theorem as_new {er : Errs} (f : Nat) (w : World) (he : er.Full w) :
    Calls Tryz.prog 43 #[.iface 98 (.pointer (some ⟨f, 0, none⟩)), .iface 100 (.pointer (some ⟨w.heap.size, 0, none⟩))] (w.alloc (.cells #[.pointer none] 98)) fun e w' => e = .returned (.bool true) ∧ w'.cell? ⟨w.heap.size, 0, none⟩ = some (.pointer (some ⟨f, 0, none⟩)) ∧ Below w.heap.size w w' := by
  have he1 := he.below ((Below.refl _ w).alloc (Nat.le_refl _) (.cells #[.pointer none] 98))
  refine (as_hit f w.heap.size (.pointer none) _ he1.type (by simp) (by simp)).mono ?_
  rintro e w' ⟨rfl, w1, hb, rfl⟩
  have h0 : w1.heap[w.heap.size]? = some (.cells #[.pointer none] 98 (0, 0)) := (hb.block _ (by simp)).trans (heap_alloc_new w _)
  have hb2 := ((Below.refl _ w).alloc (Nat.le_refl _) (.cells #[.pointer none] 98)).trans (hb.mono (by simp))
  refine ⟨rfl, ?_, ?_⟩
  · rw [cell_of_row _ _ _ _ _ _ (heap_setCell_same _ _ _ _ _ _ h0)]; rfl
  · exact ⟨hb2.os, hb2.tape, hb2.output, by simp [World.setCell]; exact hb2.size, fun k hk => (Below.heap_setCell _ _ _ _ (by simp; omega)).trans (hb2.block k hk)⟩
set_option maxHeartbeats 1000000 in
set_option maxRecDepth 8000 in
theorem streamErrno_fault {er : Errs} (f : Nat) (b : Addr) (v : Value) (c : Nat) (w : World) (he : er.Full w) (hf : w.heap[f]? = some (.cells #[v, errV b] 115 (0, 0))) (hc : c = 6 ∧ b = er.lim ∨ c = 5 ∧ er.bad b) :
    Calls Tryz.prog 21 #[.iface 98 (.pointer (some ⟨f, 0, none⟩))] w fun e w' => e = .returned (.int .i64 c) ∧ Below w.heap.size w w' := by
  have HA : Hid _ := as_new f w he
  have hfl := lt_of_block hf
  go_enter Tryz.func21, Tryz.ntmps21
  rcases hc with ⟨rfl, rfl⟩ | ⟨rfl, hb⟩
  · go_wp2_with (first
      | (go_at_call 43; refine Calls.mono HA.out ?_; rintro e w2 ⟨rfl, hc2, hb2⟩; have hl2 := (he.below hb2).lay.lim; unfold errV at hl2; have HF2 := (show Hid _ from (hb2.block f hfl).trans hf))
      | (go_at_call 44; refine (is_lim f er.lim _ ((cell_of_row _ _ 1 _ _ _ HF2.out).trans rfl)).mono ?_; rintro e w3 ⟨rfl, rfl⟩))
    go_ret
    exact ⟨rfl, hb2⟩
  · obtain ⟨hne, HX⟩ := (he.bad b hb)
    obtain ⟨cb, tb, hrb⟩ := HX
    obtain ⟨cl, tl, hrl⟩ := he.lim
    have HRB : Hid _ := hrb
    have HRL : Hid _ := hrl
    have lb := lt_of_block hrb
    have ll := lt_of_block hrl
    clear hrb hrl
    go_wp2_with (first
      | (go_at_call 43; refine Calls.mono HA.out ?_; rintro e w2 ⟨rfl, hc2, hb2⟩; have hl2 := (he.below hb2).lay.lim; unfold errV at hl2; have HF2 := (show Hid _ from (hb2.block f hfl).trans hf))
      | (go_at_call 44; refine (is_bad f b er.lim _ ((cell_of_row _ _ 1 _ _ _ HF2.out).trans rfl) hne ((hb2.block b.block lb).trans HRB.out) ((hb2.block er.lim.block ll).trans HRL.out)).mono ?_; rintro e w3 ⟨rfl, rfl⟩))
    go_ret
    exact ⟨rfl, hb2⟩
/-- what the program's Inflate answers -/
def inflA (s : ByteArray) (lim : Int) : Array Value :=
  if s.size > 20000 ∨ lim < 0 ∨ lim > 20000 then #[.string ByteArray.empty, .int .i64 0, .int .i64 1]
  else match inflS s.data.toList lim.toNat with
    | .ok k out => #[.string ⟨out.toArray⟩, .int .i64 (((k + 7) / 8 : Nat) : Int), .int .i64 0]
    | .err c => #[.string ByteArray.empty, .int .i64 0, .int .i64 c]
theorem sInflate_ok {er : Errs} (s : ByteArray) (lim : Nat) (hs : s.size ≤ 20000) (hl : lim ≤ 20000) (w : World) (he : er.At w) {k : Nat} {out : List UInt8} (h : inflS s.data.toList lim = .ok k out) :
    Calls Tryz.prog 22 #[.string s, .int .i64 lim] w fun e w' => Below w.heap.size w w' ∧ e = .returned (.tuple #[.string ⟨out.toArray⟩, .int .i64 (((k + 7) / 8 : Nat) : Int), .nilIface]) := by
  refine (sInflate_in s lim hs hl w he).mono ?_
  intro e w' ho
  rw [h] at ho; exact ho
theorem sInflate_bad {er : Errs} (s : ByteArray) (lim : Nat) (hs : s.size ≤ 20000) (hl : lim ≤ 20000) (w : World) (he : er.At w) {c : Nat} (h : inflS s.data.toList lim = .err c) :
    Calls Tryz.prog 22 #[.string s, .int .i64 lim] w fun e w' => Below w.heap.size w w' ∧ ∃ b k f, w.heap.size ≤ f ∧ e = .returned (.tuple #[.string ByteArray.empty, .int .i64 0, .iface 98 (.pointer (some ⟨f, 0, none⟩))]) ∧ w'.heap[f]? = some (.cells #[.int .i64 (k : Nat), errV b] 115 (0, 0)) ∧ (c = 6 ∧ b = er.lim ∨ c = 5 ∧ er.bad b) := by
  refine (sInflate_in s lim hs hl w he).mono ?_
  intro e w' ho
  rw [h] at ho; exact ho
set_option maxHeartbeats 1000000 in
set_option maxRecDepth 8000 in
theorem inflate_any {er : Errs} (s : ByteArray) (lim : Int) (w : World) (he : er.Full w) :
    Calls Tryz.prog 12 #[.string s, .int .i64 lim] w fun e w' => e = .returned (.tuple (inflA s lim)) ∧ Below w.heap.size w w' := by
  obtain ⟨A, HA⟩ := hid_intro (inflA s lim)
  rw [← HA.out]
  go_enter Tryz.func12, Tryz.ntmps12
  by_cases hm : s.size > 20000 ∨ lim < 0 ∨ lim > 20000
  · have HE : Hid (A = #[.string ByteArray.empty, .int .i64 0, .int .i64 1]) := by rw [HA.out]; show _ = _; unfold inflA; rw [if_pos hm]
    have HM : Hid _ := hm
    clear hm
    go_wp2_with (first
      | (go_at_call 22; refine (sInflate_many s lim HM.out _ he.lay).mono ?_; rintro e w1 ⟨hb1, rfl⟩; have HE1 := (show Hid _ from he.below hb1))
      | (go_at_call 21; refine (streamErrno_many _ HE1.out).mono ?_; rintro e w2 ⟨rfl, hb2⟩))
    go_ret3
    rw [HE.out]
    exact ⟨rfl, hb1.trans (hb2.mono hb1.size)⟩
  · obtain ⟨n, rfl⟩ : ∃ n : Nat, lim = n := ⟨lim.toNat, by omega⟩
    cases hR : inflS s.data.toList n with
    | ok k out =>
      have HE : Hid (A = #[.string ⟨out.toArray⟩, .int .i64 (((k + 7) / 8 : Nat) : Int), .int .i64 0]) := by rw [HA.out]; show _ = _; unfold inflA; rw [if_neg hm, Int.toNat_natCast, hR]
      have HR : Hid _ := hR
      have h1 : s.size ≤ 20000 := by omega
      have h2 : n ≤ 20000 := by omega
      clear hm hR
      go_wp2_with (first
        | (go_at_call 22; refine (sInflate_ok s n h1 h2 _ he.lay HR.out).mono ?_; rintro e w1 ⟨hb1, rfl⟩)
        | (go_at_call 21; refine (streamErrno_nil _).mono ?_; rintro e w2 ⟨rfl, hb2⟩))
      go_ret3
      rw [HE.out]
      exact ⟨rfl, hb1.trans (hb2.mono hb1.size)⟩
    | err c =>
      have HE : Hid (A = #[.string ByteArray.empty, .int .i64 0, .int .i64 c]) := by rw [HA.out]; show _ = _; unfold inflA; rw [if_neg hm, Int.toNat_natCast, hR]
      have HR : Hid _ := hR
      have h1 : s.size ≤ 20000 := by omega
      have h2 : n ≤ 20000 := by omega
      clear hm hR
      go_wp2_with (first
        | (go_at_call 22; refine (sInflate_bad s n h1 h2 _ he.lay HR.out).mono ?_; rintro e w1 ⟨hb1, b, kk, f, hfw, rfl, hff, hcc⟩; have HFF := (show Hid _ from And.intro hff hcc); clear hff hcc)
        | (go_at_call 21; refine (streamErrno_fault f b _ c _ (he.below hb1) HFF.out.1 HFF.out.2).mono ?_; rintro e w2 ⟨rfl, hb2⟩))
      go_ret3
      rw [HE.out]
      exact ⟨rfl, hb1.trans (hb2.mono hb1.size)⟩
end Go.Proofs.YtfohjjcihioinaaGreatDoor
