/- errors.As at the program's faults: the walks. The program's Inflate at its door. -/
import Derived.Test.YtgfbbcnnmoamnaaGreatDoorPW
namespace Go.Proofs.YtgfbbcnnmoamnaaGreatDoor
open Go.RowKit Go.Extern.Stop Go.Stop Go.Extern

theorem as_partsPP (a : Addr) (w : World) : (ReflectliteValue.parts ((Value.agg #[Value.pointer (some (Addr.mk 24 77 none)), Value.pointer (some a), Value.int IntKind.u64 150]))).run Tryz.prog w = .ok (some (77, a, 150)) w := by kernel_rfl
theorem as_partsP (a : Addr) (w : World) : (ReflectliteValue.parts ((Value.agg #[Value.pointer (some (Addr.mk 24 75 none)), Value.pointer (some a), Value.int IntKind.u64 150]))).run Tryz.prog w = .ok (some (75, a, 150)) w := by kernel_rfl
theorem as_partsPa (a : Addr) (w : World) : (ReflectliteValue.parts ((Value.agg #[Value.pointer (some (Addr.mk 24 75 none)), Value.pointer (some a), Value.int IntKind.u64 406]))).run Tryz.prog w = .ok (some (75, a, 406)) w := by kernel_rfl
theorem as_methodRun (z : Sem Value) (f : TypeId → Addr → Nat → Nat → Sem Value) (v : Value) : ReflectliteValue.method z f #[v] = (do match ← ReflectliteValue.parts v with | none => z | some (t, a, fl) => f t a fl (fl % 32)) := rfl
theorem as_isNil (a p : Addr) (w : World) (ha : w.cell? a = some (.pointer (some p))) : (callFunc 62 #[(Value.agg #[Value.pointer (some (Addr.mk 24 77 none)), Value.pointer (some a), Value.int IntKind.u64 150])]).run Tryz.prog w = .ok (.value (.bool false)) w := by
  rw [@run_callFunc_extern Tryz.prog 62 _ (ReflectliteValue.method (ReflectliteValue.valueError "reflectlite.Value.IsNil" 0) ReflectliteValue.isNil) Tryz.func62 (by kernel_rfl) (by kernel_rfl) (by kernel_rfl) (by kernel_rfl), as_methodRun]
  simp only [Sem.run_bind, as_partsPP, Result.andThen]
  simp [ReflectliteValue.isNil, loadVar, isAgg, underlying, Tryz.underlying77, ha, Result.andThen]
theorem as_elemOf (w : World) : (Rtype.elem? 77).run Tryz.prog w = .ok (some 75) w := by kernel_rfl
theorem as_mk (p : Addr) (w : World) : (ReflectliteValue.mk 75 p ReflectliteValue.flagAddr).run Tryz.prog w = .ok ((Value.agg #[Value.pointer (some (Addr.mk 24 75 none)), Value.pointer (some p), Value.int IntKind.u64 406])) w := by kernel_rfl
theorem as_elemV (a p : Addr) (w : World) (ha : w.cell? a = some (.pointer (some p))) : (callFunc 124 #[(Value.agg #[Value.pointer (some (Addr.mk 24 77 none)), Value.pointer (some a), Value.int IntKind.u64 150])]).run Tryz.prog w = .ok (.value ((Value.agg #[Value.pointer (some (Addr.mk 24 75 none)), Value.pointer (some p), Value.int IntKind.u64 406]))) w := by
  rw [@run_callFunc_extern Tryz.prog 124 _ (ReflectliteValue.method (ReflectliteValue.valueError "reflectlite.Value.Elem" 0) ReflectliteValue.elem) Tryz.func124 (by kernel_rfl) (by kernel_rfl) (by kernel_rfl) (by kernel_rfl), as_methodRun]
  simp only [Sem.run_bind, as_partsPP, Result.andThen]
  simp [ReflectliteValue.elem, loadVar, isAgg, underlying, Tryz.underlying77, ha, Result.andThen, as_elemOf, as_mk]
theorem as_direct (w : World) : (Rtype.directlyAssignable 75 75).run Tryz.prog w = .ok true w := by kernel_rfl
theorem as_set (t b f : Addr) (old : Value) (w : World) (hb : w.cell? b = some (.pointer (some f))) (ht : w.cell? t = some old) (hf : w.frozen? t = false) :
    (callFunc 125 #[(Value.agg #[Value.pointer (some (Addr.mk 24 75 none)), Value.pointer (some t), Value.int IntKind.u64 406]), (Value.agg #[Value.pointer (some (Addr.mk 24 75 none)), Value.pointer (some b), Value.int IntKind.u64 150])]).run Tryz.prog w = .ok (.value (.tuple #[])) (w.setCell t (.pointer (some f))) := by
  rw [@run_callFunc_extern Tryz.prog 125 _ ReflectliteValue.set Tryz.func125 (by kernel_rfl) (by kernel_rfl) (by kernel_rfl) (by kernel_rfl)]
  change (Sem.run Tryz.prog (ReflectliteValue.parts (Value.agg #[Value.pointer (some (Addr.mk 24 75 none)), Value.pointer (some t), Value.int IntKind.u64 406]) >>= fun p => ReflectliteValue.parts (Value.agg #[Value.pointer (some (Addr.mk 24 75 none)), Value.pointer (some b), Value.int IntKind.u64 150]) >>= fun q => _) w).andThen _ = _
  simp only [Sem.run_bind, as_partsPa, as_partsP, Result.andThen]
  simp [ReflectliteValue.flagAddr, loadVar, isAgg, underlying, Tryz.underlying75, hb, Result.andThen, as_direct, storeVar, Value.cells, storeCells, Addr.add]
  rw [run_store Tryz.prog w t _ _ (by rfl)]
  simp [ht, hf]

set_option maxHeartbeats 1000000 in
set_option maxRecDepth 8000 in
/-- errors.As of an error of errors.New's make: no fault -/
theorem as_miss (b : Addr) (t : Nat) (w : World) (hg : w.cell? ⟨2, 0, none⟩ = some (Value.iface 219 (Value.agg #[Value.pointer (some (Addr.mk 24 41 none))]))) :
    Calls Tryz.prog 24 #[errV b, .iface 77 (.pointer (some ⟨t, 0, none⟩))] w fun e w' => e = .returned (.bool false) ∧ Below w.heap.size w w' := by
  unfold errV
  have hlt : 2 < w.heap.size := by
    rcases Nat.lt_or_ge 2 w.heap.size with h | h
    · exact h
    · simp [World.cell?, Array.getElem?_eq_none h] at hg
  have a1 := as_valueOf
  have a2 := as_type
  have a3 := rt_kind
  have a4 := rt_elem
  have a5 := rt_implements
  have a6 := rt_assignable
  have a7 := as_kindPP
  have a8 := as_kindP
  have a9 := as_elem
  have a10 := as_implements
  have a11 := es_typeOf
  have a12 := as_assignableNot
  have a13 := es_noAs
  have a14 := es_noUnwrap
  have a15 := es_noUnwraps
  have n8 := as_isNil ⟨w.heap.size, 0, none⟩ ⟨t, 0, none⟩ ((w.alloc (.cells #[.pointer (some ⟨t, 0, none⟩)] 77)).alloc (.cells #[(Value.pointer (some (Addr.mk 24 77 none))), .pointer (some ⟨w.heap.size, 0, none⟩), .int .u64 150] 129)) (by simp)
  have hg2 : ((w.alloc (.cells #[.pointer (some ⟨t, 0, none⟩)] 77)).alloc (.cells #[(Value.pointer (some (Addr.mk 24 77 none))), .pointer (some ⟨w.heap.size, 0, none⟩), .int .u64 150] 129)).cell? ⟨2, 0, none⟩ = some (Value.iface 219 (Value.agg #[Value.pointer (some (Addr.mk 24 41 none))])) := by
    rw [World.cell?_alloc_lt _ _ ⟨2, 0, none⟩ (by simp; omega), World.cell?_alloc_lt _ _ ⟨2, 0, none⟩ hlt]; exact hg
  go_enter Tryz.func24, Tryz.ntmps24
  go_wp2
  refine wp_loop_rounds 1 ?_
  rw [rounds_succ]
  go_wp2
  go_ret
  exact ⟨rfl, (((Below.refl _ w).alloc (Nat.le_refl _) _).alloc (by simp) _).alloc (by simp; omega) _⟩
set_option maxHeartbeats 1000000 in
set_option maxRecDepth 8000 in
/-- errors.As of a fault: it is one -/
theorem as_hit (f t : Nat) (old : Value) (w : World) (hg : w.cell? ⟨2, 0, none⟩ = some (Value.iface 219 (Value.agg #[Value.pointer (some (Addr.mk 24 41 none))]))) (ht : w.cell? ⟨t, 0, none⟩ = some old) (hf : w.frozen? ⟨t, 0, none⟩ = false) :
    Calls Tryz.prog 24 #[.iface 75 (.pointer (some ⟨f, 0, none⟩)), .iface 77 (.pointer (some ⟨t, 0, none⟩))] w fun e w' => e = .returned (.bool true) ∧ ∃ w1, Below w.heap.size w w1 ∧ w' = w1.setCell ⟨t, 0, none⟩ (.pointer (some ⟨f, 0, none⟩)) := by
  have hlt : 2 < w.heap.size := by
    rcases Nat.lt_or_ge 2 w.heap.size with h | h
    · exact h
    · simp [World.cell?, Array.getElem?_eq_none h] at hg
  have htl : t < w.heap.size := by
    rcases Nat.lt_or_ge t w.heap.size with h | h
    · exact h
    · simp [World.cell?, Array.getElem?_eq_none h] at ht
  have a1 := as_valueOf
  have a2 := as_type
  have a3 := rt_kind
  have a4 := rt_elem
  have a5 := rt_implements
  have a6 := rt_assignable
  have a7 := as_kindPP
  have a8 := as_kindP
  have a9 := as_elem
  have a10 := as_implements
  have a11 := as_typeOf
  have a12 := as_assignable
  have a13 := as_valueOfF
  have n8 := as_isNil ⟨w.heap.size, 0, none⟩ ⟨t, 0, none⟩ ((w.alloc (.cells #[.pointer (some ⟨t, 0, none⟩)] 77)).alloc (.cells #[(Value.pointer (some (Addr.mk 24 77 none))), .pointer (some ⟨w.heap.size, 0, none⟩), .int .u64 150] 129)) (by simp)
  have hg2 : ((w.alloc (.cells #[.pointer (some ⟨t, 0, none⟩)] 77)).alloc (.cells #[(Value.pointer (some (Addr.mk 24 77 none))), .pointer (some ⟨w.heap.size, 0, none⟩), .int .u64 150] 129)).cell? ⟨2, 0, none⟩ = some (Value.iface 219 (Value.agg #[Value.pointer (some (Addr.mk 24 41 none))])) := by
    rw [World.cell?_alloc_lt _ _ ⟨2, 0, none⟩ (by simp; omega), World.cell?_alloc_lt _ _ ⟨2, 0, none⟩ hlt]; exact hg
  have el := as_elemV ⟨w.heap.size, 0, none⟩ ⟨t, 0, none⟩ (((w.alloc (.cells #[.pointer (some ⟨t, 0, none⟩)] 77)).alloc (.cells #[(Value.pointer (some (Addr.mk 24 77 none))), .pointer (some ⟨w.heap.size, 0, none⟩), .int .u64 150] 129)).alloc (.cells #[(Value.pointer (some (Addr.mk 24 77 none))), .pointer (some ⟨w.heap.size, 0, none⟩), .int .u64 150] 129)) (by rw [World.cell?_alloc_lt _ _ ⟨w.heap.size, 0, none⟩ (by simp; omega)]; simp)
  have st := as_set ⟨t, 0, none⟩ ⟨w.heap.size + 1 + 1 + 1, 0, none⟩ ⟨f, 0, none⟩ old ((((w.alloc (.cells #[.pointer (some ⟨t, 0, none⟩)] 77)).alloc (.cells #[(Value.pointer (some (Addr.mk 24 77 none))), .pointer (some ⟨w.heap.size, 0, none⟩), .int .u64 150] 129)).alloc (.cells #[(Value.pointer (some (Addr.mk 24 77 none))), .pointer (some ⟨w.heap.size, 0, none⟩), .int .u64 150] 129)).alloc (.cells #[.pointer (some ⟨f, 0, none⟩)] 75))
    (by rw [World.cell?_alloc_at _ _ _ _ (by simp)]; rfl)
    (by rw [World.cell?_alloc_lt _ _ ⟨t, 0, none⟩ (by simp; omega), World.cell?_alloc_lt _ _ ⟨t, 0, none⟩ (by simp; omega), World.cell?_alloc_lt _ _ ⟨t, 0, none⟩ (by simp; omega), World.cell?_alloc_lt _ _ ⟨t, 0, none⟩ htl]; exact ht)
    (by rw [World.frozen?_alloc_old _ _ ⟨t, 0, none⟩ (by simp; omega), World.frozen?_alloc_old _ _ ⟨t, 0, none⟩ (by simp; omega), World.frozen?_alloc_old _ _ ⟨t, 0, none⟩ (by simp; omega), World.frozen?_alloc_old _ _ ⟨t, 0, none⟩ (Nat.ne_of_lt htl)]; exact hf)
  go_enter Tryz.func24, Tryz.ntmps24
  go_wp2
  refine wp_loop_rounds 1 ?_
  rw [rounds_succ]
  go_wp2
  go_ret
  exact ⟨rfl, _, (((((Below.refl _ w).alloc (Nat.le_refl _) _).alloc (by simp) _).alloc (by simp; omega) _).alloc (by simp; omega) _), rfl⟩
end Go.Proofs.YtgfbbcnnmoamnaaGreatDoor

namespace Go.Proofs.YtgfbbcnnmoamnaaGreatDoor
open Go.RowKit

/-- the errors lie there, each at a place of its own -/
structure Errs.Full (er : Errs) (w : World) : Prop where
  lay : er.At w
  type : w.cell? ⟨2, 0, none⟩ = some (Value.iface 219 (Value.agg #[Value.pointer (some (Addr.mk 24 41 none))]))
  bad : ∀ b, er.bad b → b ≠ er.lim ∧ ∃ c t, w.heap[b.block]? = some (Obj.cells c t (0, 0))
  lim : ∃ c t, w.heap[er.lim.block]? = some (Obj.cells c t (0, 0))
theorem Errs.Full.below {er : Errs} {w w' : World} (h : er.Full w) (hb : Below w.heap.size w w') : er.Full w' := by
  have k : ∀ b : Nat, (∃ c t, w.heap[b]? = some (Obj.cells c t (0, 0))) → ∃ c t, w'.heap[b]? = some (Obj.cells c t (0, 0)) := by
    rintro b ⟨c, t, hc⟩
    exact ⟨c, t, (hb.block b (lt_of_block hc)).trans hc⟩
  have h15 := h.lay.size
  refine ⟨h.lay.below hb h15, ?_, fun b hbb => ⟨(h.bad b hbb).1, k b.block (h.bad b hbb).2⟩, k _ h.lim⟩
  exact (World.cell?_of_block (w := w) (hb.block 2 (by omega))).trans h.type
set_option maxHeartbeats 1000000 in
set_option maxRecDepth 8000 in
theorem streamErrno_nil (w : World) : Calls Tryz.prog 11 #[.nilIface] w fun e w' => e = .returned (.int .i64 0) ∧ Below w.heap.size w w' := by
  go_enter Tryz.func11, Tryz.ntmps11
  go_wp2
  go_ret
  exact ⟨rfl, (Below.refl _ w).alloc (Nat.le_refl _) _⟩
set_option maxHeartbeats 1000000 in
set_option maxRecDepth 8000 in
theorem streamErrno_many {er : Errs} (w : World) (he : er.Full w) : Calls Tryz.prog 11 #[errV er.many] w fun e w' => e = .returned (.int .i64 1) ∧ Below w.heap.size w w' := by
  have HE : Hid _ := (he.below ((Below.refl _ w).alloc (Nat.le_refl _) (.cells #[.pointer none] 75))).type
  have HA : Hid _ := as_miss er.many w.heap.size _ HE.out
  unfold errV at HA ⊢
  go_enter Tryz.func11, Tryz.ntmps11
  go_wp2_with (go_at_call 24; refine Calls.mono HA.out ?_; rintro e w1 ⟨rfl, hb1⟩)
  go_ret
  exact ⟨rfl, ((Below.refl _ w).alloc (Nat.le_refl _) _).trans (hb1.mono (by simp))⟩
theorem as_new {er : Errs} (f : Nat) (w : World) (he : er.Full w) :
    Calls Tryz.prog 24 #[.iface 75 (.pointer (some ⟨f, 0, none⟩)), .iface 77 (.pointer (some ⟨w.heap.size, 0, none⟩))] (w.alloc (.cells #[.pointer none] 75)) fun e w' => e = .returned (.bool true) ∧ w'.cell? ⟨w.heap.size, 0, none⟩ = some (.pointer (some ⟨f, 0, none⟩)) ∧ Below w.heap.size w w' := by
  have he1 := he.below ((Below.refl _ w).alloc (Nat.le_refl _) (.cells #[.pointer none] 75))
  refine (as_hit f w.heap.size (.pointer none) _ he1.type (by simp) (by simp)).mono ?_
  rintro e w' ⟨rfl, w1, hb, rfl⟩
  have h0 : w1.heap[w.heap.size]? = some (.cells #[.pointer none] 75 (0, 0)) := (hb.block _ (by simp)).trans (heap_alloc_new w _)
  have hb2 := ((Below.refl _ w).alloc (Nat.le_refl _) (.cells #[.pointer none] 75)).trans (hb.mono (by simp))
  refine ⟨rfl, ?_, ?_⟩
  · rw [cell_of_row _ _ _ _ _ _ (heap_setCell_same _ _ _ _ _ _ h0)]; rfl
  · exact ⟨hb2.os, hb2.tape, hb2.output, by simp [World.setCell]; exact hb2.size, fun k hk => (Below.heap_setCell _ _ _ _ (by simp; omega)).trans (hb2.block k hk)⟩
set_option maxHeartbeats 1000000 in
set_option maxRecDepth 8000 in
theorem streamErrno_fault {er : Errs} (f : Nat) (b : Addr) (v : Value) (c : Nat) (w : World) (he : er.Full w) (hf : w.heap[f]? = some (.cells #[v, errV b] 191 (0, 0))) (hc : c = 6 ∧ b = er.lim ∨ c = 5 ∧ er.bad b) :
    Calls Tryz.prog 11 #[.iface 75 (.pointer (some ⟨f, 0, none⟩))] w fun e w' => e = .returned (.int .i64 c) ∧ Below w.heap.size w w' := by
  have HA : Hid _ := as_new f w he
  have hfl := lt_of_block hf
  go_enter Tryz.func11, Tryz.ntmps11
  rcases hc with ⟨rfl, rfl⟩ | ⟨rfl, hb⟩
  · go_wp2_with (first
      | (go_at_call 24; refine Calls.mono HA.out ?_; rintro e w2 ⟨rfl, hc2, hb2⟩; have hl2 := (he.below hb2).lay.lim; unfold errV at hl2; have HF2 := (show Hid _ from (hb2.block f hfl).trans hf))
      | (go_at_call 25; refine (is_lim f er.lim _ ((cell_of_row _ _ 1 _ _ _ HF2.out).trans rfl)).mono ?_; rintro e w3 ⟨rfl, rfl⟩))
    go_ret
    exact ⟨rfl, hb2⟩
  · obtain ⟨hne, HX⟩ := (he.bad b hb)
    obtain ⟨cb, tb, hrb⟩ := HX
    obtain ⟨cl, tl, hrl⟩ := he.lim
    have HRB : Hid _ := hrb
    have HRL : Hid _ := hrl
    have lb := lt_of_block hrb
    have ll := lt_of_block hrl
    clear hrb hrl
    go_wp2_with (first
      | (go_at_call 24; refine Calls.mono HA.out ?_; rintro e w2 ⟨rfl, hc2, hb2⟩; have hl2 := (he.below hb2).lay.lim; unfold errV at hl2; have HF2 := (show Hid _ from (hb2.block f hfl).trans hf))
      | (go_at_call 25; refine (is_bad f b er.lim _ ((cell_of_row _ _ 1 _ _ _ HF2.out).trans rfl) hne ((hb2.block b.block lb).trans HRB.out) ((hb2.block er.lim.block ll).trans HRL.out)).mono ?_; rintro e w3 ⟨rfl, rfl⟩))
    go_ret
    exact ⟨rfl, hb2⟩
/-- what the program's Inflate answers -/
def inflA (s : ByteArray) (lim : Int) : Array Value :=
  if s.size > 20000 ∨ lim < 0 ∨ lim > 20000 then #[.string ByteArray.empty, .int .i64 0, .int .i64 1]
  else match inflS s.data.toList lim.toNat with
    | .ok k out => #[.string ⟨out.toArray⟩, .int .i64 (((k + 7) / 8 : Nat) : Int), .int .i64 0]
    | .err c => #[.string ByteArray.empty, .int .i64 0, .int .i64 c]
theorem sInflate_ok {er : Errs} (s : ByteArray) (lim : Nat) (hs : s.size ≤ 20000) (hl : lim ≤ 20000) (w : World) (he : er.At w) {k : Nat} {out : List UInt8} (h : inflS s.data.toList lim = .ok k out) :
    Calls Tryz.prog 37 #[.string s, .int .i64 lim] w fun e w' => Below w.heap.size w w' ∧ e = .returned (.tuple #[.string ⟨out.toArray⟩, .int .i64 (((k + 7) / 8 : Nat) : Int), .nilIface]) := by
  refine (sInflate_in s lim hs hl w he).mono ?_
  intro e w' ho
  rw [h] at ho; exact ho
theorem sInflate_bad {er : Errs} (s : ByteArray) (lim : Nat) (hs : s.size ≤ 20000) (hl : lim ≤ 20000) (w : World) (he : er.At w) {c : Nat} (h : inflS s.data.toList lim = .err c) :
    Calls Tryz.prog 37 #[.string s, .int .i64 lim] w fun e w' => Below w.heap.size w w' ∧ ∃ b k f, w.heap.size ≤ f ∧ e = .returned (.tuple #[.string ByteArray.empty, .int .i64 0, .iface 75 (.pointer (some ⟨f, 0, none⟩))]) ∧ w'.heap[f]? = some (.cells #[.int .i64 (k : Nat), errV b] 191 (0, 0)) ∧ (c = 6 ∧ b = er.lim ∨ c = 5 ∧ er.bad b) := by
  refine (sInflate_in s lim hs hl w he).mono ?_
  intro e w' ho
  rw [h] at ho; exact ho
set_option maxHeartbeats 1000000 in
set_option maxRecDepth 8000 in
theorem inflate_any {er : Errs} (s : ByteArray) (lim : Int) (w : World) (he : er.Full w) :
    Calls Tryz.prog 71 #[.string s, .int .i64 lim] w fun e w' => e = .returned (.tuple (inflA s lim)) ∧ Below w.heap.size w w' := by
  obtain ⟨A, HA⟩ := hid_intro (inflA s lim)
  rw [← HA.out]
  go_enter Tryz.func71, Tryz.ntmps71
  by_cases hm : s.size > 20000 ∨ lim < 0 ∨ lim > 20000
  · have HE : Hid (A = #[.string ByteArray.empty, .int .i64 0, .int .i64 1]) := by rw [HA.out]; show _ = _; unfold inflA; rw [if_pos hm]
    have HM : Hid _ := hm
    clear hm
    go_wp2_with (first
      | (go_at_call 37; refine (sInflate_many s lim HM.out _ he.lay).mono ?_; rintro e w1 ⟨hb1, rfl⟩; have HE1 := (show Hid _ from he.below hb1))
      | (go_at_call 11; refine (streamErrno_many _ HE1.out).mono ?_; rintro e w2 ⟨rfl, hb2⟩))
    go_ret3
    rw [HE.out]
    exact ⟨rfl, hb1.trans (hb2.mono hb1.size)⟩
  · obtain ⟨n, rfl⟩ : ∃ n : Nat, lim = n := ⟨lim.toNat, by omega⟩
    cases hR : inflS s.data.toList n with
    | ok k out =>
      have HE : Hid (A = #[.string ⟨out.toArray⟩, .int .i64 (((k + 7) / 8 : Nat) : Int), .int .i64 0]) := by rw [HA.out]; show _ = _; unfold inflA; rw [if_neg hm, Int.toNat_natCast, hR]
      have HR : Hid _ := hR
      have h1 : s.size ≤ 20000 := by omega
      have h2 : n ≤ 20000 := by omega
      clear hm hR
      go_wp2_with (first
        | (go_at_call 37; refine (sInflate_ok s n h1 h2 _ he.lay HR.out).mono ?_; rintro e w1 ⟨hb1, rfl⟩)
        | (go_at_call 11; refine (streamErrno_nil _).mono ?_; rintro e w2 ⟨rfl, hb2⟩))
      go_ret3
      rw [HE.out]
      exact ⟨rfl, hb1.trans (hb2.mono hb1.size)⟩
    | err c =>
      have HE : Hid (A = #[.string ByteArray.empty, .int .i64 0, .int .i64 c]) := by rw [HA.out]; show _ = _; unfold inflA; rw [if_neg hm, Int.toNat_natCast, hR]
      have HR : Hid _ := hR
      have h1 : s.size ≤ 20000 := by omega
      have h2 : n ≤ 20000 := by omega
      clear hm hR
      go_wp2_with (first
        | (go_at_call 37; refine (sInflate_bad s n h1 h2 _ he.lay HR.out).mono ?_; rintro e w1 ⟨hb1, b, kk, f, hfw, rfl, hff, hcc⟩; have HFF := (show Hid _ from And.intro hff hcc); clear hff hcc)
        | (go_at_call 11; refine (streamErrno_fault f b _ c _ (he.below hb1) HFF.out.1 HFF.out.2).mono ?_; rintro e w2 ⟨rfl, hb2⟩))
      go_ret3
      rw [HE.out]
      exact ⟨rfl, hb1.trans (hb2.mono hb1.size)⟩
end Go.Proofs.YtgfbbcnnmoamnaaGreatDoor
