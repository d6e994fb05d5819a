/- errors.As at the program's faults: the walks. -/
import Derived.Test.YtfohjjcihioinaaGreatDoorPW
namespace Go.Proofs.YtfohjjcihioinaaGreatDoor
open Go.RowKit Go.Extern.Stop Go.Stop Go.Extern

theorem as_partsPP (a : Addr) (w : World) : (ReflectliteValue.parts ((Value.agg #[Value.pointer (some (Addr.mk 24 100 none)), Value.pointer (some a), Value.int IntKind.u64 150]))).run Tryz.prog w = .ok (some (100, a, 150)) w := by kernel_rfl
theorem as_partsP (a : Addr) (w : World) : (ReflectliteValue.parts ((Value.agg #[Value.pointer (some (Addr.mk 24 98 none)), Value.pointer (some a), Value.int IntKind.u64 150]))).run Tryz.prog w = .ok (some (98, a, 150)) w := by kernel_rfl
theorem as_partsPa (a : Addr) (w : World) : (ReflectliteValue.parts ((Value.agg #[Value.pointer (some (Addr.mk 24 98 none)), Value.pointer (some a), Value.int IntKind.u64 406]))).run Tryz.prog w = .ok (some (98, a, 406)) w := by kernel_rfl
theorem as_methodRun (z : Sem Value) (f : TypeId → Addr → Nat → Nat → Sem Value) (v : Value) : ReflectliteValue.method z f #[v] = (do match ← ReflectliteValue.parts v with | none => z | some (t, a, fl) => f t a fl (fl % 32)) := rfl
theorem as_isNil (a p : Addr) (w : World) (ha : w.cell? a = some (.pointer (some p))) : (callFunc 112 #[(Value.agg #[Value.pointer (some (Addr.mk 24 100 none)), Value.pointer (some a), Value.int IntKind.u64 150])]).run Tryz.prog w = .ok (.value (.bool false)) w := by
  rw [@run_callFunc_extern Tryz.prog 112 _ (ReflectliteValue.method (ReflectliteValue.valueError "reflectlite.Value.IsNil" 0) ReflectliteValue.isNil) Tryz.func112 (by kernel_rfl) (by kernel_rfl) (by kernel_rfl) (by kernel_rfl), as_methodRun]
  simp only [Sem.run_bind, as_partsPP, Result.andThen]
  simp [ReflectliteValue.isNil, loadVar, isAgg, underlying, Tryz.underlying100, ha, Result.andThen]
theorem as_elemOf (w : World) : (Rtype.elem? 100).run Tryz.prog w = .ok (some 98) w := by kernel_rfl
theorem as_mk (p : Addr) (w : World) : (ReflectliteValue.mk 98 p ReflectliteValue.flagAddr).run Tryz.prog w = .ok ((Value.agg #[Value.pointer (some (Addr.mk 24 98 none)), Value.pointer (some p), Value.int IntKind.u64 406])) w := by kernel_rfl
theorem as_elemV (a p : Addr) (w : World) (ha : w.cell? a = some (.pointer (some p))) : (callFunc 172 #[(Value.agg #[Value.pointer (some (Addr.mk 24 100 none)), Value.pointer (some a), Value.int IntKind.u64 150])]).run Tryz.prog w = .ok (.value ((Value.agg #[Value.pointer (some (Addr.mk 24 98 none)), Value.pointer (some p), Value.int IntKind.u64 406]))) w := by
  rw [@run_callFunc_extern Tryz.prog 172 _ (ReflectliteValue.method (ReflectliteValue.valueError "reflectlite.Value.Elem" 0) ReflectliteValue.elem) Tryz.func172 (by kernel_rfl) (by kernel_rfl) (by kernel_rfl) (by kernel_rfl), as_methodRun]
  simp only [Sem.run_bind, as_partsPP, Result.andThen]
  simp [ReflectliteValue.elem, loadVar, isAgg, underlying, Tryz.underlying100, ha, Result.andThen, as_elemOf, as_mk]
theorem as_direct (w : World) : (Rtype.directlyAssignable 98 98).run Tryz.prog w = .ok true w := by kernel_rfl
theorem as_set (t b f : Addr) (old : Value) (w : World) (hb : w.cell? b = some (.pointer (some f))) (ht : w.cell? t = some old) (hf : w.frozen? t = false) :
    (callFunc 173 #[(Value.agg #[Value.pointer (some (Addr.mk 24 98 none)), Value.pointer (some t), Value.int IntKind.u64 406]), (Value.agg #[Value.pointer (some (Addr.mk 24 98 none)), Value.pointer (some b), Value.int IntKind.u64 150])]).run Tryz.prog w = .ok (.value (.tuple #[])) (w.setCell t (.pointer (some f))) := by
  rw [@run_callFunc_extern Tryz.prog 173 _ ReflectliteValue.set Tryz.func173 (by kernel_rfl) (by kernel_rfl) (by kernel_rfl) (by kernel_rfl)]
  change (Sem.run Tryz.prog (ReflectliteValue.parts (Value.agg #[Value.pointer (some (Addr.mk 24 98 none)), Value.pointer (some t), Value.int IntKind.u64 406]) >>= fun p => ReflectliteValue.parts (Value.agg #[Value.pointer (some (Addr.mk 24 98 none)), Value.pointer (some b), Value.int IntKind.u64 150]) >>= fun q => _) w).andThen _ = _
  simp only [Sem.run_bind, as_partsPa, as_partsP, Result.andThen]
  simp [ReflectliteValue.flagAddr, loadVar, isAgg, underlying, Tryz.underlying98, hb, Result.andThen, as_direct, storeVar, Value.cells, storeCells, Addr.add]
  rw [run_store Tryz.prog w t _ _ (by rfl)]
  simp [ht, hf]

set_option maxHeartbeats 1000000 in
set_option maxRecDepth 8000 in
/-- errors.As of an error of errors.New's make: no fault -/
theorem as_miss (b : Addr) (t : Nat) (w : World) (hg : w.cell? ⟨2, 0, none⟩ = some (Value.iface 260 (Value.agg #[Value.pointer (some (Addr.mk 24 65 none))]))) :
    Calls Tryz.prog 43 #[errV b, .iface 100 (.pointer (some ⟨t, 0, none⟩))] w fun e w' => e = .returned (.bool false) ∧ Below w.heap.size w w' := by
  unfold errV
  have hlt : 2 < w.heap.size := by
    rcases Nat.lt_or_ge 2 w.heap.size with h | h
    · exact h
    · simp [World.cell?, Array.getElem?_eq_none h] at hg
  have a1 := as_valueOf
  have a2 := as_type
  have a3 := rt_kind
  have a4 := rt_elem
  have a5 := rt_implements
  have a6 := rt_assignable
  have a7 := as_kindPP
  have a8 := as_kindP
  have a9 := as_elem
  have a10 := as_implements
  have a11 := es_typeOf
  have a12 := as_assignableNot
  have a13 := es_noAs
  have a14 := es_noUnwrap
  have a15 := es_noUnwraps
  have n8 := as_isNil ⟨w.heap.size, 0, none⟩ ⟨t, 0, none⟩ ((w.alloc (.cells #[.pointer (some ⟨t, 0, none⟩)] 100)).alloc (.cells #[(Value.pointer (some (Addr.mk 24 100 none))), .pointer (some ⟨w.heap.size, 0, none⟩), .int .u64 150] 191)) (by simp)
  have hg2 : ((w.alloc (.cells #[.pointer (some ⟨t, 0, none⟩)] 100)).alloc (.cells #[(Value.pointer (some (Addr.mk 24 100 none))), .pointer (some ⟨w.heap.size, 0, none⟩), .int .u64 150] 191)).cell? ⟨2, 0, none⟩ = some (Value.iface 260 (Value.agg #[Value.pointer (some (Addr.mk 24 65 none))])) := by
    rw [World.cell?_alloc_lt _ _ ⟨2, 0, none⟩ (by simp; omega), World.cell?_alloc_lt _ _ ⟨2, 0, none⟩ hlt]; exact hg
  go_enter Tryz.func43, Tryz.ntmps43
  go_wp2
  refine wp_loop_rounds 1 ?_
  rw [rounds_succ]
  go_wp2
  go_ret
  exact ⟨rfl, (((Below.refl _ w).alloc (Nat.le_refl _) _).alloc (by simp) _).alloc (by simp; omega) _⟩
set_option maxHeartbeats 1000000 in
set_option maxRecDepth 8000 in
/-- errors.As of a fault: it is one -/
theorem as_hit (f t : Nat) (old : Value) (w : World) (hg : w.cell? ⟨2, 0, none⟩ = some (Value.iface 260 (Value.agg #[Value.pointer (some (Addr.mk 24 65 none))]))) (ht : w.cell? ⟨t, 0, none⟩ = some old) (hf : w.frozen? ⟨t, 0, none⟩ = false) :
    Calls Tryz.prog 43 #[.iface 98 (.pointer (some ⟨f, 0, none⟩)), .iface 100 (.pointer (some ⟨t, 0, none⟩))] w fun e w' => e = .returned (.bool true) ∧ ∃ w1, Below w.heap.size w w1 ∧ w' = w1.setCell ⟨t, 0, none⟩ (.pointer (some ⟨f, 0, none⟩)) := by
  have hlt : 2 < w.heap.size := by
    rcases Nat.lt_or_ge 2 w.heap.size with h | h
    · exact h
    · simp [World.cell?, Array.getElem?_eq_none h] at hg
  have htl : t < w.heap.size := by
    rcases Nat.lt_or_ge t w.heap.size with h | h
    · exact h
    · simp [World.cell?, Array.getElem?_eq_none h] at ht
  have a1 := as_valueOf
  have a2 := as_type
  have a3 := rt_kind
  have a4 := rt_elem
  have a5 := rt_implements
  have a6 := rt_assignable
  have a7 := as_kindPP
  have a8 := as_kindP
  have a9 := as_elem
  have a10 := as_implements
  have a11 := as_typeOf
  have a12 := as_assignable
  have a13 := as_valueOfF
  have n8 := as_isNil ⟨w.heap.size, 0, none⟩ ⟨t, 0, none⟩ ((w.alloc (.cells #[.pointer (some ⟨t, 0, none⟩)] 100)).alloc (.cells #[(Value.pointer (some (Addr.mk 24 100 none))), .pointer (some ⟨w.heap.size, 0, none⟩), .int .u64 150] 191)) (by simp)
  have hg2 : ((w.alloc (.cells #[.pointer (some ⟨t, 0, none⟩)] 100)).alloc (.cells #[(Value.pointer (some (Addr.mk 24 100 none))), .pointer (some ⟨w.heap.size, 0, none⟩), .int .u64 150] 191)).cell? ⟨2, 0, none⟩ = some (Value.iface 260 (Value.agg #[Value.pointer (some (Addr.mk 24 65 none))])) := by
    rw [World.cell?_alloc_lt _ _ ⟨2, 0, none⟩ (by simp; omega), World.cell?_alloc_lt _ _ ⟨2, 0, none⟩ hlt]; exact hg
  have el := as_elemV ⟨w.heap.size, 0, none⟩ ⟨t, 0, none⟩ (((w.alloc (.cells #[.pointer (some ⟨t, 0, none⟩)] 100)).alloc (.cells #[(Value.pointer (some (Addr.mk 24 100 none))), .pointer (some ⟨w.heap.size, 0, none⟩), .int .u64 150] 191)).alloc (.cells #[(Value.pointer (some (Addr.mk 24 100 none))), .pointer (some ⟨w.heap.size, 0, none⟩), .int .u64 150] 191)) (by rw [World.cell?_alloc_lt _ _ ⟨w.heap.size, 0, none⟩ (by simp; omega)]; simp)
  have st := as_set ⟨t, 0, none⟩ ⟨w.heap.size + 1 + 1 + 1, 0, none⟩ ⟨f, 0, none⟩ old ((((w.alloc (.cells #[.pointer (some ⟨t, 0, none⟩)] 100)).alloc (.cells #[(Value.pointer (some (Addr.mk 24 100 none))), .pointer (some ⟨w.heap.size, 0, none⟩), .int .u64 150] 191)).alloc (.cells #[(Value.pointer (some (Addr.mk 24 100 none))), .pointer (some ⟨w.heap.size, 0, none⟩), .int .u64 150] 191)).alloc (.cells #[.pointer (some ⟨f, 0, none⟩)] 98))
    (by rw [World.cell?_alloc_at _ _ _ _ (by simp)]; rfl)
    (by rw [World.cell?_alloc_lt _ _ ⟨t, 0, none⟩ (by simp; omega), World.cell?_alloc_lt _ _ ⟨t, 0, none⟩ (by simp; omega), World.cell?_alloc_lt _ _ ⟨t, 0, none⟩ (by simp; omega), World.cell?_alloc_lt _ _ ⟨t, 0, none⟩ htl]; exact ht)
    (by rw [World.frozen?_alloc_old _ _ ⟨t, 0, none⟩ (by simp; omega), World.frozen?_alloc_old _ _ ⟨t, 0, none⟩ (by simp; omega), World.frozen?_alloc_old _ _ ⟨t, 0, none⟩ (by simp; omega), World.frozen?_alloc_old _ _ ⟨t, 0, none⟩ (Nat.ne_of_lt htl)]; exact hf)
  go_enter Tryz.func43, Tryz.ntmps43
  go_wp2
  refine wp_loop_rounds 1 ?_
  rw [rounds_succ]
  go_wp2
  go_ret
  exact ⟨rfl, _, (((((Below.refl _ w).alloc (Nat.le_refl _) _).alloc (by simp) _).alloc (by simp; omega) _).alloc (by simp; omega) _), rfl⟩
end Go.Proofs.YtfohjjcihioinaaGreatDoor
