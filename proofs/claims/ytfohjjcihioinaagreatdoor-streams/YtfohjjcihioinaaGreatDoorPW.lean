/- errors.Is at the program's errors. errors.As at the program's faults. -/
import Derived.Test.YtfohjjcihioinaaGreatDoorPU
import Derived.LaidEql
import Derived.Stop.Asserts
import Derived.RowKitTokens
namespace Go.Proofs.YtfohjjcihioinaaGreatDoor
open Go.RowKit Go.Extern.Stop Go.Stop Go.Extern

theorem es_typeOf (v : Value) (w : World) : (callFunc 114 #[.iface 401 v]).run Tryz.prog w = .ok (.value (.iface 260 (.agg #[.pointer (some ⟨24, 401, none⟩)]))) w := by kernel_rfl
theorem es_comparable (w : World) : (callFunc 351 #[.agg #[.pointer (some ⟨24, 401, none⟩)]]).run Tryz.prog w = .ok (.value (.bool true)) w := by kernel_rfl
theorem rt_comparable (v : Value) (w : World) : (Go.method 534 260 v "Comparable").run Tryz.prog w = .ok (351, v) w := by kernel_rfl
theorem fa_method (v : Value) (w : World) : (Go.method 534 98 v "Unwrap").run Tryz.prog w = .ok (343, v) w := by kernel_rfl
theorem es_comp : (Tryz.prog.info? 401).map (·.comparable) = some true := by kernel_rfl
theorem es_size : (Tryz.prog.info? 403).map (·.size) = some 1 := by kernel_rfl
theorem es_noIs (v : Value) (x : TypeId) (w : World) : (Instr.typeAssert (.iface 401 v) x 271 true).run Tryz.prog w = .ok (.tuple #[.nilIface, .bool false]) w := run_typeAssert_lacksB Tryz.underlying271 (by kernel_rfl) (by kernel_rfl) v x w
theorem es_noUnwrap (v : Value) (x : TypeId) (w : World) : (Instr.typeAssert (.iface 401 v) x 267 true).run Tryz.prog w = .ok (.tuple #[.nilIface, .bool false]) w := run_typeAssert_lacksB Tryz.underlying267 (by kernel_rfl) (by kernel_rfl) v x w
theorem es_noUnwraps (v : Value) (x : TypeId) (w : World) : (Instr.typeAssert (.iface 401 v) x 268 true).run Tryz.prog w = .ok (.tuple #[.nilIface, .bool false]) w := run_typeAssert_lacksB Tryz.underlying268 (by kernel_rfl) (by kernel_rfl) v x w
theorem fa_noIs (v : Value) (x : TypeId) (w : World) : (Instr.typeAssert (.iface 98 v) x 271 true).run Tryz.prog w = .ok (.tuple #[.nilIface, .bool false]) w := run_typeAssert_lacksB Tryz.underlying271 (by kernel_rfl) (by kernel_rfl) v x w
theorem fa_unwrap (v : Value) (x : TypeId) (w : World) : (Instr.typeAssert (.iface 98 v) x 267 true).run Tryz.prog w = .ok (.tuple #[.iface 98 v, .bool true]) w := run_typeAssert_hasB Tryz.underlying267 (by kernel_rfl) v x w

set_option maxHeartbeats 1000000 in
set_option maxRecDepth 8000 in
/-- errors.Is of a fault and of an error: the same that it wraps -/
theorem is_lim (f : Nat) (b : Addr) (w : World) (h1 : w.cell? ⟨f, 1, none⟩ = some (errV b)) :
    Calls Tryz.prog 44 #[.iface 98 (.pointer (some ⟨f, 0, none⟩)), errV b] w fun e w' => e = .returned (.bool true) ∧ w' = w := by
  unfold errV at h1 ⊢
  obtain ⟨i, hi, hc⟩ := Option.map_eq_some_iff.1 es_comp
  obtain ⟨j, hj, hjs⟩ := Option.map_eq_some_iff.1 es_size
  have a1 := es_typeOf
  have a2 := es_comparable
  have a3 := es_noIs
  have a4 := es_noUnwrap
  have a5 := es_noUnwraps
  have a6 := fa_noIs
  have a7 := fa_unwrap
  have a8 := rt_comparable
  have a9 := fa_method
  have heq := run_eql_iface_ptr_same (P := Tryz.prog) w b Tryz.underlying65 Tryz.underlying401 hi hc hj
  have hty := run_eql_iface_types (P := Tryz.prog) 98 401 (.pointer (some ⟨f, 0, none⟩)) (.pointer (some b)) Tryz.underlying65 (by decide) w
  go_enter Tryz.func44, Tryz.ntmps44
  go_wp2
  refine wp_loop_rounds 2 ?_
  rw [rounds_succ]
  go_wp2
  rw [rounds_succ]
  go_wp2
  go_ret
  exact ⟨rfl, rfl⟩
set_option maxHeartbeats 1000000 in
set_option maxRecDepth 8000 in
/-- errors.Is of a fault and of an error: another than it wraps -/
theorem is_bad (f : Nat) (b c : Addr) (w : World) (h1 : w.cell? ⟨f, 1, none⟩ = some (errV b)) (hne : b ≠ c) {cb cc : Array Value} {tb tc : TypeId} (hb : w.heap[b.block]? = some (.cells cb tb (0, 0))) (hcc : w.heap[c.block]? = some (.cells cc tc (0, 0))) :
    Calls Tryz.prog 44 #[.iface 98 (.pointer (some ⟨f, 0, none⟩)), errV c] w fun e w' => e = .returned (.bool false) ∧ w' = w := by
  unfold errV at h1 ⊢
  obtain ⟨i, hi, hc⟩ := Option.map_eq_some_iff.1 es_comp
  obtain ⟨j, hj, hjs⟩ := Option.map_eq_some_iff.1 es_size
  have a1 := es_typeOf
  have a2 := es_comparable
  have a3 := es_noIs
  have a4 := es_noUnwrap
  have a5 := es_noUnwraps
  have a6 := fa_noIs
  have a7 := fa_unwrap
  have a8 := rt_comparable
  have a9 := fa_method
  have heq := run_eql_iface_ptr_other (P := Tryz.prog) (a := b) (b := c) w Tryz.underlying65 Tryz.underlying401 hi hc hj (by rw [hjs]; decide) hne hb hcc
  have hty := run_eql_iface_types (P := Tryz.prog) 98 401 (.pointer (some ⟨f, 0, none⟩)) (.pointer (some c)) Tryz.underlying65 (by decide) w
  go_enter Tryz.func44, Tryz.ntmps44
  go_wp2
  refine wp_loop_rounds 2 ?_
  rw [rounds_succ]
  go_wp2
  rw [rounds_succ]
  go_wp2
  go_ret
  exact ⟨rfl, rfl⟩
end Go.Proofs.YtfohjjcihioinaaGreatDoor

namespace Go.Proofs.YtfohjjcihioinaaGreatDoor
open Go.RowKit Go.Extern.Stop Go.Stop Go.Extern

/-! the handle of a type, its reflectlite.Type, the Value of a pointer that lies at a -/
theorem as_valueOf (p : Addr) (w : World) : (callFunc 110 #[.iface 100 (.pointer (some p))]).run Tryz.prog w = .ok (.value ((Value.agg #[Value.pointer (some (Addr.mk 24 100 none)), Value.pointer (some ⟨w.heap.size, 0, none⟩), Value.int IntKind.u64 150]))) (w.alloc (.cells #[.pointer (some p)] 100)) := by kernel_rfl
theorem as_valueOfF (p : Addr) (w : World) : (callFunc 110 #[.iface 98 (.pointer (some p))]).run Tryz.prog w = .ok (.value ((Value.agg #[Value.pointer (some (Addr.mk 24 98 none)), Value.pointer (some ⟨w.heap.size, 0, none⟩), Value.int IntKind.u64 150]))) (w.alloc (.cells #[.pointer (some p)] 98)) := by kernel_rfl
theorem as_type (a : Addr) (w : World) : (callFunc 111 #[(Value.agg #[Value.pointer (some (Addr.mk 24 100 none)), Value.pointer (some a), Value.int IntKind.u64 150])]).run Tryz.prog w = .ok (.value (Value.iface 260 (Value.agg #[Value.pointer (some (Addr.mk 24 100 none))]))) w := by kernel_rfl
theorem rt_kind (h : Value) (w : World) : (Go.method 534 260 (.agg #[h]) "Kind").run Tryz.prog w = .ok (338, h) w := by kernel_rfl
theorem rt_elem (h : Value) (w : World) : (Go.method 534 260 (.agg #[h]) "Elem").run Tryz.prog w = .ok (352, .agg #[h]) w := by kernel_rfl
theorem rt_implements (h : Value) (w : World) : (Go.method 534 260 (.agg #[h]) "Implements").run Tryz.prog w = .ok (353, .agg #[h]) w := by kernel_rfl
theorem rt_assignable (h : Value) (w : World) : (Go.method 534 260 (.agg #[h]) "AssignableTo").run Tryz.prog w = .ok (350, .agg #[h]) w := by kernel_rfl
theorem as_kindPP (w : World) : (callFunc 338 #[(Value.pointer (some (Addr.mk 24 100 none)))]).run Tryz.prog w = .ok (.value (.int .u8 22)) w := by kernel_rfl
theorem as_kindP (w : World) : (callFunc 338 #[(Value.pointer (some (Addr.mk 24 98 none)))]).run Tryz.prog w = .ok (.value (.int .u8 22)) w := by kernel_rfl
theorem as_elem (w : World) : (callFunc 352 #[.agg #[(Value.pointer (some (Addr.mk 24 100 none)))]]).run Tryz.prog w = .ok (.value (Value.iface 260 (Value.agg #[Value.pointer (some (Addr.mk 24 98 none))]))) w := by kernel_rfl
theorem as_implements (w : World) : (callFunc 353 #[.agg #[(Value.pointer (some (Addr.mk 24 98 none)))], (Value.iface 260 (Value.agg #[Value.pointer (some (Addr.mk 24 65 none))]))]).run Tryz.prog w = .ok (.value (.bool true)) w := by kernel_rfl
theorem as_typeOf (v : Value) (w : World) : (callFunc 114 #[.iface 98 v]).run Tryz.prog w = .ok (.value (Value.iface 260 (Value.agg #[Value.pointer (some (Addr.mk 24 98 none))]))) w := by kernel_rfl
theorem as_assignable (w : World) : (callFunc 350 #[.agg #[(Value.pointer (some (Addr.mk 24 98 none)))], (Value.iface 260 (Value.agg #[Value.pointer (some (Addr.mk 24 98 none))]))]).run Tryz.prog w = .ok (.value (.bool true)) w := by kernel_rfl
theorem as_assignableNot (w : World) : (callFunc 350 #[.agg #[(Value.pointer (some (Addr.mk 24 401 none)))], (Value.iface 260 (Value.agg #[Value.pointer (some (Addr.mk 24 98 none))]))]).run Tryz.prog w = .ok (.value (.bool false)) w := by kernel_rfl
theorem es_noAs (v : Value) (x : TypeId) (w : World) : (Instr.typeAssert (.iface 401 v) x 264 true).run Tryz.prog w = .ok (.tuple #[.nilIface, .bool false]) w := run_typeAssert_lacksB Tryz.underlying264 (by kernel_rfl) (by kernel_rfl) v x w
end Go.Proofs.YtfohjjcihioinaaGreatDoor
