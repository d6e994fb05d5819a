/- errors.Is at the program's errors. errors.As at the program's faults. -/
import Derived.Test.YtecpfilkbiknoaaGreatDoorPU
import Derived.LaidEql
import Derived.Stop.Asserts
import Derived.RowKitTokens
namespace Go.Proofs.YtecpfilkbiknoaaGreatDoor
open Go.RowKit Go.Extern.Stop Go.Stop Go.Extern

theorem es_typeOf (v : Value) (w : World) : (callFunc 38 #[.iface 174 v]).run Tryz.prog w = .ok (.value (.iface 124 (.agg #[.pointer (some ⟨15, 174, none⟩)]))) w := by kernel_rfl
theorem es_comparable (w : World) : (callFunc 112 #[.agg #[.pointer (some ⟨15, 174, none⟩)]]).run Tryz.prog w = .ok (.value (.bool true)) w := by kernel_rfl
theorem rt_comparable (v : Value) (w : World) : (Go.method 306 124 v "Comparable").run Tryz.prog w = .ok (112, v) w := by kernel_rfl
theorem fa_method (v : Value) (w : World) : (Go.method 306 58 v "Unwrap").run Tryz.prog w = .ok (106, v) w := by kernel_rfl
theorem es_comp : (Tryz.prog.info? 174).map (·.comparable) = some true := by kernel_rfl
theorem es_size : (Tryz.prog.info? 194).map (·.size) = some 1 := by kernel_rfl
theorem es_noIs (v : Value) (x : TypeId) (w : World) : (Instr.typeAssert (.iface 174 v) x 135 true).run Tryz.prog w = .ok (.tuple #[.nilIface, .bool false]) w := run_typeAssert_lacksB Tryz.underlying135 (by kernel_rfl) (by kernel_rfl) v x w
theorem es_noUnwrap (v : Value) (x : TypeId) (w : World) : (Instr.typeAssert (.iface 174 v) x 131 true).run Tryz.prog w = .ok (.tuple #[.nilIface, .bool false]) w := run_typeAssert_lacksB Tryz.underlying131 (by kernel_rfl) (by kernel_rfl) v x w
theorem es_noUnwraps (v : Value) (x : TypeId) (w : World) : (Instr.typeAssert (.iface 174 v) x 132 true).run Tryz.prog w = .ok (.tuple #[.nilIface, .bool false]) w := run_typeAssert_lacksB Tryz.underlying132 (by kernel_rfl) (by kernel_rfl) v x w
theorem fa_noIs (v : Value) (x : TypeId) (w : World) : (Instr.typeAssert (.iface 58 v) x 135 true).run Tryz.prog w = .ok (.tuple #[.nilIface, .bool false]) w := run_typeAssert_lacksB Tryz.underlying135 (by kernel_rfl) (by kernel_rfl) v x w
theorem fa_unwrap (v : Value) (x : TypeId) (w : World) : (Instr.typeAssert (.iface 58 v) x 131 true).run Tryz.prog w = .ok (.tuple #[.iface 58 v, .bool true]) w := run_typeAssert_hasB Tryz.underlying131 (by kernel_rfl) v x w

set_option maxHeartbeats 1000000 in
set_option maxRecDepth 8000 in
/-- errors.Is of a fault and of an error: the same that it wraps -/
theorem is_lim (f : Nat) (b : Addr) (w : World) (h1 : w.cell? ⟨f, 1, none⟩ = some (errV b)) :
    Calls Tryz.prog 18 #[.iface 58 (.pointer (some ⟨f, 0, none⟩)), errV b] w fun e w' => e = .returned (.bool true) ∧ w' = w := by
  unfold errV at h1 ⊢
  obtain ⟨i, hi, hc⟩ := Option.map_eq_some_iff.1 es_comp
  obtain ⟨j, hj, hjs⟩ := Option.map_eq_some_iff.1 es_size
  have a1 := es_typeOf
  have a2 := es_comparable
  have a3 := es_noIs
  have a4 := es_noUnwrap
  have a5 := es_noUnwraps
  have a6 := fa_noIs
  have a7 := fa_unwrap
  have a8 := rt_comparable
  have a9 := fa_method
  have heq := run_eql_iface_ptr_same (P := Tryz.prog) w b Tryz.underlying34 Tryz.underlying174 hi hc hj
  have hty := run_eql_iface_types (P := Tryz.prog) 58 174 (.pointer (some ⟨f, 0, none⟩)) (.pointer (some b)) Tryz.underlying34 (by decide) w
  go_enter Tryz.func18, Tryz.ntmps18
  go_wp2
  refine wp_loop_rounds 2 ?_
  rw [rounds_succ]
  go_wp2
  rw [rounds_succ]
  go_wp2
  go_ret
  exact ⟨rfl, rfl⟩
set_option maxHeartbeats 1000000 in
set_option maxRecDepth 8000 in
/-- errors.Is of a fault and of an error: another than it wraps -/
theorem is_bad (f : Nat) (b c : Addr) (w : World) (h1 : w.cell? ⟨f, 1, none⟩ = some (errV b)) (hne : b ≠ c) {cb cc : Array Value} {tb tc : TypeId} (hb : w.heap[b.block]? = some (.cells cb tb (0, 0))) (hcc : w.heap[c.block]? = some (.cells cc tc (0, 0))) :
    Calls Tryz.prog 18 #[.iface 58 (.pointer (some ⟨f, 0, none⟩)), errV c] w fun e w' => e = .returned (.bool false) ∧ w' = w := by
  unfold errV at h1 ⊢
  obtain ⟨i, hi, hc⟩ := Option.map_eq_some_iff.1 es_comp
  obtain ⟨j, hj, hjs⟩ := Option.map_eq_some_iff.1 es_size
  have a1 := es_typeOf
  have a2 := es_comparable
  have a3 := es_noIs
  have a4 := es_noUnwrap
  have a5 := es_noUnwraps
  have a6 := fa_noIs
  have a7 := fa_unwrap
  have a8 := rt_comparable
  have a9 := fa_method
  have heq := run_eql_iface_ptr_other (P := Tryz.prog) (a := b) (b := c) w Tryz.underlying34 Tryz.underlying174 hi hc hj (by rw [hjs]; decide) hne hb hcc
  have hty := run_eql_iface_types (P := Tryz.prog) 58 174 (.pointer (some ⟨f, 0, none⟩)) (.pointer (some c)) Tryz.underlying34 (by decide) w
  go_enter Tryz.func18, Tryz.ntmps18
  go_wp2
  refine wp_loop_rounds 2 ?_
  rw [rounds_succ]
  go_wp2
  rw [rounds_succ]
  go_wp2
  go_ret
  exact ⟨rfl, rfl⟩
end Go.Proofs.YtecpfilkbiknoaaGreatDoor

namespace Go.Proofs.YtecpfilkbiknoaaGreatDoor
open Go.RowKit Go.Extern.Stop Go.Stop Go.Extern

/-! the handle of a type, its reflectlite.Type, the Value of a pointer that lies at a -/
theorem as_valueOf (p : Addr) (w : World) : (callFunc 34 #[.iface 63 (.pointer (some p))]).run Tryz.prog w = .ok (.value ((Value.agg #[Value.pointer (some (Addr.mk 15 63 none)), Value.pointer (some ⟨w.heap.size, 0, none⟩), Value.int IntKind.u64 150]))) (w.alloc (.cells #[.pointer (some p)] 63)) := by kernel_rfl
theorem as_valueOfF (p : Addr) (w : World) : (callFunc 34 #[.iface 58 (.pointer (some p))]).run Tryz.prog w = .ok (.value ((Value.agg #[Value.pointer (some (Addr.mk 15 58 none)), Value.pointer (some ⟨w.heap.size, 0, none⟩), Value.int IntKind.u64 150]))) (w.alloc (.cells #[.pointer (some p)] 58)) := by kernel_rfl
theorem as_type (a : Addr) (w : World) : (callFunc 35 #[(Value.agg #[Value.pointer (some (Addr.mk 15 63 none)), Value.pointer (some a), Value.int IntKind.u64 150])]).run Tryz.prog w = .ok (.value (Value.iface 124 (Value.agg #[Value.pointer (some (Addr.mk 15 63 none))]))) w := by kernel_rfl
theorem rt_kind (h : Value) (w : World) : (Go.method 306 124 (.agg #[h]) "Kind").run Tryz.prog w = .ok (102, h) w := by kernel_rfl
theorem rt_elem (h : Value) (w : World) : (Go.method 306 124 (.agg #[h]) "Elem").run Tryz.prog w = .ok (113, .agg #[h]) w := by kernel_rfl
theorem rt_implements (h : Value) (w : World) : (Go.method 306 124 (.agg #[h]) "Implements").run Tryz.prog w = .ok (114, .agg #[h]) w := by kernel_rfl
theorem rt_assignable (h : Value) (w : World) : (Go.method 306 124 (.agg #[h]) "AssignableTo").run Tryz.prog w = .ok (111, .agg #[h]) w := by kernel_rfl
theorem as_kindPP (w : World) : (callFunc 102 #[(Value.pointer (some (Addr.mk 15 63 none)))]).run Tryz.prog w = .ok (.value (.int .u8 22)) w := by kernel_rfl
theorem as_kindP (w : World) : (callFunc 102 #[(Value.pointer (some (Addr.mk 15 58 none)))]).run Tryz.prog w = .ok (.value (.int .u8 22)) w := by kernel_rfl
theorem as_elem (w : World) : (callFunc 113 #[.agg #[(Value.pointer (some (Addr.mk 15 63 none)))]]).run Tryz.prog w = .ok (.value (Value.iface 124 (Value.agg #[Value.pointer (some (Addr.mk 15 58 none))]))) w := by kernel_rfl
theorem as_implements (w : World) : (callFunc 114 #[.agg #[(Value.pointer (some (Addr.mk 15 58 none)))], (Value.iface 124 (Value.agg #[Value.pointer (some (Addr.mk 15 34 none))]))]).run Tryz.prog w = .ok (.value (.bool true)) w := by kernel_rfl
theorem as_typeOf (v : Value) (w : World) : (callFunc 38 #[.iface 58 v]).run Tryz.prog w = .ok (.value (Value.iface 124 (Value.agg #[Value.pointer (some (Addr.mk 15 58 none))]))) w := by kernel_rfl
theorem as_assignable (w : World) : (callFunc 111 #[.agg #[(Value.pointer (some (Addr.mk 15 58 none)))], (Value.iface 124 (Value.agg #[Value.pointer (some (Addr.mk 15 58 none))]))]).run Tryz.prog w = .ok (.value (.bool true)) w := by kernel_rfl
theorem as_assignableNot (w : World) : (callFunc 111 #[.agg #[(Value.pointer (some (Addr.mk 15 174 none)))], (Value.iface 124 (Value.agg #[Value.pointer (some (Addr.mk 15 58 none))]))]).run Tryz.prog w = .ok (.value (.bool false)) w := by kernel_rfl
theorem es_noAs (v : Value) (x : TypeId) (w : World) : (Instr.typeAssert (.iface 174 v) x 128 true).run Tryz.prog w = .ok (.tuple #[.nilIface, .bool false]) w := run_typeAssert_lacksB Tryz.underlying128 (by kernel_rfl) (by kernel_rfl) v x w
end Go.Proofs.YtecpfilkbiknoaaGreatDoor
