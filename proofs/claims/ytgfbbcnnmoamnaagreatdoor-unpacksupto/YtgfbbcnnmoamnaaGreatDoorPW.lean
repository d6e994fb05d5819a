/- errors.Is at the program's errors. errors.As at the program's faults. -/
import Derived.Test.YtgfbbcnnmoamnaaGreatDoorPU
import Derived.LaidEql
import Derived.Stop.Asserts
import Derived.RowKitTokens
namespace Go.Proofs.YtgfbbcnnmoamnaaGreatDoor
open Go.RowKit Go.Extern.Stop Go.Stop Go.Extern

theorem es_typeOf (v : Value) (w : World) : (callFunc 64 #[.iface 438 v]).run Tryz.prog w = .ok (.value (.iface 219 (.agg #[.pointer (some ⟨24, 438, none⟩)]))) w := by kernel_rfl
theorem es_comparable (w : World) : (callFunc 403 #[.agg #[.pointer (some ⟨24, 438, none⟩)]]).run Tryz.prog w = .ok (.value (.bool true)) w := by kernel_rfl
theorem rt_comparable (v : Value) (w : World) : (Go.method 574 219 v "Comparable").run Tryz.prog w = .ok (403, v) w := by kernel_rfl
theorem fa_method (v : Value) (w : World) : (Go.method 574 75 v "Unwrap").run Tryz.prog w = .ok (395, v) w := by kernel_rfl
theorem es_comp : (Tryz.prog.info? 438).map (·.comparable) = some true := by kernel_rfl
theorem es_size : (Tryz.prog.info? 440).map (·.size) = some 1 := by kernel_rfl
theorem es_noIs (v : Value) (x : TypeId) (w : World) : (Instr.typeAssert (.iface 438 v) x 230 true).run Tryz.prog w = .ok (.tuple #[.nilIface, .bool false]) w := run_typeAssert_lacksB Tryz.underlying230 (by kernel_rfl) (by kernel_rfl) v x w
theorem es_noUnwrap (v : Value) (x : TypeId) (w : World) : (Instr.typeAssert (.iface 438 v) x 226 true).run Tryz.prog w = .ok (.tuple #[.nilIface, .bool false]) w := run_typeAssert_lacksB Tryz.underlying226 (by kernel_rfl) (by kernel_rfl) v x w
theorem es_noUnwraps (v : Value) (x : TypeId) (w : World) : (Instr.typeAssert (.iface 438 v) x 227 true).run Tryz.prog w = .ok (.tuple #[.nilIface, .bool false]) w := run_typeAssert_lacksB Tryz.underlying227 (by kernel_rfl) (by kernel_rfl) v x w
theorem fa_noIs (v : Value) (x : TypeId) (w : World) : (Instr.typeAssert (.iface 75 v) x 230 true).run Tryz.prog w = .ok (.tuple #[.nilIface, .bool false]) w := run_typeAssert_lacksB Tryz.underlying230 (by kernel_rfl) (by kernel_rfl) v x w
theorem fa_unwrap (v : Value) (x : TypeId) (w : World) : (Instr.typeAssert (.iface 75 v) x 226 true).run Tryz.prog w = .ok (.tuple #[.iface 75 v, .bool true]) w := run_typeAssert_hasB Tryz.underlying226 (by kernel_rfl) v x w

set_option maxHeartbeats 1000000 in
set_option maxRecDepth 8000 in
/-- errors.Is of a fault and of an error: the same that it wraps -/
theorem is_lim (f : Nat) (b : Addr) (w : World) (h1 : w.cell? ⟨f, 1, none⟩ = some (errV b)) :
    Calls Tryz.prog 25 #[.iface 75 (.pointer (some ⟨f, 0, none⟩)), errV b] w fun e w' => e = .returned (.bool true) ∧ w' = w := by
  unfold errV at h1 ⊢
  obtain ⟨i, hi, hc⟩ := Option.map_eq_some_iff.1 es_comp
  obtain ⟨j, hj, hjs⟩ := Option.map_eq_some_iff.1 es_size
  have a1 := es_typeOf
  have a2 := es_comparable
  have a3 := es_noIs
  have a4 := es_noUnwrap
  have a5 := es_noUnwraps
  have a6 := fa_noIs
  have a7 := fa_unwrap
  have a8 := rt_comparable
  have a9 := fa_method
  have heq := run_eql_iface_ptr_same (P := Tryz.prog) w b Tryz.underlying41 Tryz.underlying438 hi hc hj
  have hty := run_eql_iface_types (P := Tryz.prog) 75 438 (.pointer (some ⟨f, 0, none⟩)) (.pointer (some b)) Tryz.underlying41 (by decide) w
  go_enter Tryz.func25, Tryz.ntmps25
  go_wp2
  refine wp_loop_rounds 2 ?_
  rw [rounds_succ]
  go_wp2
  rw [rounds_succ]
  go_wp2
  go_ret
  exact ⟨rfl, rfl⟩
set_option maxHeartbeats 1000000 in
set_option maxRecDepth 8000 in
/-- errors.Is of a fault and of an error: another than it wraps -/
theorem is_bad (f : Nat) (b c : Addr) (w : World) (h1 : w.cell? ⟨f, 1, none⟩ = some (errV b)) (hne : b ≠ c) {cb cc : Array Value} {tb tc : TypeId} (hb : w.heap[b.block]? = some (.cells cb tb (0, 0))) (hcc : w.heap[c.block]? = some (.cells cc tc (0, 0))) :
    Calls Tryz.prog 25 #[.iface 75 (.pointer (some ⟨f, 0, none⟩)), errV c] w fun e w' => e = .returned (.bool false) ∧ w' = w := by
  unfold errV at h1 ⊢
  obtain ⟨i, hi, hc⟩ := Option.map_eq_some_iff.1 es_comp
  obtain ⟨j, hj, hjs⟩ := Option.map_eq_some_iff.1 es_size
  have a1 := es_typeOf
  have a2 := es_comparable
  have a3 := es_noIs
  have a4 := es_noUnwrap
  have a5 := es_noUnwraps
  have a6 := fa_noIs
  have a7 := fa_unwrap
  have a8 := rt_comparable
  have a9 := fa_method
  have heq := run_eql_iface_ptr_other (P := Tryz.prog) (a := b) (b := c) w Tryz.underlying41 Tryz.underlying438 hi hc hj (by rw [hjs]; decide) hne hb hcc
  have hty := run_eql_iface_types (P := Tryz.prog) 75 438 (.pointer (some ⟨f, 0, none⟩)) (.pointer (some c)) Tryz.underlying41 (by decide) w
  go_enter Tryz.func25, Tryz.ntmps25
  go_wp2
  refine wp_loop_rounds 2 ?_
  rw [rounds_succ]
  go_wp2
  rw [rounds_succ]
  go_wp2
  go_ret
  exact ⟨rfl, rfl⟩
end Go.Proofs.YtgfbbcnnmoamnaaGreatDoor

namespace Go.Proofs.YtgfbbcnnmoamnaaGreatDoor
open Go.RowKit Go.Extern.Stop Go.Stop Go.Extern

/-! the handle of a type, its reflectlite.Type, the Value of a pointer that lies at a -/
theorem as_valueOf (p : Addr) (w : World) : (callFunc 60 #[.iface 77 (.pointer (some p))]).run Tryz.prog w = .ok (.value ((Value.agg #[Value.pointer (some (Addr.mk 24 77 none)), Value.pointer (some ⟨w.heap.size, 0, none⟩), Value.int IntKind.u64 150]))) (w.alloc (.cells #[.pointer (some p)] 77)) := by kernel_rfl
theorem as_valueOfF (p : Addr) (w : World) : (callFunc 60 #[.iface 75 (.pointer (some p))]).run Tryz.prog w = .ok (.value ((Value.agg #[Value.pointer (some (Addr.mk 24 75 none)), Value.pointer (some ⟨w.heap.size, 0, none⟩), Value.int IntKind.u64 150]))) (w.alloc (.cells #[.pointer (some p)] 75)) := by kernel_rfl
theorem as_type (a : Addr) (w : World) : (callFunc 61 #[(Value.agg #[Value.pointer (some (Addr.mk 24 77 none)), Value.pointer (some a), Value.int IntKind.u64 150])]).run Tryz.prog w = .ok (.value (Value.iface 219 (Value.agg #[Value.pointer (some (Addr.mk 24 77 none))]))) w := by kernel_rfl
theorem rt_kind (h : Value) (w : World) : (Go.method 574 219 (.agg #[h]) "Kind").run Tryz.prog w = .ok (390, h) w := by kernel_rfl
theorem rt_elem (h : Value) (w : World) : (Go.method 574 219 (.agg #[h]) "Elem").run Tryz.prog w = .ok (404, .agg #[h]) w := by kernel_rfl
theorem rt_implements (h : Value) (w : World) : (Go.method 574 219 (.agg #[h]) "Implements").run Tryz.prog w = .ok (405, .agg #[h]) w := by kernel_rfl
theorem rt_assignable (h : Value) (w : World) : (Go.method 574 219 (.agg #[h]) "AssignableTo").run Tryz.prog w = .ok (402, .agg #[h]) w := by kernel_rfl
theorem as_kindPP (w : World) : (callFunc 390 #[(Value.pointer (some (Addr.mk 24 77 none)))]).run Tryz.prog w = .ok (.value (.int .u8 22)) w := by kernel_rfl
theorem as_kindP (w : World) : (callFunc 390 #[(Value.pointer (some (Addr.mk 24 75 none)))]).run Tryz.prog w = .ok (.value (.int .u8 22)) w := by kernel_rfl
theorem as_elem (w : World) : (callFunc 404 #[.agg #[(Value.pointer (some (Addr.mk 24 77 none)))]]).run Tryz.prog w = .ok (.value (Value.iface 219 (Value.agg #[Value.pointer (some (Addr.mk 24 75 none))]))) w := by kernel_rfl
theorem as_implements (w : World) : (callFunc 405 #[.agg #[(Value.pointer (some (Addr.mk 24 75 none)))], (Value.iface 219 (Value.agg #[Value.pointer (some (Addr.mk 24 41 none))]))]).run Tryz.prog w = .ok (.value (.bool true)) w := by kernel_rfl
theorem as_typeOf (v : Value) (w : World) : (callFunc 64 #[.iface 75 v]).run Tryz.prog w = .ok (.value (Value.iface 219 (Value.agg #[Value.pointer (some (Addr.mk 24 75 none))]))) w := by kernel_rfl
theorem as_assignable (w : World) : (callFunc 402 #[.agg #[(Value.pointer (some (Addr.mk 24 75 none)))], (Value.iface 219 (Value.agg #[Value.pointer (some (Addr.mk 24 75 none))]))]).run Tryz.prog w = .ok (.value (.bool true)) w := by kernel_rfl
theorem as_assignableNot (w : World) : (callFunc 402 #[.agg #[(Value.pointer (some (Addr.mk 24 438 none)))], (Value.iface 219 (Value.agg #[Value.pointer (some (Addr.mk 24 75 none))]))]).run Tryz.prog w = .ok (.value (.bool false)) w := by kernel_rfl
theorem es_noAs (v : Value) (x : TypeId) (w : World) : (Instr.typeAssert (.iface 438 v) x 223 true).run Tryz.prog w = .ok (.tuple #[.nilIface, .bool false]) w := run_typeAssert_lacksB Tryz.underlying223 (by kernel_rfl) (by kernel_rfl) v x w
end Go.Proofs.YtgfbbcnnmoamnaaGreatDoor
