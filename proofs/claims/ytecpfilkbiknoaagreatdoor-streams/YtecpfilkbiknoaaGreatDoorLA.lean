/- What the listed variables say of the program's errors. -/
import Derived.Test.YtecpfilkbiknoaaGreatDoorPY
import Derived.Test.YtecpfilkbiknoaaGreatDoorRows
import Derived.LaidLaws
import Derived.LaidHandle
import Derived.Lib.LaidTab
namespace Go.Proofs.YtecpfilkbiknoaaGreatDoor
open Go.ChangeShapes Go.WideShapes Go.RowKit

theorem star_es : "*" ++ "errors.errorString" = "*errors.errorString" := by decide
theorem row_es (u : TypeId) (h : Tryz.prog.typeName? 3 u = some "*errors.errorString") : u = 174 :=
  typeName_ptr_named (nm := "errors.errorString") (by rw [star_es]; kernel_rfl) (by kernel_rfl) (by decide) u (by rw [star_es]; exact h)
theorem cells_es : Tryz.prog.cellsOf 194 = 1 := by kernel_rfl
theorem cells_str : Tryz.prog.cellsOf 9 = 1 := by kernel_rfl
theorem cells_int : Tryz.prog.cellsOf 3 = 1 := by kernel_rfl
theorem cells_order : Tryz.prog.cellsOf 171 = 19 := by kernel_rfl

/-- each place that the list meets lies in a block that may be written, and what it holds is well made -/
def RowsOk (W : World) (ps : List MemPlace) : Prop := ∀ b off, MemPlace.cell b off ∈ ps →
    (∃ c t, W.heap[b]? = some (Obj.cells c t (0, 0))) ∧ ∀ u v, W.cell? ⟨b, off, none⟩ = some (.iface u v) → Value.okWide Tryz.prog W .any 0 u v
theorem RowsOk.sub {W : World} {ps qs : List MemPlace} (h : RowsOk W ps) (hs : ∀ x ∈ qs, x ∈ ps) : RowsOk W qs := fun b off hm => h b off (hs _ hm)

set_option maxRecDepth 8000 in
theorem err_head {W : World} {name : String} {text : List UInt8} {rest : List (String × DataW Unit)} {ps : List MemPlace} (g : Nat)
    (h : DataW.LaidVars Tryz.prog W ((name, .iface "*errors.errorString" (.ptr (.agg [.lit (.string text)]))) :: rest) ps) (hrows : RowsOk W ps)
    (hg : Tryz.prog.globalNamed name = some g) (ht : (Tryz.prog.globals[g]?).map (·.type) = some 34) :
    ∃ a q, W.cell? ⟨g, 0, none⟩ = some (errV a) ∧ (∃ c t, W.heap[a.block]? = some (Obj.cells c t (0, 0))) ∧ DataW.LaidVars Tryz.prog W rest q ∧ ps = .cell g 0 :: .cell a.block a.off :: q ∧ RowsOk W q := by
  obtain ⟨g', t', cs, f, p, q, hg', ht', hv, hd, hr, e⟩ := h
  obtain rfl := Option.some.inj (hg.symm.trans hg')
  obtain rfl := Option.some.inj (ht.symm.trans ht')
  subst e
  obtain ⟨l⟩ := cs
  have ok : ∀ u v, l = [.iface u v] → Value.okWide Tryz.prog W .any 0 u v := fun u v e => by
    subst e
    have hm : MemPlace.cell g 0 ∈ MemPlace.row ⟨g, 0, none⟩ (Array.mk [Value.iface u v]).size ++ p ++ q := by simp [MemPlace.row]
    have hc : W.cell? ⟨g, 0, none⟩ = some (.iface u v) := by simpa using World.var?_cell hg hv 0
    have h1 := (hrows g 0 hm).2
    exact h1 u v hc
  obtain ⟨a, s, rfl, hc, hs, hz, rfl⟩ := errorString_of_trod Tryz.underlying34 row_es Tryz.underlying174 Tryz.underlying194 rfl rfl Tryz.underlying9 cells_es cells_str hd ok
  have e : MemPlace.row ⟨g, 0, none⟩ 1 ++ MemPlace.row a 1 ++ q = .cell g 0 :: .cell a.block a.off :: q := by simp [MemPlace.row]
  have hrows : RowsOk W (MemPlace.row ⟨g, 0, none⟩ 1 ++ MemPlace.row a 1 ++ q) := hrows
  rw [e] at hrows
  refine ⟨a, q, ?_, (hrows a.block a.off (by simp)).1, hr, e, hrows.sub (fun x hx => by simp [hx])⟩
  simpa [errV] using World.var?_cell hg hv 0

theorem laid_rest : (Rows.streamsRow.laid.filter fun x => x.2.handleName?.isNone) = Rows.streamsRow.laid.tail := by kernel_rfl
theorem laid_handle : (Rows.streamsRow.laid.filter fun x => x.2.handleName?.isSome) = [("errors.errorType", Rows.laid_errors_errorType)] := by kernel_rfl
theorem laid_split {W : World} (h : laidMetH Tryz.prog Rows.streamsRow.laid W) : laidMet Tryz.prog Rows.streamsRow.laid.tail W ∧ handlesMet Tryz.prog [("errors.errorType", Rows.laid_errors_errorType)] W := by
  unfold laidMetH at h
  rw [laid_handle, laid_rest] at h
  exact h

theorem rt_row : (Tryz.prog.cutTypes.find? (·.1 == "internal/reflectlite.rtype")).map (·.2) = some 124 := by kernel_rfl
theorem type_size : Tryz.prog.types.size = 206 := by kernel_rfl
theorem error_row : ((List.range 206).filter fun t => Tryz.prog.rowNamed t [101, 114, 114, 111, 114]) = [34] := by kernel_rfl
theorem error_handle : typeHandle Tryz.prog 34 = (Value.pointer (some (Addr.mk 15 34 none))) := by kernel_rfl
theorem g_errorType : Tryz.prog.globalNamed "errors.errorType" = some 2 := by kernel_rfl
theorem errorType_of {W : World} (h : handlesMet Tryz.prog [("errors.errorType", Rows.laid_errors_errorType)] W) : W.cell? ⟨2, 0, none⟩ = some (Value.iface 124 (Value.agg #[Value.pointer (some (Addr.mk 15 34 none))])) := by
  obtain ⟨name, u, ty, e1, e2, e3, e4, e5⟩ := h _ (List.mem_singleton.2 rfl)
  have en : name = [101, 114, 114, 111, 114] := (Option.some.inj e1).symm
  subst en
  obtain rfl := Option.some.inj (rt_row.symm.trans e2)
  have hm : ty ∈ (List.range 206).filter fun t => Tryz.prog.rowNamed t [101, 114, 114, 111, 114] := List.mem_filter.2 ⟨List.mem_range.2 (by rw [← type_size]; exact e3), e4⟩
  rw [error_row] at hm
  obtain rfl := List.mem_singleton.1 hm
  rw [error_handle] at e5
  simpa using World.var?_cell g_errorType e5 0

theorem g_order : Tryz.prog.globalNamed "bindery/stream.lengthOrder" = some 10 := by kernel_rfl
theorem g_orderType : (Tryz.prog.globals[10]?).map (·.type) = some 171 := by kernel_rfl
theorem under_order : Tryz.prog.underlying 171 = some (.array 19 3) := by kernel_rfl
def orderInts : List Int := [16, 17, 18, 0, 8, 7, 9, 6, 10, 5, 11, 4, 12, 3, 13, 2, 14, 1, 15]
theorem order_ints : ∀ i, i < 19 → orderInts.getD i 0 = ((order19.getD i 0 : Nat) : Int) := by decide
theorem order_of {W : World} (h : laidMet Tryz.prog Rows.streamsRow.laid.tail W) : ∀ i, i < 19 → W.cell? ⟨10, i, none⟩ = some (.int .i64 ((order19.getD i 0 : Nat) : Int)) := fun i hi => by
  have t : Lib.TabIs Tryz.prog W "bindery/stream.lengthOrder" .i64 orderInts := Lib.tabIs_of_head (rest := Rows.streamsRow.laid.tail.tail) g_order g_orderType under_order Tryz.underlying3 cells_int cells_order h
  rw [t.cell g_order i (by simpa [orderInts] using hi), order_ints i hi]

theorem globals_blocks : decide (15 < (begin Tryz.prog (fun _ _ => 0) default).world.heap.size) = true := by kernel_rfl
theorem globals_size : Tryz.prog.globals.size = 15 := by kernel_rfl
theorem size_of {W : World} (h : W.ShapedOpen Tryz.prog) : 15 ≤ W.heap.size := by
  obtain ⟨o, o0, ho, _⟩ := h.2 15 (Nat.le_of_eq globals_size) (of_decide_eq_true globals_blocks)
  rcases Nat.lt_or_ge 15 W.heap.size with h1 | h1
  · omega
  · rw [Array.getElem?_eq_none h1] at ho; cases ho

theorem errs_of {W : World} (h : laidMetH Tryz.prog Rows.streamsRow.laid W) (hw : W.ShapedOpen Tryz.prog) : ∃ er : Errs, er.Full W := by
  obtain ⟨hl, hh⟩ := laid_split h
  have ho := order_of hl
  have ht := errorType_of hh
  have hs := size_of hw
  obtain ⟨ps, ⟨_, _, _, _, _, q0, _, _, _, _, l0, e0⟩, hnd, hr⟩ := hl
  have r0 : RowsOk W q0 := RowsOk.sub (ps := ps) hr (fun x hx => by rw [e0]; exact List.mem_append_right _ hx)
  rw [e0] at hnd
  have n0 : q0.Nodup := (List.nodup_append.1 hnd).2.1
  clear hnd e0 hr
  obtain ⟨many, q1, c1, b1, l1, e1, r1⟩ := err_head 0 l0 r0 (by kernel_rfl) (by kernel_rfl)
  obtain ⟨lim, q2, c2, b2, l2, e2, r2⟩ := err_head 1 l1 r1 (by kernel_rfl) (by kernel_rfl)
  obtain ⟨short, q3, c3, b3, l3, e3, r3⟩ := err_head 3 l2 r2 (by kernel_rfl) (by kernel_rfl)
  obtain ⟨kind, q4, c4, b4, l4, e4, r4⟩ := err_head 4 l3 r3 (by kernel_rfl) (by kernel_rfl)
  obtain ⟨turned, q5, c5, b5, l5, e5, r5⟩ := err_head 5 l4 r4 (by kernel_rfl) (by kernel_rfl)
  obtain ⟨counts, q6, c6, b6, l6, e6, r6⟩ := err_head 6 l5 r5 (by kernel_rfl) (by kernel_rfl)
  obtain ⟨ahead, q7, c7, b7, l7, e7, r7⟩ := err_head 14 l6 r6 (by kernel_rfl) (by kernel_rfl)
  obtain ⟨row, q8, c8, b8, l8, e8, r8⟩ := err_head 11 l7 r7 (by kernel_rfl) (by kernel_rfl)
  obtain ⟨lengths, q9, c9, b9, l9, e9, r9⟩ := err_head 13 l8 r8 (by kernel_rfl) (by kernel_rfl)
  obtain ⟨noEnd, q10, c10, b10, l10, e10, r10⟩ := err_head 12 l9 r9 (by kernel_rfl) (by kernel_rfl)
  obtain ⟨code, q11, c11, b11, l11, e11, r11⟩ := err_head 7 l10 r10 (by kernel_rfl) (by kernel_rfl)
  obtain ⟨symbol, q12, c12, b12, l12, e12, r12⟩ := err_head 8 l11 r11 (by kernel_rfl) (by kernel_rfl)
  obtain ⟨far, q13, c13, b13, l13, e13, r13⟩ := err_head 9 l12 r12 (by kernel_rfl) (by kernel_rfl)
  have n2 : MemPlace.cell lim.block lim.off ∉ q2 := by
    rw [e1, e2] at n0
    simp only [List.nodup_cons] at n0
    exact n0.2.2.2.1
  rw [e3, e4, e5, e6, e7, e8, e9, e10, e11, e12, e13] at n2
  refine ⟨⟨short, kind, turned, counts, ahead, row, lengths, noEnd, code, symbol, far, lim, many⟩, ⟨hs, c3, c4, c5, c6, c7, c8, c9, c10, c11, c12, c13, c2, c1, ho⟩, ht, ?_, b2⟩
  intro b hb
  refine ⟨fun e => n2 ?_, ?_⟩
  · subst e
    rcases hb with e | e | e | e | e | e | e | e | e | e | e <;> · simp only at e; subst e; simp
  · rcases hb with e | e | e | e | e | e | e | e | e | e | e <;> · simp only at e; subst e; assumption
end Go.Proofs.YtecpfilkbiknoaaGreatDoor
