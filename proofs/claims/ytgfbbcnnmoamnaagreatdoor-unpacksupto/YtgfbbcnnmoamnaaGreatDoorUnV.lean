/- What the listed variables say: the errors, the table of powers. What the calls stand on, out of the listed variables of the row of Unpacks. -/
import Derived.Test.YtgfbbcnnmoamnaaGreatDoorUnP
import Derived.Test.YtgfbbcnnmoamnaaGreatDoorRows
import Derived.LaidLaws
import Derived.LaidHandle
import Derived.Lib.LaidTab
namespace Go.Proofs.YtgfbbcnnmoamnaaGreatDoor.Tr
open Go.ChangeShapes Go.WideShapes Go.RowKit Go.Proofs.YtgfbbcnnmoamnaaGreatDoor

theorem star_es : "*" ++ "errors.errorString" = "*errors.errorString" := by decide
theorem row_es (u : TypeId) (h : Tryz.prog.typeName? 3 u = some "*errors.errorString") : u = 438 :=
  typeName_ptr_named (nm := "errors.errorString") (by rw [star_es]; kernel_rfl) (by kernel_rfl) (by decide) u (by rw [star_es]; exact h)
theorem cells_es : Tryz.prog.cellsOf 440 = 1 := by kernel_rfl
theorem cells_str : Tryz.prog.cellsOf 9 = 1 := by kernel_rfl
theorem cells_int : Tryz.prog.cellsOf 3 = 1 := by kernel_rfl
theorem cells_u64 : Tryz.prog.cellsOf 279 = 1 := by kernel_rfl
theorem cells_order : Tryz.prog.cellsOf 408 = 19 := by kernel_rfl
theorem cells_pow : Tryz.prog.cellsOf 343 = 20 := by kernel_rfl
/-- each place that the list meets lies in a block that may be written, and what it holds is well made -/
def RowsOk (W : World) (ps : List MemPlace) : Prop := ∀ b off, MemPlace.cell b off ∈ ps →
    (∃ c t, W.heap[b]? = some (Obj.cells c t (0, 0))) ∧ ∀ u v, W.cell? ⟨b, off, none⟩ = some (.iface u v) → Value.okWide Tryz.prog W .any 0 u v
theorem RowsOk.sub {W : World} {ps qs : List MemPlace} (h : RowsOk W ps) (hs : ∀ x ∈ qs, x ∈ ps) : RowsOk W qs := fun b off hm => h b off (hs _ hm)
/-- each listed variable by itself, at places of its own -/
theorem laid_all {P : Program} {W : World} : ∀ {L : List (String × DataW Unit)} {ps : List MemPlace}, DataW.LaidVars P W L ps → ∃ F : Nat → List MemPlace, ps = (List.range L.length).flatMap F ∧ ∀ i x, L[i]? = some x → DataW.LaidVars P W [x] (F i)
  | [], ps, h => ⟨fun _ => [], by rw [show ps = [] from h]; rfl, fun i x hi => by simp at hi⟩
  | (n, d) :: r, ps, h => by
    obtain ⟨g, t, cs, fuel, p, q, h1, h2, h3, h4, h5, h6⟩ := h
    obtain ⟨F, f1, f2⟩ := laid_all h5
    refine ⟨fun | 0 => MemPlace.row ⟨g, 0, none⟩ cs.size ++ p | i + 1 => F i, ?_, fun i x hi => ?_⟩
    · rw [h6, f1, List.length_cons, List.range_succ_eq_map, List.flatMap_cons, List.flatMap_map]
    · cases i with
      | zero =>
        have e : (n, d) = x := by simpa using hi
        subst e
        exact ⟨g, t, cs, fuel, p, [], h1, h2, h3, h4, rfl, by simp⟩
      | succ i => exact f2 i x (by simpa using hi)
/-- what is met -/
structure Met (W : World) (L : List (String × DataW Unit)) (F : Nat → List MemPlace) : Prop where
  one : ∀ i x, L[i]? = some x → DataW.LaidVars Tryz.prog W [x] (F i)
  apart : ∀ i j, i < L.length → j < L.length → i ≠ j → ∀ x ∈ F i, x ∉ F j
  nd : ∀ i, i < L.length → (F i).Nodup
  rows : ∀ i, i < L.length → RowsOk W (F i)
theorem met_of {W : World} {L : List (String × DataW Unit)} (h : laidMet Tryz.prog L W) : ∃ F, Met W L F := by
  obtain ⟨ps, h1, h2, h3⟩ := h
  obtain ⟨F, f1, f2⟩ := laid_all h1
  rw [f1, List.nodup_iff_pairwise_ne, List.pairwise_flatMap] at h2
  obtain ⟨n1, n2⟩ := h2
  rw [List.pairwise_iff_getElem] at n2
  have lt : ∀ i j, i < L.length → j < L.length → i < j → ∀ x ∈ F i, ∀ y ∈ F j, x ≠ y := fun i j hi hj hij x hx y hy => by
    have := n2 i j (by simpa using hi) (by simpa using hj) hij x (by simpa using hx) y (by simpa using hy)
    exact this
  refine ⟨F, f2, fun i j hi hj hij x hx hxj => ?_, fun i hi => ?_, fun i hi => ?_⟩
  · rcases Nat.lt_or_gt_of_ne hij with h | h
    · exact lt i j hi hj h x hx x hxj rfl
    · exact lt j i hj hi h x hxj x hx rfl
  · rw [List.nodup_iff_pairwise_ne]; exact n1 i (List.mem_range.2 hi)
  · exact RowsOk.sub (ps := ps) h3 (fun x hx => by rw [f1]; exact List.mem_flatMap.2 ⟨i, List.mem_range.2 hi, hx⟩)
set_option maxRecDepth 8000 in
theorem err_one {W : World} {name : String} {text : List UInt8} {ps : List MemPlace} (g : Nat)
    (h : DataW.LaidVars Tryz.prog W [(name, .iface "*errors.errorString" (.ptr (.agg [.lit (.string text)])))] ps) (hrows : RowsOk W ps)
    (hg : Tryz.prog.globalNamed name = some g) (ht : (Tryz.prog.globals[g]?).map (·.type) = some 41) :
    ∃ a, W.cell? ⟨g, 0, none⟩ = some (errV a) ∧ (∃ c t, W.heap[a.block]? = some (Obj.cells c t (0, 0))) ∧ (∃ c t, W.heap[g]? = some (Obj.cells c t (0, 0))) ∧ MemPlace.cell a.block a.off ∈ ps := by
  obtain ⟨g', t', cs, f, p, q, hg', ht', hv, hd, hr, e⟩ := h
  obtain rfl := Option.some.inj (hg.symm.trans hg')
  obtain rfl := Option.some.inj (ht.symm.trans ht')
  subst e
  obtain ⟨l⟩ := cs
  have ok : ∀ u v, l = [.iface u v] → Value.okWide Tryz.prog W .any 0 u v := fun u v e => by
    subst e
    have hm : MemPlace.cell g 0 ∈ MemPlace.row ⟨g, 0, none⟩ (Array.mk [Value.iface u v]).size ++ p ++ q := by simp [MemPlace.row]
    have hc : W.cell? ⟨g, 0, none⟩ = some (.iface u v) := by simpa using World.var?_cell hg hv 0
    have h1 := (hrows g 0 hm).2
    exact h1 u v hc
  obtain ⟨a, s, rfl, hc, hs, hz, rfl⟩ := errorString_of_trod Tryz.underlying41 row_es Tryz.underlying438 Tryz.underlying440 rfl rfl Tryz.underlying9 cells_es cells_str hd ok
  have e : MemPlace.row ⟨g, 0, none⟩ 1 ++ MemPlace.row a 1 ++ q = .cell g 0 :: .cell a.block a.off :: q := by simp [MemPlace.row]
  have hrows : RowsOk W (MemPlace.row ⟨g, 0, none⟩ 1 ++ MemPlace.row a 1 ++ q) := hrows
  have hmem : MemPlace.cell a.block a.off ∈ MemPlace.row ⟨g, 0, none⟩ 1 ++ MemPlace.row a 1 ++ q := by rw [e]; simp
  have hmg : MemPlace.cell g 0 ∈ MemPlace.row ⟨g, 0, none⟩ 1 ++ MemPlace.row a 1 ++ q := by rw [e]; simp
  refine ⟨a, ?_, (hrows a.block a.off hmem).1, (hrows g 0 hmg).1, hmem⟩
  simpa [errV] using World.var?_cell hg hv 0
theorem rt_row : (Tryz.prog.cutTypes.find? (·.1 == "internal/reflectlite.rtype")).map (·.2) = some 219 := by kernel_rfl
theorem type_size : Tryz.prog.types.size = 474 := by kernel_rfl
theorem error_row : ((List.range 474).filter fun t => Tryz.prog.rowNamed t [101, 114, 114, 111, 114]) = [41] := by kernel_rfl
theorem error_handle : typeHandle Tryz.prog 41 = (Value.pointer (some (Addr.mk 24 41 none))) := by kernel_rfl
theorem g_errorType : Tryz.prog.globalNamed "errors.errorType" = some 2 := by kernel_rfl
theorem errorType_of {W : World} (h : handlesMet Tryz.prog [("errors.errorType", Rows.laid_errors_errorType)] W) : W.cell? ⟨2, 0, none⟩ = some (Value.iface 219 (Value.agg #[Value.pointer (some (Addr.mk 24 41 none))])) := by
  obtain ⟨name, u, ty, e1, e2, e3, e4, e5⟩ := h _ (List.mem_singleton.2 rfl)
  have en : name = [101, 114, 114, 111, 114] := (Option.some.inj e1).symm
  subst en
  obtain rfl := Option.some.inj (rt_row.symm.trans e2)
  have hm : ty ∈ (List.range 474).filter fun t => Tryz.prog.rowNamed t [101, 114, 114, 111, 114] := List.mem_filter.2 ⟨List.mem_range.2 (by rw [← type_size]; exact e3), e4⟩
  rw [error_row] at hm
  obtain rfl := List.mem_singleton.1 hm
  rw [error_handle] at e5
  simpa using World.var?_cell g_errorType e5 0
theorem g_order : Tryz.prog.globalNamed "bindery/stream.lengthOrder" = some 13 := by kernel_rfl
theorem g_orderType : (Tryz.prog.globals[13]?).map (·.type) = some 408 := by kernel_rfl
theorem under_order : Tryz.prog.underlying 408 = some (.array 19 3) := by kernel_rfl
def orderInts : List Int := [16, 17, 18, 0, 8, 7, 9, 6, 10, 5, 11, 4, 12, 3, 13, 2, 14, 1, 15]
theorem order_ints : ∀ i, i < 19 → orderInts.getD i 0 = ((order19.getD i 0 : Nat) : Int) := by decide
theorem order_of {W : World} (h : laidMet Tryz.prog [("bindery/stream.lengthOrder", Rows.laid_bindery_stream_lengthOrder)] W) : ∀ i, i < 19 → W.cell? ⟨13, i, none⟩ = some (.int .i64 ((order19.getD i 0 : Nat) : Int)) := fun i hi => by
  have t : Lib.TabIs Tryz.prog W "bindery/stream.lengthOrder" .i64 orderInts := Lib.tabIs_of_head (rest := []) g_order g_orderType under_order Tryz.underlying3 cells_int cells_order h
  rw [t.cell g_order i (by simpa [orderInts] using hi), order_ints i hi]
theorem g_pow : Tryz.prog.globalNamed "internal/strconv.uint64pow10" = some 6 := by kernel_rfl
theorem g_powType : (Tryz.prog.globals[6]?).map (·.type) = some 343 := by kernel_rfl
theorem under_pow : Tryz.prog.underlying 343 = some (.array 20 279) := by kernel_rfl
theorem under_u64 : Tryz.prog.underlying 279 = some (.int .u64) := by kernel_rfl
theorem pow_tab : (Rows.laid_internal_strconv_uint64pow10 : DataW Unit) = Lib.tabData .u64 Lib.pow10Tab := by kernel_rfl
theorem pow_of {W : World} (h : laidMet Tryz.prog [("internal/strconv.uint64pow10", Rows.laid_internal_strconv_uint64pow10)] W) : Pow W := by
  rw [pow_tab] at h
  exact Lib.tabIs_of_head (rest := []) g_pow g_powType under_pow under_u64 cells_u64 cells_pow h
theorem globals_blocks : decide (24 < (begin Tryz.prog (fun _ _ => 0) default).world.heap.size) = true := by kernel_rfl
theorem globals_size : Tryz.prog.globals.size = 24 := by kernel_rfl
theorem sizeG_of {W : World} (h : W.ShapedOpen Tryz.prog) : 24 ≤ W.heap.size := by
  obtain ⟨o, o0, ho, _⟩ := h.2 24 (Nat.le_of_eq globals_size) (of_decide_eq_true globals_blocks)
  rcases Nat.lt_or_ge 24 W.heap.size with h1 | h1
  · omega
  · rw [Array.getElem?_eq_none h1] at ho; cases ho
theorem Met.tab {W : World} {L : List (String × DataW Unit)} {F : Nat → List MemPlace} (h : Met W L F) {x : String × DataW Unit} (hx : x ∈ L) : laidMet Tryz.prog [x] W := by
  obtain ⟨i, hi, rfl⟩ := List.getElem_of_mem hx
  exact ⟨F i, h.one i _ (List.getElem?_eq_getElem hi), h.nd i hi, h.rows i hi⟩
/-- an error, with its place -/
theorem Met.err {W : World} {L : List (String × DataW Unit)} {F : Nat → List MemPlace} (h : Met W L F) {name : String} {text : List UInt8} (g : Nat) (hx : (name, DataW.iface "*errors.errorString" (.ptr (.agg [.lit (.string text)]))) ∈ L) (hg : Tryz.prog.globalNamed name = some g) (ht : (Tryz.prog.globals[g]?).map (·.type) = some 41) :
    ∃ i a, i < L.length ∧ (L.map (·.1))[i]? = some name ∧ W.cell? ⟨g, 0, none⟩ = some (errV a) ∧ (∃ c t, W.heap[a.block]? = some (Obj.cells c t (0, 0))) ∧ (∃ c t, W.heap[g]? = some (Obj.cells c t (0, 0))) ∧ MemPlace.cell a.block a.off ∈ F i := by
  obtain ⟨i, hi, e⟩ := List.getElem_of_mem hx
  obtain ⟨a, h1, h2, h3, h4⟩ := err_one g (by rw [← e]; exact h.one i _ (List.getElem?_eq_getElem hi)) (h.rows i hi) hg ht
  exact ⟨i, a, hi, by rw [List.getElem?_map, List.getElem?_eq_getElem hi, e]; rfl, h1, h2, h3, h4⟩
theorem Met.unlike {W : World} {L : List (String × DataW Unit)} {F : Nat → List MemPlace} (h : Met W L F) {i j : Nat} {n m : String} {a b : Addr} (hi : i < L.length) (hj : j < L.length) (ni : (L.map (·.1))[i]? = some n) (nj : (L.map (·.1))[j]? = some m) (hne : n ≠ m) (ha : MemPlace.cell a.block a.off ∈ F i) (hb : MemPlace.cell b.block b.off ∈ F j) : a ≠ b := fun e => by
  have hij : i ≠ j := fun e2 => by rw [e2, nj] at ni; injection ni with ni; exact hne ni.symm
  rw [e] at ha
  exact h.apart i j hi hj hij _ ha hb
end Go.Proofs.YtgfbbcnnmoamnaaGreatDoor.Tr

namespace Go.Proofs.YtgfbbcnnmoamnaaGreatDoor.Tr
open Go.ChangeShapes Go.WideShapes Go.RowKit Go.Proofs.YtgfbbcnnmoamnaaGreatDoor

theorem laid_handle : (Rows.unpacksUptoRow.laid.filter fun x => x.2.handleName?.isSome) = [("errors.errorType", Rows.laid_errors_errorType)] := by kernel_rfl
theorem laid_split {W : World} (h : laidMetH Tryz.prog Rows.unpacksUptoRow.laid W) : laidMet Tryz.prog (Rows.unpacksUptoRow.laid.filter fun x => x.2.handleName?.isNone) W ∧ handlesMet Tryz.prog [("errors.errorType", Rows.laid_errors_errorType)] W := by
  unfold laidMetH at h
  rw [laid_handle] at h
  exact h
theorem in_laid {x : String × DataW Unit} (h : x ∈ Rows.unpacksUptoRow.laid) (hn : x.2.handleName?.isNone = true) : x ∈ Rows.unpacksUptoRow.laid.filter fun x => x.2.handleName?.isNone := List.mem_filter.2 ⟨h, hn⟩
theorem m_many : ("bindery/stream.ErrMany", Rows.laid_bindery_stream_ErrMany) ∈ Rows.unpacksUptoRow.laid := by
  unfold Rows.unpacksUptoRow; repeat (first | exact List.mem_cons_self | apply List.mem_cons_of_mem)
theorem m_lim : ("bindery/stream.ErrLimit", Rows.laid_bindery_stream_ErrLimit) ∈ Rows.unpacksUptoRow.laid := by
  unfold Rows.unpacksUptoRow; repeat (first | exact List.mem_cons_self | apply List.mem_cons_of_mem)
theorem m_short : ("bindery/stream.ErrShort", Rows.laid_bindery_stream_ErrShort) ∈ Rows.unpacksUptoRow.laid := by
  unfold Rows.unpacksUptoRow; repeat (first | exact List.mem_cons_self | apply List.mem_cons_of_mem)
theorem m_kind : ("bindery/stream.ErrKind", Rows.laid_bindery_stream_ErrKind) ∈ Rows.unpacksUptoRow.laid := by
  unfold Rows.unpacksUptoRow; repeat (first | exact List.mem_cons_self | apply List.mem_cons_of_mem)
theorem m_turned : ("bindery/stream.ErrTurned", Rows.laid_bindery_stream_ErrTurned) ∈ Rows.unpacksUptoRow.laid := by
  unfold Rows.unpacksUptoRow; repeat (first | exact List.mem_cons_self | apply List.mem_cons_of_mem)
theorem m_counts : ("bindery/stream.ErrCounts", Rows.laid_bindery_stream_ErrCounts) ∈ Rows.unpacksUptoRow.laid := by
  unfold Rows.unpacksUptoRow; repeat (first | exact List.mem_cons_self | apply List.mem_cons_of_mem)
theorem m_ahead : ("bindery/stream.ErrNoneAhead", Rows.laid_bindery_stream_ErrNoneAhead) ∈ Rows.unpacksUptoRow.laid := by
  unfold Rows.unpacksUptoRow; repeat (first | exact List.mem_cons_self | apply List.mem_cons_of_mem)
theorem m_row : ("bindery/stream.ErrRow", Rows.laid_bindery_stream_ErrRow) ∈ Rows.unpacksUptoRow.laid := by
  unfold Rows.unpacksUptoRow; repeat (first | exact List.mem_cons_self | apply List.mem_cons_of_mem)
theorem m_lengths : ("bindery/stream.ErrLengths", Rows.laid_bindery_stream_ErrLengths) ∈ Rows.unpacksUptoRow.laid := by
  unfold Rows.unpacksUptoRow; repeat (first | exact List.mem_cons_self | apply List.mem_cons_of_mem)
theorem m_noEnd : ("bindery/stream.ErrNoEnd", Rows.laid_bindery_stream_ErrNoEnd) ∈ Rows.unpacksUptoRow.laid := by
  unfold Rows.unpacksUptoRow; repeat (first | exact List.mem_cons_self | apply List.mem_cons_of_mem)
theorem m_code : ("bindery/stream.ErrCode", Rows.laid_bindery_stream_ErrCode) ∈ Rows.unpacksUptoRow.laid := by
  unfold Rows.unpacksUptoRow; repeat (first | exact List.mem_cons_self | apply List.mem_cons_of_mem)
theorem m_symbol : ("bindery/stream.ErrSymbol", Rows.laid_bindery_stream_ErrSymbol) ∈ Rows.unpacksUptoRow.laid := by
  unfold Rows.unpacksUptoRow; repeat (first | exact List.mem_cons_self | apply List.mem_cons_of_mem)
theorem m_far : ("bindery/stream.ErrFar", Rows.laid_bindery_stream_ErrFar) ∈ Rows.unpacksUptoRow.laid := by
  unfold Rows.unpacksUptoRow; repeat (first | exact List.mem_cons_self | apply List.mem_cons_of_mem)
theorem m_syntax : ("strconv.ErrSyntax", Rows.laid_strconv_ErrSyntax) ∈ Rows.unpacksUptoRow.laid := by
  unfold Rows.unpacksUptoRow; repeat (first | exact List.mem_cons_self | apply List.mem_cons_of_mem)
theorem m_range : ("strconv.ErrRange", Rows.laid_strconv_ErrRange) ∈ Rows.unpacksUptoRow.laid := by
  unfold Rows.unpacksUptoRow; repeat (first | exact List.mem_cons_self | apply List.mem_cons_of_mem)
theorem m_order : ("bindery/stream.lengthOrder", Rows.laid_bindery_stream_lengthOrder) ∈ Rows.unpacksUptoRow.laid := by
  unfold Rows.unpacksUptoRow; repeat (first | exact List.mem_cons_self | apply List.mem_cons_of_mem)
theorem m_pow : ("internal/strconv.uint64pow10", Rows.laid_internal_strconv_uint64pow10) ∈ Rows.unpacksUptoRow.laid := by
  unfold Rows.unpacksUptoRow; repeat (first | exact List.mem_cons_self | apply List.mem_cons_of_mem)
theorem iface_at {W : World} {g : Nat} {a : Addr} (h : W.cell? ⟨g, 0, none⟩ = some (errV a)) (hb : ∃ c t, W.heap[g]? = some (Obj.cells c t (0, 0))) : IfaceAt W g := by
  obtain ⟨c, t, hb⟩ := hb
  exact ⟨_, h, .inr ⟨_, _, rfl⟩, lt_of_block hb⟩
set_option maxRecDepth 8000 in
theorem base_of {W : World} (h : laidMetH Tryz.prog Rows.unpacksUptoRow.laid W) (hw : W.ShapedOpen Tryz.prog) : ∃ er : Errs, Base3 er W := by
  obtain ⟨hl, hh⟩ := laid_split h
  have ht := errorType_of hh
  have hs := sizeG_of hw
  obtain ⟨F, hF⟩ := met_of hl
  obtain ⟨L, HL⟩ : ∃ L, Hid (L = Rows.unpacksUptoRow.laid.filter fun x => x.2.handleName?.isNone) := ⟨_, rfl⟩
  rw [← HL.out] at hF
  have hin : ∀ {x : String × DataW Unit}, x ∈ Rows.unpacksUptoRow.laid → x.2.handleName?.isNone = true → x ∈ L := fun h1 h2 => by rw [HL.out]; exact in_laid h1 h2
  have ho := order_of (hF.tab (hin m_order rfl))
  have hp := pow_of (hF.tab (hin m_pow rfl))
  obtain ⟨i1, many, k1, n1, c1, b1, g1, f1⟩ := hF.err 0 (hin m_many rfl) (by kernel_rfl) (by kernel_rfl)
  obtain ⟨i2, lim, k2, n2, c2, b2, g2, f2⟩ := hF.err 1 (hin m_lim rfl) (by kernel_rfl) (by kernel_rfl)
  obtain ⟨i3, short, k3, n3, c3, b3, g3, f3⟩ := hF.err 4 (hin m_short rfl) (by kernel_rfl) (by kernel_rfl)
  obtain ⟨i4, kind, k4, n4, c4, b4, g4, f4⟩ := hF.err 5 (hin m_kind rfl) (by kernel_rfl) (by kernel_rfl)
  obtain ⟨i5, turned, k5, n5, c5, b5, g5, f5⟩ := hF.err 7 (hin m_turned rfl) (by kernel_rfl) (by kernel_rfl)
  obtain ⟨i6, counts, k6, n6, c6, b6, g6, f6⟩ := hF.err 8 (hin m_counts rfl) (by kernel_rfl) (by kernel_rfl)
  obtain ⟨i7, ahead, k7, n7, c7, b7, g7, f7⟩ := hF.err 19 (hin m_ahead rfl) (by kernel_rfl) (by kernel_rfl)
  obtain ⟨i8, row, k8, n8, c8, b8, g8, f8⟩ := hF.err 14 (hin m_row rfl) (by kernel_rfl) (by kernel_rfl)
  obtain ⟨i9, lengths, k9, n9, c9, b9, g9, f9⟩ := hF.err 18 (hin m_lengths rfl) (by kernel_rfl) (by kernel_rfl)
  obtain ⟨i10, noEnd, k10, n10, c10, b10, g10, f10⟩ := hF.err 15 (hin m_noEnd rfl) (by kernel_rfl) (by kernel_rfl)
  obtain ⟨i11, code, k11, n11, c11, b11, g11, f11⟩ := hF.err 10 (hin m_code rfl) (by kernel_rfl) (by kernel_rfl)
  obtain ⟨i12, symbol, k12, n12, c12, b12, g12, f12⟩ := hF.err 11 (hin m_symbol rfl) (by kernel_rfl) (by kernel_rfl)
  obtain ⟨i13, far, k13, n13, c13, b13, g13, f13⟩ := hF.err 12 (hin m_far rfl) (by kernel_rfl) (by kernel_rfl)
  obtain ⟨i14, syn, k14, n14, c14, b14, g14, f14⟩ := hF.err 20 (hin m_syntax rfl) (by kernel_rfl) (by kernel_rfl)
  obtain ⟨i15, rng, k15, n15, c15, b15, g15, f15⟩ := hF.err 21 (hin m_range rfl) (by kernel_rfl) (by kernel_rfl)
  refine ⟨⟨short, kind, turned, counts, ahead, row, lengths, noEnd, code, symbol, far, lim, many⟩, ⟨⟨hs, c3, c4, c5, c6, c7, c8, c9, c10, c11, c12, c13, c2, c1, ho⟩, ht, ?_, b2⟩, ⟨iface_at c14 g14, iface_at c15 g15⟩, hp⟩
  intro b hb
  rcases hb with e | e | e | e | e | e | e | e | e | e | e
  · simp only at e; subst e; exact ⟨hF.unlike k3 k2 n3 n2 (by decide) f3 f2, b3⟩
  · simp only at e; subst e; exact ⟨hF.unlike k4 k2 n4 n2 (by decide) f4 f2, b4⟩
  · simp only at e; subst e; exact ⟨hF.unlike k5 k2 n5 n2 (by decide) f5 f2, b5⟩
  · simp only at e; subst e; exact ⟨hF.unlike k6 k2 n6 n2 (by decide) f6 f2, b6⟩
  · simp only at e; subst e; exact ⟨hF.unlike k7 k2 n7 n2 (by decide) f7 f2, b7⟩
  · simp only at e; subst e; exact ⟨hF.unlike k8 k2 n8 n2 (by decide) f8 f2, b8⟩
  · simp only at e; subst e; exact ⟨hF.unlike k9 k2 n9 n2 (by decide) f9 f2, b9⟩
  · simp only at e; subst e; exact ⟨hF.unlike k10 k2 n10 n2 (by decide) f10 f2, b10⟩
  · simp only at e; subst e; exact ⟨hF.unlike k11 k2 n11 n2 (by decide) f11 f2, b11⟩
  · simp only at e; subst e; exact ⟨hF.unlike k12 k2 n12 n2 (by decide) f12 f2, b12⟩
  · simp only at e; subst e; exact ⟨hF.unlike k13 k2 n13 n2 (by decide) f13 f2, b13⟩
end Go.Proofs.YtgfbbcnnmoamnaaGreatDoor.Tr
