/- A row of bytes that the call made itself, appended to byte by byte. -/
import Derived.Test.YteiolcongejhgaaDoorRefD
import Derived.ArgAppend
import Derived.Laws.IdiomStrings
import Derived.Shelf.Strings.BuilderK
namespace Go.Proofs.YteiolcongejhgaaDoor
open Go.RowKit

theorem info5 : (Tryd.prog.info? 5).map (fun i => (i.zero, i.size, i.bytes)) = some (some (.int .u8 0), 1, 1) := by kernel_rfl
/-- the slice v holds the bytes l, in a block from base on, none of whose cells is frozen -/
def BRow (base : Nat) (v : Value) (l : List UInt8) (w : World) : Prop :=
  ∃ g cap cur fz, v = .slice (some ⟨g, 0, none⟩) l.length cap ∧ base ≤ g ∧ w.heap[g]? = some (.cells cur 5 fz) ∧ l.length ≤ cap ∧ cur.size = cap ∧ cur.toList.take l.length = Lib.byteCells l ∧ (fz = (0, 0) ∨ cap ≤ fz.1)
theorem BRow.keep {base : Nat} {v : Value} {l : List UInt8} {w w' : World} (h : BRow base v l w) (hb : Below w.heap.size w w') : BRow base v l w' := by
  obtain ⟨g, cap, cur, fz, h1, h2, h3, h4⟩ := h
  exact ⟨g, cap, cur, fz, h1, h2, (hb.block g (lt_of_block h3)).trans h3, h4⟩
theorem BRow.alloc {base : Nat} {v : Value} {l : List UInt8} {w : World} (h : BRow base v l w) (o : Obj) : BRow base v l (w.alloc o) :=
  h.keep ((Below.refl _ _).alloc (Nat.le_refl _) o)
theorem BRow.cells {base : Nat} {v : Value} {l : List UInt8} {w : World} (h : BRow base v l w) : ∃ g cap, v = .slice (some ⟨g, 0, none⟩) l.length cap ∧ base ≤ g ∧ g < w.heap.size ∧ l.length ≤ cap ∧ ∀ j, j < l.length → w.cell? ⟨g, j, none⟩ = some (.int .u8 ((l.getD j 0).toNat : Int)) := by
  obtain ⟨g, cap, cur, fz, h1, h2, h3, h4, h5, h6, _⟩ := h
  refine ⟨g, cap, h1, h2, lt_of_block h3, h4, fun j hj => ?_⟩
  have e : cur.toList[j]? = (cur.toList.take l.length)[j]? := by rw [List.getElem?_take_of_lt hj]
  rw [cell_of_row _ _ _ _ _ _ h3, ← Array.getElem?_toList, e, h6]
  simp [Lib.byteCells, hj]
theorem brow_of_own {base : Nat} {v : Value} {l : List UInt8} {w : World} (h : w.ownsRow base 5 1 v l.length (Lib.byteCells l)) (hl : l ≠ []) : BRow base v l w := by
  rcases h.2 with ⟨rfl, h0⟩ | ⟨g, cap, cur, rfl, h1, hg, h2, _, h3, h4⟩
  · exact absurd (List.length_eq_zero_iff.1 h0) hl
  · exact ⟨g, cap, cur, (0, 0), rfl, h1, hg, h2, by simpa using h3, by simpa using h4, .inl rfl⟩

theorem take_set_next (xs : List Value) (n : Nat) (v : Value) (h : n < xs.length) : (xs.set n v).take (n + 1) = xs.take n ++ [v] := by
  apply List.ext_getElem
  · simp; omega
  · intro j h1 h2
    rw [List.getElem_take, List.getElem_set]
    by_cases e : n = j
    · subst e
      rw [if_pos rfl, List.getElem_append_right (by simp; omega)]
      simp
    · have hj : j < n := by simp at h1; omega
      rw [if_neg e, List.getElem_append_left (by simp; omega), List.getElem_take]
theorem append_byte {ops : Array Oper} {rest : List Oper} {o : Oper} {a : Act} {w : World} {Q : Exit → Act → World → Prop} (hgd : o.guard = none) (s x : Operand)
    (ho : o.op = Op.call { callee := Callee.builtin Builtin.append, args := #[s, x], argTypes := #[28, 28] }) (base : Nat) (v : Value) (l : List UInt8) (c : UInt8) (hs : a.eval s = v) (hrow : BRow base v l w)
    (gx : Nat) (hx : a.eval x = .slice (some ⟨gx, 0, none⟩) 1 1) (hc : w.cell? ⟨gx, 0, none⟩ = some (.int .u8 (c.toNat : Int))) (hlen : l.length + 1 ≤ 140737488355328) (hbase : base ≤ w.heap.size)
    (h : ∀ v' w', BRow base v' (l ++ [c]) w' → Below base w w' → wpList Tryd.prog ops Q rest (a.put o.dst v') w') : wpList Tryd.prog ops Q (o :: rest) a w := by
  obtain ⟨i0, hi0, hz0, hz1, hz2⟩ := info_parts info5
  have hcells := hrow.cells
  obtain ⟨g, cap, cur, fz, rfl, h2, h3, h4, h5, h6, h7⟩ := hrow
  obtain ⟨g', cap', he, _, hlt, _, hcell⟩ := hcells
  simp only [Value.slice.injEq, Option.some.injEq, Addr.mk.injEq, and_true, true_and] at he
  obtain ⟨rfl, rfl⟩ := he
  refine wpList_append_arg w hgd s x 28 ho 5 i0 (.int .u8 0) 1 1 Tryd.underlying28 hi0 hz0 hz1 hz2 rfl (by decide) g 0 l.length cap (Lib.byteCells l) hs (by simp [Lib.byteCells_length]) ?_ ⟨gx, 0, none⟩ 1 1 [.int .u8 (c.toNat : Int)] hx rfl ?_ (by simp [Value.oneCell']) ?_ (by unfold maxLen; omega) (by omega) ?_ ?_
  · intro j u hj
    have hj' : j < l.length := by
      have := (List.getElem?_eq_some_iff.1 hj).1
      simpa [Lib.byteCells_length] using this
    rw [Nat.zero_add, hcell j hj']
    simp [Lib.byteCells, hj'] at hj ⊢
    exact hj
  · intro j u hj
    match j, hj with
    | 0, hj => simp at hj; subst hj; simpa [Addr.add] using hc
  · intro hr j hj
    have hj0 : j = 0 := by simpa using hj
    subst hj0
    refine ⟨?_, ?_⟩
    · rw [cell_of_row _ _ _ _ _ _ h3]
      simp
      omega
    · rcases h7 with h7 | h7
      · subst h7; exact frozen_of_row _ _ _ _ _ h3
      · simp [World.frozen?, h3]
        omega
  · intro hr
    have hset : w.setCells g (0 + l.length * 1) [.int .u8 (c.toNat : Int)] = w.setCell ⟨g, l.length, none⟩ (.int .u8 (c.toNat : Int)) := by
      simp [World.setCells]
    rw [hset]
    refine h _ _ ?_ ?_
    · refine ⟨g, cap, cur.setIfInBounds l.length (.int .u8 (c.toNat : Int)), fz, by simp, h2, ?_, by simp; omega, by simp [h5], ?_, h7⟩
      · rw [setCell_eq_setRow w g l.length cur 5 fz _ h3]
        exact setRow_heap w g cur _ 5 _ h3
      · rw [Array.toList_setIfInBounds, List.length_append, List.length_singleton, take_set_next _ _ _ (by simp; omega), h6, Lib.byteCells_append]
        rfl
    · exact (Below.refl base w).setCell h2 _
  · intro _ v' w' hown hg
    refine h v' w' ?_ ?_
    · have := brow_of_own (base := w.heap.size) (v := v') (l := l ++ [c]) (w := w') (by rw [Lib.byteCells_append]; simpa [Lib.byteCells] using hown) (by simp)
      obtain ⟨g1, cap1, cur1, fz1, q1, q2, q3⟩ := this
      exact ⟨g1, cap1, cur1, fz1, q1, by omega, q3⟩
    · exact (Below.refl base w).grown hg hbase (fun k hk => by cases hk)
end Go.Proofs.YteiolcongejhgaaDoor
