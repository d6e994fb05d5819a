/- The program's inflater: a byte comes out. -/
import Derived.Test.YtfohjjcihioinaaGreatDoorPA
import Derived.Deep.AppendLies
namespace Go.Proofs.YtfohjjcihioinaaGreatDoor
open Go.RowKit

section
variable {er : Errs} {g : Nat} {s : ByteArray} {lim : Nat} {fx : List Value} {k : Nat} {o : Value} {out : List UInt8}
/-- behind an append, ahead of the store -/
theorem Inf.grown {w w2 w3 : World} {H g2 cap2 : Nat} {x : UInt8} (h : Inf er g s lim fx k o out w) (hb : Below w.heap.size w w2) (hg3 : w2.grownBy w3 o.ownBlock) (hat : o.ownBlock = some g2 ∨ g2 = H) (hH : w.heap.size ≤ H)
    (hown : w3.ownsRow (g + 1) 5 1 (.slice (some ⟨g2, 0, none⟩) (out.length + 1) cap2) (out.length + 1) (Lib.byteCells out ++ [.int .u8 (x.toNat : Int)])) (hl : ¬ out.length ≥ lim) :
    w3.cell? ⟨g, 2, none⟩ = some o ∧ w3.frozen? ⟨g, 2, none⟩ = false ∧ Inf er g s lim fx k (.slice (some ⟨g2, 0, none⟩) (out.length + 1) cap2) (out ++ [x]) (w3.setCell ⟨g, 2, none⟩ (.slice (some ⟨g2, 0, none⟩) (out.length + 1) cap2)) ∧
      Step g o (.slice (some ⟨g2, 0, none⟩) (out.length + 1) cap2) w (w3.setCell ⟨g, 2, none⟩ (.slice (some ⟨g2, 0, none⟩) (out.length + 1) cap2)) := by
  have hg := h.hg
  have hlt := h.lt
  have hne : ∀ b, b < g + 1 → o.ownBlock ≠ some b := fun b hb e => by have := h.ownge e; omega
  have st : Step g o (.slice (some ⟨g2, 0, none⟩) (out.length + 1) cap2) w w3 := by
    refine ⟨hg3.os.trans hb.os, hg3.tape.trans hb.tape, hg3.output.trans hb.output, Nat.le_trans hb.size hg3.size, fun j hj _ ho => (hg3.block j (Nat.lt_of_lt_of_le hj hb.size) fun e => ho e.symm).trans (hb.block j hj), fun j hj => ?_⟩
    have e : g2 = j := by simpa [Value.ownBlock] using hj
    rcases hat with h1 | h1
    · exact .inl (e ▸ h1)
    · exact .inr (by omega)
  have hblk : w3.heap[g]? = some (.cells (IB s k o lim fx) 112 (0, 0)) :=
    (hg3.block g (Nat.lt_of_lt_of_le hlt hb.size) fun e => hne g (by omega) e.symm).trans ((hb.block g hlt).trans h.blk)
  have st2 := st.trans (Step.cell w3 ⟨g, 2, none⟩ rfl (.slice (some ⟨g2, 0, none⟩) (out.length + 1) cap2))
  refine ⟨(cell_of_row w3 g 2 _ _ _ hblk).trans (IB2 ..), frozen_of_row w3 g 2 _ _ hblk, ⟨h.errs.same st2.size fun j hj => st2.block j (by have := h.errs.size; omega) (by omega) (hne j (by omega)), h.hg, h.hs, h.hl, ?_, ?_, h.hk, by simp; omega⟩, st2⟩
  · rw [heap_setCell_same _ _ _ _ _ _ hblk, IB_out]
  · have e : Lib.byteCells (out ++ [x]) = Lib.byteCells out ++ [.int .u8 (x.toNat : Int)] := by simp [Lib.byteCells]
    have e2 : (out ++ [x]).length = out.length + 1 := by simp
    rw [e, e2]
    exact ownsRow_setCell_below hown (by simp) _
set_option maxHeartbeats 400000 in
theorem put_full (x : UInt8) (w : World) (h : Inf er g s lim fx k o out w) (hl : out.length ≥ lim) :
    Calls Tryz.prog 219 #[.pointer (some ⟨g, 0, none⟩), .int .u8 x.toNat] w fun e w' => e = .returned (errV er.lim) ∧ Inf er g s lim fx k o out w' ∧ Step g o o w w' := by
  have h2 := h.c2
  have h3 := h.c3
  have he := h.errs.lim
  obtain ⟨ao, cap, rfl⟩ := own_shape h.own
  go_enter Tryz.func219, Tryz.ntmps219
  go_wp2
  go_quiet (fail)
  go_wp2
  go_ret
  exact ⟨rfl, h.drewN _, Step.drewN (Step.refl ..) _⟩
set_option maxHeartbeats 400000 in
theorem put_ok (x : UInt8) (w : World) (h : Inf er g s lim fx k o out w) (hl : ¬ out.length ≥ lim) :
    Calls Tryz.prog 219 #[.pointer (some ⟨g, 0, none⟩), .int .u8 x.toNat] w fun e w' => e = .returned .nilIface ∧ ∃ o', Inf er g s lim fx k o' (out ++ [x]) w' ∧ Step g o o' w w' := by
  have h2 := h.c2
  have h3 := h.c3
  have hf := h.free 2
  obtain ⟨ao, cap, rfl⟩ := own_shape h.own
  obtain ⟨i0, hi0, hz0, hz1, hz2⟩ := info_parts infoU8
  have HN : Hid (out.length ≤ 20000 ∧ g < w.heap.size) := ⟨by have := h.ho; have := h.hl; omega, h.lt⟩
  have HO : Hid (w.ownsRow (g + 1) 5 1 (Value.slice ao out.length cap) out.length (Lib.byteCells out)) := h.own
  have HI : Hid (Inf er g s lim fx k (Value.slice ao out.length cap) out w) := h
  clear h
  go_enter Tryz.func219, Tryz.ntmps219
  go_wp2
  go_quiet (fail)
  go_wp2_with (at_builtin; refine wpList_append_lies _ rfl (.tmp 20) (.tmp 22) 75 rfl (g + 1) 5 i0 (.int .u8 0) 1 1 Tryz.underlying75 hi0 hz0 hz1 hz2 rfl (by decide) _ out.length _ rfl (World.ownsRow.alloc (show (w.drewN nq).ownsRow _ _ _ _ _ _ from HO.out) _) ⟨w.heap.size, 0, none⟩ 1 1 [.int .u8 (x.toNat : Int)] rfl rfl (cell_one_new _ _ _) (by simp [Value.oneCell']) (by decide) (by have := HN.out; unfold maxLen; omega) (by have := HN.out; omega) (by have := HN.out; simp; omega) (w.heap.size + 1) (by simp) ?_; intro g2 cap2 w3 hown3 hg3 hat _; obtain ⟨hc, hff, hres⟩ := Inf.grown HI.out ((below_drewN (Below.refl _ w) nq).alloc (Nat.le_refl _) _) hg3 hat (by omega) hown3 hl; have HR := (show Hid _ from hres); clear hown3 hg3 hat hres)
  go_ret
  exact ⟨rfl, _, HR.out.1, HR.out.2⟩
end
end Go.Proofs.YtfohjjcihioinaaGreatDoor
