/- Rows of modules: made, copied, written; lists that are lent. -/
import Derived.Test.YtjngbcbkapjkhaaGreatDoorLkPure
import Derived.OwnWalk
import Derived.Laws.CopyOwn
namespace Go.Proofs.YtjngbcbkapjkhaaGreatDoor.Lk
open Go.RowKit Go.Proofs.YtjngbcbkapjkhaaGreatDoor

/-- a list is copied, elements of any size -/
theorem run_copy_rowN {P : Program} (w : World) (dT sT ty elem : TypeId) (g o dLen dCap : Nat) (a : Addr) (sLen sCap z n : Nat) (cur : Array Value) (t : TypeId) (cs : List Value)
    (hu : P.underlying dT = some (.slice elem)) (hs : (P.info? elem).map (·.size) = some z)
    (hg : w.heap[g]? = some (.cells cur t (0, 0))) (hm : Nat.min sLen dLen = n) (hn : cs.length = n * z)
    (hsrc : ∀ j v, cs[j]? = some v → w.cell? (a.add j) = some v) (hfit : o + cs.length ≤ cur.size) (h1 : ∀ v ∈ cs, v.oneCell' = true) :
    (Builtin.copy_ #[dT, sT] ty #[.slice (some ⟨g, o, none⟩) dLen dCap, .slice (some a) sLen sCap]).run P w =
      .ok (goInt n) (w.setRow g (cur.toList.take o ++ cs ++ cur.toList.drop (o + cs.length)).toArray) := by
  have hl := run_loadCells_list (P := P) w a cs hsrc
  have hst := run_storeCells_at P g o t cs 0 cur w hg (by simpa using hfit) h1
  cases hq : P.info? elem with
  | none => simp [hq] at hs
  | some i =>
    have hi : i.size = z := by simpa [hq] using hs
    simp [Builtin.copy_, run_underlying hu, Builtin.lenOf, Builtin.firstCells, sizeOf, typeInfo, hq, hi, hm, ← hn, hl, hst]
theorem run_copy_noneN {P : Program} (w : World) (dT sT ty elem : TypeId) (d a : Option Addr) (dLen dCap sLen sCap z : Nat) (hu : P.underlying dT = some (.slice elem)) (hs : (P.info? elem).map (·.size) = some z) (hn : Nat.min sLen dLen = 0) :
    (Builtin.copy_ #[dT, sT] ty #[.slice d dLen dCap, .slice a sLen sCap]).run P w = .ok (goInt 0) w := by
  cases hq : P.info? elem with
  | none => simp [hq] at hs
  | some i =>
    have hl : ∀ (x : Addr), (loadCells x 0).run P w = .ok #[] w := fun x => by simpa using run_loadCells_list (P := P) w x [] (by simp)
    cases d <;> cases a <;> simp [Builtin.copy_, run_underlying hu, Builtin.lenOf, Builtin.firstCells, sizeOf, typeInfo, hq, hn, storeCells, hl]
theorem wpList_copyN {P : Program} {w : World} {ops : Array Oper} {rest : List Oper} {o : Oper} {a : Act} {Q : Exit → Act → World → Prop} (hgd : o.guard = none) (d s : Operand) (dT sT : TypeId)
    (ho : o.op = .call { callee := .builtin .copy, args := #[d, s], argTypes := #[dT, sT] }) (elem : TypeId) (z : Nat) (hu : P.underlying dT = some (.slice elem)) (hsz : (P.info? elem).map (·.size) = some z)
    (g dLen dCap : Nat) (sp : Option Addr) (sLen sCap n : Nat) (hd : a.eval d = .slice (some ⟨g, 0, none⟩) dLen dCap) (hs : a.eval s = .slice sp sLen sCap) (hm : Nat.min sLen dLen = n)
    (cur cs : List Value) (t : TypeId) (hg : w.heap[g]? = some (.cells cur.toArray t (0, 0))) (hn : cs.length = n * z)
    (hpos : 0 < n → ∃ ad, sp = some ad ∧ ∀ j v, cs[j]? = some v → w.cell? (ad.add j) = some v)
    (hfit : cs.length ≤ cur.length) (h1 : ∀ v ∈ cs, v.oneCell' = true) (B : Nat) (w0 : World) (hb : Below B w0 w) (hBg : B ≤ g)
    (h : ∀ w', Hid (w'.heap[g]? = some (.cells (cs ++ cur.drop cs.length).toArray t (0, 0))) → Below B w0 w' → wpList P ops Q rest (a.put o.dst (goInt n)) w') :
    wpList P ops Q (o :: rest) a w := by
  by_cases h0 : n = 0
  · subst h0
    obtain rfl : cs = [] := List.eq_nil_of_length_eq_zero (by simpa using hn)
    refine wpList_plain hgd fun K hK => ?_
    have hrun := run_copy_noneN (P := P) w dT sT o.type elem (some ⟨g, 0, none⟩) sp dLen dCap sLen sCap z hu hsz hm
    unfold Oper.wp
    simp [execOp, ho, resolve, invoke, builtin, hd, hs, hrun, Result.andThen]
    exact hK _ _ (h w (show _ = _ by simpa using hg) hb)
  · obtain ⟨ad, rfl, hsrc⟩ := hpos (by omega)
    refine wpList_plain hgd fun K hK => ?_
    have hrun := run_copy_rowN (P := P) w dT sT o.type elem g 0 dLen dCap ad sLen sCap z n cur.toArray t cs hu hsz hg hm hn hsrc (by simpa using hfit) h1
    unfold Oper.wp
    simp [execOp, ho, resolve, invoke, builtin, hd, hs, hrun, Result.andThen]
    refine hK _ _ (h _ (show _ = _ from ?_) (below_setRow hb hBg _))
    have := setRow_heap w g _ (cs ++ cur.drop cs.length).toArray t _ hg
    simpa using this

theorem set_three (a b c x y z : Value) (r : List Value) : (((a :: b :: c :: r).set 0 x).set 1 y).set 2 z = x :: y :: z :: r := rfl
theorem mcells_set : ∀ (l : List M) (i : Nat) (m : M), i < l.length → (((mcells l).set (i * 3) (.string ⟨m.n.toArray⟩)).set (i * 3 + 1) (.string ⟨m.v.toArray⟩)).set (i * 3 + 2) (.string ⟨m.d.toArray⟩) = mcells (l.set i m)
  | [], i, m, h => by simp at h
  | e :: l, 0, m, h => by simp [mcells]
  | e :: l, i + 1, m, h => by
    have ih := mcells_set l i m (by simpa using h)
    have e2 : ∀ (x : M) (t : List M), mcells (x :: t) = .string ⟨x.n.toArray⟩ :: .string ⟨x.v.toArray⟩ :: .string ⟨x.d.toArray⟩ :: mcells t := fun x t => by simp [mcells]
    rw [e2, List.set_cons_succ, e2, ← ih, show (i + 1) * 3 = i * 3 + 1 + 1 + 1 by omega, show i * 3 + 1 + 1 + 1 + 1 = (i * 3 + 1) + 1 + 1 + 1 from rfl, show i * 3 + 1 + 1 + 1 + 2 = (i * 3 + 2) + 1 + 1 + 1 from rfl]
    simp only [List.set_cons_succ]
/-- a row of modules at a block -/
def RowIs (w : World) (g : Nat) (l : List M) : Prop := w.heap[g]? = some (.cells (mcells l).toArray 25 (0, 0))
theorem RowIs.row {w : World} {g : Nat} {l : List M} (h : RowIs w g l) : Row w g l :=
  ⟨lt_of_block h, fun j m hj => by
    obtain ⟨c1, c2, c3⟩ := mcells_get l j m hj
    refine ⟨?_, ?_, ?_⟩
    · rw [cell_of_row _ _ _ _ _ _ h]; simpa using c1
    · rw [cell_of_row _ _ _ _ _ _ h]; simpa using c2
    · rw [cell_of_row _ _ _ _ _ _ h]; simpa using c3⟩
theorem RowIs.set {w : World} {g : Nat} {l : List M} (h : RowIs w g l) (i : Nat) (m : M) (hi : i < l.length) : RowIs (((w.setCell ⟨g, i * 3, none⟩ (.string ⟨m.n.toArray⟩)).setCell ⟨g, i * 3 + 1, none⟩ (.string ⟨m.v.toArray⟩)).setCell ⟨g, i * 3 + 2, none⟩ (.string ⟨m.d.toArray⟩)) g (l.set i m) := by
  have h1 := heap_setCell_same _ _ (i * 3) _ _ (.string ⟨m.n.toArray⟩) h
  have h2 := heap_setCell_same _ _ (i * 3 + 1) _ _ (.string ⟨m.v.toArray⟩) h1
  have h3 := heap_setCell_same _ _ (i * 3 + 2) _ _ (.string ⟨m.d.toArray⟩) h2
  unfold RowIs
  rw [h3, ← mcells_set l i m hi]
  simp
theorem RowIs.free {w : World} {g : Nat} {l : List M} (h : RowIs w g l) (j : Nat) : w.frozen? ⟨g, j, none⟩ = false := frozen_of_row w g j _ _ h
theorem RowIs.below {w w' : World} {g : Nat} {l : List M} (h : RowIs w g l) (hb : Below w.heap.size w w') : RowIs w' g l := (hb.block g (lt_of_block h)).trans h
theorem mcells_append (a b : List M) : mcells (a ++ b) = mcells a ++ mcells b := by simp [mcells]
theorem mcells_one (l : List M) : ∀ v ∈ mcells l, v.oneCell' = true := by
  intro v hv
  simp only [mcells, List.mem_flatMap] at hv
  obtain ⟨m, _, hv⟩ := hv
  simp only [List.mem_cons, List.not_mem_nil, or_false] at hv
  rcases hv with rfl | rfl | rfl <;> rfl
def zm : M := ⟨[], [], []⟩
theorem mcells_zero (k : Nat) : mcells (List.replicate k zm) = List.replicate (k * 3) (.string ⟨#[]⟩) := by
  induction k with
  | zero => rfl
  | succ k ih =>
    rw [List.replicate_succ, show mcells (zm :: List.replicate k zm) = .string ⟨#[]⟩ :: .string ⟨#[]⟩ :: .string ⟨#[]⟩ :: mcells (List.replicate k zm) by simp [mcells, zm], ih, show (k + 1) * 3 = k * 3 + 1 + 1 + 1 by omega, List.replicate_succ, List.replicate_succ, List.replicate_succ]
theorem made_zero (k : Nat) : (madeCells #[.string ⟨#[]⟩, .string ⟨#[]⟩, .string ⟨#[]⟩] (k * 3)).toList = mcells (List.replicate k zm) := by
  rw [mcells_zero]
  apply List.ext_getElem
  · simp [madeCells]
  · intro i h1 h2
    simp [madeCells]
    have : i % 3 = 0 ∨ i % 3 = 1 ∨ i % 3 = 2 := by omega
    rcases this with h | h | h <;> simp [h]
/-- what stands behind each list that is lent -/
def sp : M := ⟨[115, 112, 97, 114, 101], [], []⟩
def ov : M := ⟨[111, 118, 101, 114], [], []⟩
end Go.Proofs.YtjngbcbkapjkhaaGreatDoor.Lk
