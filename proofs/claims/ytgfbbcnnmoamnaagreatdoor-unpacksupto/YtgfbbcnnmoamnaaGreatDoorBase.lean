/- Small laws that the other texts lean on. What a stream says: the document's reading of bits, in plain functions. What a call on the program's inflater may turn: its own block, and the row of what came out. Codes: how symbols lie in their order. -/
import Derived.Test.YtgfbbcnnmoamnaaGreatDoorProg
import Derived.KernelRfl
import Derived.RowKit
import Derived.WalkSpells
import Derived.WalkLawsBesides
import Derived.Deep.QuietTactic
import Derived.BigQuiet
import Derived.Deep.WholeRow
import Derived.StillTailTactics
import Derived.Deep.OwnRows
import Derived.Lib.UnsafeStr
namespace Go.Proofs.YtgfbbcnnmoamnaaGreatDoor
open Go.RowKit

theorem hid_intro {α : Type} (a : α) : ∃ x, Hid (x = a) := ⟨a, (rfl : a = a)⟩
theorem ret_int {k : IntKind} {a b : Int} (h : a = b) : Ending.returned (.int k a) = .returned (.int k b) := by rw [h]
theorem ret_str {l l' : List UInt8} (h : l = l') : Ending.returned (.string ⟨l.toArray⟩) = .returned (.string ⟨l'.toArray⟩) := by rw [h]

/-- a callee that only draws, met behind draws -/
theorem quiet_plus {P : Program} {f : FuncId} {args : Array Value} {w : World} {k n : Nat} {v : Value}
    (h : Calls P f args (w.drewN (k + n)) fun e w' => e = .returned v ∧ ∃ m, w' = (w.drewN (k + n)).drewN m) : Calls P f args (w.drewN (k + n)) fun e w'' => e = .returned v ∧ ∃ m, w'' = w.drewN (k + m) :=
  h.mono fun _ _ ⟨he, m, hm⟩ => ⟨he, n + m, by rw [hm, World.drewN_drewN, Nat.add_assoc]⟩
theorem quiet_plus_same {P : Program} {f : FuncId} {args : Array Value} {w : World} {k n : Nat} {v : Value}
    (h : Calls P f args (w.drewN (k + n)) fun e w' => e = .returned v ∧ w' = w.drewN (k + n)) : Calls P f args (w.drewN (k + n)) fun e w'' => e = .returned v ∧ ∃ m, w'' = w.drewN (k + m) :=
  h.mono fun _ _ ⟨he, hm⟩ => ⟨he, n, hm⟩

theorem idx_str (s : ByteArray) (i : Int) (j : Nat) (hij : i = j) (h : j < s.size) (w : World) :
    (Instr.index 9 (.string s) (.int .i64 i)).run Tryz.prog w = .ok (.int .u8 s[j].toNat) w := by
  subst hij
  rw [run_index_string w 9 s .i64 j Tryz.underlying9, dif_pos ⟨by omega, by omega⟩]
  simp
theorem byte_at (s : ByteArray) (i : Nat) (h : i < s.size) : s[i] = s.data.toList.getD i 0 := by
  have h' : i < s.data.size := h
  simp [ByteArray.getElem_eq_getElem_data, Array.getElem?_eq_getElem h']
theorem slice_str (s : ByteArray) (i j : Int) (a b : Nat) (hi : i = a) (hj : j = b) (h1 : a ≤ b) (h2 : b ≤ s.size) (w : World) :
    (Instr.slice 9 (.string s) (some (.int .i64 i)) (some (.int .i64 j)) none).run Tryz.prog w = .ok (.string (s.extract a b)) w := by
  subst hi hj
  rw [run_slice_string w 9 s .i64 .i64 a b Tryz.underlying9 (by omega) (by omega) (by omega)]
  simp

theorem region_tail {P : Program} {id : Nat} {Q : Exit → Act → World → Prop} {a : Act} {w : World} {l : List Oper} (n : Nat) (hm : P.follows .mixedOrders = true) (hB : Region.lexTailB .any l.toArray n = true)
    (h : wpStill P l.toArray w.drew (fun a' => wpList P l.toArray Q (l.drop n) a' w.drew) (l.take n) a) : (Code.region id l.toArray true).wp P Q a w := wp_region_still_tail n hm hB h

theorem below_row {B : Nat} {a w : World} (h : Below B a w) {g : Nat} (hg : B ≤ g) (cs : Array Value) : Below B a (w.setRow g cs) :=
  ⟨h.os, h.tape, h.output, by simp; exact h.size, fun k hk => (setRow_other w g k cs (by omega)).trans (h.block k hk)⟩
theorem alloc_keeps {w : World} {o o' : Obj} {b : Nat} (h : w.heap[b]? = some o) : (w.alloc o').heap[b]? = some o := by
  rw [Below.heap_alloc _ _ _ (lt_of_block h)]; exact h
theorem still_load_row {P : Program} {o : Oper} {a : Act} {w : World} {K : Act → Prop} (ty : TypeId) (x : Operand) (ho : o.op = .load ty x)
    (g : Nat) (hx : a.eval x = .pointer (some ⟨g, 0, none⟩)) (t : TypeId) (cs : Array Value) (fr : Nat × Nat) (d : TypeDesc) (hg : w.heap[g]? = some (.cells cs t fr))
    (hu : P.underlying ty = some d) (hd : (match d with | .struct _ | .array _ _ => true | _ => false) = true) (hi : (P.info? ty).map (·.size) = some cs.size)
    (h : K (a.put o.dst (.agg cs))) : o.still P a w K := by
  unfold Oper.still execOp
  simp only [ho, hx, Instr.loadAt, Instr.sureAddr, Sem.run_bind, Sem.run_pure, Result.andThen_ok, run_loadVar_row w g t ty cs fr d hg hu hd hi]
  exact ⟨rfl, h⟩

theorem own_below {w w' : World} {base : Nat} {e : TypeId} {size : Nat} {v : Value} {n : Nat} {xs : List Value} (h : w.ownsRow base e size v n xs) (hb : Below w.heap.size w w') : w'.ownsRow base e size v n xs := by
  refine ⟨h.1, ?_⟩
  rcases h.2 with hn | ⟨g, cap, cur, rfl, h1, hg, rest⟩
  · exact .inl hn
  · exact .inr ⟨g, cap, cur, rfl, h1, (hb.block g (lt_of_block hg)).trans hg, rest⟩
theorem own_shape {w : World} {base : Nat} {e : TypeId} {size : Nat} {v : Value} {n : Nat} {xs : List Value} (h : w.ownsRow base e size v n xs) : ∃ ao cap, v = .slice ao n cap := by
  rcases h.2 with ⟨rfl, rfl⟩ | ⟨g, cap, cur, rfl, _⟩
  · exact ⟨none, 0, rfl⟩
  · exact ⟨_, cap, rfl⟩
theorem grown_below {B : Nat} {w w1 w2 : World} {v : Value} {base : Nat} {e : TypeId} {size n : Nat} {xs : List Value} (hb : Below B w w1) (hown : w1.ownsRow base e size v n xs) (hB : B ≤ base) (hsz : B ≤ w1.heap.size) (hg : w1.grownBy w2 v.ownBlock) : Below B w w2 :=
  hb.grown hg hsz (fun k hk => Nat.le_trans hB (hown.lt k hk).1)

theorem infoU8 : (Tryz.prog.info? 5).map (fun i => (i.zero, i.size, i.bytes)) = some (some (.int .u8 0), 1, 1) := by kernel_rfl
theorem infoInt : (Tryz.prog.info? 3).map (fun i => (i.zero, i.size, i.bytes)) = some (some (.int .i64 0), 1, 8) := by kernel_rfl

/-- a row of numbers -/
def rowi (l : List Nat) : Array Value := (l.map fun (x : Nat) => Value.int .i64 (x : Int)).toArray
theorem rowi_size (l : List Nat) : (rowi l).size = l.length := by simp [rowi]
theorem rowi_get (l : List Nat) (j : Nat) (h : j < l.length) : (rowi l)[j]? = some (.int .i64 ((l.getD j 0 : Nat) : Int)) := by
  simp [rowi, h]
theorem rowi_set (l : List Nat) (j x : Nat) : (rowi l).setIfInBounds j (.int .i64 (x : Int)) = rowi (l.set j x) := by
  simp [rowi, List.map_set]
theorem rowi_step {wr : World} {g k : Nat} {l : List Nat} {T : TypeId} {v : Int} (x : Nat) (hv : v = (x : Int)) (h : wr.heap[g]? = some (.cells (rowi l) T (0, 0))) : (wr.setCell ⟨g, k, none⟩ (.int .i64 v)).heap[g]? = some (.cells (rowi (l.set k x)) T (0, 0)) := by
  subst hv; rw [heap_setCell_same _ _ _ _ _ _ h, rowi_set]
theorem rowi_cell {wr : World} {g : Nat} {l : List Nat} {T : TypeId} (k : Nat) (h : wr.heap[g]? = some (.cells (rowi l) T (0, 0))) (hk : k < l.length) : wr.cell? ⟨g, k, none⟩ = some (.int .i64 ((l.getD k 0 : Nat) : Int)) :=
  (cell_of_row wr g k _ _ _ h).trans (rowi_get _ k hk)
theorem made_int (n : Nat) : madeCells #[.int .i64 0] n = rowi (List.replicate n 0) := by
  apply Array.ext
  · simp [madeCells, rowi]
  · intro i h1 h2
    simp [madeCells, rowi, Nat.mod_one]
end Go.Proofs.YtgfbbcnnmoamnaaGreatDoor

namespace Go.Proofs.YtgfbbcnnmoamnaaGreatDoor
open Go.RowKit

/-- bit k of a text -/
def bitAt (s : List UInt8) (k : Nat) : Nat := (s.getD (k / 8) 0).toNat / 2 ^ (k % 8) % 2
theorem bitAt_lt (s : List UInt8) (k : Nat) : bitAt s k < 2 := Nat.mod_lt _ (by omega)
/-- n bits from k on, the lowest first -/
def numAt (s : List UInt8) (k : Nat) : Nat → Nat
  | 0 => 0
  | n + 1 => numAt s k n + 2 ^ n * bitAt s (k + n)
theorem numAt_lt (s : List UInt8) (k n : Nat) : numAt s k n < 2 ^ n := by
  induction n with
  | zero => simp [numAt]
  | succ n ih =>
    have h := bitAt_lt s (k + n)
    simp only [numAt, Nat.pow_succ]
    have : 2 ^ n * bitAt s (k + n) ≤ 2 ^ n * 1 := Nat.mul_le_mul_left _ (by omega)
    omega
/-- where the reading stands behind n bits more -/
def adv (s : List UInt8) (k n : Nat) : Nat := min (k + n) (8 * s.length)
/-- are n bits there? -/
def has (s : List UInt8) (k n : Nat) : Prop := k + n ≤ 8 * s.length
instance (s : List UInt8) (k n : Nat) : Decidable (has s k n) := inferInstanceAs (Decidable (k + n ≤ 8 * s.length))

/-- how many of the lengths are n -/
def cnt (lens : List Nat) (n : Nat) : Nat := if n = 0 then 0 else lens.count n
/-- the first code of n bits -/
def fst (lens : List Nat) : Nat → Nat
  | 0 => 0
  | n + 1 => 2 * (fst lens n + cnt lens n)
/-- the symbols that have n bits, in their order -/
def symsFrom (n : Nat) : List Nat → Nat → List Nat
  | [], _ => []
  | a :: l, i => if a = n then i :: symsFrom n l (i + 1) else symsFrom n l (i + 1)
def symsOf (lens : List Nat) (n : Nat) : List Nat := if n = 0 then [] else symsFrom n lens 0
/-- symbols with shorter codes than n -/
def psd (lens : List Nat) : Nat → Nat
  | 0 => 0
  | n + 1 => psd lens n + cnt lens n

/-- one symbol: n bits have been read, they are 'got'; at most f more -/
def decGo (lens : List Nat) (s : List UInt8) : Nat → Nat → Nat → Nat → Option (Nat × Nat)
  | 0, _, _, _ => none
  | f + 1, n, got, k =>
    if has s k 1 then
      if 2 * got + bitAt s k - fst lens (n + 1) < cnt lens (n + 1) then some ((symsOf lens (n + 1)).getD (2 * got + bitAt s k - fst lens (n + 1)) 0, k + 1)
      else decGo lens s f (n + 1) (2 * got + bitAt s k) (k + 1)
    else none
def dec (lens : List Nat) (s : List UInt8) (k : Nat) : Option (Nat × Nat) := decGo lens s 15 0 0 k

/-- the least length of a symbol, and how many more bits -/
def lenSpan (x : Nat) : Nat × Nat := if x = 28 then (258, 0) else if x < 4 then (3 + x, 0) else (3 + (4 + x % 4) * 2 ^ (x / 4 - 1), x / 4 - 1)
def distSpan (y : Nat) : Nat × Nat := if y < 2 then (1 + y, 0) else (1 + (2 + y % 2) * 2 ^ (y / 2 - 1), y / 2 - 1)

/-- what comes of a part: where the reading stands and what came out; or the error (5: no stream; 6: the limit) -/
inductive Res where
  | ok (k : Nat) (out : List UInt8)
  | err (e : Nat)

/-- n bytes more, each the one so far back -/
def copyN (limit back : Nat) (k : Nat) : Nat → List UInt8 → Res
  | 0, out => .ok k out
  | n + 1, out => if out.length ≥ limit then .err 6 else copyN limit back k n (out ++ [out.getD (out.length - back) 0])
/-- a length's symbol x (from 0 on), and all that belongs to it -/
def matchS (dl : List Nat) (s : List UInt8) (limit x k : Nat) (out : List UInt8) : Res :=
  if has s k (lenSpan x).2 then
    match dec dl s (k + (lenSpan x).2) with
    | none => .err 5
    | some (y, k2) =>
      if y > 29 then .err 5
      else if has s k2 (distSpan y).2 then
        if (distSpan y).1 + numAt s k2 (distSpan y).2 > out.length then .err 5
        else copyN limit ((distSpan y).1 + numAt s k2 (distSpan y).2) (k2 + (distSpan y).2) ((lenSpan x).1 + numAt s k (lenSpan x).2) out
      else .err 5
  else .err 5
/-- one symbol of a block -/
def symStep (ll dl : List Nat) (s : List UInt8) (limit : Nat) (next : Nat → List UInt8 → Res) (k : Nat) (out : List UInt8) : Res :=
  match dec ll s k with
  | none => .err 5
  | some (x, k2) =>
    if x < 256 then (if out.length ≥ limit then .err 6 else next k2 (out ++ [UInt8.ofNat x]))
    else if x = 256 then .ok k2 out
    else if x > 285 then .err 5
    else match matchS dl s limit (x - 257) k2 out with
      | .err e => .err e
      | .ok k3 out3 => next k3 out3
/-- symbols up to 256 -/
def symsGo (ll dl : List Nat) (s : List UInt8) (limit : Nat) : Nat → Nat → List UInt8 → Res
  | 0, _, _ => .err 5
  | f + 1, k, out => symStep ll dl s limit (symsGo ll dl s limit f) k out
/-- a stored block's bytes -/
def rawGo (s : List UInt8) (limit : Nat) : Nat → Nat → List UInt8 → Res
  | 0, k, out => .ok k out
  | n + 1, k, out => if has s k 8 then (if out.length ≥ limit then .err 6 else rawGo s limit n (k + 8) (out ++ [UInt8.ofNat (numAt s k 8)])) else .err 5
def storedS (s : List UInt8) (limit k : Nat) (out : List UInt8) : Res :=
  if has s (8 * ((k + 7) / 8)) 32 then
    if numAt s (8 * ((k + 7) / 8)) 16 + numAt s (8 * ((k + 7) / 8) + 16) 16 = 65535 then rawGo s limit (numAt s (8 * ((k + 7) / 8)) 16) (8 * ((k + 7) / 8) + 32) out else .err 5
  else .err 5
def fixedL : List Nat := (List.range 288).map fun i => if i ≤ 143 then 8 else if i ≤ 255 then 9 else if i ≤ 279 then 7 else 8
def fixedD : List Nat := List.replicate 32 5
/-- are lengths right? -/
def kraft (lens : List Nat) : Nat := (lens.map fun n => if n = 0 then 0 else 2 ^ (15 - n)).sum
def order19 : List Nat := [16, 17, 18, 0, 8, 7, 9, 6, 10, 5, 11, 4, 12, 3, 13, 2, 14, 1, 15]
/-- the lengths of the lengths: n of them, 3 bits each -/
def firstL (s : List UInt8) (k : Nat) : Nat → List Nat
  | 0 => List.replicate 19 0
  | n + 1 => (firstL s k n).set (order19.getD n 0) (numAt s (k + 3 * n) 3)
/-- the row of lengths -/
def rowGo (c : List Nat) (s : List UInt8) (many : Nat) : Nat → Nat → List Nat → Option (Nat × List Nat)
  | 0, _, _ => none
  | f + 1, k, row =>
    if row.length < many then
      match dec c s k with
      | none => none
      | some (x, k2) =>
        if x < 16 then rowGo c s many f k2 (row ++ [x])
        else if x = 16 then
          (if row = [] then none else if has s k2 2 then rowGo c s many f (k2 + 2) (row ++ List.replicate (3 + numAt s k2 2) (row.getD (row.length - 1) 0)) else none)
        else if x = 17 then (if has s k2 3 then rowGo c s many f (k2 + 3) (row ++ List.replicate (3 + numAt s k2 3) 0) else none)
        else (if has s k2 7 then rowGo c s many f (k2 + 7) (row ++ List.replicate (11 + numAt s k2 7) 0) else none)
    else if row.length = many then some (k, row) else none
/-- the codes of a block of its own -/
def ownS (s : List UInt8) (k : Nat) : Option (Nat × List Nat × List Nat) :=
  if has s k 14 then
    if numAt s k 5 > 29 ∨ numAt s (k + 5) 5 > 29 then none
    else if has s (k + 14) (3 * (numAt s (k + 10) 4 + 4)) then
      if kraft (firstL s (k + 14) (numAt s (k + 10) 4 + 4)) = 32768 then
        match rowGo (firstL s (k + 14) (numAt s (k + 10) 4 + 4)) s (numAt s k 5 + 257 + (numAt s (k + 5) 5 + 1)) 400 (k + 14 + 3 * (numAt s (k + 10) 4 + 4)) [] with
        | none => none
        | some (k2, row) =>
          if (row.take (numAt s k 5 + 257)).getD 256 0 = 0 ∨ kraft (row.take (numAt s k 5 + 257)) ≠ 32768 ∨ (kraft (row.drop (numAt s k 5 + 257)) ≠ 32768 ∧ (row.drop (numAt s k 5 + 257)).sum > 1) then none
          else some (k2, row.take (numAt s k 5 + 257), row.drop (numAt s k 5 + 257))
      else none
    else none
  else none
/-- what one block says, its kind known -/
def blockS (s : List UInt8) (limit kind k : Nat) (out : List UInt8) : Res :=
  if kind = 0 then storedS s limit k out
  else if kind = 1 then symsGo fixedL fixedD s limit (8 * s.length + 1) k out
  else if kind = 2 then
    match ownS s k with
    | none => .err 5
    | some (k2, l, d) => symsGo l d s limit (8 * s.length + 1) k2 out
  else .err 5
/-- blocks up to the last -/
def blocksGo (s : List UInt8) (limit : Nat) : Nat → Nat → List UInt8 → Res
  | 0, _, _ => .err 5
  | f + 1, k, out =>
    if has s k 3 then
      match blockS s limit (numAt s (k + 1) 2) (k + 3) out with
      | .err e => .err e
      | .ok k2 out2 => if numAt s k 1 = 1 then .ok k2 out2 else blocksGo s limit f k2 out2
    else .err 5
def inflS (s : List UInt8) (limit : Nat) : Res := blocksGo s limit (8 * s.length + 1) 0 []
end Go.Proofs.YtgfbbcnnmoamnaaGreatDoor

namespace Go.Proofs.YtgfbbcnnmoamnaaGreatDoor
open Go.RowKit

/-- block g and the row o may turn, and nothing else that was there -/
structure Step (g : Nat) (o o' : Value) (w w' : World) : Prop where
  os : w'.os = w.os
  tape : w'.tape = w.tape
  output : w'.output = w.output
  size : w.heap.size ≤ w'.heap.size
  block : ∀ k, k < w.heap.size → k ≠ g → o.ownBlock ≠ some k → w'.heap[k]? = w.heap[k]?
  moved : ∀ k, o'.ownBlock = some k → o.ownBlock = some k ∨ w.heap.size ≤ k
theorem Step.refl (g : Nat) (o : Value) (w : World) : Step g o o w w := ⟨rfl, rfl, rfl, Nat.le_refl _, fun _ _ _ _ => rfl, fun _ h => .inl h⟩
theorem Step.trans {g : Nat} {o o1 o2 : Value} {w w1 w2 : World} (h : Step g o o1 w w1) (k : Step g o1 o2 w1 w2) : Step g o o2 w w2 := by
  refine ⟨k.os.trans h.os, k.tape.trans h.tape, k.output.trans h.output, Nat.le_trans h.size k.size, fun i hi hg ho => ?_, fun i hi => ?_⟩
  · refine (k.block i (Nat.lt_of_lt_of_le hi h.size) hg fun e => ?_).trans (h.block i hi hg ho)
    rcases h.moved i e with e' | e'
    · exact ho e'
    · omega
  · rcases k.moved i hi with e | e
    · exact h.moved i e
    · exact .inr (Nat.le_trans h.size e)
theorem Step.drewN {g : Nat} {o o' : Value} {w w' : World} (h : Step g o o' w w') (m : Nat) : Step g o o' w (w'.drewN m) :=
  ⟨h.os, h.tape, h.output, h.size, h.block, h.moved⟩
theorem Step.drew {g : Nat} {o o' : Value} {w w' : World} (h : Step g o o' w w') : Step g o o' w w'.drew :=
  ⟨h.os, h.tape, h.output, h.size, h.block, h.moved⟩
theorem Step.cell {g : Nat} {o : Value} (w : World) (p : Addr) (hp : p.block = g) (v : Value) : Step g o o w (w.setCell p v) :=
  ⟨rfl, rfl, rfl, by simp [World.setCell], fun k _ hg _ => Below.heap_setCell _ _ _ _ (by omega), fun _ h => .inl h⟩
theorem Step.alloc {g : Nat} {o o' : Value} {w w' : World} (h : Step g o o' w w') (b : Obj) : Step g o o' w (w'.alloc b) :=
  ⟨h.os, h.tape, h.output, Nat.le_trans h.size (by simp), fun k hk hg ho => (Below.heap_alloc _ _ _ (Nat.lt_of_lt_of_le hk h.size)).trans (h.block k hk hg ho), h.moved⟩
theorem Step.of_below {g : Nat} {o : Value} {w w' : World} (h : Below w.heap.size w w') : Step g o o w w' :=
  ⟨h.os, h.tape, h.output, h.size, fun k hk _ _ => h.block k hk, fun _ h => .inl h⟩
/-- a row of numbers that the inflater does not own -/
def Tab (g h : Nat) (l : List Nat) (o : Value) (w : World) : Prop := w.heap[h]? = some (.cells (rowi l) 3 (0, 0)) ∧ h ≠ g ∧ o.ownBlock ≠ some h
theorem Tab.step {g h : Nat} {l : List Nat} {o o' : Value} {w w' : World} (t : Tab g h l o w) (st : Step g o o' w w') : Tab g h l o' w' := by
  refine ⟨(st.block h (lt_of_block t.1) t.2.1 t.2.2).trans t.1, t.2.1, fun e => ?_⟩
  rcases st.moved h e with e' | e'
  · exact t.2.2 e'
  · have := lt_of_block t.1; omega
theorem Tab.drew {g h : Nat} {l : List Nat} {o : Value} {w : World} (t : Tab g h l o w) : Tab g h l o w.drew := t

/-- an error of the program's: a pointer to its text -/
def errV (b : Addr) : Value := .iface 438 (.pointer (some b))
/-- the places of the program's errors -/
structure Errs where
  short : Addr
  kind : Addr
  turned : Addr
  counts : Addr
  ahead : Addr
  row : Addr
  lengths : Addr
  noEnd : Addr
  code : Addr
  symbol : Addr
  far : Addr
  lim : Addr
  many : Addr
/-- they lie there; none but the limit's is the limit's -/
structure Errs.At (er : Errs) (w : World) : Prop where
  size : 24 ≤ w.heap.size
  short : w.cell? ⟨4, 0, none⟩ = some (errV er.short)
  kind : w.cell? ⟨5, 0, none⟩ = some (errV er.kind)
  turned : w.cell? ⟨7, 0, none⟩ = some (errV er.turned)
  counts : w.cell? ⟨8, 0, none⟩ = some (errV er.counts)
  ahead : w.cell? ⟨19, 0, none⟩ = some (errV er.ahead)
  row : w.cell? ⟨14, 0, none⟩ = some (errV er.row)
  lengths : w.cell? ⟨18, 0, none⟩ = some (errV er.lengths)
  noEnd : w.cell? ⟨15, 0, none⟩ = some (errV er.noEnd)
  code : w.cell? ⟨10, 0, none⟩ = some (errV er.code)
  symbol : w.cell? ⟨11, 0, none⟩ = some (errV er.symbol)
  far : w.cell? ⟨12, 0, none⟩ = some (errV er.far)
  lim : w.cell? ⟨1, 0, none⟩ = some (errV er.lim)
  many : w.cell? ⟨0, 0, none⟩ = some (errV er.many)
  order : ∀ i, i < 19 → w.cell? ⟨13, i, none⟩ = some (.int .i64 ((order19.getD i 0 : Nat) : Int))
def Errs.bad (er : Errs) (b : Addr) : Prop := b = er.short ∨ b = er.kind ∨ b = er.turned ∨ b = er.counts ∨ b = er.ahead ∨ b = er.row ∨ b = er.lengths ∨ b = er.noEnd ∨ b = er.code ∨ b = er.symbol ∨ b = er.far
theorem Errs.At.same {er : Errs} {w w' : World} (h : er.At w) (hs : w.heap.size ≤ w'.heap.size) (hb : ∀ k, k < 24 → w'.heap[k]? = w.heap[k]?) : er.At w' := by
  have c : ∀ k i, k < 24 → w'.cell? ⟨k, i, none⟩ = w.cell? ⟨k, i, none⟩ := fun k i hk => World.cell?_of_block (w := w) (hb k hk)
  obtain ⟨h0, h1, h2, h3, h4, h5, h6, h7, h8, h9, h10, h11, h12, h13, h14⟩ := h
  exact ⟨Nat.le_trans h0 hs, (c _ _ (by decide)).trans h1, (c _ _ (by decide)).trans h2, (c _ _ (by decide)).trans h3, (c _ _ (by decide)).trans h4, (c _ _ (by decide)).trans h5, (c _ _ (by decide)).trans h6, (c _ _ (by decide)).trans h7, (c _ _ (by decide)).trans h8, (c _ _ (by decide)).trans h9, (c _ _ (by decide)).trans h10, (c _ _ (by decide)).trans h11, (c _ _ (by decide)).trans h12, (c _ _ (by decide)).trans h13, fun i hi => (c _ _ (by decide)).trans (h14 i hi)⟩
theorem Errs.At.below {er : Errs} {w w' : World} {B : Nat} (h : er.At w) (hb : Below B w w') (hB : 24 ≤ B) : er.At w' := h.same hb.size fun k hk => hb.block k (by omega)

/-- the cells of an inflater: the text, how many bits were read, what came out, the limit, the fixed codes -/
def IB (s : ByteArray) (k : Nat) (o : Value) (lim : Nat) (fx : List Value) : Array Value := (Value.string s :: .int .i64 (k : Int) :: o :: .int .i64 (lim : Int) :: fx).toArray
theorem IB0 (s : ByteArray) (k : Nat) (o : Value) (lim : Nat) (fx : List Value) : (IB s k o lim fx)[0]? = some (.string s) := rfl
theorem IB1 (s : ByteArray) (k : Nat) (o : Value) (lim : Nat) (fx : List Value) : (IB s k o lim fx)[1]? = some (.int .i64 k) := rfl
theorem IB2 (s : ByteArray) (k : Nat) (o : Value) (lim : Nat) (fx : List Value) : (IB s k o lim fx)[2]? = some o := rfl
theorem IB3 (s : ByteArray) (k : Nat) (o : Value) (lim : Nat) (fx : List Value) : (IB s k o lim fx)[3]? = some (.int .i64 lim) := rfl
theorem IB_at (s : ByteArray) (k k' : Nat) (o : Value) (lim : Nat) (fx : List Value) : (IB s k o lim fx).setIfInBounds 1 (.int .i64 (k' : Int)) = IB s k' o lim fx := by
  apply Array.toList_inj.1; simp [IB]
theorem IB_out (s : ByteArray) (k : Nat) (o o' : Value) (lim : Nat) (fx : List Value) : (IB s k o lim fx).setIfInBounds 2 o' = IB s k o' lim fx := by
  apply Array.toList_inj.1; simp [IB]
/-- an inflater at block g -/
structure Inf (er : Errs) (g : Nat) (s : ByteArray) (lim : Nat) (fx : List Value) (k : Nat) (o : Value) (out : List UInt8) (w : World) : Prop where
  errs : er.At w
  hg : 24 ≤ g
  hs : s.size ≤ 20000
  hl : lim ≤ 20000
  blk : w.heap[g]? = some (.cells (IB s k o lim fx) 188 (0, 0))
  own : w.ownsRow (g + 1) 5 1 o out.length (Lib.byteCells out)
  hk : k ≤ 8 * s.size
  ho : out.length ≤ lim
section
variable {er : Errs} {g : Nat} {s : ByteArray} {lim : Nat} {fx : List Value} {k : Nat} {o : Value} {out : List UInt8} {w : World}
theorem Inf.c0 (h : Inf er g s lim fx k o out w) : w.cell? ⟨g, 0, none⟩ = some (.string s) := (cell_of_row w g 0 _ _ _ h.blk).trans (IB0 ..)
theorem Inf.c1 (h : Inf er g s lim fx k o out w) : w.cell? ⟨g, 1, none⟩ = some (.int .i64 k) := (cell_of_row w g 1 _ _ _ h.blk).trans (IB1 ..)
theorem Inf.c2 (h : Inf er g s lim fx k o out w) : w.cell? ⟨g, 2, none⟩ = some o := (cell_of_row w g 2 _ _ _ h.blk).trans (IB2 ..)
theorem Inf.c3 (h : Inf er g s lim fx k o out w) : w.cell? ⟨g, 3, none⟩ = some (.int .i64 lim) := (cell_of_row w g 3 _ _ _ h.blk).trans (IB3 ..)
theorem Inf.free (h : Inf er g s lim fx k o out w) (j : Nat) : w.frozen? ⟨g, j, none⟩ = false := frozen_of_row w g j _ _ h.blk
theorem Inf.ownge (h : Inf er g s lim fx k o out w) {b : Nat} (hb : o.ownBlock = some b) : g + 1 ≤ b := (h.own.lt b hb).1
theorem Inf.lt (h : Inf er g s lim fx k o out w) : g < w.heap.size := lt_of_block h.blk
/-- the reading goes on -/
theorem Inf.read (h : Inf er g s lim fx k o out w) (k' : Nat) (hk' : k' ≤ 8 * s.size) {v : Int} (hv : v = (k' : Int)) : Inf er g s lim fx k' o out (w.setCell ⟨g, 1, none⟩ (.int .i64 v)) ∧ Step g o o w (w.setCell ⟨g, 1, none⟩ (.int .i64 v)) := by
  subst hv
  have st : Step g o o w (w.setCell ⟨g, 1, none⟩ (.int .i64 (k' : Int))) := Step.cell w ⟨g, 1, none⟩ rfl _
  have hg := h.hg
  refine ⟨⟨h.errs.same st.size fun j hj => st.block j (by have := h.errs.size; omega) (by omega) fun e => by have := h.ownge e; omega, h.hg, h.hs, h.hl, ?_, ownsRow_setCell_below h.own (by simp) _, hk', h.ho⟩, st⟩
  rw [heap_setCell_same _ _ _ _ _ _ h.blk, IB_at]
theorem Inf.drewN (h : Inf er g s lim fx k o out w) (m : Nat) : Inf er g s lim fx k o out (w.drewN m) :=
  ⟨h.errs.same (Nat.le_refl _) fun _ _ => rfl, h.hg, h.hs, h.hl, h.blk, h.own, h.hk, h.ho⟩
theorem Inf.drew (h : Inf er g s lim fx k o out w) : Inf er g s lim fx k o out w.drew :=
  ⟨h.errs.same (Nat.le_refl _) fun _ _ => rfl, h.hg, h.hs, h.hl, h.blk, h.own, h.hk, h.ho⟩
theorem Inf.below {w' : World} (h : Inf er g s lim fx k o out w) (hb : Below w.heap.size w w') : Inf er g s lim fx k o out w' :=
  ⟨h.errs.below hb (by have := h.errs.size; omega), h.hg, h.hs, h.hl, (hb.block g h.lt).trans h.blk, own_below h.own hb, h.hk, h.ho⟩
/-- another block has turned -/
theorem Inf.other {w' : World} (h : Inf er g s lim fx k o out w) (r : Nat) (hr : r ≠ g) (ho : o.ownBlock ≠ some r) (h15 : 24 ≤ r) (hsz : w.heap.size ≤ w'.heap.size) (hb : ∀ j, j ≠ r → w'.heap[j]? = w.heap[j]?) : Inf er g s lim fx k o out w' := by
  refine ⟨h.errs.same hsz fun j hj => hb j (by omega), h.hg, h.hs, h.hl, (hb g (fun e => hr e.symm)).trans h.blk, ⟨h.own.1, ?_⟩, h.hk, h.ho⟩
  rcases h.own.2 with hn | ⟨b, cap, cur, hv, h1, hg, rest⟩
  · exact .inl hn
  · refine .inr ⟨b, cap, cur, hv, h1, (hb b (fun e => ho ?_)).trans hg, rest⟩
    subst hv; subst e; rfl
theorem Step.row {o' : Value} {w' : World} (h : Step g o o' w w') {r : Nat} (hr : w.heap.size ≤ r) (v : Value) (i : Nat) : Step g o o' w (w'.setCell ⟨r, i, none⟩ v) :=
  ⟨h.os, h.tape, h.output, by simp [World.setCell]; exact h.size, fun j hj hg ho => (Below.heap_setCell _ _ _ _ (by simp; omega)).trans (h.block j hj hg ho), h.moved⟩
theorem Inf.alloc (h : Inf er g s lim fx k o out w) (b : Obj) : Inf er g s lim fx k o out (w.alloc b) := h.below ((Below.refl _ w).alloc (Nat.le_refl _) b)
end
end Go.Proofs.YtgfbbcnnmoamnaaGreatDoor

namespace Go.Proofs.YtgfbbcnnmoamnaaGreatDoor
open Go.RowKit

theorem symsFrom_len (n : Nat) : ∀ (l : List Nat) (i : Nat), (symsFrom n l i).length = l.count n
  | [], _ => rfl
  | a :: l, i => by
    have ih := symsFrom_len n l (i + 1)
    by_cases h : a = n
    · subst h; simp [symsFrom, ih]
    · simp [symsFrom, h, ih]
theorem symsOf_len (l : List Nat) (n : Nat) : (symsOf l n).length = cnt l n := by
  unfold symsOf cnt
  split
  · rfl
  · exact symsFrom_len n l 0
theorem symsFrom_append (n a : Nat) : ∀ (l : List Nat) (i : Nat), symsFrom n (l ++ [a]) i = symsFrom n l i ++ if a = n then [i + l.length] else []
  | [], i => by by_cases h : a = n <;> simp [symsFrom, h]
  | b :: l, i => by
    have ih := symsFrom_append n a l (i + 1)
    have e : i + 1 + l.length = i + (l.length + 1) := by omega
    by_cases h : b = n <;> simp [symsFrom, h, ih, e]
theorem symsOf_append (l : List Nat) (a n : Nat) (hn : n ≠ 0) : symsOf (l ++ [a]) n = symsOf l n ++ if a = n then [l.length] else [] := by
  unfold symsOf; rw [if_neg hn, if_neg hn, symsFrom_append]; simp
theorem cnt_append (l : List Nat) (a n : Nat) (hn : n ≠ 0) : cnt (l ++ [a]) n = cnt l n + if a = n then 1 else 0 := by
  unfold cnt; rw [if_neg hn, if_neg hn, List.count_append]
  by_cases h : a = n <;> simp [h]
theorem cnt_le (l : List Nat) (n : Nat) : cnt l n ≤ l.length := by
  unfold cnt; split
  · omega
  · exact List.count_le_length
/-- all symbols that have a code of less than m bits, in the order of their codes -/
def symsBelow (lens : List Nat) : Nat → List Nat
  | 0 => []
  | m + 1 => symsBelow lens m ++ symsOf lens m
theorem symsBelow_len (lens : List Nat) : ∀ m, (symsBelow lens m).length = psd lens m
  | 0 => rfl
  | m + 1 => by rw [symsBelow, List.length_append, symsBelow_len lens m, symsOf_len]; rfl
def codeSyms (lens : List Nat) : List Nat := symsBelow lens 16
theorem symsBelow_pre (lens : List Nat) (m d : Nat) : ∃ t, symsBelow lens (m + d) = symsBelow lens m ++ t := by
  induction d with
  | zero => exact ⟨[], by simp⟩
  | succ d ih =>
    obtain ⟨t, h⟩ := ih
    exact ⟨t ++ symsOf lens (m + d), by rw [show m + (d + 1) = m + d + 1 by omega, symsBelow, h, List.append_assoc]⟩
theorem psd_mono (lens : List Nat) (m d : Nat) : psd lens m ≤ psd lens (m + d) := by
  induction d with
  | zero => exact Nat.le_refl _
  | succ d ih => rw [show m + (d + 1) = m + d + 1 by omega, psd]; omega
theorem psd_le (lens : List Nat) (m n : Nat) (h : m ≤ n) : psd lens m ≤ psd lens n := by
  obtain ⟨d, rfl⟩ := Nat.le.dest h; exact psd_mono lens m d
theorem codeSyms_at (lens : List Nat) (n i : Nat) (hn : n < 16) (hi : i < cnt lens n) : (codeSyms lens).getD (psd lens n + i) 0 = (symsOf lens n).getD i 0 := by
  obtain ⟨t, h⟩ := symsBelow_pre lens (n + 1) (15 - n)
  have e : n + 1 + (15 - n) = 16 := by omega
  unfold codeSyms
  have h1 := symsBelow_len lens n
  have h2 := symsOf_len lens n
  rw [← e, h, symsBelow, List.getD_eq_getElem?_getD, List.getD_eq_getElem?_getD, List.getElem?_append_left (by rw [List.length_append]; omega), List.getElem?_append_right (by omega), h1, Nat.add_sub_cancel_left]
theorem psd_none (lens : List Nat) (n m : Nat) (h1 : n ≤ m) (h2 : m < 16) (h : psd lens n = psd lens 16) : cnt lens m = 0 := by
  have a := psd_le lens n m h1
  have b := psd_le lens (m + 1) 16 (by omega)
  have c : psd lens (m + 1) = psd lens m + cnt lens m := rfl
  omega
/-- where no longer code is, there is no symbol -/
theorem decGo_none (lens : List Nat) (s : List UInt8) : ∀ (f j got k : Nat), f + j ≤ 15 → psd lens (j + 1) = psd lens 16 → decGo lens s f j got k = none
  | 0, _, _, _, _, _ => rfl
  | f + 1, j, got, k, hf, h => by
    have c := psd_none lens (j + 1) (j + 1) (Nat.le_refl _) (by omega) h
    have ih := decGo_none lens s f (j + 1) (2 * got + bitAt s k) (k + 1) (by omega) (by rw [psd, c]; exact h)
    rw [decGo]
    split
    · rw [c, if_neg (Nat.not_lt_zero _)]; exact ih
    · rfl
theorem decGo_le (lens : List Nat) (s : List UInt8) : ∀ (f j got k : Nat) (x k' : Nat), decGo lens s f j got k = some (x, k') → k < k' ∧ k' ≤ 8 * s.length
  | 0, _, _, _, _, _, h => by simp [decGo] at h
  | f + 1, j, got, k, x, k', h => by
    rw [decGo] at h
    split at h
    next hh =>
      split at h
      · injection h with h; injection h with h1 h2
        have : k + 1 ≤ 8 * s.length := hh
        omega
      · have := decGo_le lens s f _ _ _ _ _ h
        omega
    next => cases h
theorem symsFrom_lt (n : Nat) : ∀ (l : List Nat) (i x : Nat), x ∈ symsFrom n l i → x < i + l.length
  | [], _, _, h => by simp [symsFrom] at h
  | a :: l, i, x, h => by
    simp only [symsFrom] at h
    split at h
    · rcases List.mem_cons.1 h with h | h
      · subst h; simp
      · have := symsFrom_lt n l (i + 1) x h; simp; omega
    · have := symsFrom_lt n l (i + 1) x h; simp; omega
theorem symsOf_lt (l : List Nat) (n i : Nat) (h : i < cnt l n) : (symsOf l n).getD i 0 < l.length := by
  have hl := symsOf_len l n
  have hi : i < (symsOf l n).length := by omega
  have hm : (symsOf l n).getD i 0 ∈ symsOf l n := by simp [hi]
  unfold symsOf at hm
  split at hm
  · simp at hm
  · have := symsFrom_lt n l 0 _ hm
    rw [show symsOf l n = symsFrom n l 0 from by unfold symsOf; rw [if_neg (by assumption)]]
    omega
theorem decGo_lt (lens : List Nat) (s : List UInt8) : ∀ (f j got k : Nat) (x k' : Nat), decGo lens s f j got k = some (x, k') → x < lens.length
  | 0, _, _, _, _, _, h => by simp [decGo] at h
  | f + 1, j, got, k, x, k', h => by
    rw [decGo] at h
    split at h
    · split at h
      next hc =>
        injection h with h; injection h with h1 h2
        rw [← h1]; exact symsOf_lt _ _ _ hc
      next => exact decGo_lt lens s f _ _ _ _ _ h
    · cases h
theorem dec_le {lens : List Nat} {s : List UInt8} {k x k' : Nat} (h : dec lens s k = some (x, k')) : k < k' ∧ k' ≤ 8 * s.length := decGo_le _ _ _ _ _ _ _ _ h
theorem dec_lt {lens : List Nat} {s : List UInt8} {k x k' : Nat} (h : dec lens s k = some (x, k')) : x < lens.length := decGo_lt _ _ _ _ _ _ _ _ h
def cntsL (lens : List Nat) : List Nat := (List.range 16).map (cnt lens)
theorem cntsL_len (lens : List Nat) : (cntsL lens).length = 16 := by simp [cntsL]
theorem cntsL_get (lens : List Nat) (n : Nat) (hn : n < 16) : (cntsL lens).getD n 0 = cnt lens n := by simp [cntsL, hn]
end Go.Proofs.YtgfbbcnnmoamnaaGreatDoor
