/- The law's look at Unpack. A step of a script. A script is played. The law: Unpack of any bytes, in any script. -/
import Derived.Test.YtgfbbcnnmoamnaaGreatDoorUnL
import Derived.Test.YtgfbbcnnmoamnaaGreatDoorUnS
import Derived.Test.YtgfbbcnnmoamnaaGreatDoorDK
namespace Go.Proofs.YtgfbbcnnmoamnaaGreatDoor.Tr
open Go.RowKit Go.Proofs.YtgfbbcnnmoamnaaGreatDoor Go.Proofs.YtgfbbcnnmoamnaaGreatDoor.Lk

theorem numE (n : Int) (w : World) : Calls Tryz.prog 69 #[.int .i64 n] w fun e w' => e = .returned (.int .i64 n) ∧ w' = w := by
  go_enter Tryz.func69, Tryz.ntmps69
  go_wp2
  go_ret
  exact ⟨rfl, rfl⟩
/-- what the calls stand on -/
structure Base3 (er : Errs) (w : World) : Prop where
  errs : er.Full w
  nums : NumErrs w
  pow : Pow w
theorem Base3.below {er : Errs} {w w' : World} (h : Base3 er w) (hb : Below w.heap.size w w') : Base3 er w' := ⟨h.errs.below hb, h.nums.below hb, h.pow.below hb⟩
set_option maxRecDepth 8000 in
set_option maxHeartbeats 1000000 in
theorem wUnpacked_any {er : Errs} (B p N : Nat) (D ev : Value) (vals : List Value) (s : ByteArray) (w : World) (hK : BookE w B p N D ev vals) (h3 : Base3 er w) (hBp : B ≤ p) (hN : N ≤ 1048576) :
    Calls Tryz.prog 31 #[.pointer (some ⟨p, 0, none⟩), .string s] w fun r w' => r = .returned (.bool true) ∧ (∃ ev' vals', BookE w' B p (N + 1) D ev' vals') ∧ Below B w w' := by
  have hpl := lt_of_block hK.here
  have HK := toHid hK
  have HUP := toHid (unpack_any s w h3.errs h3.nums h3.pow)
  have HRU := toHid (fun w1 => rUnpack_any s w1)
  have hl60 := (unp_fit s).1
  have HNM := toHid (fun n w1 => numE n w1)
  clear hK h3
  obtain ⟨A, HA⟩ := hid_intro (unpA s)
  rw [← HA.out] at HUP HRU hl60
  clear HA
  obtain ⟨c, HC⟩ := hid_intro A.1
  obtain ⟨L, HL⟩ := hid_intro A.2
  rw [← HC.out, ← HL.out] at HUP HRU
  rw [← HL.out] at hl60
  obtain ⟨n, HNN⟩ := hid_intro L.length
  rw [← HNN.out] at HUP HRU hl60
  go_enter Tryz.func31, Tryz.ntmps31
  go_wp2_with (first
    | (go_at_call 7; refine HUP.out.mono ?_; clear HUP; rintro e1 w1 ⟨u1, rfl, ho1, hb1⟩; obtain ⟨a1, c1, rfl⟩ := own_shape ho1; have HO1 := toHid ho1; have HB1 := toHid hb1; clear ho1 hb1)
    | (go_at_call 80; refine (HRU.out _).mono ?_; clear HRU; rintro e2 w2 ⟨u2, rfl, ho2, hb2⟩; obtain ⟨a2, c2, rfl⟩ := own_shape ho2; have HO2 := toHid ho2; have HB2 := toHid hb2; clear ho2 hb2)
    | (go_at_call 69; refine (HNM.out _ _).mono ?_; clear HNM; rintro e3 w9 ⟨rfl, hw9⟩; rw [hw9]; clear hw9 w9))
  have HO1b : Hid (w2.ownsRow w.heap.size 47 3 (.slice a1 n c1) n (ecells L)) := own_below HO1.out HB2.out
  have HBB : Hid (Below w.heap.size w w2) := HB1.out.trans (HB2.out.mono HB1.out.size)
  go_loopw [9, 10] (fun vo vi wr => ∃ i q : Nat, i ≤ n ∧ vo = .bool true ∧ vi = .int .i64 i ∧ wr = w2.drewN q) (fun _ vi _ => n - (intOf vi).toNat)
  case atStart => exact ⟨0, 0, by omega, rfl, rfl, rfl⟩
  case round =>
    obtain ⟨i, q, hi, rfl, rfl, hw⟩ := hrel
    rw [hw]; clear hw
    by_cases hlt : i < n
    · obtain ⟨g1, rfl, _, _, x1, x2, x3, _, _, _⟩ := own_cellsE HO1b.out HNN.out hlt
      obtain ⟨g2, rfl, _, _, y1, y2, y3, _, _, _⟩ := own_cellsE HO2.out HNN.out hlt
      go_wp2
      go_quiet (fail)
      go_wp2
      go_roundw
      case rel => exact ⟨i + 1, _, by omega, rfl, by go_num, by first | rfl | rw [World.drewN_drewN]⟩
      case measure => simp [intOf]; omega
    · obtain rfl : i = n := by omega
      have HKP := toHid (keepE_any B p N D ev vals w (w2.drewN q) HK.out (below_drewN HBB.out q) hBp hN (.slice a1 i c1) i L (own_drewN' HO1b.out q) HNN.out hl60)
      go_wp2_with (go_at_call 81; refine HKP.out.mono ?_; clear HKP; rintro e4 w4 ⟨rfl, hk4, hb4⟩; have HK4 := toHid hk4; have HB4 := toHid hb4; clear hk4 hb4)
      go_ret
      exact ⟨rfl, HK4.out, ((below_drewN HBB.out q).mono (by omega)).trans HB4.out⟩
end Go.Proofs.YtgfbbcnnmoamnaaGreatDoor.Tr

namespace Go.Proofs.YtgfbbcnnmoamnaaGreatDoor.Tr
open Go.RowKit Go.Proofs.YtgfbbcnnmoamnaaGreatDoor Go.Proofs.YtgfbbcnnmoamnaaGreatDoor.Lk

theorem addr_add (g o j : Nat) : (⟨g, o, none⟩ : Addr).add j = ⟨g, o + j, none⟩ := by simp [Addr.add]
theorem lies_news {w : World} {g o : Nat} {l : List E} (h : ∀ j e, l[j]? = some e → w.cell? ⟨g, o + j * 3, none⟩ = some (.string ⟨e.p.toArray⟩) ∧ w.cell? ⟨g, o + j * 3 + 1, none⟩ = some (.bool e.dir) ∧ w.cell? ⟨g, o + j * 3 + 2, none⟩ = some (.string ⟨e.b.toArray⟩)) : ∀ j u, (ecells l)[j]? = some u → w.cell? ((⟨g, o, none⟩ : Addr).add j) = some u := fun j u hj => by
  have hjl : j < l.length * 3 := by have := (List.getElem?_eq_some_iff.1 hj).1; rw [ecells_len] at this; exact this
  have hd : j / 3 < l.length := by omega
  obtain ⟨e1, e2, e3⟩ := ecells_get l (j / 3) _ (List.getElem?_eq_getElem hd)
  obtain ⟨c1, c2, c3⟩ := h (j / 3) _ (List.getElem?_eq_getElem hd)
  rw [addr_add]
  rcases (by omega : j = j / 3 * 3 ∨ j = j / 3 * 3 + 1 ∨ j = j / 3 * 3 + 2) with e | e | e
  · rw [e] at hj; rw [e1] at hj; rw [e, ← hj]; exact c1
  · rw [e] at hj; rw [e2] at hj; rw [e, ← hj, ← Nat.add_assoc]; exact c2
  · rw [e] at hj; rw [e3] at hj; rw [e, ← hj, ← Nat.add_assoc]; exact c3
/-- a list that came in is appended to nothing -/
theorem step_append_in {w : World} {ops : Array Oper} {o : Oper} {a : Act} {K : Act → World → Prop} {Q : Exit → Act → World → Prop} {E' : Prop} (hgd : o.guard = none) (s x : Operand)
    (ho : o.op = .call { callee := .builtin .append, args := #[s, x], argTypes := #[26, 26] }) (hs : a.eval s = .slice none 0 0)
    (lao : Option Addr) (l : List E) (cap : Nat) (n : Nat) (hn : n = l.length) (hx : a.eval x = .slice lao n cap) (hnil : lao = none → l = [] ∧ cap = 0) (hat : LiesE w lao l) (hl : l.length ≤ 1048576)
    (h : ∀ s' k' c' w', Below w.heap.size w w' → K (a.put o.dst (.slice s' k' c')) w') :
    if Region.wanted o (yielded ops a.tmps) = true then Oper.wp Tryz.prog o a w K Q else E' := by
  subst hn
  obtain ⟨i0, hi0, hz0, hz1, hz2⟩ := info_parts infoEntry
  have hw : Region.wanted o (yielded ops a.tmps) = true := by simp [Region.wanted, hgd]
  rw [if_pos hw]
  cases lao with
  | none =>
    obtain ⟨h1, h2⟩ := hnil rfl
    subst h1 h2
    have hrun := run_append_owned_none (P := Tryz.prog) (w := w) w.heap.size 26 o.type 47 i0 3 Tryz.underlying26 hi0 (.slice none 0 0) 0 [] (World.ownsRow_nil _ _ _ _)
    unfold Oper.wp
    simp only [List.length_nil] at hx
    simp [execOp, ho, resolve, invoke, builtin, hs, hx, hrun, Result.andThen]
    exact h none 0 0 w (Below.refl _ _)
  | some ad =>
    refine wp_append_own w s x 26 ho w.heap.size 47 i0 (.agg #[.string ⟨#[]⟩, .bool false, .string ⟨#[]⟩]) 3 40 Tryz.underlying26 hi0 hz0 hz1 hz2 rfl (by decide) (.slice none 0 0) 0 [] hs (World.ownsRow_nil _ _ _ _) ad l.length cap (ecells l) hx (ecells_len l) ?_ (ecells_one l) (by unfold maxLen; omega) (by omega) (Nat.le_refl _) (fun v' w' a1 a2 _ => ?_)
    · rcases hat with h0 | ⟨g, o', h1, _, h3⟩
      · subst h0; intro j u hj; simp [ecells] at hj
      · injection h1 with h1
        subst h1
        exact lies_news h3
    · obtain ⟨s', c', hv⟩ := own_shape a1
      subst hv
      exact h s' _ c' w' ⟨a2.os, a2.tape, a2.output, a2.size, fun k hk => a2.block k hk (by simp [Value.ownBlock])⟩
/-- a step, as it came in -/
structure OpR where
  kind : Int
  n : Int
  s : ByteArray
  t : ByteArray
  u : ByteArray
  lao : Option Addr
  l : List E
  lcap : Nat
  mao : Option Addr
  mn : Nat
  mcap : Nat
  ar : Bool
abbrev opC (k n : Int) (s t u : ByteArray) (lao : Option Addr) (ll lcap : Nat) (mao : Option Addr) (mn mcap : Nat) (ar : Bool) : Array Value := #[.int .i64 k, .int .i64 n, .string s, .string t, .string u, .slice lao ll lcap, .slice mao mn mcap, .bool ar]
theorem BookE.setD {w : World} {B p N : Nat} {D ev : Value} {vals : List Value} (h : BookE w B p N D ev vals) (x : Value) : BookE (w.setCell ⟨p, 0, none⟩ x) B p N x ev vals :=
  ⟨(heap_setCell_same _ _ 0 _ _ _ h.here).trans rfl, row_setp h.here (by decide) h.row, fun j u hj => by
    obtain ⟨n, h1, h2⟩ := h.lists j u hj
    exact ⟨n, h1, row_setp h.here (by decide) h2⟩⟩
set_option maxRecDepth 8000 in
set_option maxHeartbeats 1000000 in
theorem step_unpack {er : Errs} (B p N : Nat) (D ev : Value) (vals : List Value) (n : Int) (s t u : ByteArray) (lao : Option Addr) (ll lcap : Nat) (mao : Option Addr) (mn mcap : Nat) (ar : Bool) (w : World) (hK : BookE w B p N D ev vals) (h3 : Base3 er w) (hBp : B ≤ p) (hN : N ≤ 1048576) :
    Calls Tryz.prog 12 #[.pointer (some ⟨p, 0, none⟩), .agg (opC 6 n s t u lao ll lcap mao mn mcap ar)] w fun r w' => r = .returned (.bool true) ∧ (∃ ev' vals', BookE w' B p (N + 1) D ev' vals') ∧ Below B w w' := by
  have hb : Below w.heap.size w (w.alloc (.cells (opC 6 n s t u lao ll lcap mao mn mcap ar) 31 (0, 0))) := (Below.refl _ w).alloc (Nat.le_refl _) _
  have hB : B ≤ w.heap.size := by have := lt_of_block hK.here; omega
  have HC := toHid (wUnpacked_any B p N D ev vals s _ (hK.below hb) (h3.below hb) hBp hN)
  have HB := toHid hb
  clear hK hb h3
  unfold opC at HC HB ⊢
  go_enter Tryz.func12, Tryz.ntmps12
  go_wp2_with (go_at_call 31; refine HC.out.mono ?_; clear HC; rintro e w2 ⟨rfl, hk2, hb2⟩; have HK2 := toHid hk2; have HB2 := toHid hb2; clear hk2 hb2)
  go_ret
  exact ⟨rfl, HK2.out, (HB.out.mono hB).trans HB2.out⟩
/-- the reading of the disk so far -/
def ldD : Op := Op.load 26 (Operand.tmp 73)
set_option maxRecDepth 8000 in
set_option maxHeartbeats 1000000 in
theorem step_disk (B p N : Nat) (D ev : Value) (vals : List Value) (n : Int) (s t u : ByteArray) (lao : Option Addr) (l : List E) (lcap : Nat) (mao : Option Addr) (mn mcap : Nat) (ar : Bool) (w : World) (hK : BookE w B p N D ev vals) (hBp : B ≤ p) (hnil : lao = none → l = [] ∧ lcap = 0) (hat : LiesE w lao l) (hlow : ∀ a, lao = some a → l ≠ [] → a.block < B) (hl : l.length ≤ 1048576) :
    Calls Tryz.prog 12 #[.pointer (some ⟨p, 0, none⟩), .agg (opC 11 n s t u lao l.length lcap mao mn mcap ar)] w fun r w' => r = .returned (.bool true) ∧ (∃ D', BookE w' B p N D' ev vals) ∧ Below B w w' := by
  have hpl := lt_of_block hK.here
  have hB : B ≤ w.heap.size := by omega
  have hsz : (w.setCell ⟨p, 0, none⟩ (.slice none 0 0)).heap.size = w.heap.size := by simp [World.setCell]
  have hb : Below w.heap.size w (w.alloc (.cells (opC 11 n s t u lao l.length lcap mao mn mcap ar) 31 (0, 0))) := (Below.refl _ w).alloc (Nat.le_refl _) _
  have hc0 : (w.alloc (.cells (opC 11 n s t u lao l.length lcap mao mn mcap ar) 31 (0, 0))).cell? ⟨p, 0, none⟩ = some D := (cell_of_row _ p 0 _ _ _ (hK.below hb).here).trans rfl
  have hf0 : (w.alloc (.cells (opC 11 n s t u lao l.length lcap mao mn mcap ar) 31 (0, 0))).frozen? ⟨p, 0, none⟩ = false := frozen_of_row _ p _ _ _ (hK.below hb).here
  have ha : Below w.heap.size (w.setCell ⟨p, 0, none⟩ (.slice none 0 0)) ((w.setCell ⟨p, 0, none⟩ (.slice none 0 0)).alloc (.cells (opC 11 n s t u lao l.length lcap mao mn mcap ar) 31 (0, 0))) := (Below.refl _ _).alloc (by rw [hsz]; exact Nat.le_refl _) _
  have HK1 := toHid ((hK.setD (.slice none 0 0)).below (by rw [hsz]; exact ha))
  have hbs : Below B w ((w.setCell ⟨p, 0, none⟩ (.slice none 0 0)).alloc (.cells (opC 11 n s t u lao l.length lcap mao mn mcap ar) 31 (0, 0))) := ((Below.refl _ w).setCell hBp _).trans (ha.mono hB)
  have HLA : Hid (LiesE ((w.setCell ⟨p, 0, none⟩ (.slice none 0 0)).alloc (.cells (opC 11 n s t u lao l.length lcap mao mn mcap ar) 31 (0, 0))) lao l) := by
    rcases hat with h | ⟨g, o, h1, h2, h3⟩
    · exact .inl h
    · by_cases hle : l = []
      · exact .inl hle
      · have hg : g < B := hlow _ h1 hle
        exact .inr ⟨g, o, h1, by simp [hsz]; omega, fun j e hj => by
          obtain ⟨k1, k2, k3⟩ := h3 j e hj
          exact ⟨(hbs.cell (p := ⟨g, o + j * 3, none⟩) hg).trans k1, (hbs.cell (p := ⟨g, o + j * 3 + 1, none⟩) hg).trans k2, (hbs.cell (p := ⟨g, o + j * 3 + 2, none⟩) hg).trans k3⟩⟩
  have HNIL := toHid hnil
  have HBS := toHid hbs
  have HL := toHid hl
  clear hK hb hat hnil hlow hbs ha hl
  obtain ⟨q, HQ⟩ := hid_intro l.length
  rw [← HQ.out] at HK1 hc0 hf0 HLA HBS ⊢
  unfold opC at HK1 hc0 hf0 HLA HBS ⊢
  obtain ⟨W, HW⟩ := hid_intro ((w.setCell ⟨p, 0, none⟩ (.slice none 0 0)).alloc (.cells #[.int .i64 11, .int .i64 n, .string s, .string t, .string u, .slice lao q lcap, .slice mao mn mcap, .bool ar] 31 (0, 0)))
  have hWs : W.heap.size = w.heap.size + 1 := by rw [HW.out]; simp [hsz]
  have o5 : W.cell? ⟨w.heap.size, 5, none⟩ = some (.slice lao q lcap) := by
    have := heap_alloc_new (w.setCell ⟨p, 0, none⟩ (.slice none 0 0)) (.cells #[.int .i64 11, .int .i64 n, .string s, .string t, .string u, .slice lao q lcap, .slice mao mn mcap, .bool ar] 31 (0, 0))
    rw [hsz, ← HW.out] at this
    exact (cell_of_row _ _ 5 _ _ _ this).trans rfl
  rw [← HW.out] at HK1 HLA HBS
  have hc1 : W.cell? ⟨p, 0, none⟩ = some (.slice none 0 0) := (cell_of_row _ p 0 _ _ _ HK1.out.here).trans rfl
  clear hsz
  go_enter Tryz.func12, Tryz.ntmps12
  go_wp2
  rw [← HW.out]
  have hld : ldD = Op.load 26 (Operand.tmp 73) := rfl
  rw [show Op.load 26 (Operand.tmp 73) = ldD from rfl]
  go_region_held3 (fun w' => w'.cell? ⟨w.heap.size, 5, none⟩ = some (.slice lao q lcap)) (go_keep) (first
    | (refine step_append_in (w := W.drew) ?_ (.tmp 74) (.tmp 76) ?_ ?_ lao l lcap q ?_ ?_ ?_ ?_ ?_ ?_; rfl; rfl; rfl; exact HQ.out; rfl; exact HNIL.out; exact HLA.out.below (below_drewN (Below.refl _ W) 1); exact HL.out; intro s' k' c' w5 hb5; have HB5 : Hid (Below W.heap.size W w5) := (below_drewN (Below.refl _ W) 1).trans hb5; clear hb5; have HK5 := toHid (HK1.out.below HB5.out); have z5 : w5.cell? ⟨w.heap.size, 5, none⟩ = some (.slice lao q lcap) := (HB5.out.cell (p := ⟨w.heap.size, 5, none⟩) (by show w.heap.size < W.heap.size; omega)).trans o5; have z0 : w5.cell? ⟨p, 0, none⟩ = some (.slice none 0 0) := (cell_of_row _ p 0 _ _ _ HK5.out.here).trans rfl; have zf : w5.frozen? ⟨p, 0, none⟩ = false := frozen_of_row _ p _ _ _ HK5.out.here; have z6 : ∀ x, (w5.setCell ⟨p, 0, none⟩ x).cell? ⟨w.heap.size, 5, none⟩ = some (.slice lao q lcap) := fun x => (World.cell?_of_block (a := ⟨w.heap.size, 5, none⟩) (Below.heap_setCell _ _ _ _ (by show w.heap.size ≠ p; omega))).trans z5))
  all_goals
    go_wp2
    go_ret
    exact ⟨rfl, ⟨_, HK5.out.setD _⟩, (HBS.out.trans (HB5.out.mono (by omega))).setCell hBp _⟩
end Go.Proofs.YtgfbbcnnmoamnaaGreatDoor.Tr

namespace Go.Proofs.YtgfbbcnnmoamnaaGreatDoor.Tr
open Go.RowKit Go.Proofs.YtgfbbcnnmoamnaaGreatDoor Go.Proofs.YtgfbbcnnmoamnaaGreatDoor.Lk

def OpR.cells (o : OpR) : Array Value := opC o.kind o.n o.s o.t o.u o.lao o.l.length o.lcap o.mao o.mn o.mcap o.ar
/-- a step's list, as it came in -/
structure OpOk (w : World) (o : OpR) : Prop where
  lies : LiesE w o.lao o.l
  nil : o.lao = none → o.l = [] ∧ o.lcap = 0
  len : o.l.length ≤ 1048576
/-- a script lies wherever it lies -/
def OpsIn (w : World) (ao : Option Addr) (ops : List OpR) : Prop := ops = [] ∨ ∃ g o, ao = some ⟨g, o, none⟩ ∧ g < w.heap.size ∧
  ∀ i op, ops[i]? = some op → (∀ j u, op.cells.toList[j]? = some u → w.cell? ⟨g, o + i * 8 + j, none⟩ = some u) ∧ OpOk w op
theorem OpsIn.at {w w' : World} {ao : Option Addr} {ops : List OpR} (h : OpsIn w ao ops) (hb : Below w.heap.size w w') {i : Nat} (hi : i < ops.length) : ∃ g o op, ao = some ⟨g, o, none⟩ ∧ OpOk w op ∧
    w'.cell? ⟨g, o + i * 8, none⟩ = some (.int .i64 op.kind) ∧ w'.cell? ⟨g, o + i * 8 + 1, none⟩ = some (.int .i64 op.n) ∧ w'.cell? ⟨g, o + i * 8 + 2, none⟩ = some (.string op.s) ∧ w'.cell? ⟨g, o + i * 8 + 3, none⟩ = some (.string op.t) ∧ w'.cell? ⟨g, o + i * 8 + 4, none⟩ = some (.string op.u) ∧ w'.cell? ⟨g, o + i * 8 + 5, none⟩ = some (.slice op.lao op.l.length op.lcap) ∧ w'.cell? ⟨g, o + i * 8 + 6, none⟩ = some (.slice op.mao op.mn op.mcap) ∧ w'.cell? ⟨g, o + i * 8 + 7, none⟩ = some (.bool op.ar) := by
  rcases h with h | ⟨g, o, h1, h2, h3⟩
  · rw [h] at hi; simp at hi
  · obtain ⟨c, k⟩ := h3 i _ (List.getElem?_eq_getElem hi)
    have key : ∀ j u, ops[i].cells.toList[j]? = some u → w'.cell? ⟨g, o + i * 8 + j, none⟩ = some u := fun j u hj => (hb.cell (p := ⟨g, o + i * 8 + j, none⟩) h2).trans (c j u hj)
    exact ⟨g, o, ops[i], h1, k, key 0 _ rfl, key 1 _ rfl, key 2 _ rfl, key 3 _ rfl, key 4 _ rfl, key 5 _ rfl, key 6 _ rfl, key 7 _ rfl⟩
theorem OpOk.low {w : World} {o : OpR} (h : OpOk w o) : ∀ a, o.lao = some a → o.l ≠ [] → a.block < w.heap.size := fun a ha hne => by
  rcases h.lies with h1 | ⟨g, o', h1, h2, _⟩
  · exact absurd h1 hne
  · rw [h1] at ha; injection ha with ha; rw [← ha]; exact h2
set_option maxRecDepth 8000 in
set_option maxHeartbeats 1000000 in
theorem playsE_any {er : Errs} (ops : List OpR) (ao : Option Addr) (cap : Nat) (w : World) (hlen : ops.length ≤ 1048576) (h : OpsIn w ao ops) (h3 : Base3 er w) :
    Calls Tryz.prog 6 #[.slice ao ops.length cap, .int .i64 6, .int .i64 6] w fun r w' => r = .returned (.bool true) ∧ Below w.heap.size w w' := by
  have HO := toHid h
  have H3 := toHid h3
  obtain ⟨n, HN⟩ := hid_intro ops.length
  rw [← HN.out] at hlen ⊢
  clear h h3
  go_enter Tryz.func6, Tryz.ntmps6
  go_wp2
  go_loopw [8] (fun vi wr => ∃ (i N : Nat) (D ev : Value) (vals : List Value), i ≤ n ∧ vi = .int .i64 i ∧ Hid (N ≤ i) ∧ Hid (BookE wr w.heap.size w.heap.size N D ev vals) ∧ Below w.heap.size w wr) (fun vi _ => n - (intOf vi).toNat)
  case atStart => exact ⟨0, 0, _, .slice none 0 0, [], by omega, rfl, Nat.le_refl _, ⟨heap_alloc_new w _, World.ownsRow_nil _ _ _ _, fun j u hj => by simp at hj⟩, (Below.refl _ w).alloc (Nat.le_refl _) _⟩
  case round =>
    obtain ⟨i, N, D, ev, vals, hi, rfl, HNI, HK, hb⟩ := hrel
    have hbs := hb.size
    by_cases hlt : i < n
    · obtain ⟨g, o, op, rfl, hok, c0, c1, c2, c3, c4, c5, c6, c7⟩ := HO.out.at hb (i := i) (by rw [← HN.out]; exact hlt)
      have HOK := toHid hok
      obtain ⟨kd, on, os, ot, ou, lao, ll, lcap, mao, mn, mcap, ar⟩ := op
      simp only [] at c0 c1 c2 c3 c4 c5 c6 c7
      have ha : Below wr.heap.size wr (wr.alloc (.cells (opC kd on os ot ou lao ll.length lcap mao mn mcap ar) 31 (0, 0))) := (Below.refl _ wr).alloc (Nat.le_refl _) _
      have hNs : N ≤ 1048576 := by have := HNI.out; omega
      by_cases h6 : kd = 6
      · subst h6
        have HST := toHid (step_unpack (er := er) w.heap.size w.heap.size N D ev vals on os ot ou lao ll.length lcap mao mn mcap ar _ (HK.out.below ha) ((H3.out.below hb).below ha) (Nat.le_refl _) hNs)
        have HA := toHid ha
        clear ha hok
        obtain ⟨q, HQ⟩ := hid_intro ll.length
        rw [← HQ.out] at c5 HST HA
        unfold opC at HST HA
        go_wp2_with (first
          | (go_at_call 12; refine HST.out.mono ?_; clear HST; rintro e w2 ⟨rfl, ⟨ev2, vals2, hk2⟩, hb2⟩; have HK2 := toHid hk2; have HB2 : Hid (Below w.heap.size w w2) := (hb.trans (HA.out.mono hbs)).trans hb2; clear hk2 hb2)
          | (go_at_call 13; refine (stillE_any w.heap.size w.heap.size (N + 1) D ev2 vals2 _ HK2.out (by have := HNI.out; omega)).mono ?_; rintro e w3 ⟨rfl, hb3⟩; have HB3 := toHid hb3; clear hb3))
        go_roundw
        case rel => exact ⟨i + 1, N + 1, D, ev2, vals2, by omega, by go_num, Nat.succ_le_succ HNI.out, HK2.out.below HB3.out, HB2.out.trans (HB3.out.mono HB2.out.size)⟩
        case measure => simp [intOf]; omega
      · by_cases h11 : kd = 11
        · subst h11
          have HST := toHid (step_disk w.heap.size w.heap.size N D ev vals on os ot ou lao ll lcap mao mn mcap ar _ (HK.out.below ha) (Nat.le_refl _) HOK.out.nil ((HOK.out.lies.below hb).below ha) HOK.out.low HOK.out.len)
          have HA := toHid ha
          clear ha hok
          obtain ⟨q, HQ⟩ := hid_intro ll.length
          rw [← HQ.out] at c5 HST HA
          unfold opC at HST HA
          go_wp2_with (first
            | (go_at_call 12; refine HST.out.mono ?_; clear HST; rintro e w2 ⟨rfl, ⟨D2, hk2⟩, hb2⟩; have HK2 := toHid hk2; have HB2 : Hid (Below w.heap.size w w2) := (hb.trans (HA.out.mono hbs)).trans hb2; clear hk2 hb2)
            | (go_at_call 13; refine (stillE_any w.heap.size w.heap.size N D2 ev vals _ HK2.out hNs).mono ?_; rintro e w3 ⟨rfl, hb3⟩; have HB3 := toHid hb3; clear hb3))
          go_roundw
          case rel => exact ⟨i + 1, N, D2, ev, vals, by omega, by go_num, Nat.le_succ_of_le HNI.out, HK2.out.below HB3.out, HB2.out.trans (HB3.out.mono HB2.out.size)⟩
          case measure => simp [intOf]; omega
        · have hn11 : (kd != 11) = true := bne_iff_ne.2 h11
          have HA := toHid ha
          clear ha hok
          obtain ⟨q, HQ⟩ := hid_intro ll.length
          rw [← HQ.out] at c5 HA
          unfold opC at HA
          by_cases hl6 : kd < 6
          · go_wp2
            go_roundw
            case rel => exact ⟨i + 1, N, D, ev, vals, by omega, by go_num, Nat.le_succ_of_le HNI.out, HK.out.below HA.out, hb.trans (HA.out.mono hbs)⟩
            case measure => simp [intOf]; omega
          · have hg6 : 6 < kd := by omega
            go_wp2
            go_roundw
            case rel => exact ⟨i + 1, N, D, ev, vals, by omega, by go_num, Nat.le_succ_of_le HNI.out, HK.out.below HA.out, hb.trans (HA.out.mono hbs)⟩
            case measure => simp [intOf]; omega
    · obtain rfl : i = n := by omega
      go_wp2
      go_ret
      exact ⟨rfl, hb⟩
end Go.Proofs.YtgfbbcnnmoamnaaGreatDoor.Tr

namespace Go.Proofs.YtgfbbcnnmoamnaaGreatDoor.Tr
open Go.RowKit Go.Proofs.YtgfbbcnnmoamnaaGreatDoor Go.Proofs.YtgfbbcnnmoamnaaGreatDoor.Lk

/-- the small tree -/
def smallL : List E := [⟨[98, 47, 97], false, [120]⟩, ⟨[98], true, []⟩]
theorem small_tree : treeB smallL = true := by decide +kernel
theorem small_fit : FitE smallL := fun e he => by
  simp only [smallL, List.mem_cons, List.not_mem_nil, or_false] at he
  rcases he with rfl | rfl <;> simp
theorem small_len : (serE (sortE smallL)).length ≤ 20000 := by
  have hp : ((sortE smallL).flatMap lineE).length = (smallL.flatMap lineE).length := ((sortE_perm smallL).flatMap_right lineE).length_eq
  have h1 := decB_len 1
  have h2 := decB_len (sortE smallL).length
  rw [len_sort] at h2
  have h3 : smallL.length = 2 := rfl
  rw [serE, bodyE, List.length_append, List.length_append, hp, len_sort]
  simp [smallL, lineE, headB, endB] at h1 h2 ⊢
  omega
theorem small_ref : refA (serE (sortE smallL)) = some (sortE smallL) := ref_is small_tree rfl
set_option maxRecDepth 8000 in
theorem small_any (w : World) : Calls Tryz.prog 5 #[] w fun r w' => r = .returned (.slice (some ⟨w.heap.size, 0, none⟩) smallL.length 2) ∧ LiesE w' (some ⟨w.heap.size, 0, none⟩) smallL ∧ Below w.heap.size w w' := by
  go_enter Tryz.func5, Tryz.ntmps5
  go_wp2
  go_ret
  refine ⟨rfl, .inr ⟨_, _, rfl, by simp, fun j e hj => ?_⟩, (Below.refl _ w).alloc (Nat.le_refl _) _⟩
  have hb := heap_alloc_new w (.cells #[.string ⟨#[98, 47, 97]⟩, .bool false, .string ⟨#[120]⟩, .string ⟨#[98]⟩, .bool true, .string ⟨#[]⟩] 47 (0, 0))
  have hjl := (List.getElem?_eq_some_iff.1 hj).1
  have hj2 : j = 0 ∨ j = 1 := by simp [smallL] at hjl; omega
  rcases hj2 with rfl | rfl
  · injection hj with hj
    subst hj
    exact ⟨(cell_of_row _ _ _ _ _ _ hb).trans rfl, (cell_of_row _ _ _ _ _ _ hb).trans rfl, (cell_of_row _ _ _ _ _ _ hb).trans rfl⟩
  · injection hj with hj
    subst hj
    exact ⟨(cell_of_row _ _ _ _ _ _ hb).trans rfl, (cell_of_row _ _ _ _ _ _ hb).trans rfl, (cell_of_row _ _ _ _ _ _ hb).trans rfl⟩
/-- packed: an archive of the small tree -/
def SmallArc (s : ByteArray) : Prop := unpA s = (0, sortE smallL)
theorem arc_of {out : List UInt8} (h : DefOf (serE (sortE smallL)) out) : SmallArc ⟨out.toArray⟩ := by
  obtain ⟨⟨k, h1, h2⟩, h3, _⟩ := h
  have hl := small_len
  have hz : (⟨out.toArray⟩ : ByteArray).size = out.length := size_of out
  have hp : ((sortE smallL).flatMap lineE).length = (smallL.flatMap lineE).length := ((sortE_perm smallL).flatMap_right lineE).length_eq
  have hs : (serE (sortE smallL)).length ≤ 100 := by
    have h1 := decB_len 1
    have h2 := decB_len (sortE smallL).length
    rw [len_sort] at h2
    have h3 : smallL.length = 2 := rfl
    rw [serE, bodyE, List.length_append, List.length_append, hp, len_sort]
    simp [smallL, lineE, headB, endB] at h1 h2 ⊢
    omega
  unfold SmallArc unpA
  rw [if_neg (by rw [hz]; omega), show (⟨out.toArray⟩ : ByteArray).data.toList = out from rfl, h1]
  simp only []
  rw [small_ref]
  simp only []
  rw [if_pos (by rw [hz]; exact h2)]
set_option maxRecDepth 8000 in
set_option maxHeartbeats 1000000 in
theorem pack_small (ao : Option Addr) (cap : Nat) (w : World) (hat : LiesE w ao smallL) (hP : Pow w) :
    Calls Tryz.prog 4 #[.slice ao smallL.length cap] w fun r w' => ∃ s, r = .returned (.tuple #[.string s, .int .i64 0, .int .i64 0]) ∧ SmallArc s ∧ Below w.heap.size w w' := by
  have HOF := toHid (of_good smallL small_fit ao cap w hat small_tree)
  have HP := toHid hP
  have HSL : Hid ((sortE smallL).length ≤ 1048576) := (show _ ≤ _ by rw [len_sort]; decide)
  have HSF := toHid (fit_sort small_fit)
  have HLEN := toHid small_len
  have HARC := toHid (fun out h => arc_of (out := out) h)
  obtain ⟨m, HM⟩ := hid_intro (sortE smallL)
  rw [← HM.out] at HOF HSL HSF HLEN HARC
  obtain ⟨n, HN⟩ := hid_intro smallL.length
  rw [← HN.out] at HOF ⊢
  obtain ⟨S, HS⟩ := hid_intro (serE m)
  rw [← HS.out] at HLEN HARC
  clear hat hP
  go_enter Tryz.func4, Tryz.ntmps4
  go_wp2_with (first
    | (go_at_call 8; refine HOF.out.mono ?_; clear HOF; rintro e w1 ⟨t, k, c, rfl, ht1, hb1⟩; have HT1 := toHid ht1; have HB1 := toHid hb1; clear ht1 hb1; have HSR := toHid (series_any 7 (w1.alloc (.cells #[.slice t k c] 37 (0, 0))) _ t k c m (HT1.out.below ((Below.refl _ w1).alloc (Nat.le_refl _) _)) HSL.out HSF.out ((HP.out.below HB1.out).below ((Below.refl _ w1).alloc (Nat.le_refl _) _))); rw [← HS.out] at HSR)
    | (go_at_call 10; refine HSR.out.mono ?_; clear HSR; rintro e w2 ⟨rfl, hb2⟩; have HB2 : Hid (Below w.heap.size w w2) := (HB1.out.trans ((((Below.refl _ w1).alloc (Nat.le_refl _) _).trans (hb2.mono (by simp))).mono HB1.out.size)); clear hb2; have HDF := toHid (sDeflate_in ⟨S.toArray⟩ (by rw [size_of]; exact HLEN.out) w2))
    | (go_at_call 9; refine HDF.out.mono ?_; clear HDF; rintro e w3 ⟨out, rfl, hd3, hb3⟩; have HD3 := toHid hd3; have HB3 : Hid (Below w.heap.size w w3) := HB2.out.trans (hb3.mono HB2.out.size); clear hd3 hb3)
    | (go_at_call 11; refine (streamErrno_nil _).mono ?_; rintro e w4 ⟨rfl, hb4⟩; have HB4 : Hid (Below w.heap.size w w4) := HB3.out.trans (hb4.mono HB3.out.size); clear hb4))
  go_ret3
  exact ⟨_, rfl, HARC.out out HD3.out, HB4.out⟩
theorem two_ops (s : ByteArray) (w : World) (b : Nat) (hb : w.heap[b]? = some (.cells #[.int .i64 6, .int .i64 0, .string s, .string ⟨#[]⟩, .string ⟨#[]⟩, .slice none 0 0, .slice none 0 0, .bool false, .int .i64 6, .int .i64 0, .string ⟨#[3, 0]⟩, .string ⟨#[]⟩, .string ⟨#[]⟩, .slice none 0 0, .slice none 0 0, .bool false] 31 (0, 0))) :
    OpsIn w (some ⟨b, 0, none⟩) [⟨6, 0, s, ⟨#[]⟩, ⟨#[]⟩, none, [], 0, none, 0, 0, false⟩, ⟨6, 0, ⟨#[3, 0]⟩, ⟨#[]⟩, ⟨#[]⟩, none, [], 0, none, 0, 0, false⟩] := by
  refine .inr ⟨b, 0, rfl, lt_of_block hb, fun i op hi => ?_⟩
  have hil := (List.getElem?_eq_some_iff.1 hi).1
  have hi2 : i = 0 ∨ i = 1 := by simp at hil; omega
  have k8 : ∀ j, j < 8 → j = 0 ∨ j = 1 ∨ j = 2 ∨ j = 3 ∨ j = 4 ∨ j = 5 ∨ j = 6 ∨ j = 7 := fun j hj => by omega
  rcases hi2 with rfl | rfl
  · injection hi with hi
    subst hi
    refine ⟨fun j u hj => ?_, ⟨.inl rfl, fun _ => ⟨rfl, rfl⟩, Nat.zero_le _⟩⟩
    have hjl : j < 8 := (List.getElem?_eq_some_iff.1 hj).1
    rw [cell_of_row _ _ _ _ _ _ hb]
    rcases k8 j hjl with rfl | rfl | rfl | rfl | rfl | rfl | rfl | rfl <;> exact hj
  · injection hi with hi
    subst hi
    refine ⟨fun j u hj => ?_, ⟨.inl rfl, fun _ => ⟨rfl, rfl⟩, Nat.zero_le _⟩⟩
    have hjl : j < 8 := (List.getElem?_eq_some_iff.1 hj).1
    rw [cell_of_row _ _ _ _ _ _ hb]
    rcases k8 j hjl with rfl | rfl | rfl | rfl | rfl | rfl | rfl | rfl <;> exact hj
theorem OpOk.below {w w' : World} {o : OpR} (h : OpOk w o) (hb : Below w.heap.size w w') : OpOk w' o := ⟨h.lies.below hb, h.nil, h.len⟩
theorem OpsIn.below {w w' : World} {ao : Option Addr} {ops : List OpR} (h : OpsIn w ao ops) (hb : Below w.heap.size w w') : OpsIn w' ao ops := by
  rcases h with h | ⟨g, o, h1, h2, h3⟩
  · exact .inl h
  · exact .inr ⟨g, o, h1, Nat.lt_of_lt_of_le h2 hb.size, fun i op hi => ⟨fun j u hj => (hb.cell (p := ⟨g, o + i * 8 + j, none⟩) h2).trans ((h3 i op hi).1 j u hj), (h3 i op hi).2.below hb⟩⟩
set_option maxRecDepth 8000 in
set_option maxHeartbeats 1000000 in
/-- the law -/
theorem unpacksLaw {er : Errs} (ops : List OpR) (ao : Option Addr) (cap : Nat) (w : World) (hlen : ops.length ≤ 1048576) (h : OpsIn w ao ops) (h3 : Base3 er w) :
    Calls Tryz.prog 3 #[.slice ao ops.length cap] w fun r w' => r = .returned (.bool true) ∧ Below w.heap.size w w' := by
  have HO := toHid h
  have H3 := toHid h3
  have HSM := toHid (small_any w)
  have HPK := toHid (fun ao cap w h hP => pack_small ao cap w h hP)
  have HLEN := toHid hlen
  obtain ⟨n, HN⟩ := hid_intro ops.length
  rw [← HN.out]
  obtain ⟨q, HQ⟩ := hid_intro smallL.length
  rw [← HQ.out] at HSM HPK
  clear h h3 hlen
  go_enter Tryz.func3, Tryz.ntmps3
  go_wp2_with (first
    | (go_at_call 5; refine HSM.out.mono ?_; clear HSM; rintro e w1 ⟨rfl, hl1, hb1⟩; have HB1 := toHid hb1; have HPK1 := toHid (HPK.out _ 2 w1 hl1 (H3.out.pow.below hb1)); clear hl1 hb1)
    | (go_at_call 4; refine HPK1.out.mono ?_; clear HPK1; rintro e w2 ⟨s, rfl, hs2, hb2⟩; have HS2 := toHid hs2; have HB2 : Hid (Below w.heap.size w w2) := HB1.out.trans (hb2.mono HB1.out.size); clear hs2 hb2; have HA2 : Hid (Below w2.heap.size w2 (w2.alloc (.cells #[.int .i64 6, .int .i64 0, .string s, .string ⟨#[]⟩, .string ⟨#[]⟩, .slice none 0 0, .slice none 0 0, .bool false, .int .i64 6, .int .i64 0, .string ⟨#[3, 0]⟩, .string ⟨#[]⟩, .string ⟨#[]⟩, .slice none 0 0, .slice none 0 0, .bool false] 31 (0, 0)))) := (Below.refl _ w2).alloc (Nat.le_refl _) _; have HPL := toHid (playsE_any (er := er) [⟨6, 0, s, ⟨#[]⟩, ⟨#[]⟩, none, [], 0, none, 0, 0, false⟩, ⟨6, 0, ⟨#[3, 0]⟩, ⟨#[]⟩, ⟨#[]⟩, none, [], 0, none, 0, 0, false⟩] (some ⟨w2.heap.size, 0, none⟩) 2 _ (show 2 ≤ 1048576 by omega) (two_ops s _ w2.heap.size (heap_alloc_new w2 _)) ((H3.out.below HB2.out).below HA2.out)))
    | (go_at_call 6; refine HPL.out.mono ?_; clear HPL; rintro e w3 ⟨rfl, hb3⟩; have HB3 : Hid (Below w.heap.size w w3) := HB2.out.trans ((HA2.out.trans (hb3.mono (by simp))).mono HB2.out.size); clear hb3 HA2; have HUP := toHid (unpack_any s w3 (H3.out.below HB3.out).errs (H3.out.below HB3.out).nums (H3.out.below HB3.out).pow); rw [HS2.out] at HUP; simp only [len_sort] at HUP)
    | (go_at_call 7; refine HUP.out.mono ?_; clear HUP; rintro e w4 ⟨u, rfl, ho4, hb4⟩; obtain ⟨au, cu, rfl⟩ := own_shape ho4; have HB4 : Hid (Below w.heap.size w w4) := HB3.out.trans (hb4.mono HB3.out.size); clear ho4 hb4; have HPR := toHid (playsE_any (er := er) ops ao cap w4 HLEN.out (HO.out.below HB4.out) (H3.out.below HB4.out)); rw [← HN.out] at HPR)
    | (go_at_call 6; refine HPR.out.mono ?_; clear HPR; rintro e w5 ⟨rfl, hb5⟩; have HB5 : Hid (Below w.heap.size w w5) := HB4.out.trans (hb5.mono HB4.out.size); clear hb5))
  go_ret
  exact ⟨rfl, HB5.out⟩
end Go.Proofs.YtgfbbcnnmoamnaaGreatDoor.Tr
