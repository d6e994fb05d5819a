/- slices.SortFunc at the nodes of a tree: the library's numbering, laid by the library's own command. The nodes of a directory, sorted. What gathers a directory's nodes: how it stands between its rounds. -/
import Derived.Shelf.SlSortCmp.NoneTotal
import Derived.Test.YtgfbbcnnmoamnaaGreatDoorProg
import Derived.Test.YtgfbbcnnmoamnaaGreatDoorUnA
namespace Go.Proofs
open Go.Shelf
def Tryz.laysSort_ren : Go.Shelf.Ren := ⟨fun | 6 => 45 | 15 => 110 | 14 => 109 | 28 => 178 | 29 => 179 | 20 => 170 | 21 => 171 | 22 => 172 | 23 => 173 | 24 => 174 | 25 => 175 | 26 => 176 | 27 => 177 | 46 => 227 | 47 => 228 | 48 => 229 | 49 => 230 | 50 => 231 | 57 => 288 | n => n, fun | 22 => 35 | 24 => 106 | 25 => 108 | 3 => 3 | 39 => 199 | 0 => 0 | 53 => 277 | 55 => 279 | 4 => 4 | 46 => 271 | 45 => 270 | 50 => 196 | 5 => 5 | 9 => 9 | 66 => 333 | 70 => 337 | 76 => 379 | 77 => 119 | n => n, fun | n => n⟩
theorem Tryz.laysSort : Go.Proofs.SlLaysF.n6 Tryz.prog Tryz.laysSort_ren := {
  mixed := by kernel_rfl
  f6 := ⟨Tryz.f45.name, by decide, Tryz.func45.trans (congrArg some (by kernel_rfl))⟩
  f14 := ⟨Tryz.f109.name, by decide, Tryz.func109.trans (congrArg some (by kernel_rfl))⟩
  f15 := Tryz.func110.trans (congrArg some (by kernel_rfl))
  f20 := ⟨Tryz.f170.name, by decide, Tryz.func170.trans (congrArg some (by kernel_rfl))⟩
  f21 := ⟨Tryz.f171.name, by decide, Tryz.func171.trans (congrArg some (by kernel_rfl))⟩
  f22 := ⟨Tryz.f172.name, by decide, Tryz.func172.trans (congrArg some (by kernel_rfl))⟩
  f23 := ⟨Tryz.f173.name, by decide, Tryz.func173.trans (congrArg some (by kernel_rfl))⟩
  f24 := ⟨Tryz.f174.name, by decide, Tryz.func174.trans (congrArg some (by kernel_rfl))⟩
  f25 := ⟨Tryz.f175.name, by decide, Tryz.func175.trans (congrArg some (by kernel_rfl))⟩
  f26 := ⟨Tryz.f176.name, by decide, Tryz.func176.trans (congrArg some (by kernel_rfl))⟩
  f27 := ⟨Tryz.f177.name, by decide, Tryz.func177.trans (congrArg some (by kernel_rfl))⟩
  f28 := Tryz.func178.trans (congrArg some (by kernel_rfl))
  f29 := Tryz.func179.trans (congrArg some (by kernel_rfl))
  f46 := ⟨Tryz.f227.name, by decide, Tryz.func227.trans (congrArg some (by kernel_rfl))⟩
  f47 := Tryz.func228.trans (congrArg some (by kernel_rfl))
  f48 := Tryz.func229.trans (congrArg some (by kernel_rfl))
  f49 := ⟨Tryz.f230.name, by decide, Tryz.func230.trans (congrArg some (by kernel_rfl))⟩
  f50 := ⟨Tryz.f231.name, by decide, Tryz.func231.trans (congrArg some (by kernel_rfl))⟩
  f57 := ⟨Tryz.f288.name, by decide, Tryz.func288.trans (congrArg some (by kernel_rfl))⟩
  t0 := Tryz.underlying0
  a0 := Tryz.isAgg0
  z0 := Tryz.sizeOf0
  v0 := Tryz.zeroValue0
  t3 := Tryz.underlying3
  a3 := Tryz.isAgg3
  z3 := Tryz.sizeOf3
  v3 := Tryz.zeroValue3
  t4 := Tryz.underlying4
  a4 := Tryz.isAgg4
  z4 := Tryz.sizeOf4
  v4 := Tryz.zeroValue4
  t5 := Tryz.underlying5
  a5 := Tryz.isAgg5
  z5 := Tryz.sizeOf5
  v5 := Tryz.zeroValue5
  t9 := Tryz.underlying9
  a9 := Tryz.isAgg9
  z9 := Tryz.sizeOf9
  v9 := Tryz.zeroValue9
  t22 := Tryz.underlying35
  a22 := Tryz.isAgg35
  z22 := Tryz.sizeOf35
  v22 := Tryz.zeroValue35
  a24 := Tryz.isAgg106
  z24 := Tryz.sizeOf106
  t25 := Tryz.underlying108
  a25 := Tryz.isAgg108
  z25 := Tryz.sizeOf108
  v25 := Tryz.zeroValue108
  t39 := Tryz.underlying199
  a39 := Tryz.isAgg199
  z39 := Tryz.sizeOf199
  v39 := Tryz.zeroValue199
  t45 := Tryz.underlying270
  a45 := Tryz.isAgg270
  z45 := Tryz.sizeOf270
  v45 := Tryz.zeroValue270
  t46 := Tryz.underlying271
  a46 := Tryz.isAgg271
  z46 := Tryz.sizeOf271
  v46 := Tryz.zeroValue271
  t50 := Tryz.underlying196
  a50 := Tryz.isAgg196
  z50 := Tryz.sizeOf196
  v50 := Tryz.zeroValue196
  t53 := Tryz.underlying277
  a53 := Tryz.isAgg277
  z53 := Tryz.sizeOf277
  v53 := Tryz.zeroValue277
  t55 := Tryz.underlying279
  a55 := Tryz.isAgg279
  z55 := Tryz.sizeOf279
  v55 := Tryz.zeroValue279
  t66 := Tryz.underlying333
  a66 := Tryz.isAgg333
  z66 := Tryz.sizeOf333
  v66 := Tryz.zeroValue333
  t70 := Tryz.underlying337
  a70 := Tryz.isAgg337
  z70 := Tryz.sizeOf337
  v70 := Tryz.zeroValue337
  t76 := Tryz.underlying379
  a76 := Tryz.isAgg379
  z76 := Tryz.sizeOf379
  v76 := Tryz.zeroValue379
  t77 := Tryz.underlying119
  a77 := Tryz.isAgg119
  z77 := Tryz.sizeOf119
  v77 := Tryz.zeroValue119 }
end Go.Proofs

namespace Go.Proofs.YtgfbbcnnmoamnaaGreatDoor.Tr
open Go.RowKit Go.Proofs.YtgfbbcnnmoamnaaGreatDoor Go.Proofs.YtgfbbcnnmoamnaaGreatDoor.Lk

instance : Inhabited Nd := ⟨.file [] []⟩
theorem cmp_less : ∀ (a b : List UInt8), (decide (Lib.compareBytes a b < 0)) = Op.bytesLess a b
  | [], [] => by rw [Op.bytesLess]; rfl
  | [], _ :: _ => by rw [Op.bytesLess]; rfl
  | _ :: _, [] => by rw [Op.bytesLess]; rfl
  | x :: a, y :: b => by
    rw [less_cons, Lib.compareBytes]
    by_cases h : x < y
    · rw [if_pos h, decide_eq_true h, Bool.true_or]; rfl
    · rw [if_neg h, decide_eq_false h, Bool.false_or]
      by_cases h2 : y < x
      · rw [if_pos h2, beq_eq_false_iff_ne.2 (fun e => by subst e; exact h h2), Bool.false_and]; rfl
      · rw [if_neg h2, cmp_less a b]
        have : x = y := by
          rw [UInt8.lt_iff_toNat_lt] at h h2
          exact UInt8.toNat_inj.1 (by omega)
        rw [this, beq_self_eq_true, Bool.true_and]
def cfN (x y : Nd) : Int := Lib.compareBytes x.name y.name
theorem ltN (x y : Nd) : ltOf cfN x y = Op.bytesLess x.name y.name := cmp_less _ _
theorem swoN : Sort.SWO (ltOf cfN) := by
  refine ⟨fun x => by rw [ltN]; exact less_irr _, fun x y z h1 h2 => by rw [ltN] at *; exact less_trans h1 h2, fun x y z h1 h2 => ?_⟩
  rw [ltN] at *
  cases h : Op.bytesLess x.name z.name with
  | false => rfl
  | true =>
    by_cases e : x.name = y.name
    · rw [e, h2] at h; cases h
    · have h3 := less_tot e h1
      have := less_trans h3 h
      rw [h2] at this; cases this
theorem one_nd (x : Nd) : x.val.oneCell' = true := by cases x <;> rfl
theorem cmpN (blk off size : Nat) (w : World) : CmpLays1 Tryz.prog 46 #[] Nd.val cfN blk off size w :=
  fun m os dk _ x y => (below1_any x y _).mono fun e w' ⟨he, o, o', hw⟩ => ⟨he, 0, #[o, o'], by
    rw [hw, World.drewN_zero, Sort.alloc_eq_grow, Sort.alloc_eq_grow, Sort.grow_grow]; rfl⟩
theorem sortW_block {w : World} {blk n : Nat} {d : Array Nd} {os : Array Obj} {k : Nat} (hk : k ≠ blk) (hlt : k < w.heap.size) : (sortWorld Nd.val w blk 0 n d os).heap[k]? = w.heap[k]? := by
  unfold sortWorld Sort.grow Sort.putRow Sort.mapBlock
  simp only []
  rw [Array.getElem?_append_left (by simpa [Sort.ahead] using hlt), Array.getElem?_modify, if_neg (fun e => hk e.symm)]
  rfl
theorem sortW_size (w : World) (blk n : Nat) (d : Array Nd) (os : Array Obj) : w.heap.size ≤ (sortWorld Nd.val w blk 0 n d os).heap.size := by
  unfold sortWorld Sort.grow Sort.putRow Sort.mapBlock
  simp [Sort.ahead]
theorem arr_get (d : Array Nd) (j : Nat) (x : Nd) (h : d.toList[j]? = some x) : j < d.size ∧ d[j]! = x := by
  obtain ⟨h1, h2⟩ := List.getElem?_eq_some_iff.1 h
  refine ⟨by simpa using h1, ?_⟩
  rw [getElem!_pos d j (by simpa using h1)]
  simpa using h2
/-- the nodes are sorted by their names -/
theorem nodes_sort (ns : List Nd) (w : World) (B : Nat) (v : Value) (hown : w.ownsRow B 106 1 v ns.length (ns.map Nd.val)) (hlen : ns.length ≤ 1048576) :
    Calls Tryz.prog 45 #[v, .func (.func 46) #[] #[]] w fun r w' => r = .returned (.tuple #[]) ∧ ∃ ns' : List Nd, ns'.Perm ns ∧ ns'.Pairwise (fun x y => Op.bytesLess y.name x.name = false) ∧ Row w' (fun b => v.ownBlock = some b) v ns' ∧ Below B w w' ∧ (∀ b, b < w.heap.size → v.ownBlock ≠ some b → w'.heap[b]? = w.heap[b]?) := by
  rcases hown.2 with ⟨hv, hn⟩ | ⟨g, cap, cur, hv, hg, hb, h1, h2, h3, h4⟩
  · subst hv
    have hns : ns = [] := List.length_eq_zero_iff.1 hn
    refine (AnyF.slices_SortFunc_none (ρ := Tryz.laysSort_ren) { Tryz.laysSort with } none 0 (.func (.func 46) #[] #[]) w).mono ?_
    rintro r w' ⟨hr, hw⟩
    subst hw
    exact ⟨hr, [], by rw [hns], List.Pairwise.nil, .inl ⟨rfl, rfl⟩, Below.refl _ _, fun b _ _ => rfl⟩
  · subst hv
    have hlt := lt_of_block hb
    have hH : Sort.Holds Nd.val w g 0 ns.toArray := fun j hj => by
      have hjl : j < ns.length := by simpa using hj
      refine ⟨?_, frozen_of_row _ _ _ _ _ hb⟩
      rw [cell_of_row _ _ _ _ _ _ hb]
      have : cur[0 + j]? = (ns.map Nd.val)[j]? := by
        rw [← h4, List.getElem?_take_of_lt (by omega), Array.getElem?_toList, Nat.zero_add]
      rw [this, List.getElem?_map, List.getElem?_eq_getElem hjl, getElem!_pos ns.toArray j hj]
      simp
    have eg : ∀ args w, (callFunc 46 args).run Tryz.prog w = .ok (.enter 46 args) w := enters_of Tryz.func46 (by kernel_rfl) rfl
    have hc := Any.slices_SortFunc Tryz.laysSort Nd.val one_nd cfN swoN 46 #[] g 0 cap ns.toArray w eg (cmpN _ _ _ _) hH hlt (by simp; omega)
    rw [List.size_toArray] at hc
    refine Calls.mono (f := 45) hc ?_
    rintro r w' ⟨hr, d', n, os, hp, hs, hw⟩
    subst hw
    have hsz : d'.size = ns.length := by have := hp.1; simpa using this
    have hpm : d'.toList.Perm ns := by
      have := hp.2.2
      rw [show d'.extract 0 ns.length = d' by rw [← hsz]; simp] at this
      simpa using this
    refine ⟨hr, d'.toList, hpm, ?_, .inr ⟨g, cap, by rw [hpm.length_eq], rfl, ?_, fun j nd hj => ?_⟩, ⟨rfl, rfl, rfl, sortW_size _ _ _ _ _, fun k hk => sortW_block (by omega) (by omega)⟩, fun b hb hne => sortW_block (fun e => hne (by rw [e]; rfl)) hb⟩
    · rw [List.pairwise_iff_getElem]
      intro i j hi hj hij
      have := hs i j (Nat.zero_le _) hij (by simp at hj ⊢; omega)
      rw [ltN, getElem!_pos d' i (by simpa using hi), getElem!_pos d' j (by simpa using hj)] at this
      simpa using this
    · exact Nat.lt_of_lt_of_le hlt (sortW_size _ _ _ _ _)
    · obtain ⟨hjs, hjv⟩ := arr_get d' j nd hj
      have := (holds_sortWorld Nd.val w g 0 n ns.toArray d' os hlt hH (by simpa using hsz) j hjs).1
      rw [Nat.zero_add, hjv] at this
      exact this
end Go.Proofs.YtgfbbcnnmoamnaaGreatDoor.Tr

namespace Go.Proofs.YtgfbbcnnmoamnaaGreatDoor.Tr
open Go.RowKit Go.Proofs.YtgfbbcnnmoamnaaGreatDoor Go.Proofs.YtgfbbcnnmoamnaaGreatDoor.Lk

theorem perm_lift {α β : Type} {f : α → β} {m n : List β} (h : m.Perm n) : ∀ ks : List α, ks.map f = n → ∃ ks' : List α, ks'.Perm ks ∧ ks'.map f = m := by
  induction h with
  | nil => intro ks hk; exact ⟨ks, List.Perm.refl _, hk⟩
  | cons x _ ih =>
    intro ks hk
    cases ks with
    | nil => cases hk
    | cons k ks =>
      injection hk with h1 h2
      obtain ⟨ks', p1, p2⟩ := ih ks h2
      exact ⟨k :: ks', p1.cons k, by rw [List.map_cons, h1, p2]⟩
  | swap x y l =>
    intro ks hk
    cases ks with
    | nil => cases hk
    | cons a ks =>
      cases ks with
      | nil => injection hk with _ h2; cases h2
      | cons b ks =>
        injection hk with h1 h2
        injection h2 with h2 h3
        exact ⟨b :: a :: ks, List.Perm.swap _ _ _, by rw [List.map_cons, List.map_cons, h1, h2, h3]⟩
  | trans _ _ ih1 ih2 =>
    intro ks hk
    obtain ⟨k1, p1, q1⟩ := ih2 ks hk
    obtain ⟨k2, p2, q2⟩ := ih1 k1 q1
    exact ⟨k2, p2.trans p1, q2⟩
/-- between two rounds -/
structure St (B : Nat) (l : List E) (p : List UInt8) (d i : Nat) (W : World) (v : Value) (ks : List (Nd × List E)) : Prop where
  res : W.heap[B]? = some (.cells #[.slice none 0 0] 37 (0, 0))
  own : W.heap[B + 1]? = some (.cells #[v] 37 (0, 0))
  row : W.ownsRow (B + 2) 106 1 v ks.length (ks.map fun x => x.1.val)
  made : Made ((l.take i).filter fun e => parentB e.p == p) p ks
  kids : ∀ x ∈ ks, KidAt W (fun b => B + 2 ≤ b ∧ v.ownBlock ≠ some b) d (aheadP p) x
  deep : ∀ x ∈ ks, (headE (aheadP p) x.1).dir = true → FP l d (headE (aheadP p) x.1).p x.2
theorem St.below {B d i : Nat} {l : List E} {p : List UInt8} {W W' : World} {v : Value} {ks : List (Nd × List E)} (h : St B l p d i W v ks) (hb : Below W.heap.size W W') : St B l p d i W' v ks :=
  ⟨(hb.block _ (lt_of_block h.res)).trans h.res, (hb.block _ (lt_of_block h.own)).trans h.own, own_below h.row hb, h.made, fun x hx => (h.kids x hx).keep hb.size fun b hlt ho => ⟨hb.block b hlt, ho⟩, h.deep⟩
theorem St.skip {B d i : Nat} {l : List E} {p : List UInt8} {W : World} {v : Value} {ks : List (Nd × List E)} (h : St B l p d i W v ks) (hi : i < l.length) (hne : parentB (getE l i).p ≠ p) : St B l p d (i + 1) W v ks := by
  have e : (l.take (i + 1)).filter (fun e => parentB e.p == p) = (l.take i).filter fun e => parentB e.p == p := by
    rw [take_get hi, List.filter_append, List.filter_cons_of_neg (by rw [beq_eq_false_iff_ne.2 hne]; exact Bool.false_ne_true)]
    simp
  exact ⟨h.res, h.own, h.row, by rw [e]; exact h.made, h.kids, h.deep⟩
theorem row_sz {W : World} {B : Nat} {v : Value} {n : Nat} {xs : List Value} {t : TypeId} (h : W.ownsRow B t 1 v n xs) : ∀ b, v.ownBlock = some b → B ≤ b ∧ b < W.heap.size := fun b hb => h.lt b hb
theorem St.len {B d i : Nat} {l : List E} {p : List UInt8} {W : World} {v : Value} {ks : List (Nd × List E)} (h : St B l p d i W v ks) : ks.length ≤ l.length := by
  have := congrArg List.length h.made.heads
  rw [List.length_map] at this
  rw [this]
  exact Nat.le_trans (List.length_filter_le _ _) (by simp; omega)
theorem news_one {W : World} {b : Nat} {x : Value} {t : TypeId} {fr : Nat × Nat} (h : W.heap[b]? = some (.cells #[x] t fr)) : ∀ j u, [x][j]? = some u → W.cell? ((⟨b, 0, none⟩ : Addr).add j) = some u := World.news_of_block h
theorem drew_block {W : World} {q b : Nat} {x : Obj} (h : W.heap[b]? = some x) : (W.drewN q).heap[b]? = some x := ((below_drewN (Below.refl _ W) q).block b (lt_of_block h)).trans h
theorem alloc2_new (w : World) (o o' : Obj) : ((w.alloc o).alloc o').heap[w.heap.size + 1]? = some o' := by
  have := heap_alloc_new (w.alloc o) o'
  rwa [show (w.alloc o).heap.size = w.heap.size + 1 by simp] at this
/-- one node more -/
theorem St.more {B d i : Nat} {l : List E} {p : List UInt8} {W W5 : World} {v : Value} {ks : List (Nd × List E)} (h : St B l p d i W v ks) (hi : i < l.length) (he : parentB (getE l i).p = p) (nd : Nd) (m : List E) (hnd : headE (aheadP p) nd = getE l i) (hnm : nd.name = lastB (getE l i).p)
    (hk : KidAt W (fun b => B + 2 ≤ b ∧ v.ownBlock ≠ some b) d (aheadP p) (nd, m)) (hd : (getE l i).dir = true → FP l d (getE l i).p m) (g cap : Nat)
    (ho : W5.ownsRow (B + 2) 106 1 (.slice (some ⟨g, 0, none⟩) (ks.length + 1) cap) (ks.length + 1) ((ks.map fun x => x.1.val) ++ [nd.val])) (hg : W.grownBy W5 v.ownBlock) (hat : v.ownBlock = some g ∨ g = W.heap.size) :
    St B l p d (i + 1) (W5.setCell ⟨B + 1, 0, none⟩ (.slice (some ⟨g, 0, none⟩) (ks.length + 1) cap)) (.slice (some ⟨g, 0, none⟩) (ks.length + 1) cap) (ks ++ [(nd, m)]) := by
  have e : (l.take (i + 1)).filter (fun e => parentB e.p == p) = ((l.take i).filter fun e => parentB e.p == p) ++ [getE l i] := by
    rw [take_get hi, List.filter_append, List.filter_cons_of_pos (by rw [he]; exact beq_self_eq_true _)]
    simp
  have hvb := row_sz h.row
  have hgB : B + 2 ≤ g := by
    rcases ho.2 with ⟨hv, _⟩ | ⟨b, c, cur, hv, h1, _⟩
    · cases hv
    · injection hv with hv
      injection hv with hv
      injection hv with hv
      omega
  have r1 := (hg.block B (lt_of_block h.res) (fun e => by have := hvb B e.symm; omega)).trans h.res
  have r2 := (hg.block (B + 1) (lt_of_block h.own) (fun e => by have := hvb (B + 1) e.symm; omega)).trans h.own
  have hs : (W5.setCell ⟨B + 1, 0, none⟩ (.slice (some ⟨g, 0, none⟩) (ks.length + 1) cap)).heap.size = W5.heap.size := by simp [World.setCell]
  have keep : ∀ b, b < W.heap.size → (B + 2 ≤ b ∧ v.ownBlock ≠ some b) → (W5.setCell ⟨B + 1, 0, none⟩ (.slice (some ⟨g, 0, none⟩) (ks.length + 1) cap)).heap[b]? = W.heap[b]? ∧ (B + 2 ≤ b ∧ (Value.slice (some ⟨g, 0, none⟩) (ks.length + 1) cap).ownBlock ≠ some b) := fun b hlt hb => by
    refine ⟨?_, hb.1, fun e => ?_⟩
    · rw [Below.heap_setCell _ _ _ _ (by show b ≠ B + 1; omega)]
      exact hg.block b hlt (fun e => hb.2 e.symm)
    · injection e with e
      have e : g = b := e
      rcases hat with h1 | h1
      · exact hb.2 (by rw [h1, ← e])
      · omega
  refine ⟨?_, ?_, ?_, ⟨?_, ?_⟩, ?_, ?_⟩
  · rw [Below.heap_setCell _ _ _ _ (by show B ≠ B + 1; omega)]; exact r1
  · rw [heap_setCell_same _ _ 0 _ _ _ r2]; rfl
  · have : (W5.setCell ⟨B + 1, 0, none⟩ (.slice (some ⟨g, 0, none⟩) (ks.length + 1) cap)).heap[g]? = W5.heap[g]? := Below.heap_setCell _ _ _ _ (by show g ≠ B + 1; omega)
    rw [List.length_append, List.length_singleton, List.map_append, List.map_singleton]
    refine ⟨ho.1, ?_⟩
    rcases ho.2 with ⟨hv, _⟩ | ⟨b, c, cur, hv, h1, h2, rest⟩
    · cases hv
    · have hbg : b = g := by
        injection hv with hv
        injection hv with hv
        injection hv with hv
        exact hv.symm
      subst hbg
      exact .inr ⟨b, c, cur, hv, h1, this.trans h2, rest⟩
  · rw [e, List.map_append, h.made.heads, List.map_singleton, hnd]
  · intro x hx
    rcases List.mem_append.1 hx with hx | hx
    · exact h.made.names x hx
    · rw [List.mem_singleton.1 hx]; simp only []; rw [hnd]; exact hnm
  · intro x hx
    rcases List.mem_append.1 hx with hx | hx
    · exact (h.kids x hx).keep (by rw [hs]; exact hg.size) keep
    · rw [List.mem_singleton.1 hx]; exact hk.keep (by rw [hs]; exact hg.size) keep
  · intro x hx
    rcases List.mem_append.1 hx with hx | hx
    · exact h.deep x hx
    · rw [List.mem_singleton.1 hx]; simp only []; rw [hnd]; exact hd
/-- at the end: the nodes are sorted -/
theorem St.done {B d : Nat} {l : List E} {p : List UInt8} {W W2 : World} {v : Value} {ks : List (Nd × List E)} (h : St B l p d l.length W v ks) (hT : TreeP l) {ns' : List Nd} (hp : ns'.Perm (ks.map (·.1))) (hs : ns'.Pairwise fun x y => Op.bytesLess y.name x.name = false) (hr : Row W2 (fun b => v.ownBlock = some b) v ns') (hsz : W.heap.size ≤ W2.heap.size) (hk : ∀ b, b < W.heap.size → v.ownBlock ≠ some b → W2.heap[b]? = W.heap[b]?) :
    ∃ m, TreeAt W2 (fun b => B + 2 ≤ b) (d + 1) v (aheadP p) m ∧ FP l (d + 1) p m := by
  obtain ⟨ks', p1, p2⟩ := perm_lift hp ks rfl
  have hm := h.made
  rw [List.take_length] at hm
  subst p2
  rw [List.pairwise_map] at hs
  refine made_tree hT hm p1 hs (hr.keep (Nat.le_refl _) fun b _ hb => ⟨rfl, (row_sz h.row b hb).1⟩) (fun x hx => (h.kids x hx).keep hsz fun b hlt hb => ⟨hk b hlt hb.2, hb.1⟩) h.deep
end Go.Proofs.YtgfbbcnnmoamnaaGreatDoor.Tr
