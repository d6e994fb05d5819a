/- The entries of a tree, directory by directory, purely. A tree in memory: its nodes, and what they hold. -/
import Derived.Test.YtgfbbcnnmoamnaaGreatDoorTrU
namespace Go.Proofs.YtgfbbcnnmoamnaaGreatDoor.Tr
open Go.Proofs.YtgfbbcnnmoamnaaGreatDoor.Lk

/-- the last name of a text, and what is ahead of it -/
theorem last_cases : ∀ (l : List UInt8), ((47 : UInt8) ∉ l ∧ lastI 47 l = none) ∨ ∃ a b, l = a ++ 47 :: b ∧ (47 : UInt8) ∉ b ∧ lastI 47 l = some a.length
  | [] => .inl ⟨by simp, rfl⟩
  | x :: r => by
    rcases last_cases r with ⟨h1, h2⟩ | ⟨a, b, h1, h2, h3⟩
    · by_cases hx : x = 47
      · right
        exact ⟨[], r, by rw [hx]; rfl, h1, by rw [lastI, h2, hx]; rfl⟩
      · left
        refine ⟨fun h => ?_, by rw [lastI, h2]; simp [hx]⟩
        rcases List.mem_cons.1 h with h | h
        · exact hx h.symm
        · exact h1 h
    · right
      exact ⟨x :: a, b, by rw [h1]; rfl, h2, by rw [lastI, h3]; rfl⟩
/-- the names of a path; of nothing, none -/
def nm (p : List UInt8) : List (List UInt8) := if p = [] then [] else splitB 47 p
theorem nm_ne {p : List UInt8} (h : p ≠ []) : nm p = splitB 47 p := if_neg h
theorem nm_nil : nm [] = [] := if_pos rfl
theorem path_ne {p : List UInt8} (h : pathB p = true) : p ≠ [] := fun e => by rw [e] at h; revert h; decide
/-- what stands ahead of the names of what is within a path -/
def aheadP (p : List UInt8) : List UInt8 := if p = [] then [] else p ++ [47]
theorem path_parts {x : List UInt8} (h : pathB x = true) : nm x = nm (parentB x) ++ [lastB x] ∧ x = aheadP (parentB x) ++ lastB x := by
  have hne := path_ne h
  rw [pathB, Bool.and_eq_true] at h
  rw [nm_ne hne]
  rcases last_cases x with ⟨h1, h2⟩ | ⟨a, b, h1, h2, h3⟩
  · rw [parentB, lastB, h2]
    simp only []
    rw [nm_nil, split_miss h1, aheadP, if_pos rfl]
    exact ⟨rfl, rfl⟩
  · have ea : parentB x = a := by rw [parentB, h3, h1]; simp
    have eb : lastB x = b := by rw [lastB, h3, h1]; simp
    have hs : splitB 47 x = splitB 47 a ++ [b] := by rw [h1]; exact split_last h2
    have han : a ≠ [] := fun e => by
      rw [e] at hs
      have h4 := List.all_eq_true.1 h.2 [] (by rw [hs]; exact List.mem_append_left _ (by decide))
      cases h4
    rw [ea, eb, nm_ne han, hs, aheadP, if_neg han]
    exact ⟨rfl, by rw [h1]; simp⟩
theorem split_inj : ∀ {a b : List UInt8}, splitB 47 a = splitB 47 b → a = b := by
  intro a
  induction hn : a.length using Nat.strongRecOn generalizing a with
  | _ n ih =>
    intro b hab
    by_cases ha : (47 : UInt8) ∈ a
    · have hf := (cut_found (c := 47)).2 ha
      obtain ⟨e1, n1⟩ := cut_hit hf
      have hlt := cut_rest_lt hf
      rw [e1, split_hit n1] at hab
      by_cases hb : (47 : UInt8) ∈ b
      · have hg := (cut_found (c := 47)).2 hb
        obtain ⟨e2, n2⟩ := cut_hit hg
        rw [e2, split_hit n2] at hab
        injection hab with h1 h2
        have := ih _ (by omega) rfl h2
        rw [e1, e2, h1, this]
      · rw [split_miss hb] at hab
        injection hab with h1 h2
        exact absurd h2 (split_ne _)
    · rw [split_miss ha] at hab
      by_cases hb : (47 : UInt8) ∈ b
      · have hg := (cut_found (c := 47)).2 hb
        obtain ⟨e2, n2⟩ := cut_hit hg
        rw [e2, split_hit n2] at hab
        injection hab with h1 h2
        exact absurd h2.symm (split_ne _)
      · rw [split_miss hb] at hab
        injection hab
theorem nm_inj {a b : List UInt8} (h : nm a = nm b) : a = b := by
  by_cases ha : a = []
  · by_cases hb : b = []
    · rw [ha, hb]
    · rw [ha, nm_nil, nm_ne hb] at h
      exact absurd h.symm (split_ne _)
  · by_cases hb : b = []
    · rw [hb, nm_nil, nm_ne ha] at h
      exact absurd h (split_ne _)
    · rw [nm_ne ha, nm_ne hb] at h
      exact split_inj h
theorem bef_nm {a b : List UInt8} (ha : a ≠ []) (hb : b ≠ []) : bef a b = befL (nm a) (nm b) := by rw [bef, nm_ne ha, nm_ne hb]
theorem befL_same : ∀ (P X Y : List (List UInt8)), befL (P ++ X) (P ++ Y) = befL X Y
  | [], _, _ => rfl
  | p :: P, X, Y => by
    rw [List.cons_append, List.cons_append, befL, if_pos rfl]
    exact befL_same P X Y
theorem path_names {x : List UInt8} (h : pathB x = true) : (nm x).length ≤ 6 := by
  rw [nm_ne (path_ne h)]
  rw [pathB, Bool.and_eq_true, Bool.and_eq_true] at h
  exact of_decide_eq_true h.1.2
/-- what is below a directory, in order, down to a depth: of each that stands in it, by its name, itself, and what is below it -/
def FP (l : List E) : Nat → List UInt8 → List E → Prop
  | 0, _, _ => False
  | d + 1, p, m => ∃ ks : List (E × List E), (ks.map (·.1)).Perm (l.filter fun e => parentB e.p == p) ∧ ks.Pairwise (fun x y => Op.bytesLess (lastB x.1.p) (lastB y.1.p) = true) ∧ (∀ x ∈ ks, if x.1.dir then FP l d x.1.p x.2 else x.2 = []) ∧ m = ks.flatMap fun x => x.1 :: x.2
theorem TreeP.path {l : List E} (h : TreeP l) {e : E} (he : e ∈ l) : pathB e.p = true := by
  have := h.good e he
  rw [badE, Bool.or_eq_false_iff, Bool.not_eq_false'] at this
  exact this.1
/-- within: some names more -/
def Inner (p x : List UInt8) : Prop := ∃ n r, nm x = nm p ++ n :: r
theorem FP.mem {l : List E} (h : TreeP l) : ∀ {d : Nat} {p : List UInt8} {m : List E}, FP l d p m → ∀ x ∈ m, x ∈ l ∧ Inner p x.p
  | 0, _, _, hf => hf.elim
  | d + 1, p, m, ⟨ks, h1, h2, h3, h4⟩ => fun x hx => by
    rw [h4] at hx
    obtain ⟨y, hy, hx⟩ := List.mem_flatMap.1 hx
    have hm : y.1 ∈ l.filter fun e => parentB e.p == p := h1.mem_iff.1 (List.mem_map_of_mem hy)
    rw [List.mem_filter] at hm
    have hp := path_parts (h.path hm.1)
    rw [eq_of_beq hm.2] at hp
    rcases List.mem_cons.1 hx with hx | hx
    · rw [hx]; exact ⟨hm.1, _, [], hp.1⟩
    · have h5 := h3 y hy
      split at h5
      · obtain ⟨a1, n, r, a2⟩ := h5.mem h x hx
        refine ⟨a1, lastB y.1.p, n :: r, ?_⟩
        rw [a2, hp.1]; simp
      · rw [h5] at hx; cases hx
theorem FP.ord {l : List E} (h : TreeP l) : ∀ {d : Nat} {p : List UInt8} {m : List E}, FP l d p m → m.Pairwise fun a b => bef a.p b.p = true
  | 0, _, _, hf => hf.elim
  | d + 1, p, m, ⟨ks, h1, h2, h3, h4⟩ => by
    have key : ∀ y ∈ ks, ∀ x ∈ y.1 :: y.2, ∃ r, nm x.p = nm p ++ lastB y.1.p :: r ∧ x.p ≠ [] := fun y hy x hx => by
      have hm : y.1 ∈ l.filter fun e => parentB e.p == p := h1.mem_iff.1 (List.mem_map_of_mem hy)
      rw [List.mem_filter] at hm
      have hp := path_parts (h.path hm.1)
      rw [eq_of_beq hm.2] at hp
      rcases List.mem_cons.1 hx with hx | hx
      · rw [hx]; exact ⟨[], hp.1, path_ne (h.path hm.1)⟩
      · have h5 := h3 y hy
        split at h5
        · obtain ⟨a1, n, r, a2⟩ := h5.mem h x hx
          exact ⟨n :: r, by rw [a2, hp.1]; simp, path_ne (h.path a1)⟩
        · rw [h5] at hx; cases hx
    rw [h4, List.pairwise_flatMap]
    refine ⟨fun y hy => ?_, ?_⟩
    · rw [List.pairwise_cons]
      have hm : y.1 ∈ l.filter fun e => parentB e.p == p := h1.mem_iff.1 (List.mem_map_of_mem hy)
      rw [List.mem_filter] at hm
      have h5 := h3 y hy
      split at h5
      · refine ⟨fun x hx => ?_, h5.ord h⟩
        obtain ⟨a1, n, r, a2⟩ := h5.mem h x hx
        rw [bef_nm (path_ne (h.path hm.1)) (path_ne (h.path a1)), a2]
        have := befL_same (nm y.1.p) [] (n :: r)
        rw [List.append_nil] at this
        rw [this, befL]
      · rw [h5]; exact ⟨fun x hx => absurd hx List.not_mem_nil, List.Pairwise.nil⟩
    · refine List.Pairwise.imp_of_mem (fun {a b} ha hb hab => ?_) h2
      intro x hx y hy
      obtain ⟨r, e1, n1⟩ := key a ha x hx
      obtain ⟨s, e2, n2⟩ := key b hb y hy
      rw [bef_nm n1 n2, e1, e2, befL_same, befL, if_neg (fun e => by rw [e, less_irr] at hab; cases hab)]
      exact hab
/-- who stands at the top of what is within -/
theorem top_of {l : List E} (h : TreeP l) (p : List UInt8) : ∀ (k : Nat) (x : E), x ∈ l → ∀ r, nm x.p = nm p ++ r → r.length = k + 1 → ∃ e ∈ l, parentB e.p = p ∧ (x = e ∨ (e.dir = true ∧ Inner e.p x.p))
  | 0, x, hx, r, h1, h2 => by
    have hp := path_parts (h.path hx)
    refine ⟨x, hx, ?_, .inl rfl⟩
    obtain ⟨n, rfl⟩ := List.length_eq_one_iff.1 h2
    rw [hp.1] at h1
    exact nm_inj (List.append_inj_left' h1 rfl)
  | k + 1, x, hx, r, h1, h2 => by
    have hp := path_parts (h.path hx)
    obtain ⟨r', n, rfl⟩ : ∃ r' n, r = r' ++ [n] := ⟨r.dropLast, r.getLast (by intro e; rw [e] at h2; cases h2), (List.dropLast_concat_getLast _).symm⟩
    simp only [List.length_append, List.length_singleton] at h2
    rw [hp.1, ← List.append_assoc] at h1
    have e1 : nm (parentB x.p) = nm p ++ r' := List.append_inj_left' h1 rfl
    have e2 : [lastB x.p] = [n] := List.append_inj_right' h1 rfl
    rcases h.par x hx with h3 | ⟨d, d1, d2, d3⟩
    · rw [h3, nm_nil] at e1
      have := congrArg List.length e1
      simp at this
      omega
    · rw [← d3] at e1
      have hx2 : nm x.p = nm d.p ++ [n] := by rw [hp.1, d3, e2]
      obtain ⟨e, e3, e4, e5⟩ := top_of h p k d d1 r' e1 (by omega)
      refine ⟨e, e3, e4, .inr ?_⟩
      rcases e5 with rfl | ⟨e5, a, s, e6⟩
      · exact ⟨d2, n, [], hx2⟩
      · exact ⟨e5, a, s ++ [n], by rw [hx2, e6]; simp⟩
theorem FP.all {l : List E} (h : TreeP l) : ∀ {d : Nat} {p : List UInt8} {m : List E}, FP l d p m → ∀ x ∈ l, Inner p x.p → x ∈ m
  | 0, _, _, hf => hf.elim
  | d + 1, p, m, ⟨ks, h1, h2, h3, h4⟩ => fun x hx ⟨n, r, hr⟩ => by
    obtain ⟨e, e1, e2, e3⟩ := top_of h p r.length x hx (n :: r) hr rfl
    have hm : e ∈ ks.map (·.1) := h1.mem_iff.2 (List.mem_filter.2 ⟨e1, by rw [e2]; exact beq_self_eq_true _⟩)
    obtain ⟨y, hy, rfl⟩ := List.mem_map.1 hm
    rw [h4, List.mem_flatMap]
    refine ⟨y, hy, ?_⟩
    rcases e3 with rfl | ⟨e3, e4⟩
    · exact List.mem_cons_self
    · have h5 := h3 y hy
      rw [if_pos e3] at h5
      exact List.mem_cons_of_mem _ (h5.all h x hx e4)
theorem bef_ne {a b : List UInt8} (h : bef a b = true) : a ≠ b := fun e => by rw [e, bef_irr] at h; cases h
/-- all of them: a tree in its order -/
theorem FP.perm {l : List E} (h : TreeP l) {d : Nat} {m : List E} (hf : FP l d [] m) : m.Perm l := by
  have hn : m.Nodup := by
    rw [List.nodup_iff_pairwise_ne]
    exact (hf.ord h).imp fun {a b} hab (e : a = b) => bef_ne hab (by rw [e])
  have hl : l.Nodup := by
    have := h.once
    rw [List.nodup_iff_pairwise_ne, List.pairwise_map] at this
    rw [List.nodup_iff_pairwise_ne]
    exact this.imp fun {a b} hab (e : a = b) => hab (by rw [e])
  rw [List.perm_ext_iff_of_nodup hn hl]
  refine fun x => ⟨fun hx => (hf.mem h x hx).1, fun hx => hf.all h x hx ?_⟩
  rw [Inner, nm_nil]
  have hp := path_parts (h.path hx)
  cases hc : nm x.p with
  | nil => rw [hc] at hp; have := congrArg List.length hp.1; simp at this
  | cons n r => exact ⟨n, r, rfl⟩
theorem ord_of {m : List E} (h : m.Pairwise fun a b => bef a.p b.p = true) : Ord m := fun i j hij hj => by
  rw [List.pairwise_iff_getElem] at h
  have := h i j (by omega) hj hij
  have a1 : ∀ i (hi : i < m.length), getE m i = m[i] := fun i hi => by rw [getE, List.getD_eq_getElem?_getD, List.getElem?_eq_getElem hi]; rfl
  rw [a1 i (by omega), a1 j hj]
  exact asym' this
theorem ord_pair {m : List E} (h : Ord m) : m.Pairwise fun a b => bef b.p a.p = false := by
  rw [List.pairwise_iff_getElem]
  intro i j hi hj hij
  have a1 : ∀ i (hi : i < m.length), getE m i = m[i] := fun i hi => by rw [getE, List.getD_eq_getElem?_getD, List.getElem?_eq_getElem hi]; rfl
  have := h i j hij hj
  rwa [a1 i hi, a1 j hj] at this
theorem FP.is_sort {l : List E} (h : TreeP l) {d : Nat} {m : List E} (hf : FP l d [] m) : m = sortE l := by
  have hp := hf.perm h
  refine List.Perm.eq_of_pairwise (le := fun a b => bef b.p a.p = false) ?_ (ord_pair (ord_of (hf.ord h))) (ord_pair (sortE_ord l)) (hp.trans (sortE_perm l).symm)
  intro a b ha hb h1 h2
  have ha' := hp.mem_iff.1 ha
  have hb' := (sortE_perm l).mem_iff.1 hb
  have e : a.p = b.p := by
    refine Classical.byContradiction fun hne => ?_
    have h3 : splitB 47 a.p ≠ splitB 47 b.p := fun e => hne (split_inj e)
    have := befL_tot h3 h2
    have h1' : befL (splitB 47 b.p) (splitB 47 a.p) = false := h1
    rw [h1'] at this
    cases this
  have hn := h.once
  rw [List.nodup_iff_pairwise_ne, List.pairwise_map, List.pairwise_iff_getElem] at hn
  obtain ⟨i, hi, rfl⟩ := List.getElem_of_mem ha'
  obtain ⟨j, hj, rfl⟩ := List.getElem_of_mem hb'
  by_cases hij : i = j
  · subst hij; rfl
  · rcases Nat.lt_or_gt_of_ne hij with h4 | h4
    · exact absurd e (hn i j hi hj h4)
    · exact absurd e.symm (hn j i hj hi h4)
end Go.Proofs.YtgfbbcnnmoamnaaGreatDoor.Tr

namespace Go.Proofs.YtgfbbcnnmoamnaaGreatDoor.Tr
open Go.RowKit Go.Proofs.YtgfbbcnnmoamnaaGreatDoor Go.Proofs.YtgfbbcnnmoamnaaGreatDoor.Lk

/-- a slice of nodes, in blocks that may be -/
def Row (w : World) (ok : Nat → Prop) (v : Value) (ns : List Nd) : Prop :=
  (v = .slice none 0 0 ∧ ns = []) ∨ ∃ b cap, v = .slice (some ⟨b, 0, none⟩) ns.length cap ∧ ok b ∧ b < w.heap.size ∧ ∀ j nd, ns[j]? = some nd → w.cell? ⟨b, j, none⟩ = some nd.val
/-- the entry of a node -/
def headE (a : List UInt8) : Nd → E
  | .file n b => ⟨a ++ n, false, b⟩
  | .dir n _ _ _ => ⟨a ++ n, true, []⟩
/-- a tree, down to a depth, with a text ahead of its paths, and its entries -/
def TreeAt (w : World) (ok : Nat → Prop) : Nat → Value → List UInt8 → List E → Prop
  | 0, _, _, _ => False
  | d + 1, v, a, m => ∃ ks : List (Nd × List E), Row w ok v (ks.map (·.1)) ∧ (∀ x ∈ ks, match x.1 with | .file _ _ => x.2 = [] | .dir n s k c => TreeAt w ok d (.slice s k c) (a ++ n ++ [47]) x.2) ∧ m = ks.flatMap fun x => headE a x.1 :: x.2
/-- what a node holds -/
def KidAt (w : World) (ok : Nat → Prop) (d : Nat) (a : List UInt8) (x : Nd × List E) : Prop := match x.1 with
  | .file _ _ => x.2 = []
  | .dir n s k c => TreeAt w ok d (.slice s k c) (a ++ n ++ [47]) x.2
theorem Row.keep {w w' : World} {ok ok' : Nat → Prop} {v : Value} {ns : List Nd} (h : Row w ok v ns) (hs : w.heap.size ≤ w'.heap.size) (hk : ∀ b, b < w.heap.size → ok b → w'.heap[b]? = w.heap[b]? ∧ ok' b) : Row w' ok' v ns := by
  rcases h with h | ⟨b, cap, h1, h2, h3, h4⟩
  · exact .inl h
  · obtain ⟨k1, k2⟩ := hk b h3 h2
    exact .inr ⟨b, cap, h1, k2, by omega, fun j nd hj => (World.cell?_of_block (a := ⟨b, j, none⟩) k1).trans (h4 j nd hj)⟩
theorem TreeAt.keep {w w' : World} {ok ok' : Nat → Prop} (hs : w.heap.size ≤ w'.heap.size) (hk : ∀ b, b < w.heap.size → ok b → w'.heap[b]? = w.heap[b]? ∧ ok' b) : ∀ {d : Nat} {v : Value} {a : List UInt8} {m : List E}, TreeAt w ok d v a m → TreeAt w' ok' d v a m
  | 0, _, _, _, h => h
  | d + 1, v, a, m, ⟨ks, h1, h2, h3⟩ => ⟨ks, h1.keep hs hk, fun x hx => by
      have := h2 x hx
      cases hx1 : x.1 with
      | file n b => rw [hx1] at this; exact this
      | dir n s k c => rw [hx1] at this; exact TreeAt.keep hs hk this, h3⟩
theorem KidAt.keep {w w' : World} {ok ok' : Nat → Prop} (hs : w.heap.size ≤ w'.heap.size) (hk : ∀ b, b < w.heap.size → ok b → w'.heap[b]? = w.heap[b]? ∧ ok' b) {d : Nat} {a : List UInt8} {x : Nd × List E} (h : KidAt w ok d a x) : KidAt w' ok' d a x := by
  unfold KidAt at h ⊢
  cases hx1 : x.1 with
  | file n b => rw [hx1] at h; exact h
  | dir n s k c => rw [hx1] at h; exact TreeAt.keep hs hk h
theorem TreeAt.below {w w' : World} {ok : Nat → Prop} {d : Nat} {v : Value} {a : List UInt8} {m : List E} (h : TreeAt w ok d v a m) (hb : Below w.heap.size w w') : TreeAt w' ok d v a m :=
  h.keep hb.size fun b hlt ho => ⟨hb.block b hlt, ho⟩
theorem TreeAt.weaken {w : World} {ok ok' : Nat → Prop} {d : Nat} {v : Value} {a : List UInt8} {m : List E} (h : TreeAt w ok d v a m) (ho : ∀ b, ok b → ok' b) : TreeAt w ok' d v a m :=
  h.keep (Nat.le_refl _) fun b _ h => ⟨rfl, ho b h⟩
/-- no tree: no entries -/
theorem TreeAt.nil (w : World) (ok : Nat → Prop) (d : Nat) (a : List UInt8) : TreeAt w ok (d + 1) (.slice none 0 0) a [] :=
  ⟨[], .inl ⟨rfl, rfl⟩, fun _ hx => absurd hx List.not_mem_nil, rfl⟩
theorem TreeAt.shape {w : World} {ok : Nat → Prop} {d : Nat} {v : Value} {a : List UInt8} {m : List E} (h : TreeAt w ok d v a m) : ∃ s k c, v = .slice s k c := by
  cases d with
  | zero => exact h.elim
  | succ d =>
    obtain ⟨ks, h1, _, _⟩ := h
    rcases h1 with ⟨h, _⟩ | ⟨b, cap, h, _⟩
    · exact ⟨_, _, _, h⟩
    · exact ⟨_, _, _, h⟩
/-- the nodes of a directory, made out of some entries -/
structure Made (l : List E) (p : List UInt8) (ks : List (Nd × List E)) : Prop where
  heads : ks.map (fun x => headE (aheadP p) x.1) = l
  names : ∀ x ∈ ks, x.1.name = lastB (headE (aheadP p) x.1).p
theorem headE_p (a : List UInt8) (x : Nd) : (headE a x).p = a ++ x.name := by cases x <;> rfl
theorem headE_dir (a : List UInt8) (x : Nd) : (headE a x).dir = match x with | .file _ _ => false | .dir _ _ _ _ => true := by cases x <;> rfl
theorem aheadP_head {p : List UInt8} {e : E} (h : parentB e.p = p) (hp : pathB e.p = true) : aheadP p ++ lastB e.p = e.p := by
  rw [← h]; exact (path_parts hp).2.symm
theorem aheadP_path {p : List UInt8} (h : p ≠ []) : aheadP p = p ++ [47] := if_neg h
/-- out of what was made and sorted: what the tree is -/
theorem made_tree {l : List E} (hT : TreeP l) {w : World} {ok : Nat → Prop} {d : Nat} {p : List UInt8} {v : Value} {ks ks' : List (Nd × List E)} (hm : Made (l.filter fun e => parentB e.p == p) p ks) (hp : ks'.Perm ks) (hs : ks'.Pairwise fun x y => Op.bytesLess y.1.name x.1.name = false) (hr : Row w ok v (ks'.map (·.1))) (hk : ∀ x ∈ ks, KidAt w ok d (aheadP p) x) (hf : ∀ x ∈ ks, (headE (aheadP p) x.1).dir = true → FP l d (headE (aheadP p) x.1).p x.2) :
    ∃ m, TreeAt w ok (d + 1) v (aheadP p) m ∧ FP l (d + 1) p m := by
  refine ⟨ks'.flatMap fun x => headE (aheadP p) x.1 :: x.2, ⟨ks', hr, fun x hx => hk x (hp.mem_iff.1 hx), rfl⟩, ks'.map (fun x => (headE (aheadP p) x.1, x.2)), ?_, ?_, ?_, ?_⟩
  · rw [List.map_map]
    have : (ks'.map fun x => headE (aheadP p) x.1).Perm (ks.map fun x => headE (aheadP p) x.1) := hp.map _
    rw [hm.heads] at this
    exact this
  · rw [List.pairwise_map]
    have hn : ks'.Pairwise fun x y => (headE (aheadP p) x.1).p ≠ (headE (aheadP p) y.1).p := by
      have h1 : (ks.map fun x => (headE (aheadP p) x.1).p).Nodup := by
        have h2 : ks.map (fun x => (headE (aheadP p) x.1).p) = (l.filter fun e => parentB e.p == p).map (·.p) := by
          rw [← hm.heads, List.map_map]; rfl
        rw [h2]
        exact (List.Sublist.map _ List.filter_sublist).nodup hT.once
      have h3 := (hp.map fun x => (headE (aheadP p) x.1).p).nodup_iff.2 h1
      rw [List.nodup_iff_pairwise_ne, List.pairwise_map] at h3
      exact h3
    refine List.Pairwise.imp_of_mem (fun {x y} hx hy hxy => ?_) (hs.and hn)
    obtain ⟨h1, h2⟩ := hxy
    have e1 := hm.names x (hp.mem_iff.1 hx)
    have e2 := hm.names y (hp.mem_iff.1 hy)
    rw [headE_p, headE_p] at h2
    have h3 : y.1.name ≠ x.1.name := fun e => h2 (by rw [e])
    have := less_tot h3 h1
    rw [e1, e2] at this
    exact this
  · intro y hy
    obtain ⟨x, hx, rfl⟩ := List.mem_map.1 hy
    simp only []
    have hx' := hp.mem_iff.1 hx
    cases hd : (headE (aheadP p) x.1).dir with
    | true => rw [if_pos rfl]; exact hf x hx' hd
    | false =>
      rw [if_neg Bool.false_ne_true]
      have := hk x hx'
      unfold KidAt at this
      cases hx1 : x.1 with
      | file n b => rw [hx1] at this; exact this
      | dir n s k c => rw [hx1] at hd; cases hd
  · rw [List.flatMap_map]
end Go.Proofs.YtgfbbcnnmoamnaaGreatDoor.Tr
