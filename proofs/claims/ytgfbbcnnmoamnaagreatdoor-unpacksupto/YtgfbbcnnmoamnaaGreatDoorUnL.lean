/- Lists that came out are written full with a mark, and appended to. The book of the lists that came out. A list that came out: the owner writes it full, and appends to it three times. Every list that came out still reads as it was written. -/
import Derived.Test.YtgfbbcnnmoamnaaGreatDoorUnF
import Derived.ArgAppend
namespace Go.Proofs.YtgfbbcnnmoamnaaGreatDoor.Tr
open Go.RowKit Go.Proofs.YtgfbbcnnmoamnaaGreatDoor Go.Proofs.YtgfbbcnnmoamnaaGreatDoor.Lk

/-- the text of a mark; the mark -/
def markB (i : Nat) : List UInt8 := 35 :: List.replicate i 120
def mkE (i : Nat) : E := ⟨[109, 97, 114, 107], false, markB i⟩
def patE (i j : Nat) : Value := if j % 3 = 0 then .string ⟨#[109, 97, 114, 107]⟩ else if j % 3 = 1 then .bool false else .string ⟨(markB i).toArray⟩
def marksE (i k : Nat) : List Value := ecells (List.replicate k (mkE i))
theorem marksE_len (i k : Nat) : (marksE i k).length = k * 3 := by simp [marksE, ecells_len]
theorem marksE_add (i a b : Nat) : marksE i (a + b) = marksE i a ++ marksE i b := by rw [marksE, ← List.replicate_append_replicate, ecells_app]; rfl
theorem marksE_get {i k j : Nat} (h : j < k * 3) : (marksE i k)[j]? = some (patE i j) := by
  obtain ⟨c1, c2, c3⟩ := ecells_get (List.replicate k (mkE i)) (j / 3) (mkE i) (by rw [List.getElem?_replicate, if_pos (by omega)])
  unfold marksE patE
  rcases (by omega : j = j / 3 * 3 ∨ j = j / 3 * 3 + 1 ∨ j = j / 3 * 3 + 2) with e | e | e
  · rw [if_pos (by omega)]; rw [← e] at c1; exact c1
  · rw [if_neg (by omega), if_pos (by omega)]; rw [← e] at c2; exact c2
  · rw [if_neg (by omega), if_neg (by omega)]; rw [← e] at c3; exact c3
/-- a list of marks -/
def OwnM (w : World) (B i : Nat) (v : Value) (n : Nat) : Prop := w.ownsRow B 47 3 v n (marksE i n)
theorem ownM_iff {w : World} {B i : Nat} {v : Value} {n : Nat} : OwnM w B i v n ↔ ((v = .slice none 0 0 ∧ n = 0) ∨ ∃ g cap cur, v = .slice (some ⟨g, 0, none⟩) n cap ∧ B ≤ g ∧ w.heap[g]? = some (.cells cur 47 (0, 0)) ∧ n ≤ cap ∧ cap ≤ maxLen ∧ cur.size = cap * 3 ∧ ∀ j, j < n * 3 → cur[j]? = some (patE i j)) := by
  constructor
  · rintro ⟨_, h | ⟨g, cap, cur, h1, h2, h3, h4, h5, h6, h7⟩⟩
    · exact .inl h
    · refine .inr ⟨g, cap, cur, h1, h2, h3, h4, h5, h6, fun j hj => ?_⟩
      rw [← marksE_get hj, ← h7, List.getElem?_take_of_lt hj, Array.getElem?_toList]
  · rintro (h | ⟨g, cap, cur, h1, h2, h3, h4, h5, h6, h7⟩)
    · exact ⟨marksE_len i n, .inl h⟩
    · refine ⟨marksE_len i n, .inr ⟨g, cap, cur, h1, h2, h3, h4, h5, h6, ?_⟩⟩
      apply List.ext_getElem?
      intro j
      by_cases hj : j < n * 3
      · rw [marksE_get hj, List.getElem?_take_of_lt hj, Array.getElem?_toList]; exact h7 j hj
      · rw [List.getElem?_eq_none (by rw [List.length_take]; omega), List.getElem?_eq_none (by rw [marksE_len]; omega)]
theorem setCells_heap (g : Nat) (t : TypeId) : ∀ (vs : List Value) (o : Nat) (w : World) (cur : Array Value), w.heap[g]? = some (.cells cur t (0, 0)) →
    ∃ cur', (w.setCells g o vs).heap[g]? = some (.cells cur' t (0, 0)) ∧ cur'.size = cur.size ∧ (∀ j, j < cur.size → o ≤ j → j < o + vs.length → cur'[j]? = vs[j - o]?) ∧ ∀ j, (j < o ∨ o + vs.length ≤ j) → cur'[j]? = cur[j]?
  | [], o, w, cur, h => ⟨cur, h, rfl, fun j _ h1 h2 => by simp at h2; omega, fun _ _ => rfl⟩
  | v :: r, o, w, cur, h => by
    obtain ⟨cur', h1, h2, h3, h4⟩ := setCells_heap g t r (o + 1) (w.setCell ⟨g, o, none⟩ v) _ (heap_setCell_same _ _ o _ _ v h)
    refine ⟨cur', h1, by rw [h2]; simp, fun j hj hoj hj2 => ?_, fun j hj => ?_⟩
    · by_cases e : j = o
      · subst e
        rw [h4 j (.inl (by omega)), Nat.sub_self]
        simp [hj]
      · rw [h3 j (by simpa using hj) (by omega) (by simp at hj2; omega), show j - o = (j - (o + 1)) + 1 by omega, List.getElem?_cons_succ]
    · rw [h4 j (by simp at hj ⊢; omega)]
      rw [Array.getElem?_setIfInBounds, if_neg (by simp at hj; omega)]
theorem setCells_other (g : Nat) : ∀ (vs : List Value) (o : Nat) (w : World) (p : Nat), p ≠ g → (w.setCells g o vs).heap[p]? = w.heap[p]?
  | [], _, _, _, _ => rfl
  | v :: r, o, w, p, h => by rw [World.setCells, setCells_other g r (o + 1) _ p h]; exact Below.heap_setCell _ _ _ _ h
theorem setCells_size (g : Nat) : ∀ (vs : List Value) (o : Nat) (w : World), (w.setCells g o vs).heap.size = w.heap.size
  | [], _, _ => rfl
  | v :: r, o, w => by rw [World.setCells, setCells_size g r (o + 1)]; simp [World.setCell]
theorem setCells_rest (g : Nat) : ∀ (vs : List Value) (o : Nat) (w : World), (w.setCells g o vs).os = w.os ∧ (w.setCells g o vs).tape = w.tape ∧ (w.setCells g o vs).output = w.output
  | [], _, _ => ⟨rfl, rfl, rfl⟩
  | v :: r, o, w => by rw [World.setCells]; exact setCells_rest g r (o + 1) _
theorem setCells_below {B g : Nat} (hB : B ≤ g) (vs : List Value) (o : Nat) (w : World) : Below B w (w.setCells g o vs) :=
  ⟨(setCells_rest g vs o w).1, (setCells_rest g vs o w).2.1, (setCells_rest g vs o w).2.2, by rw [setCells_size]; exact Nat.le_refl _, fun k hk => setCells_other g vs o w k (by omega)⟩
theorem OwnM.below {w w' : World} {B i : Nat} {v : Value} {n : Nat} (h : OwnM w B i v n) (hb : Below w.heap.size w w') : OwnM w' B i v n := own_below h hb
/-- more marks are laid where the row has room: every list of marks reads as ever -/
theorem ownM_room {w : World} {B i g cap n m : Nat} (h : OwnM w B i (.slice (some ⟨g, 0, none⟩) n cap) n) (hc : n + m ≤ cap) :
    OwnM (w.setCells g (0 + n * 3) (marksE i m)) B i (.slice (some ⟨g, 0, none⟩) (n + m) cap) (n + m) ∧ ∀ u k, OwnM w B i u k → OwnM (w.setCells g (0 + n * 3) (marksE i m)) B i u k := by
  rcases ownM_iff.1 h with ⟨hv, _⟩ | ⟨g', cap', cur, hv, h1, h2, h3, h4, h5, h6⟩
  · cases hv
  · injection hv with hv _ hcap
    injection hv with hv
    injection hv with hv
    subst hv hcap
    obtain ⟨cur', e1, e2, e3, e4⟩ := setCells_heap g 47 (marksE i m) (0 + n * 3) w cur h2
    rw [marksE_len i] at e3 e4
    have hp : ∀ j, j < cur.size → cur[j]? = some (patE i j) ∨ (n * 3 ≤ j ∧ j < (n + m) * 3) → cur'[j]? = some (patE i j) := fun j hjs hj => by
      by_cases hin : n * 3 ≤ j ∧ j < (n + m) * 3
      · rw [e3 j hjs (by omega) (by omega), marksE_get (by omega)]
        congr 1
        unfold patE
        rw [show (j - (0 + n * 3)) % 3 = j % 3 by omega]
      · rw [e4 j (by omega)]
        rcases hj with hj | hj
        · exact hj
        · exact absurd hj hin
    refine ⟨ownM_iff.2 (.inr ⟨g, cap, cur', rfl, h1, e1, hc, h4, by omega, fun j hj => ?_⟩), fun u k hu => ?_⟩
    · have hjs : j < cur.size := by
        rw [h5]; exact Nat.lt_of_lt_of_le hj (Nat.mul_le_mul_right 3 hc)
      by_cases hj2 : j < n * 3
      · exact hp j hjs (.inl (h6 j hj2))
      · exact hp j hjs (.inr ⟨by omega, hj⟩)
    · rcases ownM_iff.1 hu with hn | ⟨g', cap2, cur2, hv2, k1, k2, k3, k4, k5, k6⟩
      · exact ownM_iff.2 (.inl hn)
      · by_cases hg : g' = g
        · subst hg
          rw [h2] at k2
          injection k2 with k2
          injection k2 with k2
          subst k2
          exact ownM_iff.2 (.inr ⟨g', cap2, cur', hv2, k1, e1, k3, k4, by omega, fun j hj => hp j (by rw [k5]; exact Nat.lt_of_lt_of_le hj (Nat.mul_le_mul_right 3 k3)) (.inl (k6 j hj))⟩)
        · exact ownM_iff.2 (.inr ⟨g', cap2, cur2, hv2, k1, by rw [setCells_other g _ _ _ g' hg]; exact k2, k3, k4, k5, k6⟩)
theorem marksE_one (i k : Nat) : ∀ v ∈ marksE i k, v.oneCell' = true := ecells_one _
theorem wpList_append_marksE {w : World} {ops : Array Oper} {rest : List Oper} {o : Oper} {a : Act} {Q : Exit → Act → World → Prop} (hgd : o.guard = none) (s x : Operand)
    (ho : o.op = .call { callee := .builtin .append, args := #[s, x], argTypes := #[26, 26] }) (B i : Nat) (v : Value) (n : Nat) (hs : a.eval s = v) (hown : OwnM w B i v n)
    (ad : Addr) (m c : Nat) (hx : a.eval x = .slice (some ad) m c) (hm : 0 < m) (hnews : ∀ j u, (marksE i m)[j]? = some u → w.cell? (ad.add j) = some u) (hbd : n + m ≤ 1048600) (hB : B ≤ w.heap.size)
    (h : ∀ v' w', OwnM w' B i v' (n + m) → Hid (∀ u k, OwnM w B i u k → OwnM w' B i u k) → Below B w w' → Hid (∀ p, p < w.heap.size → v.ownBlock ≠ some p → w'.heap[p]? = w.heap[p]?) → wpList Tryz.prog ops Q rest (a.put o.dst v') w') : wpList Tryz.prog ops Q (o :: rest) a w := by
  obtain ⟨i0, hi0, hz0, hz1, hz2⟩ := info_parts infoEntry
  rcases ownM_iff.1 hown with ⟨hv, hn⟩ | ⟨g, cap, cur, hv, h1, h2, h3, h4, h5, h6⟩
  · subst hn
    refine wpList_append_lies w hgd s x 26 ho B 47 i0 (.agg #[.string ⟨#[]⟩, .bool false, .string ⟨#[]⟩]) 3 40 Tryz.underlying26 hi0 hz0 hz1 hz2 rfl (by decide) v 0 (marksE i 0) hs hown ad m c (marksE i m) hx (marksE_len i m) hnews (marksE_one i m) hm (by unfold maxLen; omega) (by omega) hB _ rfl ?_
    intro g2 cap2 w2 hown2 hg2 _ _
    have hb2 : Below w.heap.size w w2 := (Below.refl _ w).grown hg2 (Nat.le_refl _) (fun k hk => by rw [hv] at hk; cases hk)
    refine h _ w2 ?_ (fun u k hu => hu.below hb2) (hb2.mono hB) (fun p hp _ => hb2.block p hp)
    unfold OwnM
    rw [marksE_add]; exact hown2
  · subst hv
    refine wpList_append_arg w hgd s x 26 ho 47 i0 (.agg #[.string ⟨#[]⟩, .bool false, .string ⟨#[]⟩]) 3 40 Tryz.underlying26 hi0 hz0 hz1 hz2 rfl (by decide) g 0 n cap (marksE i n) hs (marksE_len i n) ?_ ad m c (marksE i m) hx (marksE_len i m) hnews (marksE_one i m) ?_ (by unfold maxLen; omega) (by omega) ?_ ?_
    · intro j u hj
      have hjl : j < n * 3 := by have := (List.getElem?_eq_some_iff.1 hj).1; rw [marksE_len i] at this; exact this
      rw [cell_of_row _ _ _ _ _ _ h2, Nat.zero_add, h6 j hjl, ← hj, marksE_get hjl]
    · intro hr j hj
      rw [marksE_len i] at hj
      refine ⟨?_, frozen_of_row w g _ _ _ h2⟩
      rw [cell_of_row _ _ _ _ _ _ h2]
      have : 0 + n * 3 + j < cur.size := by
        rw [h5]
        have := Nat.mul_le_mul_right 3 hr
        omega
      rw [Array.getElem?_eq_getElem this]; rfl
    · intro hr
      obtain ⟨o1, o2⟩ := ownM_room hown hr
      exact h _ _ o1 o2 (setCells_below h1 _ _ _) (fun p _ hp => setCells_other g _ _ _ p (fun e => hp (by rw [e]; rfl)))
    · intro hr v2 w2 hown2 hg2
      have hb2 : Below w.heap.size w w2 := (Below.refl _ w).grown hg2 (Nat.le_refl _) (fun k hk => by cases hk)
      refine h _ w2 ?_ (fun u k hu => hu.below hb2) (hb2.mono hB) (fun p hp _ => hb2.block p hp)
      unfold OwnM
      rw [marksE_add]
      refine ⟨hown2.1, ?_⟩
      rcases hown2.2 with hn | ⟨g2, cap2, cur2, k0, k1, rest2⟩
      · exact .inl hn
      · exact .inr ⟨g2, cap2, cur2, k0, Nat.le_trans hB k1, rest2⟩
end Go.Proofs.YtgfbbcnnmoamnaaGreatDoor.Tr

namespace Go.Proofs.YtgfbbcnnmoamnaaGreatDoor.Tr
open Go.RowKit Go.Proofs.YtgfbbcnnmoamnaaGreatDoor Go.Proofs.YtgfbbcnnmoamnaaGreatDoor.Lk

theorem mark_cat (i : Nat) : (⟨(markB i).toArray⟩ ++ ⟨#[120]⟩ : ByteArray) = ⟨(markB (i + 1)).toArray⟩ := by
  have := str_cat (markB i) [120]
  rw [show (⟨[(120 : UInt8)].toArray⟩ : ByteArray) = ⟨#[120]⟩ from rfl] at this
  rw [this]
  congr 2
  rw [markB, markB, List.cons_append, ← List.replicate_succ']
theorem markB_len (i : Nat) : (markB i).length = i + 1 := by simp [markB]
set_option maxRecDepth 8000 in
theorem mark_any (n : Nat) (hn : n ≤ 1048576) (w : World) : Calls Tryz.prog 36 #[.int .i64 n] w fun r w' => r = .returned (.string ⟨(markB n).toArray⟩) ∧ w' = w := by
  go_enter Tryz.func36, Tryz.ntmps36
  go_wp2
  go_loopw [3, 4] (fun vs vi wr => ∃ i : Nat, i ≤ n ∧ vs = .string ⟨(markB i).toArray⟩ ∧ vi = .int .i64 i ∧ wr = w) (fun _ vi _ => n - (intOf vi).toNat)
  case atStart => exact ⟨0, by omega, rfl, rfl, rfl⟩
  case round =>
    obtain ⟨i, hi, rfl, rfl, hw⟩ := hrel
    rw [hw]; clear hw
    have hcat := mark_cat i
    have hml := markB_len i
    obtain ⟨M, HM⟩ := hid_intro (markB i)
    obtain ⟨M2, HM2⟩ := hid_intro (markB (i + 1))
    rw [← HM.out] at hcat hml ⊢
    rw [← HM2.out] at hcat
    by_cases hlt : i < n
    · go_wp2
      go_roundw
      case rel => exact ⟨i + 1, by omega, by rw [HM2.out], by go_num, by first | rfl | trivial⟩
      case measure => simp [intOf]; omega
    · obtain rfl : i = n := by omega
      go_wp2
      go_ret
      exact ⟨by rw [HM.out]; rfl, rfl⟩
/-- the lists, four of each, and what they are written full with -/
structure BookE (w : World) (B p N : Nat) (D ev : Value) (vals : List Value) : Prop where
  here : w.heap[p]? = some (.cells #[D, ev, .slice none 0 0, .slice none 0 0, .slice none 0 0] 56 (0, 0))
  row : w.ownsRow B 26 1 ev (4 * N) vals
  lists : ∀ j u, vals[j]? = some u → ∃ n, n ≤ 63 ∧ OwnM w B (j / 4) u n
theorem BookE.below {w w' : World} {B p N : Nat} {D ev : Value} {vals : List Value} (h : BookE w B p N D ev vals) (hb : Below w.heap.size w w') : BookE w' B p N D ev vals :=
  ⟨(hb.block p (lt_of_block h.here)).trans h.here, own_below h.row hb, fun j u hj => by
    obtain ⟨n, h1, h2⟩ := h.lists j u hj
    exact ⟨n, h1, h2.below hb⟩⟩
theorem OwnM.weaken {w : World} {B B' i n : Nat} {v : Value} (h : OwnM w B i v n) (hB : B' ≤ B) : OwnM w B' i v n := own_weaken h hB
/-- what is turned is of another kind -/
theorem ownM_other {w w' : World} {B i : Nat} {u : Value} {k : Nat} (h : OwnM w B i u k) (hk : ∀ (g : Nat) (cur : Array Value), w.heap[g]? = some (Obj.cells cur 47 (0, 0)) → w'.heap[g]? = w.heap[g]?) : OwnM w' B i u k := by
  rcases ownM_iff.1 h with hn | ⟨g, cap, cur, hv, h1, h2, rest⟩
  · exact ownM_iff.2 (.inl hn)
  · exact ownM_iff.2 (.inr ⟨g, cap, cur, hv, h1, (hk g cur h2).trans h2, rest⟩)
theorem tag_ne {w : World} {g g' : Nat} {c c' : Array Value} {t t' : TypeId} (h : w.heap[g]? = some (.cells c t (0, 0))) (h' : w.heap[g']? = some (.cells c' t' (0, 0))) (ht : t ≠ t') : g ≠ g' := fun e => by
  rw [e, h'] at h
  injection h with h
  injection h with _ h
  exact ht h.symm
theorem row_tag {w : World} {B z n : Nat} {t : TypeId} {v : Value} {xs : List Value} (h : w.ownsRow B t z v n xs) {b : Nat} (hb : v.ownBlock = some b) : ∃ cur, w.heap[b]? = some (.cells cur t (0, 0)) := by
  rcases h.2 with ⟨hv, _⟩ | ⟨g, cap, cur, hv, _, h2, _⟩
  · rw [hv] at hb; cases hb
  · rw [hv] at hb
    injection hb with hb
    have hb : g = b := hb
    rw [← hb]
    exact ⟨cur, h2⟩
theorem row_setp {w : World} {B p j z n : Nat} {t : TypeId} {c : Array Value} {x v : Value} {xs : List Value} (hp : w.heap[p]? = some (.cells c 56 (0, 0))) (ht : t ≠ 56) (h : w.ownsRow B t z v n xs) : (w.setCell ⟨p, j, none⟩ x).ownsRow B t z v n xs := by
  refine ⟨h.1, ?_⟩
  rcases h.2 with hn | ⟨g, cap, cur, hv, h1, h2, rest⟩
  · exact .inl hn
  · exact .inr ⟨g, cap, cur, hv, h1, (Below.heap_setCell _ _ _ _ (tag_ne h2 hp ht)).trans h2, rest⟩
/-- four lists more -/
theorem BookE.more {w w4 : World} {B p N gb capb : Nat} {D ev : Value} {vals : List Value} {a b c d : Value} (hK : BookE w B p N D ev vals) (k : Nat) (hk : k ≤ 60) (oa : OwnM w B N a k) (ob : OwnM w B N b (k + 1)) (oc : OwnM w B N c (k + 2)) (od : OwnM w B N d (k + 3))
    (ho : w4.ownsRow B 26 1 (.slice (some ⟨gb, 0, none⟩) (4 * N + 4) capb) (4 * N + 4) (vals ++ [a, b, c, d])) (hg : w.grownBy w4 ev.ownBlock) :
    BookE (w4.setCell ⟨p, 1, none⟩ (.slice (some ⟨gb, 0, none⟩) (4 * N + 4) capb)) B p (N + 1) D (.slice (some ⟨gb, 0, none⟩) (4 * N + 4) capb) (vals ++ [a, b, c, d]) := by
  have hp4 : w4.heap[p]? = some (.cells #[D, ev, .slice none 0 0, .slice none 0 0, .slice none 0 0] 56 (0, 0)) := (hg.block p (lt_of_block hK.here) (fun e => by
    obtain ⟨cur, hc⟩ := row_tag hK.row e.symm
    exact tag_ne hc hK.here (by decide) rfl)).trans hK.here
  have keep : ∀ i u n, OwnM w B i u n → OwnM (w4.setCell ⟨p, 1, none⟩ (.slice (some ⟨gb, 0, none⟩) (4 * N + 4) capb)) B i u n := fun i u n h => by
    refine row_setp hp4 (by decide) ?_
    exact ownM_other h fun g cur hgc => hg.block g (lt_of_block hgc) (fun e => by
      obtain ⟨cur2, hc⟩ := row_tag hK.row e.symm
      exact tag_ne hc hgc (by decide) rfl)
  refine ⟨(heap_setCell_same _ _ 1 _ _ _ hp4).trans rfl, row_setp hp4 (by decide) ho, fun j u hj => ?_⟩
  have hvl := hK.row.1
  by_cases hlt : j < vals.length
  · rw [List.getElem?_append_left hlt] at hj
    obtain ⟨n, h1, h2⟩ := hK.lists j u hj
    exact ⟨n, h1, keep _ _ _ h2⟩
  · rw [List.getElem?_append_right (by omega)] at hj
    have hq : j / 4 = N := by
      have := (List.getElem?_eq_some_iff.1 hj).1
      simp at this
      omega
    rw [hq]
    rcases (by have := (List.getElem?_eq_some_iff.1 hj).1; simp at this; omega : j - vals.length = 0 ∨ j - vals.length = 1 ∨ j - vals.length = 2 ∨ j - vals.length = 3) with e | e | e | e
    · rw [e] at hj; injection hj with hj; subst hj; exact ⟨_, by omega, keep _ _ _ oa⟩
    · rw [e] at hj; injection hj with hj; subst hj; exact ⟨_, by omega, keep _ _ _ ob⟩
    · rw [e] at hj; injection hj with hj; subst hj; exact ⟨_, by omega, keep _ _ _ oc⟩
    · rw [e] at hj; injection hj with hj; subst hj; exact ⟨_, by omega, keep _ _ _ od⟩
/-- a list, its first i marked -/
def markedE (N : Nat) (L : List E) (i : Nat) : List E := List.replicate i (mkE N) ++ L.drop i
theorem markedE_len (N : Nat) (L : List E) {i : Nat} (h : i ≤ L.length) : (markedE N L i).length = L.length := by simp [markedE]; omega
theorem markedE_set (N : Nat) (L : List E) {i : Nat} (h : i < L.length) : (markedE N L i).set i (mkE N) = markedE N L (i + 1) := by
  unfold markedE
  rw [List.set_append_right _ _ (by simp), List.length_replicate, Nat.sub_self, List.replicate_succ', List.append_assoc]
  congr 1
  rw [List.drop_eq_getElem_cons h]
  rfl
theorem markedE_end (N : Nat) (L : List E) : markedE N L L.length = List.replicate L.length (mkE N) := by simp [markedE]
theorem markedE_zero (N : Nat) (L : List E) : markedE N L 0 = L := by simp [markedE]
end Go.Proofs.YtgfbbcnnmoamnaaGreatDoor.Tr

namespace Go.Proofs.YtgfbbcnnmoamnaaGreatDoor.Tr
open Go.RowKit Go.Proofs.YtgfbbcnnmoamnaaGreatDoor Go.Proofs.YtgfbbcnnmoamnaaGreatDoor.Lk

theorem newsM (w : World) (arr : Array Value) (t : TypeId) (i m : Nat) (h : arr.toList = marksE i m) : ∀ j u, (marksE i m)[j]? = some u → (w.alloc (.cells arr t (0, 0))).cell? ((⟨w.heap.size, 0, none⟩ : Addr).add j) = some u := fun j u hj => by
  have e : (⟨w.heap.size, 0, none⟩ : Addr).add j = ⟨w.heap.size, j, none⟩ := by simp [Addr.add]; omega
  rw [e, cell_of_row _ _ j _ _ _ (heap_alloc_new w _), ← Array.getElem?_toList, h]; exact hj
theorem infoEntries : (Tryz.prog.info? 26).map (fun i => (i.zero, i.size, i.bytes)) = some (some (.slice none 0 0), 1, 24) := by kernel_rfl
theorem fourE_new (w : World) (a b c d : Value) (t : TypeId) (j : Nat) (u : Value) (h : [a, b, c, d][j]? = some u) : (w.alloc (.cells #[a, b, c, d] t (0, 0))).cell? ((⟨w.heap.size, 0, none⟩ : Addr).add j) = some u := by
  have e : (⟨w.heap.size, 0, none⟩ : Addr).add j = ⟨w.heap.size, j, none⟩ := by simp [Addr.add]; omega
  rw [e, cell_of_row _ _ j _ _ _ (heap_alloc_new w _), ← h]; simp
theorem fourE_one {a b c d : Value} (ha : a.oneCell' = true) (hb : b.oneCell' = true) (hc : c.oneCell' = true) (hd : d.oneCell' = true) : ∀ u ∈ [a, b, c, d], u.oneCell' = true := by
  intro u hu
  simp only [List.mem_cons, List.not_mem_nil, or_false] at hu
  rcases hu with rfl | rfl | rfl | rfl <;> assumption
theorem ownM_one {w : World} {B i : Nat} {v : Value} {n : Nat} (h : OwnM w B i v n) : v.oneCell' = true := by
  rcases ownM_iff.1 h with ⟨hv, _⟩ | ⟨g, cap, cur, hv, _⟩
  · rw [hv]; rfl
  · rw [hv]; rfl
theorem set3_belowE {B g : Nat} {w wr : World} (hb : Below B w wr) (hBg : B ≤ g) (a b c : Nat) (x y z : Value) : Below B w (((wr.setCell ⟨g, a, none⟩ x).setCell ⟨g, b, none⟩ y).setCell ⟨g, c, none⟩ z) := ((hb.setCell hBg x).setCell hBg y).setCell hBg z
/-- the block of the marks -/
abbrev mkO (N : Nat) : Obj := .cells #[.string ⟨#[109, 97, 114, 107]⟩, .bool false, .string ⟨(markB N).toArray⟩] 47 (0, 0)
set_option maxRecDepth 8000 in
set_option maxHeartbeats 1000000 in
theorem keepE_any (B p N : Nat) (D ev : Value) (vals : List Value) (w0 w : World) (hK : BookE w0 B p N D ev vals) (hw : Below w0.heap.size w0 w) (hBp : B ≤ p) (hN : N ≤ 1048576) (v : Value) (n : Nat) (L : List E) (hown : w.ownsRow w0.heap.size 47 3 v n (ecells L)) (hn : n = L.length) (hn2 : n ≤ 60) :
    Calls Tryz.prog 81 #[.pointer (some ⟨p, 1, none⟩), v] w fun r w' => r = .returned (.tuple #[]) ∧ (∃ ev' vals', BookE w' B p (N + 1) D ev' vals') ∧ Below B w w' := by
  obtain ⟨ao, cap, rfl⟩ := own_shape hown
  have hpl := lt_of_block hK.here
  have hws := hw.size
  have HV : Hid (∀ k, (Value.slice ao n cap).ownBlock = some k → w0.heap.size ≤ k ∧ k < w.heap.size) := fun k hk => hown.lt k hk
  have HVP : Hid ((Value.slice ao n cap).ownBlock ≠ some p) := fun e => by have := hown.lt p e; omega
  have HKW := toHid (hK.below hw)
  have HK0 := toHid hK
  have HW := toHid hw
  have HP : Hid (w.heap[p]? = some (.cells #[D, ev, .slice none 0 0, .slice none 0 0, .slice none 0 0] 56 (0, 0))) := HKW.out.here
  obtain ⟨ae, ce, hev⟩ := own_shape hK.row
  obtain ⟨q, HQ⟩ := hid_intro (4 * N)
  rw [← HQ.out] at hev
  subst hev
  have hq : (q : Int) / 4 = (N : Int) := by have := HQ.out; omega
  have HN := toHid hn
  have HO : Hid (w.ownsRow w0.heap.size 47 3 (.slice ao n cap) n (ecells L)) := hown
  have hpc : w.cell? ⟨p, 1, none⟩ = some (.slice ae q ce) := (cell_of_row w p 1 _ _ _ HP.out).trans rfl
  have HMK := toHid (mark_any N hN)
  clear hown hn hK hw
  go_enter Tryz.func81, Tryz.ntmps81
  go_wp2_with (go_at_call 36; first | rw [hq] | skip; refine (HMK.out _).mono ?_; clear HMK; rintro e w9 ⟨rfl, hw2⟩; rw [hw2]; clear hw2 w9)
  go_loopw [5] (fun vi wr => ∃ i : Nat, i ≤ n ∧ vi = .int .i64 i ∧ Hid (wr.ownsRow w0.heap.size 47 3 (.slice ao n cap) n (ecells (markedE N L i))) ∧ Hid (wr.heap[p]? = some (.cells #[D, .slice ae q ce, .slice none 0 0, .slice none 0 0, .slice none 0 0] 56 (0, 0))) ∧ Hid (wr.heap[w.heap.size]? = some (mkO N)) ∧ Below w0.heap.size w wr) (fun vi _ => n - (intOf vi).toNat)
  case atStart => exact ⟨0, by omega, rfl, by rw [markedE_zero]; exact own_below HO.out ((Below.refl _ w).alloc (Nat.le_refl _) _), alloc_keeps HP.out, heap_alloc_new w _, (Below.refl _ w).alloc hws _⟩
  case round =>
    clear hpc HO HP
    obtain ⟨i, hi, rfl, HO, HP, HM, hb⟩ := hrel
    have hbs := hb.size
    by_cases hlt : i < n
    · obtain ⟨g, rfl, hBg, hgl, c1, c2, c3, f1, f2, f3⟩ := own_cellsE HO.out (by have := markedE_len N L (i := i) (by have := HN.out; omega); have := HN.out; omega) hlt
      have hset := markedE_set N L (i := i) (by have := HN.out; omega)
      have HO2 := own_setE HO.out i (mkE N) (by rw [markedE_len N L (by have := HN.out; omega)]; have := HN.out; omega)
      rw [hset] at HO2
      have HO3 := toHid HO2
      have hgp : g ≠ p := fun e => HVP.out (by rw [e]; rfl)
      have hgm : g ≠ w.heap.size := fun e => by have := HV.out g rfl; omega
      have m0 := (cell_of_row wr w.heap.size 0 _ _ _ HM.out).trans (show _ = some (Value.string ⟨#[109, 97, 114, 107]⟩) from rfl)
      have m1 := (cell_of_row wr w.heap.size 1 _ _ _ HM.out).trans (show _ = some (Value.bool false) from rfl)
      have m2 := (cell_of_row wr w.heap.size 2 _ _ _ HM.out).trans (show _ = some (Value.string ⟨(markB N).toArray⟩) from rfl)
      clear hset HO2
      go_wp2
      go_roundw
      case rel =>
        refine ⟨i + 1, by omega, by go_num, HO3, ?_, ?_, set3_belowE hb hBg _ _ _ _ _ _⟩
        · show _ = _
          rw [Below.heap_setCell _ _ _ _ (fun e => hgp e.symm), Below.heap_setCell _ _ _ _ (fun e => hgp e.symm), Below.heap_setCell _ _ _ _ (fun e => hgp e.symm)]; exact HP.out
        · show _ = _
          rw [Below.heap_setCell _ _ _ _ (fun e => hgm e.symm), Below.heap_setCell _ _ _ _ (fun e => hgm e.symm), Below.heap_setCell _ _ _ _ (fun e => hgm e.symm)]; exact HM.out
      case measure => simp [intOf]; omega
    · obtain rfl : i = n := by omega
      have HOW : Hid (OwnM wr w0.heap.size N (.slice ao i cap) i) := by
        have h := HO.out
        rw [HN.out, markedE_end, ← HN.out] at h
        exact h
      clear HO
      obtain ⟨j0, hj0, hjz0, hjz1, hjz2⟩ := info_parts infoEntries
      have HOW0 := HOW
      have HM0 := HM
      have HP0 := HP
      have HB0 : Hid (Below w0.heap.size w wr) := hb
      have hqn : q ≤ 4194304 := by have := HQ.out; omega
      have hBs : B ≤ w0.heap.size := by omega
      have HEP : Hid ((Value.slice ae q ce).ownBlock ≠ some p) := fun e => by
        obtain ⟨cur, hc⟩ := row_tag HK0.out.row e
        exact tag_ne hc HK0.out.here (by decide) rfl
      have HKR : Hid (∀ {wa : World} (wb : World), Below wa.heap.size wa wb → Below w0.heap.size w wa → wb.ownsRow B 26 1 (.slice ae q ce) q vals) := fun {wa} wb h1 h2 => by
        have h3 := own_below HK0.out.row (HW.out.trans (h2.mono (Nat.le_refl _)))
        rw [← HQ.out] at h3
        exact own_below h3 h1
      have m0 := (cell_of_row wr w.heap.size 0 _ _ _ HM.out).trans (show _ = some (Value.string ⟨#[109, 97, 114, 107]⟩) from rfl)
      have m1 := (cell_of_row wr w.heap.size 1 _ _ _ HM.out).trans (show _ = some (Value.bool false) from rfl)
      have m2 := (cell_of_row wr w.heap.size 2 _ _ _ HM.out).trans (show _ = some (Value.string ⟨(markB N).toArray⟩) from rfl)
      clear HOW HM HP hlt hi
      go_wp2_with (first
        | (at_builtin; refine wpList_append_lies _ rfl _ _ 49 rfl B 26 j0 (.slice none 0 0) 1 24 Tryz.underlying49 hj0 hjz0 hjz1 hjz2 rfl (by decide) (.slice ae q ce) q vals rfl (HKR.out _ ((Below.refl _ w3).alloc (Nat.le_refl _) _) HB3.out) ⟨_, 0, none⟩ 4 4 [.slice ao i cap, .slice a1 (i + 1) c1, .slice a2 (i + 2) c2, .slice a3 (i + 3) c3] rfl rfl (fourE_new _ _ _ _ _ _) (fourE_one rfl (ownM_one HX1_3.out) (ownM_one HX2_3.out) (ownM_one HX3_3.out)) (by decide) (by unfold maxLen; omega) (by omega) (by simp; omega) _ rfl ?_; intro gb capb w4 hown4 hg4 hat4 hgl4; have HO4 := toHid hown4; have HG4 := toHid hg4; clear hown4 hg4 hat4 hgl4; have HP4 : Hid (w4.heap[p]? = some (.cells #[D, .slice ae q ce, .slice none 0 0, .slice none 0 0, .slice none 0 0] 56 (0, 0))) := (HG4.out.block p (by simp; omega) (fun e => HEP.out e.symm)).trans (alloc_keeps HP3.out); have r4 := (cell_of_row w4 p 1 _ _ _ HP4.out).trans (show _ = some (Value.slice ae q ce) from rfl); have f4 := frozen_of_row w4 p 1 _ _ HP4.out)
        | (at_builtin; refine wpList_append_marksE rfl _ _ rfl w0.heap.size N (.slice ao i cap) i rfl (HOW2.out.below ((Below.refl _ w2).alloc (Nat.le_refl _) _)) ⟨_, 0, none⟩ 3 3 rfl (by decide) (newsM _ _ _ N 3 rfl) (by omega) (by simp; omega) ?_; intro v3 w3 ho hall hb' hk; obtain ⟨a3, c3, rfl⟩ := own_shape (show World.ownsRow w3 w0.heap.size 47 3 v3 (i + 3) (marksE N (i + 3)) from ho); have HM3 : Hid (w3.heap[w.heap.size]? = some (mkO N)) := (hk.out _ (by simp; omega) (fun e => by have := HV.out _ e; omega)).trans (alloc_keeps HM2.out); have HP3 : Hid (w3.heap[p]? = some (.cells #[D, .slice ae q ce, .slice none 0 0, .slice none 0 0, .slice none 0 0] 56 (0, 0))) := (hk.out _ (by simp; omega) HVP.out).trans (alloc_keeps HP2.out); have HOW3 : Hid (OwnM w3 w0.heap.size N (.slice ao i cap) i) := hall.out _ _ (HOW2.out.below ((Below.refl _ w2).alloc (Nat.le_refl _) _)); have HX1_3 : Hid (OwnM w3 w0.heap.size N (.slice a1 (i + 1) c1) (i + 1)) := hall.out _ _ (HX1_2.out.below ((Below.refl _ w2).alloc (Nat.le_refl _) _)); have HX2_3 : Hid (OwnM w3 w0.heap.size N (.slice a2 (i + 2) c2) (i + 2)) := hall.out _ _ (HX2_2.out.below ((Below.refl _ w2).alloc (Nat.le_refl _) _)); have HX3_3 : Hid (OwnM w3 w0.heap.size N (.slice a3 (i + 3) c3) (i + 3)) := ho; have HB3 : Hid (Below w0.heap.size w w3) := (HB2.out.alloc (by have := HB2.out.size; omega) _).trans hb'; have hs3 := HB3.out.size; have q30 := (cell_of_row w3 w.heap.size 0 _ _ _ HM3.out).trans (show _ = some (Value.string ⟨#[109, 97, 114, 107]⟩) from rfl); have q31 := (cell_of_row w3 w.heap.size 1 _ _ _ HM3.out).trans (show _ = some (Value.bool false) from rfl); have q32 := (cell_of_row w3 w.heap.size 2 _ _ _ HM3.out).trans (show _ = some (Value.string ⟨(markB N).toArray⟩) from rfl); have r3 := (cell_of_row w3 p 1 _ _ _ HP3.out).trans (show _ = some (Value.slice ae q ce) from rfl); clear ho hall hb' hk)
        | (at_builtin; refine wpList_append_marksE rfl _ _ rfl w0.heap.size N (.slice ao i cap) i rfl (HOW1.out.below ((Below.refl _ w1).alloc (Nat.le_refl _) _)) ⟨_, 0, none⟩ 2 2 rfl (by decide) (newsM _ _ _ N 2 rfl) (by omega) (by simp; omega) ?_; intro v2 w2 ho hall hb' hk; obtain ⟨a2, c2, rfl⟩ := own_shape (show World.ownsRow w2 w0.heap.size 47 3 v2 (i + 2) (marksE N (i + 2)) from ho); have HM2 : Hid (w2.heap[w.heap.size]? = some (mkO N)) := (hk.out _ (by simp; omega) (fun e => by have := HV.out _ e; omega)).trans (alloc_keeps HM1.out); have HP2 : Hid (w2.heap[p]? = some (.cells #[D, .slice ae q ce, .slice none 0 0, .slice none 0 0, .slice none 0 0] 56 (0, 0))) := (hk.out _ (by simp; omega) HVP.out).trans (alloc_keeps HP1.out); have HOW2 : Hid (OwnM w2 w0.heap.size N (.slice ao i cap) i) := hall.out _ _ (HOW1.out.below ((Below.refl _ w1).alloc (Nat.le_refl _) _)); have HX1_2 : Hid (OwnM w2 w0.heap.size N (.slice a1 (i + 1) c1) (i + 1)) := hall.out _ _ (HX1_1.out.below ((Below.refl _ w1).alloc (Nat.le_refl _) _)); have HX2_2 : Hid (OwnM w2 w0.heap.size N (.slice a2 (i + 2) c2) (i + 2)) := ho; have HB2 : Hid (Below w0.heap.size w w2) := (HB1.out.alloc (by have := HB1.out.size; omega) _).trans hb'; have hs2 := HB2.out.size; have q20 := (cell_of_row w2 w.heap.size 0 _ _ _ HM2.out).trans (show _ = some (Value.string ⟨#[109, 97, 114, 107]⟩) from rfl); have q21 := (cell_of_row w2 w.heap.size 1 _ _ _ HM2.out).trans (show _ = some (Value.bool false) from rfl); have q22 := (cell_of_row w2 w.heap.size 2 _ _ _ HM2.out).trans (show _ = some (Value.string ⟨(markB N).toArray⟩) from rfl); have r2 := (cell_of_row w2 p 1 _ _ _ HP2.out).trans (show _ = some (Value.slice ae q ce) from rfl); clear ho hall hb' hk)
        | (at_builtin; refine wpList_append_marksE rfl _ _ rfl w0.heap.size N (.slice ao i cap) i rfl (HOW0.out.below ((Below.refl _ wr).alloc (Nat.le_refl _) _)) ⟨_, 0, none⟩ 1 1 rfl (by decide) (newsM _ _ _ N 1 rfl) (by omega) (by simp; omega) ?_; intro v1 w1 ho hall hb' hk; obtain ⟨a1, c1, rfl⟩ := own_shape (show World.ownsRow w1 w0.heap.size 47 3 v1 (i + 1) (marksE N (i + 1)) from ho); have HM1 : Hid (w1.heap[w.heap.size]? = some (mkO N)) := (hk.out _ (by simp; omega) (fun e => by have := HV.out _ e; omega)).trans (alloc_keeps HM0.out); have HP1 : Hid (w1.heap[p]? = some (.cells #[D, .slice ae q ce, .slice none 0 0, .slice none 0 0, .slice none 0 0] 56 (0, 0))) := (hk.out _ (by simp; omega) HVP.out).trans (alloc_keeps HP0.out); have HOW1 : Hid (OwnM w1 w0.heap.size N (.slice ao i cap) i) := hall.out _ _ (HOW0.out.below ((Below.refl _ wr).alloc (Nat.le_refl _) _)); have HX1_1 : Hid (OwnM w1 w0.heap.size N (.slice a1 (i + 1) c1) (i + 1)) := ho; have HB1 : Hid (Below w0.heap.size w w1) := (HB0.out.alloc (by have := HB0.out.size; omega) _).trans hb'; have hs1 := HB1.out.size; have q10 := (cell_of_row w1 w.heap.size 0 _ _ _ HM1.out).trans (show _ = some (Value.string ⟨#[109, 97, 114, 107]⟩) from rfl); have q11 := (cell_of_row w1 w.heap.size 1 _ _ _ HM1.out).trans (show _ = some (Value.bool false) from rfl); have q12 := (cell_of_row w1 w.heap.size 2 _ _ _ HM1.out).trans (show _ = some (Value.string ⟨(markB N).toArray⟩) from rfl); have r1 := (cell_of_row w1 p 1 _ _ _ HP1.out).trans (show _ = some (Value.slice ae q ce) from rfl); clear ho hall hb' hk))
      have hq2 := HQ.out
      subst hq2
      have hk3 : BookE (w3.alloc (.cells #[.slice ao i cap, .slice a1 (i + 1) c1, .slice a2 (i + 2) c2, .slice a3 (i + 3) c3] 26 (0, 0))) B p N D (.slice ae (4 * N) ce) vals := (HK0.out.below (HW.out.trans HB3.out)).below ((Below.refl _ w3).alloc (Nat.le_refl _) _)
      have ha : Below w3.heap.size w3 (w3.alloc (.cells #[.slice ao i cap, .slice a1 (i + 1) c1, .slice a2 (i + 2) c2, .slice a3 (i + 3) c3] 26 (0, 0))) := (Below.refl _ w3).alloc (Nat.le_refl _) _
      refine bodyPost_end (results_none rfl _ _ _) rfl ⟨rfl, ⟨_, _, hk3.more i hn2 ((HOW3.out.below ha).weaken hBs) ((HX1_3.out.below ha).weaken hBs) ((HX2_3.out.below ha).weaken hBs) ((HX3_3.out.below ha).weaken hBs) HO4.out HG4.out⟩, ?_⟩
      exact (grown_below (((HB3.out.mono hBs)).trans (ha.mono (by omega))) hk3.row (Nat.le_refl _) (by simp; omega) HG4.out).setCell hBp _
end Go.Proofs.YtgfbbcnnmoamnaaGreatDoor.Tr

namespace Go.Proofs.YtgfbbcnnmoamnaaGreatDoor.Tr
open Go.RowKit Go.Proofs.YtgfbbcnnmoamnaaGreatDoor Go.Proofs.YtgfbbcnnmoamnaaGreatDoor.Lk

theorem ownM_at {w : World} {B i K cap k : Nat} {ao : Option Addr} (h : OwnM w B i (.slice ao K cap) K) (hk : k < K) : ∃ g, ao = some ⟨g, 0, none⟩ ∧ w.cell? ⟨g, k * 3, none⟩ = some (.string ⟨#[109, 97, 114, 107]⟩) ∧ w.cell? ⟨g, k * 3 + 1, none⟩ = some (.bool false) ∧ w.cell? ⟨g, k * 3 + 2, none⟩ = some (.string ⟨(markB i).toArray⟩) := by
  rcases ownM_iff.1 h with ⟨hv, h0⟩ | ⟨g, cap', cur, hv, _, h2, _, _, _, h6⟩
  · omega
  · injection hv with hv _ _
    refine ⟨g, hv, ?_, ?_, ?_⟩
    · rw [cell_of_row _ _ _ _ _ _ h2, h6 _ (by omega)]; unfold patE; rw [if_pos (by omega)]
    · rw [cell_of_row _ _ _ _ _ _ h2, h6 _ (by omega)]; unfold patE; rw [if_neg (by omega), if_pos (by omega)]
    · rw [cell_of_row _ _ _ _ _ _ h2, h6 _ (by omega)]; unfold patE; rw [if_neg (by omega), if_neg (by omega)]
theorem row_at {w : World} {B n i cap : Nat} {ao : Option Addr} {t : TypeId} {xs : List Value} (h : w.ownsRow B t 1 (.slice ao n cap) n xs) (hi : i < n) : ∃ g u, ao = some ⟨g, 0, none⟩ ∧ g < w.heap.size ∧ xs[i]? = some u ∧ w.cell? ⟨g, i, none⟩ = some u := by
  have hl := h.1
  rcases h.2 with ⟨_, h0⟩ | ⟨g, cap', cur, hv, _, h2, _, _, _, h6⟩
  · omega
  · injection hv with hv _ _
    obtain ⟨u, hu⟩ : ∃ u, xs[i]? = some u := ⟨xs[i]'(by omega), List.getElem?_eq_getElem _⟩
    refine ⟨g, u, hv, lt_of_block h2, hu, ?_⟩
    rw [cell_of_row _ _ _ _ _ _ h2, ← hu, ← h6, List.getElem?_take_of_lt (by omega), Array.getElem?_toList]
set_option maxRecDepth 8000 in
set_option maxHeartbeats 1000000 in
theorem stillE_any (B p N : Nat) (D ev : Value) (vals : List Value) (w : World) (hK : BookE w B p N D ev vals) (hN : N ≤ 1048576) :
    Calls Tryz.prog 13 #[.pointer (some ⟨p, 1, none⟩)] w fun r w' => r = .returned (.bool true) ∧ Below w.heap.size w w' := by
  have hpl := lt_of_block hK.here
  obtain ⟨ae, ce, hev⟩ := own_shape hK.row
  obtain ⟨q, HQ⟩ := hid_intro (4 * N)
  rw [← HQ.out] at hev
  subst hev
  have hqn : q ≤ 4194304 := by have := HQ.out; omega
  have HROW : Hid (w.ownsRow B 26 1 (.slice ae q ce) q vals) := by
    have := hK.row
    rw [← HQ.out] at this
    exact this
  have HLI := toHid hK.lists
  have p1 : w.cell? ⟨p, 1, none⟩ = some (.slice ae q ce) := (cell_of_row w p 1 _ _ _ hK.here).trans rfl
  have p2 : w.cell? ⟨p, 2, none⟩ = some (.slice none 0 0) := (cell_of_row w p 2 _ _ _ hK.here).trans rfl
  have p3 : w.cell? ⟨p, 3, none⟩ = some (.slice none 0 0) := (cell_of_row w p 3 _ _ _ hK.here).trans rfl
  have p4 : w.cell? ⟨p, 4, none⟩ = some (.slice none 0 0) := (cell_of_row w p 4 _ _ _ hK.here).trans rfl
  clear hK
  go_enter Tryz.func13, Tryz.ntmps13
  go_wp2
  go_loopw [3] (fun vi wr => ∃ i : Nat, i ≤ q ∧ vi = .int .i64 i ∧ Below w.heap.size w wr) (fun vi _ => q - (intOf vi).toNat)
  case atStart => exact ⟨0, by omega, rfl, Below.refl _ _⟩
  case round =>
    obtain ⟨i, hi, rfl, hb⟩ := hrel
    have hbs := hb.size
    have s1 := (hb.cell (p := ⟨p, 1, none⟩) hpl).trans p1
    have s2 := (hb.cell (p := ⟨p, 2, none⟩) hpl).trans p2
    have s3 := (hb.cell (p := ⟨p, 3, none⟩) hpl).trans p3
    have s4 := (hb.cell (p := ⟨p, 4, none⟩) hpl).trans p4
    by_cases hlt : i < q
    · obtain ⟨gb, u, rfl, hgb, hu, cu⟩ := row_at HROW.out hlt
      obtain ⟨K, hK63, oU⟩ := HLI.out i u hu
      have HA : Hid (Below w.heap.size w (wr.alloc (mkO (i / 4)))) := hb.alloc hbs _
      have t1 := (HA.out.cell (p := ⟨p, 1, none⟩) hpl).trans p1
      have tg := (HA.out.cell (p := ⟨gb, i, none⟩) hgb).trans cu
      have m0 := cell_three_new wr (.string ⟨#[109, 97, 114, 107]⟩) (.bool false) (.string ⟨(markB (i / 4)).toArray⟩) 47 0 _ rfl
      have m1 := cell_three_new wr (.string ⟨#[109, 97, 114, 107]⟩) (.bool false) (.string ⟨(markB (i / 4)).toArray⟩) 47 1 _ rfl
      have m2 := cell_three_new wr (.string ⟨#[109, 97, 114, 107]⟩) (.bool false) (.string ⟨(markB (i / 4)).toArray⟩) 47 2 _ rfl
      obtain ⟨ao, cap, hsh⟩ := own_shape (show World.ownsRow w B 47 3 u K (marksE (i / 4) K) from oU)
      rw [hsh] at oU tg
      have HO : Hid (OwnM (wr.alloc (mkO (i / 4))) B (i / 4) (.slice ao K cap) K) := oU.below HA.out
      have hd4 : (i : Int) / 4 = ((i / 4 : Nat) : Int) := by omega
      have HMK := toHid (mark_any (i / 4) (by omega))
      clear oU cu hsh hu
      unfold mkO at HA HO t1 tg
      obtain ⟨r, HR⟩ := hid_intro (i / 4)
      rw [← HR.out] at HA HO hd4 HMK m0 m1 m2 t1 tg
      obtain ⟨MB, HMB⟩ := hid_intro (markB r)
      have HAT : Hid (∀ k, k < K → ∃ g, ao = some ⟨g, 0, none⟩ ∧ (wr.alloc (.cells #[.string ⟨#[109, 97, 114, 107]⟩, .bool false, .string ⟨MB.toArray⟩] 47 (0, 0))).cell? ⟨g, k * 3, none⟩ = some (.string ⟨#[109, 97, 114, 107]⟩) ∧ (wr.alloc (.cells #[.string ⟨#[109, 97, 114, 107]⟩, .bool false, .string ⟨MB.toArray⟩] 47 (0, 0))).cell? ⟨g, k * 3 + 1, none⟩ = some (.bool false) ∧ (wr.alloc (.cells #[.string ⟨#[109, 97, 114, 107]⟩, .bool false, .string ⟨MB.toArray⟩] 47 (0, 0))).cell? ⟨g, k * 3 + 2, none⟩ = some (.string ⟨MB.toArray⟩)) := fun k hk => by
        rw [HMB.out]; exact ownM_at HO.out hk
      rw [← HMB.out] at HA HMK m0 m1 m2 t1 tg
      clear HO
      go_wp2_with (go_at_call 36; first | rw [hd4] | skip; refine (HMK.out _).mono ?_; rintro e w9 ⟨rfl, hw9⟩; rw [hw9]; clear hw9 w9)
      go_loopw [5] (fun vk wq => ∃ k q : Nat, k ≤ K ∧ vk = .int .i64 k ∧ wq = (wr.alloc (.cells #[.string ⟨#[109, 97, 114, 107]⟩, .bool false, .string ⟨MB.toArray⟩] 47 (0, 0))).drewN q) (fun vk _ => K - (intOf vk).toNat)
      case atStart => exact ⟨0, 0, by omega, rfl, rfl⟩
      case round =>
        obtain ⟨k, q2, hk, rfl, hw⟩ := hrel
        rw [hw]; clear hw
        by_cases hkl : k < K
        · obtain ⟨g, rfl, c1, c2, c3⟩ := HAT.out k hkl
          go_wp2
          go_quiet (fail)
          go_wp2
          go_roundw
          case rel => exact ⟨k + 1, _, by omega, by go_num, by first | rfl | rw [World.drewN_drewN]⟩
          case measure => simp [intOf]; omega
        · obtain rfl : k = K := by omega
          go_wp2
          go_roundw
          case rel => exact ⟨i + 1, by omega, by go_num, below_drewN HA.out _⟩
          case measure => simp [intOf]; omega
    · obtain rfl : i = q := by omega
      clear HLI HROW
      go_wp2
      go_loopw [6] (fun vi wq => vi = .int .i64 0 ∧ Below w.heap.size w wq) (fun _ _ => 0)
      case atStart => exact ⟨rfl, hb⟩
      case round =>
        clear hb hbs s1 s2 s3 s4
        obtain ⟨rfl, hb⟩ := hrel
        have s2 := (hb.cell (p := ⟨p, 2, none⟩) hpl).trans p2
        have s3 := (hb.cell (p := ⟨p, 3, none⟩) hpl).trans p3
        have s4 := (hb.cell (p := ⟨p, 4, none⟩) hpl).trans p4
        go_wp2
        go_loopw [9] (fun vi wq => vi = .int .i64 0 ∧ Below w.heap.size w wq) (fun _ _ => 0)
        case atStart => exact ⟨rfl, hb⟩
        case round =>
          clear hb s2 s3 s4
          obtain ⟨rfl, hb⟩ := hrel
          have s3 := (hb.cell (p := ⟨p, 3, none⟩) hpl).trans p3
          have s4 := (hb.cell (p := ⟨p, 4, none⟩) hpl).trans p4
          go_wp2
          go_loopw [11] (fun vi wq => vi = .int .i64 0 ∧ Below w.heap.size w wq) (fun _ _ => 0)
          case atStart => exact ⟨rfl, hb⟩
          case round =>
            clear hb s3 s4
            obtain ⟨rfl, hb⟩ := hrel
            have s4 := (hb.cell (p := ⟨p, 4, none⟩) hpl).trans p4
            go_wp2
            go_ret
            exact ⟨rfl, hb⟩
end Go.Proofs.YtgfbbcnnmoamnaaGreatDoor.Tr
