/- A list that came out: the owner writes it full, and appends to it three times. -/
import Derived.Test.YtjngbcbkapjkhaaGreatDoorLkO
namespace Go.Proofs.YtjngbcbkapjkhaaGreatDoor.Lk
open Go.RowKit Go.Proofs.YtjngbcbkapjkhaaGreatDoor

theorem news_new (w : World) (arr : Array Value) (t : TypeId) (m : Nat) (h : arr.toList = marks m) : ∀ j u, (marks m)[j]? = some u → (w.alloc (.cells arr t (0, 0))).cell? ((⟨w.heap.size, 0, none⟩ : Addr).add j) = some u := fun j u hj => by
  have e : (⟨w.heap.size, 0, none⟩ : Addr).add j = ⟨w.heap.size, j, none⟩ := by simp [Addr.add]; omega
  rw [e, cell_of_row _ _ j _ _ _ (heap_alloc_new w _), ← Array.getElem?_toList, h]; exact hj
theorem infoLockeds : (Tryz.prog.info? 22).map (fun i => (i.zero, i.size, i.bytes)) = some (some (.slice none 0 0), 1, 24) := by kernel_rfl
/-- what stands at a block -/
def nilV : Value := .slice none 0 0
/-- the book's four lists -/
structure Kept (w : World) (B p n : Nat) (v : Value) : Prop where
  ex : ∃ gb cap x y z, w.heap[p]? = some (.cells #[nilV, nilV, .slice (some ⟨gb, 0, none⟩) 4 cap, nilV, nilV] 39 (0, 0)) ∧ B ≤ gb ∧ gb < w.heap.size ∧
    w.cell? ⟨gb, 0, none⟩ = some v ∧ w.cell? ⟨gb, 1, none⟩ = some x ∧ w.cell? ⟨gb, 2, none⟩ = some y ∧ w.cell? ⟨gb, 3, none⟩ = some z ∧
    Own w B v n ∧ Own w B x (n + 1) ∧ Own w B y (n + 2) ∧ Own w B z (n + 3)
theorem own_one {w : World} {B : Nat} {v : Value} {n : Nat} (h : Own w B v n) : v.oneCell' = true := by
  rcases own_iff.1 h with ⟨hv, _⟩ | ⟨g, cap, cur, hv, _⟩
  · rw [hv]; rfl
  · rw [hv]; rfl
theorem four_new (w : World) (a b c d : Value) (t : TypeId) (j : Nat) (u : Value) (h : [a, b, c, d][j]? = some u) : (w.alloc (.cells #[a, b, c, d] t (0, 0))).cell? ((⟨w.heap.size, 0, none⟩ : Addr).add j) = some u := by
  have e : (⟨w.heap.size, 0, none⟩ : Addr).add j = ⟨w.heap.size, j, none⟩ := by simp [Addr.add]; omega
  rw [e, cell_of_row _ _ j _ _ _ (heap_alloc_new w _), ← h]; simp
theorem four_one {a b c d : Value} (ha : a.oneCell' = true) (hb : b.oneCell' = true) (hc : c.oneCell' = true) (hd : d.oneCell' = true) : ∀ u ∈ [a, b, c, d], u.oneCell' = true := by
  intro u hu
  simp only [List.mem_cons, List.not_mem_nil, or_false] at hu
  rcases hu with rfl | rfl | rfl | rfl <;> assumption
theorem own_setp {w : World} {B p j : Nat} {c : Array Value} {x : Value} (hp : w.heap[p]? = some (.cells c 39 (0, 0))) {u : Value} {k : Nat} (h : Own w B u k) : Own (w.setCell ⟨p, j, none⟩ x) B u k := by
  rcases own_iff.1 h with hn | ⟨g, cap, cur, hv, h1, h2, rest⟩
  · exact own_iff.2 (.inl hn)
  · have hg : g ≠ p := fun e => by
      rw [e, hp] at h2
      injection h2 with h2
      injection h2 with _ h2
      cases h2
    exact own_iff.2 (.inr ⟨g, cap, cur, hv, h1, (Below.heap_setCell _ _ _ _ hg).trans h2, rest⟩)
theorem setp_kept {w : World} {B p gb capb s : Nat} {a b c d : Value} (hp : w.heap[p]? = some (.cells #[nilV, nilV, nilV, nilV, nilV] 39 (0, 0))) (hs : s < gb) (hps : p < s) (ho : w.ownsRow B 22 1 (.slice (some ⟨gb, 0, none⟩) 4 capb) 4 [a, b, c, d]) (hg : gb < w.heap.size) :
    (w.setCell ⟨p, 2, none⟩ (.slice (some ⟨gb, 0, none⟩) 4 capb)).heap[p]? = some (.cells #[nilV, nilV, .slice (some ⟨gb, 0, none⟩) 4 capb, nilV, nilV] 39 (0, 0)) ∧ gb < (w.setCell ⟨p, 2, none⟩ (.slice (some ⟨gb, 0, none⟩) 4 capb)).heap.size ∧
    (w.setCell ⟨p, 2, none⟩ (.slice (some ⟨gb, 0, none⟩) 4 capb)).cell? ⟨gb, 0, none⟩ = some a ∧ (w.setCell ⟨p, 2, none⟩ (.slice (some ⟨gb, 0, none⟩) 4 capb)).cell? ⟨gb, 1, none⟩ = some b ∧ (w.setCell ⟨p, 2, none⟩ (.slice (some ⟨gb, 0, none⟩) 4 capb)).cell? ⟨gb, 2, none⟩ = some c ∧ (w.setCell ⟨p, 2, none⟩ (.slice (some ⟨gb, 0, none⟩) 4 capb)).cell? ⟨gb, 3, none⟩ = some d := by
  refine ⟨(heap_setCell_same _ _ 2 _ _ _ hp).trans rfl, by simpa [World.setCell] using hg, ?_⟩
  rcases ho.2 with ⟨hv, _⟩ | ⟨g', cap', cur, hv, h1, hb, h2, h3, h4, h5⟩
  · cases hv
  · injection hv with hv _ _
    injection hv with hv
    injection hv with hv
    subst hv
    have hb' : (w.setCell ⟨p, 2, none⟩ (.slice (some ⟨gb, 0, none⟩) 4 capb)).heap[gb]? = some (.cells cur 22 (0, 0)) := (Below.heap_setCell _ _ _ _ (by show gb ≠ p; omega)).trans hb
    have key : ∀ i, i < 4 → cur[i]? = [a, b, c, d][i]? := fun i hi => by
      rw [← h5, List.getElem?_take_of_lt (by omega), Array.getElem?_toList]
    exact ⟨(cell_of_row _ _ _ _ _ _ hb').trans (key 0 (by omega)), (cell_of_row _ _ _ _ _ _ hb').trans (key 1 (by omega)), (cell_of_row _ _ _ _ _ _ hb').trans (key 2 (by omega)), (cell_of_row _ _ _ _ _ _ hb').trans (key 3 (by omega))⟩
theorem alloc_block {w : World} {p : Nat} {o' : Obj} {x : Obj} (h : w.heap[p]? = some x) : (w.alloc o').heap[p]? = some x := alloc_keeps h
set_option maxRecDepth 8000 in
set_option maxHeartbeats 1000000 in
theorem keep_any (B p n : Nat) (v : Value) (L : List M) (w : World) (hp : w.heap[p]? = some (.cells #[nilV, nilV, nilV, nilV, nilV] 39 (0, 0))) (hBp : B ≤ p) (hown : w.ownsRow B 25 3 v n (mcells L)) (hn : n = L.length) (hn2 : n ≤ 10) (hvp : v.ownBlock ≠ some p) (hB : B ≤ w.heap.size) :
    Calls Tryz.prog 38 #[.pointer (some ⟨p, 1, none⟩), v] w fun r w' => r = .returned (.tuple #[]) ∧ Kept w' B p n v ∧ Below B w w' := by
  obtain ⟨ao, cap, rfl⟩ := own_shape hown
  have hpl := lt_of_block hp
  have hown' := hown.lt
  have HV : Hid (∀ k, (Value.slice ao n cap).ownBlock = some k → k < w.heap.size) := fun k hk => (hown.lt k hk).2
  have HVP : Hid ((Value.slice ao n cap).ownBlock ≠ some p) := hvp
  have HP : Hid (w.heap[p]? = some (.cells #[nilV, nilV, nilV, nilV, nilV] 39 (0, 0))) := hp
  have HN := (show Hid _ from hn)
  have HO : Hid (w.ownsRow B 25 3 (.slice ao n cap) n (mcells L)) := hown
  have hpc : w.cell? ⟨p, 2, none⟩ = some (.slice none 0 0) := (cell_of_row w p 2 _ _ _ hp).trans rfl
  clear hown hown' hvp hp hn
  go_enter Tryz.func38, Tryz.ntmps38
  go_wp2_with (go_at_call 17; refine (mark_zero _).mono ?_; rintro e w9 ⟨rfl, hw2⟩; rw [hw2]; clear hw2 w9)
  go_loopw [5] (fun vi wr => ∃ i : Nat, i ≤ n ∧ vi = .int .i64 i ∧ Hid (wr.ownsRow B 25 3 (.slice ao n cap) n (mcells (marked L i))) ∧ Hid (wr.heap[p]? = some (.cells #[nilV, nilV, nilV, nilV, nilV] 39 (0, 0))) ∧ Hid (wr.heap[w.heap.size]? = some (.cells #[.string ⟨#[35]⟩, .string ⟨#[]⟩, .string ⟨#[]⟩] 25 (0, 0))) ∧ Below B w wr) (fun vi _ => n - (intOf vi).toNat)
  case atStart => exact ⟨0, by omega, rfl, by rw [marked_zero]; exact own_below HO.out ((Below.refl _ w).alloc (Nat.le_refl _) _), alloc_block HP.out, heap_alloc_new w _, (Below.refl _ w).alloc hB _⟩
  case round =>
    clear hpc HO HP
    obtain ⟨i, hi, rfl, HO, HP, HM, hb⟩ := hrel
    have hbs := hb.size
    by_cases hlt : i < n
    · rcases HO.out.2 with ⟨hv, h0⟩ | ⟨g, cap', cur, hv, hBg, _⟩
      · omega
      injection hv with hv1 _ hv3
      subst hv1 hv3
      obtain ⟨m, c1, c2, c3, f1, f2, f3⟩ := own_cells HO.out (by have := marked_len L (i := i) (by have := HN.out; omega); have := HN.out; omega) hlt
      have hset := marked_set L (i := i) (by have := HN.out; omega)
      have HO2 := own_set3 HO.out i mm (by rw [marked_len L (by have := HN.out; omega)]; have := HN.out; omega)
      rw [hset] at HO2
      have HO3 := (show Hid (World.ownsRow _ _ _ _ _ _ _) from HO2)
      have hgp : g ≠ p := fun e => HVP.out (by rw [e]; rfl)
      have hgm : g ≠ w.heap.size := fun e => by have := HV.out g rfl; omega
      have m0 := (cell_of_row wr w.heap.size 0 _ _ _ HM.out).trans (show _ = some (Value.string ⟨#[35]⟩) from rfl)
      have m1 := (cell_of_row wr w.heap.size 1 _ _ _ HM.out).trans (show _ = some (Value.string ⟨#[]⟩) from rfl)
      have m2 := (cell_of_row wr w.heap.size 2 _ _ _ HM.out).trans (show _ = some (Value.string ⟨#[]⟩) from rfl)
      clear hset HO2
      go_wp2
      go_roundw
      case rel =>
        refine ⟨i + 1, by omega, by go_num, HO3, ?_, ?_, set3_below' hb hBg _ _ _ _ _ _⟩
        · show _ = _
          rw [Below.heap_setCell _ _ _ _ (fun e => hgp e.symm), Below.heap_setCell _ _ _ _ (fun e => hgp e.symm), Below.heap_setCell _ _ _ _ (fun e => hgp e.symm)]; exact HP.out
        · show _ = _
          rw [Below.heap_setCell _ _ _ _ (fun e => hgm e.symm), Below.heap_setCell _ _ _ _ (fun e => hgm e.symm), Below.heap_setCell _ _ _ _ (fun e => hgm e.symm)]; exact HM.out
      case measure => simp [intOf]; omega
    · obtain rfl : i = n := by omega
      have HOW : Hid (Own wr B (.slice ao i cap) i) := by
        have h := HO.out
        rw [HN.out, marked_end, ← HN.out] at h
        exact h
      clear HO
      obtain ⟨j0, hj0, hjz0, hjz1, hjz2⟩ := info_parts infoLockeds
      have HOW0 := HOW
      have HM0 := HM
      have HP0 := HP
      have HB0 : Hid (Below B w wr) := hb
      have m0 := (cell_of_row wr w.heap.size 0 _ _ _ HM.out).trans (show _ = some (Value.string ⟨#[35]⟩) from rfl)
      have m1 := (cell_of_row wr w.heap.size 1 _ _ _ HM.out).trans (show _ = some (Value.string ⟨#[]⟩) from rfl)
      have m2 := (cell_of_row wr w.heap.size 2 _ _ _ HM.out).trans (show _ = some (Value.string ⟨#[]⟩) from rfl)
      clear HOW HM HP hlt hi
      go_wp2_with (first
        | (at_builtin; refine wpList_append_marks rfl _ _ rfl B (.slice ao i cap) i rfl (HOW0.out.below ((Below.refl _ wr).alloc (Nat.le_refl _) _)) ⟨_, 0, none⟩ 1 1 rfl (by decide) (news_new _ _ _ 1 rfl) (by omega) (by simp; omega) ?_; intro v1 w1 ho hall hb' hk; obtain ⟨a1, c1, rfl⟩ := own_shape (show World.ownsRow w1 B 25 3 v1 (i + 1) (marks (i + 1)) from ho); have HM1 : Hid (w1.heap[w.heap.size]? = some (.cells #[.string ⟨#[35]⟩, .string ⟨#[]⟩, .string ⟨#[]⟩] 25 (0, 0))) := (hk.out _ (by simp; omega) (fun e => by have := HV.out _ e; omega)).trans (alloc_block HM0.out); have HP1 : Hid (w1.heap[p]? = some (.cells #[nilV, nilV, nilV, nilV, nilV] 39 (0, 0))) := (hk.out _ (by simp; omega) HVP.out).trans (alloc_block HP0.out); have HOW1 : Hid (Own w1 B (.slice ao i cap) i) := hall.out _ _ (HOW0.out.below ((Below.refl _ wr).alloc (Nat.le_refl _) _)); have HX1 : Hid (Own w1 B (.slice a1 (i + 1) c1) (i + 1)) := ho; have HB1 : Hid (Below B w w1) := (HB0.out.alloc (by have := HB0.out.size; omega) _).trans hb'; have hs1 := HB1.out.size; have q10 := (cell_of_row w1 w.heap.size 0 _ _ _ HM1.out).trans (show _ = some (Value.string ⟨#[35]⟩) from rfl); have q11 := (cell_of_row w1 w.heap.size 1 _ _ _ HM1.out).trans (show _ = some (Value.string ⟨#[]⟩) from rfl); have q12 := (cell_of_row w1 w.heap.size 2 _ _ _ HM1.out).trans (show _ = some (Value.string ⟨#[]⟩) from rfl); have r1 := (cell_of_row w1 p 2 _ _ _ HP1.out).trans (show _ = some (Value.slice none 0 0) from rfl); clear ho hall hb' hk)
        | (at_builtin; refine wpList_append_marks rfl _ _ rfl B (.slice ao i cap) i rfl (HOW1.out.below ((Below.refl _ w1).alloc (Nat.le_refl _) _)) ⟨_, 0, none⟩ 2 2 rfl (by decide) (news_new _ _ _ 2 rfl) (by omega) (by simp; omega) ?_; intro v2 w2 ho hall hb' hk; obtain ⟨a2, c2, rfl⟩ := own_shape (show World.ownsRow w2 B 25 3 v2 (i + 2) (marks (i + 2)) from ho); have HM2 : Hid (w2.heap[w.heap.size]? = some (.cells #[.string ⟨#[35]⟩, .string ⟨#[]⟩, .string ⟨#[]⟩] 25 (0, 0))) := (hk.out _ (by simp; omega) (fun e => by have := HV.out _ e; omega)).trans (alloc_block HM1.out); have HP2 : Hid (w2.heap[p]? = some (.cells #[nilV, nilV, nilV, nilV, nilV] 39 (0, 0))) := (hk.out _ (by simp; omega) HVP.out).trans (alloc_block HP1.out); have HOW2 : Hid (Own w2 B (.slice ao i cap) i) := hall.out _ _ (HOW1.out.below ((Below.refl _ w1).alloc (Nat.le_refl _) _)); have HX1b : Hid (Own w2 B (.slice a1 (i + 1) c1) (i + 1)) := hall.out _ _ (HX1.out.below ((Below.refl _ w1).alloc (Nat.le_refl _) _)); have HX2 : Hid (Own w2 B (.slice a2 (i + 2) c2) (i + 2)) := ho; have HB2 : Hid (Below B w w2) := (HB1.out.alloc (by have := HB1.out.size; omega) _).trans hb'; have hs2 := HB2.out.size; have q20 := (cell_of_row w2 w.heap.size 0 _ _ _ HM2.out).trans (show _ = some (Value.string ⟨#[35]⟩) from rfl); have q21 := (cell_of_row w2 w.heap.size 1 _ _ _ HM2.out).trans (show _ = some (Value.string ⟨#[]⟩) from rfl); have q22 := (cell_of_row w2 w.heap.size 2 _ _ _ HM2.out).trans (show _ = some (Value.string ⟨#[]⟩) from rfl); have r2 := (cell_of_row w2 p 2 _ _ _ HP2.out).trans (show _ = some (Value.slice none 0 0) from rfl); clear ho hall hb' hk)
        | (at_builtin; refine wpList_append_marks rfl _ _ rfl B (.slice ao i cap) i rfl (HOW2.out.below ((Below.refl _ w2).alloc (Nat.le_refl _) _)) ⟨_, 0, none⟩ 3 3 rfl (by decide) (news_new _ _ _ 3 rfl) (by omega) (by simp; omega) ?_; intro v3 w3 ho hall hb' hk; obtain ⟨a3, c3, rfl⟩ := own_shape (show World.ownsRow w3 B 25 3 v3 (i + 3) (marks (i + 3)) from ho); have HM3 : Hid (w3.heap[w.heap.size]? = some (.cells #[.string ⟨#[35]⟩, .string ⟨#[]⟩, .string ⟨#[]⟩] 25 (0, 0))) := (hk.out _ (by simp; omega) (fun e => by have := HV.out _ e; omega)).trans (alloc_block HM2.out); have HP3 : Hid (w3.heap[p]? = some (.cells #[nilV, nilV, nilV, nilV, nilV] 39 (0, 0))) := (hk.out _ (by simp; omega) HVP.out).trans (alloc_block HP2.out); have HOW3 : Hid (Own w3 B (.slice ao i cap) i) := hall.out _ _ (HOW2.out.below ((Below.refl _ w2).alloc (Nat.le_refl _) _)); have HX1c : Hid (Own w3 B (.slice a1 (i + 1) c1) (i + 1)) := hall.out _ _ (HX1b.out.below ((Below.refl _ w2).alloc (Nat.le_refl _) _)); have HX2b : Hid (Own w3 B (.slice a2 (i + 2) c2) (i + 2)) := hall.out _ _ (HX2.out.below ((Below.refl _ w2).alloc (Nat.le_refl _) _)); have HX3 : Hid (Own w3 B (.slice a3 (i + 3) c3) (i + 3)) := ho; have HB3 : Hid (Below B w w3) := (HB2.out.alloc (by have := HB2.out.size; omega) _).trans hb'; have hs3 := HB3.out.size; have q30 := (cell_of_row w3 w.heap.size 0 _ _ _ HM3.out).trans (show _ = some (Value.string ⟨#[35]⟩) from rfl); have q31 := (cell_of_row w3 w.heap.size 1 _ _ _ HM3.out).trans (show _ = some (Value.string ⟨#[]⟩) from rfl); have q32 := (cell_of_row w3 w.heap.size 2 _ _ _ HM3.out).trans (show _ = some (Value.string ⟨#[]⟩) from rfl); have r3 := (cell_of_row w3 p 2 _ _ _ HP3.out).trans (show _ = some (Value.slice none 0 0) from rfl); clear ho hall hb' hk)
        | (at_builtin; refine wpList_append_lies _ rfl _ _ 33 rfl B 22 j0 (.slice none 0 0) 1 24 Tryz.underlying33 hj0 hjz0 hjz1 hjz2 rfl (by decide) (.slice none 0 0) 0 [] rfl (World.ownsRow_nil _ _ _ _) ⟨_, 0, none⟩ 4 4 [.slice ao i cap, .slice a1 (i + 1) c1, .slice a2 (i + 2) c2, .slice a3 (i + 3) c3] rfl rfl (four_new _ _ _ _ _ _) (four_one rfl (own_one HX1c.out) (own_one HX2b.out) (own_one HX3.out)) (by decide) (by unfold maxLen; omega) (by omega) (by simp; omega) _ rfl ?_; intro gb capb w4 hown4 hg4 hat4 hgl4; have HGB : Hid (w3.heap.size < gb) := (show w3.heap.size < gb from hat4.elim (fun h => by cases h) (fun h => by rw [h]; simp)); have hb4 : Below w3.heap.size w3 w4 := ((Below.refl _ w3).alloc (Nat.le_refl _) _).trans (((Below.refl _ _).grown hg4 (Nat.le_refl _) (fun k hk => by cases hk)).mono (by simp)); have HB4 := (show Hid (Below w3.heap.size w3 w4) from hb4); have HP4 : Hid (w4.heap[p]? = some (.cells #[nilV, nilV, nilV, nilV, nilV] 39 (0, 0))) := (hb4.block p (by omega)).trans HP3.out; have r4 := (cell_of_row w4 p 2 _ _ _ HP4.out).trans (show _ = some (Value.slice none 0 0) from rfl); have f4 := frozen_of_row w4 p 2 _ _ HP4.out; have HO4 := (show Hid (World.ownsRow w4 B 22 1 (.slice (some ⟨gb, 0, none⟩) 4 capb) 4 [.slice ao i cap, .slice a1 (i + 1) c1, .slice a2 (i + 2) c2, .slice a3 (i + 3) c3]) from hown4); have HG4 := (show Hid (gb < w4.heap.size) from hgl4); clear hown4 hg4 hgl4 hb4 hat4))
      have hk := setp_kept HP4.out (show w3.heap.size < gb from HGB.out) (by omega) HO4.out HG4.out
      refine bodyPost_end (results_none rfl _ _ _) rfl ⟨rfl, ⟨gb, capb, _, _, _, hk.1, by have := HGB.out; omega, hk.2.1, hk.2.2.1, hk.2.2.2.1, hk.2.2.2.2.1, hk.2.2.2.2.2, own_setp HP4.out (HOW3.out.below HB4.out), own_setp HP4.out (HX1c.out.below HB4.out), own_setp HP4.out (HX2b.out.below HB4.out), own_setp HP4.out (HX3.out.below HB4.out)⟩, (HB3.out.trans (HB4.out.mono (by omega))).setCell hBp _⟩
end Go.Proofs.YtjngbcbkapjkhaaGreatDoor.Lk
