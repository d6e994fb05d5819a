/- Which path comes ahead: the document's look. A list in its order: the document's sorting. Numbers: the document's writing and reading. A number read: the document's. A series written: the document's. What the document reads of a series, purely. -/
import Derived.Test.YtgfbbcnnmoamnaaGreatDoorTrJ
import Derived.Test.YtgfbbcnnmoamnaaGreatDoorMid
namespace Go.Proofs.YtgfbbcnnmoamnaaGreatDoor.Tr
open Go.RowKit Go.Proofs.YtgfbbcnnmoamnaaGreatDoor Go.Proofs.YtgfbbcnnmoamnaaGreatDoor.Lk

/-- does a list of names come ahead of another one? -/
def befL : List (List UInt8) → List (List UInt8) → Bool
  | [], [] => false
  | [], _ :: _ => true
  | _ :: _, [] => false
  | x :: xs, y :: ys => if x = y then befL xs ys else Op.bytesLess x y
def bef (a b : List UInt8) : Bool := befL (splitB 47 a) (splitB 47 b)
theorem drop_at {L : List (List UInt8)} {i : Nat} (hi : i < L.length) : L.drop i = L.getD i [] :: L.drop (i + 1) := by
  rw [List.drop_eq_getElem_cons hi, List.getD_eq_getElem?_getD, List.getElem?_eq_getElem hi]; rfl
theorem befL_end {X Y : List (List UInt8)} {i : Nat} (h : ¬ (i < X.length ∧ i < Y.length)) (hx : i ≤ X.length) (hy : i ≤ Y.length) : befL (X.drop i) (Y.drop i) = decide (X.length < Y.length) := by
  by_cases h1 : i < X.length
  · have : i = Y.length := by omega
    rw [this, List.drop_length, drop_at (this ▸ h1), befL, decide_eq_false (by omega)]
  · have e1 : i = X.length := by omega
    rw [e1, List.drop_length]
    by_cases h2 : X.length < Y.length
    · rw [drop_at h2, befL, decide_eq_true h2]
    · rw [List.drop_eq_nil_of_le (by omega), befL, decide_eq_false h2]
set_option maxRecDepth 8000 in
set_option maxHeartbeats 1000000 in
theorem rBefore_any (a b : List UInt8) (ha : a.length ≤ 1048576) (hb : b.length ≤ 1048576) (w : World) : Calls Tryz.prog 137 #[.string ⟨a.toArray⟩, .string ⟨b.toArray⟩] w fun r w' => r = .returned (.bool (bef a b)) ∧ Below w.heap.size w w' := by
  have HC := (show Hid _ from rCut_any ⟨a.toArray⟩ (by rw [size_of]; omega) 47)
  have HD := (show Hid _ from rCut_any ⟨b.toArray⟩ (by rw [size_of]; omega) 47)
  rw [show splitB 47 (ByteArray.mk a.toArray).data.toList = splitB 47 a from rfl] at HC
  rw [show splitB 47 (ByteArray.mk b.toArray).data.toList = splitB 47 b from rfl] at HD
  rw [show ((47 : UInt8).toNat : Int) = 47 from rfl] at HC HD
  have hm1 := split_many (c := 47) a
  have hc1 : a.count 47 ≤ a.length := List.count_le_length
  have hm2 := split_many (c := 47) b
  have hc2 : b.count 47 ≤ b.length := List.count_le_length
  have hdef : bef a b = befL (splitB 47 a) (splitB 47 b) := rfl
  have hend := fun i => befL_end (X := splitB 47 a) (Y := splitB 47 b) (i := i)
  obtain ⟨X, HX⟩ := hid_intro (splitB 47 a)
  obtain ⟨Y, HY⟩ := hid_intro (splitB 47 b)
  rw [← HX.out] at HC hm1 hdef hend
  rw [← HY.out] at HD hm2 hdef hend
  obtain ⟨n, HN⟩ := hid_intro X.length
  obtain ⟨m, HM⟩ := hid_intro Y.length
  rw [← HN.out] at HC hm1 hend
  rw [← HM.out] at HD hm2 hend
  have HEND := toHid hend
  have HDEF := toHid hdef
  have hn : n ≤ 1048577 := by omega
  have hm : m ≤ 1048577 := by omega
  clear hm1 hm2 hc1 hc2 hdef hend
  obtain ⟨R, HR⟩ := hid_intro (bef a b)
  rw [← HR.out] at HDEF ⊢
  go_enter Tryz.func137, Tryz.ntmps137
  go_wp2_with (first
    | (go_at_call 142; refine (HC.out _).mono ?_; clear HC; rintro e w1 ⟨v1, rfl, ho1, hb1⟩; have HO1 := toHid ho1; have HB1 := toHid hb1; obtain ⟨ao, cap, rfl⟩ := own_shape ho1; clear ho1 hb1)
    | (go_at_call 142; refine (HD.out _).mono ?_; clear HD; rintro e w2 ⟨v2, rfl, ho2, hb2⟩; have HO2 := toHid ho2; have HB2 := toHid (HB1.out.trans (hb2.mono HB1.out.size)); have HO3 := toHid (own_below HO1.out hb2); obtain ⟨bo, dap, rfl⟩ := own_shape ho2; clear ho2 hb2))
  go_loopw [7] (fun vi wr => ∃ i : Nat, i ≤ n ∧ i ≤ m ∧ vi = .int .i64 i ∧ Hid (R = befL (X.drop i) (Y.drop i)) ∧ ∃ q, wr = w2.drewN q) (fun vi _ => n - (intOf vi).toNat)
  case atStart => exact ⟨0, by omega, by omega, rfl, HDEF.out, 0, rfl⟩
  case round =>
    obtain ⟨i, hi1, hi2, rfl, HG, q, hw⟩ := hrel
    rw [hw]; clear hw
    by_cases hlt : i < n ∧ i < m
    · obtain ⟨h1, h2⟩ := hlt
      obtain ⟨g, rfl, c1⟩ := own_str HO3.out HN.out h1
      obtain ⟨g', rfl, c2⟩ := own_str HO2.out HM.out h2
      have hd := HG.out
      rw [drop_at (by rw [← HN.out]; exact h1), drop_at (L := Y) (by rw [← HM.out]; exact h2), befL] at hd
      obtain ⟨x, HXX⟩ := hid_intro (X.getD i [])
      obtain ⟨y, HYY⟩ := hid_intro (Y.getD i [])
      rw [← HXX.out] at hd c1
      rw [← HYY.out] at hd c2
      have HDD := toHid hd
      clear hd HG
      by_cases hxy : x = y
      · have HF : Hid (R = befL (X.drop (i + 1)) (Y.drop (i + 1))) := by show _ = _; rw [HDD.out, if_pos hxy]
        clear HDD
        subst hxy
        go_wp2
        go_quiet (fail)
        go_wp2
        go_roundw
        case rel => exact ⟨i + 1, by omega, by omega, by go_num, HF, by first | exact ⟨_, rfl⟩ | exact ⟨_, trivial⟩ | trivial⟩
        case measure => simp [intOf]; omega
      · have HF : Hid (R = Op.bytesLess x y) := by show _ = _; rw [HDD.out, if_neg hxy]
        have hne : (x == y) = false := beq_eq_false_iff_ne.2 hxy
        clear HDD
        go_wp2
        go_quiet (fail)
        go_wp2
        go_quiet (fail)
        go_wp2
        go_ret
        exact ⟨ret_bool HF.out.symm, below_drewN (below_drewN (below_drewN HB2.out _) _) _⟩
    · have HF : Hid (R = decide (n < m)) := by show _ = _; rw [HG.out, HEND.out i hlt hi1 hi2]
      clear HG
      by_cases h1 : i < n
      · have h2 : ¬ i < m := fun h => hlt ⟨h1, h⟩
        go_wp2
        go_ret
        exact ⟨ret_bool (HF.out.trans (decide_eq_decide.2 (by omega))).symm, below_drewN HB2.out _⟩
      · go_wp2
        go_ret
        exact ⟨ret_bool (HF.out.trans (decide_eq_decide.2 (by omega))).symm, below_drewN HB2.out _⟩
end Go.Proofs.YtgfbbcnnmoamnaaGreatDoor.Tr

namespace Go.Proofs.YtgfbbcnnmoamnaaGreatDoor.Tr
open Go.RowKit Go.Proofs.YtgfbbcnnmoamnaaGreatDoor Go.Proofs.YtgfbbcnnmoamnaaGreatDoor.Lk

/-- where an entry goes in, from the end -/
def posE (e : E) (m : List E) : Nat → Nat
  | 0 => 0
  | k + 1 => if bef e.p (getE m k).p then posE e m k else k + 1
theorem posE_le (e : E) (m : List E) : ∀ k, posE e m k ≤ k
  | 0 => Nat.le_refl _
  | k + 1 => by
    rw [posE]
    split
    · exact Nat.le_succ_of_le (posE_le e m k)
    · exact Nat.le_refl _
def insE (e : E) (m : List E) : List E := m.take (posE e m m.length) ++ e :: m.drop (posE e m m.length)
theorem insE_len (e : E) (m : List E) : (insE e m).length = m.length + 1 := by
  have := posE_le e m m.length
  simp [insE]; omega
/-- the first i, in order -/
def sortTo (l : List E) : Nat → List E
  | 0 => []
  | i + 1 => insE (getE l i) (sortTo l i)
def sortE (l : List E) : List E := sortTo l l.length
theorem sortTo_len (l : List E) : ∀ i, (sortTo l i).length = i
  | 0 => rfl
  | i + 1 => by rw [sortTo, insE_len, sortTo_len l i]
theorem ins_mem {e x : E} {m : List E} (h : x ∈ insE e m) : x = e ∨ x ∈ m := by
  rw [insE] at h
  rcases List.mem_append.1 h with h | h
  · exact .inr (List.mem_of_mem_take h)
  · rcases List.mem_cons.1 h with h | h
    · exact .inl h
    · exact .inr (List.mem_of_mem_drop h)
theorem sortTo_fit {l : List E} (h : FitE l) : ∀ i, i ≤ l.length → FitE (sortTo l i)
  | 0, _ => FitE_nil
  | i + 1, hi => fun x hx => by
    rw [sortTo] at hx
    rcases ins_mem hx with e | e
    · rw [e]; exact h.at (by omega)
    · exact sortTo_fit h i (by omega) x e
theorem hole_len {S : List E} {k : Nat} (h : k ≤ S.length) {x : E} : (S.take k ++ x :: S.drop k).length = S.length + 1 := by simp; omega
theorem hole_set {S : List E} {k : Nat} (h : k ≤ S.length) {x e : E} : (S.take k ++ x :: S.drop k).set k e = S.take k ++ e :: S.drop k := by
  rw [List.set_append_right _ _ (by simp; omega)]
  have : k - (S.take k).length = 0 := by simp; omega
  rw [this]; rfl
theorem hole_get {S : List E} {k : Nat} (h : k < S.length) {x : E} : getE (S.take (k + 1) ++ x :: S.drop (k + 1)) k = getE S k := by
  simp only [getE, List.getD_eq_getElem?_getD]
  rw [List.getElem?_append_left (by simp; omega), List.getElem?_take_of_lt (by omega)]
theorem hole_shift {S : List E} {k : Nat} (h : k < S.length) {x : E} : (S.take (k + 1) ++ x :: S.drop (k + 1)).set (k + 1) (getE S k) = S.take k ++ getE S k :: S.drop k := by
  rw [hole_set (by omega)]
  have e1 : S.take (k + 1) = S.take k ++ [getE S k] := by
    rw [List.take_add_one, List.getElem?_eq_getElem h, getE, List.getD_eq_getElem?_getD, List.getElem?_eq_getElem h]; rfl
  have e2 : S.drop k = getE S k :: S.drop (k + 1) := by
    rw [List.drop_eq_getElem_cons h, getE, List.getD_eq_getElem?_getD, List.getElem?_eq_getElem h]; rfl
  rw [e1, e2]; simp
theorem set_threeE (a b c x y z : Value) (r : List Value) : (((a :: b :: c :: r).set 0 x).set 1 y).set 2 z = x :: y :: z :: r := rfl
theorem ecells_set : ∀ (l : List E) (i : Nat) (e : E), i < l.length → (((ecells l).set (i * 3) (.string ⟨e.p.toArray⟩)).set (i * 3 + 1) (.bool e.dir)).set (i * 3 + 2) (.string ⟨e.b.toArray⟩) = ecells (l.set i e)
  | [], i, e, h => by simp at h
  | x :: l, 0, e, h => by simp [ecells]
  | x :: l, i + 1, e, h => by
    have ih := ecells_set l i e (by simpa using h)
    have e2 : ecells (x :: l) = .string ⟨x.p.toArray⟩ :: .bool x.dir :: .string ⟨x.b.toArray⟩ :: ecells l := by simp [ecells]
    have e3 : ecells ((x :: l).set (i + 1) e) = .string ⟨x.p.toArray⟩ :: .bool x.dir :: .string ⟨x.b.toArray⟩ :: ecells (l.set i e) := by simp [ecells]
    rw [e2, e3, ← ih, show (i + 1) * 3 = i * 3 + 1 + 1 + 1 by omega, show i * 3 + 1 + 1 + 1 + 1 = (i * 3 + 1) + 1 + 1 + 1 from rfl, show i * 3 + 1 + 1 + 1 + 2 = (i * 3 + 2) + 1 + 1 + 1 from rfl]
    simp only [List.set_cons_succ]
theorem own_setE {w : World} {B g n cap : Nat} {L : List E} (h : w.ownsRow B 47 3 (.slice (some ⟨g, 0, none⟩) n cap) n (ecells L)) (i : Nat) (e : E) (hi : i < L.length) :
    (((w.setCell ⟨g, i * 3, none⟩ (.string ⟨e.p.toArray⟩)).setCell ⟨g, i * 3 + 1, none⟩ (.bool e.dir)).setCell ⟨g, i * 3 + 2, none⟩ (.string ⟨e.b.toArray⟩)).ownsRow B 47 3 (.slice (some ⟨g, 0, none⟩) n cap) n (ecells (L.set i e)) := by
  have hln := h.1
  refine ⟨by rw [ecells_len] at hln ⊢; simpa using hln, ?_⟩
  rcases h.2 with ⟨hv, _⟩ | ⟨b, cap', cur, hv, h1, hb, h2, h3, h4, h5⟩
  · cases hv
  · injection hv with hv _ hc
    injection hv with hv
    injection hv with hv
    subst hv hc
    have e1 := heap_setCell_same _ _ (i * 3) _ _ (.string ⟨e.p.toArray⟩) hb
    have e2 := heap_setCell_same _ _ (i * 3 + 1) _ _ (.bool e.dir) e1
    have e3 := heap_setCell_same _ _ (i * 3 + 2) _ _ (.string ⟨e.b.toArray⟩) e2
    refine .inr ⟨g, cap, _, rfl, h1, e3, h2, h3, by simpa using h4, ?_⟩
    rw [← ecells_set L i e hi, ← h5]
    simp [List.take_set]
theorem own_cellsE {w : World} {B n cap : Nat} {ao : Option Addr} {L : List E} (h : w.ownsRow B 47 3 (.slice ao n cap) n (ecells L)) (hn : n = L.length) {i : Nat} (hi : i < n) : ∃ g, ao = some ⟨g, 0, none⟩ ∧ B ≤ g ∧ g < w.heap.size ∧ w.cell? ⟨g, i * 3, none⟩ = some (.string ⟨(getE L i).p.toArray⟩) ∧ w.cell? ⟨g, i * 3 + 1, none⟩ = some (.bool (getE L i).dir) ∧ w.cell? ⟨g, i * 3 + 2, none⟩ = some (.string ⟨(getE L i).b.toArray⟩) ∧ w.frozen? ⟨g, i * 3, none⟩ = false ∧ w.frozen? ⟨g, i * 3 + 1, none⟩ = false ∧ w.frozen? ⟨g, i * 3 + 2, none⟩ = false := by
  subst hn
  rcases h.2 with ⟨_, h0⟩ | ⟨b, cap', cur, hv, h1, hb, h2, h3, h4, h5⟩
  · omega
  · injection hv with hv _ hc
    refine ⟨b, hv, h1, lt_of_block hb, ?_, ?_, ?_, frozen_of_row _ _ _ _ _ hb, frozen_of_row _ _ _ _ _ hb, frozen_of_row _ _ _ _ _ hb⟩
    all_goals
      have hj : L[i]? = some (getE L i) := by rw [getE, List.getD_eq_getElem?_getD, List.getElem?_eq_getElem hi]; rfl
      obtain ⟨c1, c2, c3⟩ := ecells_get L i _ hj
      have key : ∀ i, i < L.length * 3 → cur[i]? = (ecells L)[i]? := fun i hi => by
        rw [← h5, List.getElem?_take_of_lt hi, Array.getElem?_toList]
      rw [cell_of_row _ _ _ _ _ _ hb, key _ (by omega)]
      first | exact c1 | exact c2 | exact c3
set_option maxRecDepth 8000 in
set_option maxHeartbeats 1000000 in
theorem rSorted_any (l : List E) (hl : l.length ≤ 1048576) (hft : FitE l) (ao : Option Addr) (cap : Nat) (w : World) (hat : LiesE w ao l) :
    Calls Tryz.prog 78 #[.slice ao l.length cap] w fun r w' => ∃ v, r = .returned v ∧ w'.ownsRow w.heap.size 47 3 v l.length (ecells (sortE l)) ∧ Below w.heap.size w w' := by
  have HAT : Hid (LiesE w ao l) := hat
  have HFT : Hid (FitE l) := hft
  clear hat hft
  obtain ⟨i0, hi0, hz0, hz1, hz2⟩ := info_parts infoEntry
  have hS : sortE l = sortTo l l.length := rfl
  obtain ⟨n, HN⟩ := hid_intro l.length
  rw [← HN.out] at hl hS ⊢
  have HS := toHid hS
  clear hS
  go_enter Tryz.func78, Tryz.ntmps78
  go_wp2
  go_loopw [3, 4] (fun vo vi wr => ∃ i : Nat, i ≤ n ∧ vi = .int .i64 i ∧ Hid (wr.ownsRow w.heap.size 47 3 vo i (ecells (sortTo l i))) ∧ Below w.heap.size w wr) (fun _ vi _ => n - (intOf vi).toNat)
  case atStart => exact ⟨0, by omega, rfl, World.ownsRow_nil _ _ _ _, Below.refl ..⟩
  case round =>
    obtain ⟨i, hi, rfl, HO, hb⟩ := hrel
    have hbs := hb.size
    by_cases hlt : i < n
    · obtain ⟨g, o, rfl, c1, c2, c3⟩ := (HAT.out.below hb).at (i := i) (by rw [← HN.out]; exact hlt)
      have hst : sortTo l (i + 1) = insE (getE l i) (sortTo l i) := rfl
      have hsl := sortTo_len l i
      obtain ⟨e, HE⟩ := hid_intro (getE l i)
      obtain ⟨S, HSS⟩ := hid_intro (sortTo l i)
      rw [← HE.out] at c1 c2 c3 hst
      rw [← HSS.out] at hst hsl HO
      have HSN := toHid (ecells_snoc S e)
      obtain ⟨SS, HSC⟩ := hid_intro (ecells S)
      rw [← HSC.out] at HO HSN
      have HST := toHid hst
      clear hst
      obtain ⟨bo, dap, hv⟩ := own_shape HO.out
      subst hv
      go_wp2_with (at_builtin; go_must (refine wpList_append_lies _ rfl _ _ 26 rfl w.heap.size 47 i0 (.agg #[.string ⟨#[]⟩, .bool false, .string ⟨#[]⟩]) 3 40 Tryz.underlying26 hi0 hz0 hz1 hz2 rfl (by decide) _ i SS rfl (World.ownsRow.alloc HO.out _) ⟨_, 0, none⟩ 1 1 [.string ⟨e.p.toArray⟩, .bool e.dir, .string ⟨e.b.toArray⟩] rfl rfl (cell_three_add _ _ _ _ _) (by simp [Value.oneCell']) (by decide) (by unfold maxLen; omega) (by omega) (by simp; omega) _ rfl ?_); intro g2 cap2 w5 hown5 hg5 hat _; have HO5 := toHid hown5; have HB5 : Hid (Below w.heap.size w w5) := grown_below (hb.alloc hbs _) (World.ownsRow.alloc HO.out _) (Nat.le_refl _) (by simp; omega) hg5; clear hown5 hg5 hat)
      have hP0 : S.take i ++ e :: S.drop i = S ++ [e] := by rw [← hsl, List.take_length, List.drop_length]
      have HO6 : Hid (w5.ownsRow w.heap.size 47 3 (.slice (some ⟨g2, 0, none⟩) (i + 1) cap2) (i + 1) (ecells (S.take i ++ e :: S.drop i))) := by show World.ownsRow _ _ _ _ _ _ _; rw [hP0, HSN.out]; exact HO5.out
      have hel := HFT.out.at (i := i) (by rw [← HN.out]; exact hlt)
      have HSF : Hid (∀ j, j < S.length → (getE S j).p.length ≤ 1048576) := fun j hj => by rw [HSS.out] at hj ⊢; exact (sortTo_fit HFT.out i (by rw [← HN.out]; omega)).at hj |>.1
      rw [← HE.out] at hel
      clear hP0 HO5 HSN HSC HO c1 c2 c3 hb hbs
      have hLL : Hid (posE e S i = posE e S S.length) := by show _ = _; rw [hsl]
      go_loopw [5] (fun vk wr => ∃ (k : Nat) (x : E), k ≤ i ∧ vk = .int .i64 k ∧ Hid (posE e S k = posE e S S.length) ∧ Hid (wr.ownsRow w.heap.size 47 3 (.slice (some ⟨g2, 0, none⟩) (i + 1) cap2) (i + 1) (ecells (S.take k ++ x :: S.drop k))) ∧ Below w.heap.size w wr) (fun vk _ => (intOf vk).toNat)
      case atStart => exact ⟨i, e, Nat.le_refl _, rfl, hLL, HO6, HB5.out⟩
      case round =>
        obtain ⟨k, x, hk, rfl, HK, HO, hb⟩ := hrel
        have hbs := hb.size
        obtain ⟨d1, d2, d3⟩ := (HAT.out.below hb).cells (i := i) (by rw [← HN.out]; exact hlt)
        rw [← HE.out] at d1 d2 d3
        have hlen : i + 1 = (S.take k ++ x :: S.drop k).length := by rw [hole_len (by omega), hsl]
        obtain ⟨g3, hg3, hB3, hgl, p1, p2, p3, z1, z2, z3⟩ := own_cellsE HO.out hlen (i := k) (by omega)
        injection hg3 with hg3
        injection hg3 with hg3
        subst hg3
        cases k with
        | zero =>
          have HQ := toHid (own_setE HO.out 0 e (by rw [← hlen]; omega))
          rw [hole_set (by omega)] at HQ
          have HR : Hid (S.take 0 ++ e :: S.drop 0 = sortTo l (i + 1)) := by show _ = _; rw [HST.out, insE, ← HK.out]; rfl
          rw [HR.out] at HQ
          clear HR HO hlen HK
          go_wp2
          go_roundw
          case rel => exact ⟨i + 1, by omega, by go_num, HQ, ((hb.setCell hB3 _).setCell hB3 _).setCell hB3 _⟩
          case measure => simp [intOf]; omega
        | succ k =>
          have hkS : k < S.length := by omega
          have hpos : posE e S (k + 1) = if bef e.p (getE S k).p then posE e S k else k + 1 := rfl
          have hgk := hole_get hkS (x := x)
          have hyl := HSF.out k hkS
          have HSH := toHid (hole_shift hkS (x := x))
          have HSE := toHid (hole_set (S := S) (k := k + 1) (by omega) (x := x) (e := e))
          have HLEN := toHid hlen
          have HGK := toHid hgk
          clear hlen p1 p2 p3 z1 z2 z3 hkS
          obtain ⟨g3, hg3, _, _, p1, p2, p3, _, _, _⟩ := own_cellsE HO.out HLEN.out (i := k) (by omega)
          injection hg3 with hg3
          injection hg3 with hg3
          subst hg3
          rw [hgk] at p1 p2 p3
          obtain ⟨y, HY⟩ := hid_intro (getE S k)
          rw [← HY.out] at p1 p2 p3 hyl hpos HSH
          have HBE := toHid (fun w => rBefore_any e.p y.p hel.1 hyl w)
          have HPOS := toHid (hpos.symm.trans HK.out)
          clear hpos hgk HK p2 p3 d2 d3
          have hki : (k : Int) < (i : Int) + 1 := by omega
          have hsub : IntKind.i64.wrap (k : Int) = k := by rw [IntKind.wrap_i64]; omega
          cases hbe : bef e.p y.p with
          | true =>
            rw [hbe] at HBE
            have HK2 : Hid (posE e S k = posE e S S.length) := by have := HPOS.out; rw [hbe] at this; exact this
            clear HPOS hbe HSE
            go_wp2
            refine region_mid 11 _ _ rfl rfl (by kernel_rfl) (by kernel_rfl) ?_
            simp only [List.take_succ_cons, List.take_zero]
            repeat still_step
            refine wpStill_nil (fun K hK => ?_)
            go_simp
            refine (HBE.out _).mono ?_; rintro e2 w6 ⟨rfl, hb6⟩
            refine hK _ _ ?_
            clear hK K
            repeat still_step
            refine wpStill_nil ?_
            have HBW6 : Hid (Below wr.heap.size wr w6) := ((Below.refl _ wr).drew).trans (hb6.mono (by simp))
            have HB6 : Hid (Below w.heap.size w w6) := hb.trans (HBW6.out.mono hbs)
            have HO7 := toHid (own_below HO.out HBW6.out)
            obtain ⟨g3, hg3, hB4, _, q1, q2, q3, _, _, _⟩ := own_cellsE HO7.out HLEN.out (i := k) (by omega)
            injection hg3 with hg3
            injection hg3 with hg3
            subst hg3
            obtain ⟨g3, hg3, _, _, r1, r2, r3, z1, z2, z3⟩ := own_cellsE HO7.out HLEN.out (i := k + 1) (by omega)
            injection hg3 with hg3
            injection hg3 with hg3
            subst hg3
            rw [HGK.out, ← HY.out] at q1 q2 q3
            obtain ⟨s1, s2, s3⟩ := (HAT.out.below HB6.out).cells (i := i) (by rw [← HN.out]; exact hlt)
            rw [← HE.out] at s1 s2 s3
            clear hb6 d1 p1
            have HQ := toHid (own_setE HO7.out (k + 1) y (by rw [← HLEN.out]; omega))
            rw [HSH.out] at HQ
            clear HSH HO HO7 HBE HLEN
            go_wp2
            go_roundw
            case rel => exact ⟨k, y, by omega, by go_num, HK2, HQ, ((HB6.out.setCell hB4 _).setCell hB4 _).setCell hB4 _⟩
            case measure => simp [intOf]
          | false =>
            rw [hbe] at HBE
            have HK2 : Hid (k + 1 = posE e S S.length) := by have := HPOS.out; rw [hbe] at this; exact this
            clear HPOS hbe HSH
            go_wp2
            refine region_mid 11 _ _ rfl rfl (by kernel_rfl) (by kernel_rfl) ?_
            simp only [List.take_succ_cons, List.take_zero]
            repeat still_step
            refine wpStill_nil (fun K hK => ?_)
            go_simp
            refine (HBE.out _).mono ?_; rintro e2 w6 ⟨rfl, hb6⟩
            refine hK _ _ ?_
            clear hK K
            repeat still_step
            refine wpStill_nil ?_
            have HBW6 : Hid (Below wr.heap.size wr w6) := ((Below.refl _ wr).drew).trans (hb6.mono (by simp))
            have HB6 : Hid (Below w.heap.size w w6) := hb.trans (HBW6.out.mono hbs)
            have HO7 := toHid (own_below HO.out HBW6.out)
            obtain ⟨g3, hg3, hB4, _, q1, q2, q3, _, _, _⟩ := own_cellsE HO7.out HLEN.out (i := k) (by omega)
            injection hg3 with hg3
            injection hg3 with hg3
            subst hg3
            obtain ⟨g3, hg3, _, _, r1, r2, r3, z1, z2, z3⟩ := own_cellsE HO7.out HLEN.out (i := k + 1) (by omega)
            injection hg3 with hg3
            injection hg3 with hg3
            subst hg3
            rw [HGK.out, ← HY.out] at q1 q2 q3
            obtain ⟨s1, s2, s3⟩ := (HAT.out.below HB6.out).cells (i := i) (by rw [← HN.out]; exact hlt)
            rw [← HE.out] at s1 s2 s3
            clear hb6 d1 p1
            have HQ := toHid (own_setE HO7.out (k + 1) e (by rw [← HLEN.out]; omega))
            rw [HSE.out] at HQ
            have HR : Hid (S.take (k + 1) ++ e :: S.drop (k + 1) = sortTo l (i + 1)) := by show _ = _; rw [HST.out, insE, ← HK2.out]
            rw [HR.out] at HQ
            clear HSE HO HO7 HBE HLEN HR
            go_wp2
            go_roundw
            case rel => exact ⟨i + 1, by omega, by go_num, HQ, ((HB6.out.setCell hB4 _).setCell hB4 _).setCell hB4 _⟩
            case measure => simp [intOf]; omega
    · obtain rfl : i = n := by omega
      obtain ⟨bo, dap, hv⟩ := own_shape HO.out
      subst hv
      go_wp2
      go_ret
      exact ⟨_, rfl, by rw [HS.out]; exact HO.out, hb⟩
end Go.Proofs.YtgfbbcnnmoamnaaGreatDoor.Tr

namespace Go.Proofs.YtgfbbcnnmoamnaaGreatDoor.Tr
open Go.RowKit Go.Proofs.YtgfbbcnnmoamnaaGreatDoor Go.Proofs.YtgfbbcnnmoamnaaGreatDoor.Lk

def digitsB : ByteArray := ⟨#[48, 49, 50, 51, 52, 53, 54, 55, 56, 57]⟩
theorem digit_at : ∀ d, d < 10 → digitsB.extract d (d + 1) = ⟨#[UInt8.ofNat (48 + d)]⟩ := by
  intro d hd
  rw [extract_list]
  have : ∀ d, d < 10 → ((digitsB.data.toList.take (d + 1)).drop d) = [UInt8.ofNat (48 + d)] := by decide
  rw [this d hd]
set_option maxRecDepth 8000 in
set_option maxHeartbeats 1000000 in
theorem rDecimal_any (n : Nat) (hn : n ≤ 1048576) (w : World) : Calls Tryz.prog 138 #[.int .i64 (n : Int)] w fun r w' => r = .returned (.string ⟨(decB n).toArray⟩) ∧ w' = w := by
  obtain ⟨R, HR⟩ := hid_intro (decB n)
  rw [← HR.out]
  go_enter Tryz.func138, Tryz.ntmps138
  go_wp2
  go_loopw [0, 3] (fun vn vs wr => ∃ (m : Nat) (t : List UInt8), vn = .int .i64 (m : Int) ∧ vs = .string ⟨t.toArray⟩ ∧ t.length + m ≤ n ∧ Hid (R = decB m ++ t) ∧ wr = w) (fun vn _ _ => (intOf vn).toNat)
  case atStart => exact ⟨n, [], rfl, rfl, by simp, by show _ = _; rw [HR.out]; simp, rfl⟩
  case round =>
    obtain ⟨m, t, rfl, rfl, hm, HT, hw⟩ := hrel
    rw [hw]; clear hw
    by_cases h9 : m < 10
    · have hd := digit_at m h9
      have hsl := slice_str digitsB (m : Int) ((m : Int) + 1) m (m + 1) rfl (by omega) (by omega) (by show _ ≤ 10; omega)
      rw [hd] at hsl
      unfold digitsB at hsl
      have HF : Hid (R = UInt8.ofNat (48 + m) :: t) := by show _ = _; rw [HT.out, decB_small h9]; rfl
      clear HT hd
      go_wp2
      go_ret
      refine ⟨?_, rfl⟩
      rw [HF.out]
      show Ending.returned (.string (⟨#[48 + UInt8.ofNat m]⟩ ++ ⟨t.toArray⟩)) = _
      congr 2
      apply ByteArray.ext
      simp [ByteArray.data_append]
    · have hmod : m % 10 < 10 := Nat.mod_lt _ (by decide)
      have hd := digit_at (m % 10) hmod
      have hsl := slice_str digitsB ((m % 10 : Nat) : Int) (((m % 10 : Nat) : Int) + 1) (m % 10) (m % 10 + 1) rfl (by omega) (by omega) (by show _ ≤ 10; omega)
      rw [hd] at hsl
      unfold digitsB at hsl
      have HF : Hid (R = decB (m / 10) ++ (UInt8.ofNat (48 + m % 10) :: t)) := by show _ = _; rw [HT.out, decB_big h9]; simp
      clear HT
      go_wp2
      go_roundw
      case rel =>
        refine ⟨m / 10, UInt8.ofNat (48 + m % 10) :: t, by go_num, ?_, by simp; omega, HF, by first | rfl | trivial⟩
        have e := hd
        unfold digitsB at e
        rw [e]
        congr 1
      case measure => simp [intOf]; omega
end Go.Proofs.YtgfbbcnnmoamnaaGreatDoor.Tr

namespace Go.Proofs.YtgfbbcnnmoamnaaGreatDoor.Tr
open Go.RowKit Go.Proofs.YtgfbbcnnmoamnaaGreatDoor Go.Proofs.YtgfbbcnnmoamnaaGreatDoor.Lk

/-- a number that is written; -1: it is none, or too great -/
def sizeB (acc : Nat) : List UInt8 → Int
  | [] => (acc : Int)
  | c :: r => if 48 ≤ c.toNat ∧ c.toNat ≤ 57 ∧ acc ≤ 20000 then sizeB (10 * acc + (c.toNat - 48)) r else -1
theorem sizeB_snoc {c : UInt8} (hc : 48 ≤ c.toNat ∧ c.toNat ≤ 57) : ∀ {l : List UInt8} {acc n : Nat}, sizeB acc l = (n : Int) → n ≤ 20000 → sizeB acc (l ++ [c]) = ((10 * n + (c.toNat - 48) : Nat) : Int)
  | [], acc, n, h, hn => by
    have e : acc = n := by rw [sizeB] at h; omega
    subst e
    rw [List.nil_append, sizeB, if_pos ⟨hc.1, hc.2, hn⟩, sizeB]
  | a :: r, acc, n, h, hn => by
    rw [sizeB] at h
    split at h
    · rename_i hx
      rw [List.cons_append, sizeB, if_pos hx]
      exact sizeB_snoc hc h hn
    · omega
theorem size_dec : ∀ (n : Nat), n ≤ 200000 → sizeB 0 (decB n) = (n : Int) := by
  intro n
  induction n using Nat.strongRecOn with
  | _ n ih =>
    intro hn
    by_cases h : n < 10
    · rw [decB_small h, sizeB, dig_nat h, if_pos ⟨by omega, by omega, by omega⟩, sizeB]
      omega
    · rw [decB_big h, sizeB_snoc (by rw [dig_nat (Nat.mod_lt _ (by decide))]; omega) (ih (n / 10) (by omega) (by omega)) (by omega), dig_nat (Nat.mod_lt _ (by decide))]
      omega
theorem sizeB_step {l : List UInt8} {i : Nat} (hi : i < l.length) (acc : Nat) : sizeB acc (l.drop i) = if 48 ≤ (l.getD i 0).toNat ∧ (l.getD i 0).toNat ≤ 57 ∧ acc ≤ 20000 then sizeB (10 * acc + ((l.getD i 0).toNat - 48)) (l.drop (i + 1)) else -1 := by
  rw [List.drop_eq_getElem_cons hi, sizeB, List.getD_eq_getElem?_getD, List.getElem?_eq_getElem hi]; rfl
set_option maxRecDepth 8000 in
set_option maxHeartbeats 1000000 in
theorem rSize_any (s : ByteArray) (hs : s.size ≤ 1048576) (w : World) : Calls Tryz.prog 207 #[.string s] w fun r w' => r = .returned (.int .i64 (sizeB 0 s.data.toList)) ∧ w' = w := by
  have hl := len_data s
  have hx : ∀ (i : Nat) (h : i < s.size) (w : World), (Instr.index 9 (.string s) (.int .i64 (i : Int))).run Tryz.prog w = .ok (.int .u8 ((s.data.toList.getD i 0).toNat : Int)) w := fun i h w => by
    rw [idx_str s i i rfl h w, byte_at s i h]
  obtain ⟨l, HL⟩ := hid_intro s.data.toList
  rw [← HL.out] at hl hx ⊢
  have HX := (show Hid _ from hx)
  have HLL := (show Hid _ from hl)
  clear hx hl
  obtain ⟨R, HR⟩ := hid_intro (sizeB 0 l)
  rw [← HR.out]
  go_enter Tryz.func207, Tryz.ntmps207
  go_wp2
  go_loopw [3, 4] (fun vn vi wr => ∃ (acc i : Nat), vn = .int .i64 (acc : Int) ∧ vi = .int .i64 (i : Int) ∧ i ≤ s.size ∧ acc ≤ 200009 ∧ Hid (R = sizeB acc (l.drop i)) ∧ wr = w) (fun _ vi _ => s.size - (intOf vi).toNat)
  case atStart => exact ⟨0, 0, rfl, rfl, Nat.zero_le _, by omega, HR.out, rfl⟩
  case round =>
    obtain ⟨acc, i, rfl, rfl, hi, hacc, HG, hw⟩ := hrel
    rw [hw]; clear hw
    by_cases hlt : i < s.size
    · have hst := sizeB_step (l := l) (i := i) (by rw [HLL.out]; exact hlt) acc
      have hidx := HX.out i hlt
      have hcl := (l.getD i 0).toNat_lt
      obtain ⟨c, HC⟩ := hid_intro (l.getD i 0).toNat
      rw [← HC.out] at hst hidx hcl
      have HST := toHid (HG.out.trans hst)
      clear hst HG
      by_cases hc : 48 ≤ c ∧ c ≤ 57 ∧ acc ≤ 20000
      · have HF : Hid (R = sizeB (10 * acc + (c - 48)) (l.drop (i + 1))) := by show _ = _; rw [HST.out, if_pos hc]
        obtain ⟨k1, k2, k3⟩ := hc
        clear HST
        have n1 : decide ((c : Int) < 48) = false := decide_eq_false (by omega)
        have n2 : decide ((57 : Int) < (c : Int)) = false := decide_eq_false (by omega)
        have n3 : decide ((20000 : Int) < (acc : Int)) = false := decide_eq_false (by omega)
        go_wp2
        go_roundw
        case rel => exact ⟨10 * acc + (c - 48), i + 1, by go_num, by go_num, by omega, by omega, HF, by first | rfl | trivial⟩
        case measure => simp [intOf]; omega
      · have HF : Hid (R = -1) := by show _ = _; rw [HST.out, if_neg hc]
        clear HST
        by_cases k1 : c < 48
        · have n1 : decide ((c : Int) < 48) = true := decide_eq_true (by omega)
          go_wp2
          go_ret
          exact ⟨ret_int HF.out.symm, rfl⟩
        · have n1 : decide ((c : Int) < 48) = false := decide_eq_false (by omega)
          by_cases k2 : 57 < c
          · have n2 : decide ((57 : Int) < (c : Int)) = true := decide_eq_true (by omega)
            go_wp2
            go_ret
            exact ⟨ret_int HF.out.symm, rfl⟩
          · have n2 : decide ((57 : Int) < (c : Int)) = false := decide_eq_false (by omega)
            have n3 : decide ((20000 : Int) < (acc : Int)) = true := decide_eq_true (by omega)
            go_wp2
            go_ret
            exact ⟨ret_int HF.out.symm, rfl⟩
    · obtain rfl : i = s.size := by omega
      have HF : Hid (R = (acc : Int)) := by show _ = _; rw [HG.out, ← HLL.out, List.drop_length, sizeB]
      clear HG
      go_wp2
      go_ret
      exact ⟨ret_int HF.out.symm, rfl⟩
end Go.Proofs.YtgfbbcnnmoamnaaGreatDoor.Tr

namespace Go.Proofs.YtgfbbcnnmoamnaaGreatDoor.Tr
open Go.RowKit Go.Proofs.YtgfbbcnnmoamnaaGreatDoor Go.Proofs.YtgfbbcnnmoamnaaGreatDoor.Lk

theorem decB_len (n : Nat) : (decB n).length ≤ n + 1 := by
  induction n using Nat.strongRecOn with
  | _ n ih =>
    by_cases h : n < 10
    · rw [decB_small h]; simp
    · have := ih (n / 10) (by omega)
      rw [decB_big h, List.length_append]
      simp only [List.length_singleton]
      omega
theorem lineE_len {e : E} (h1 : e.p.length ≤ 1048576) (h2 : e.b.length ≤ 1048576) : (lineE e).length ≤ 4194304 := by
  have := decB_len e.b.length
  rw [lineE]
  split
  · simp; omega
  · simp; omega
theorem cat_dir (t : List UInt8) {e : E} (h : e.dir = true) : (⟨t.toArray⟩ ++ ⟨#[100, 32]⟩ ++ ⟨e.p.toArray⟩ ++ ⟨#[10]⟩ : ByteArray) = ⟨(t ++ lineE e).toArray⟩ := by
  apply ByteArray.ext
  simp [ByteArray.data_append, lineE, h]
theorem cat_file (t : List UInt8) {e : E} (h : e.dir = false) : (⟨t.toArray⟩ ++ ⟨#[102, 32]⟩ ++ ⟨(decB e.b.length).toArray⟩ ++ ⟨#[32]⟩ ++ ⟨e.p.toArray⟩ ++ ⟨#[10]⟩ ++ ⟨e.b.toArray⟩ ++ ⟨#[10]⟩ : ByteArray) = ⟨(t ++ lineE e).toArray⟩ := by
  apply ByteArray.ext
  simp [ByteArray.data_append, lineE, h]
theorem cat_end (t : List UInt8) (n : Nat) : (⟨t.toArray⟩ ++ ⟨#[101, 110, 100, 32]⟩ ++ ⟨(decB n).toArray⟩ ++ ⟨#[10]⟩ : ByteArray) = ⟨(t ++ (endB ++ [32] ++ decB n ++ [10])).toArray⟩ := by
  apply ByteArray.ext
  simp [ByteArray.data_append, endB]
theorem lines_step {S : List E} {i : Nat} (hi : i < S.length) : (S.take (i + 1)).flatMap lineE = (S.take i).flatMap lineE ++ lineE (getE S i) := by
  have e1 : S.take (i + 1) = S.take i ++ [getE S i] := by
    rw [List.take_add_one, List.getElem?_eq_getElem hi, getE, List.getD_eq_getElem?_getD, List.getElem?_eq_getElem hi]; rfl
  rw [e1]; simp
set_option maxRecDepth 8000 in
set_option maxHeartbeats 1000000 in
theorem rSeries_any (l : List E) (hl : l.length ≤ 1048576) (hft : FitE l) (ao : Option Addr) (cap : Nat) (w : World) (hat : LiesE w ao l) :
    Calls Tryz.prog 79 #[.slice ao l.length cap] w fun r w' => r = .returned (.string ⟨(serE (sortE l)).toArray⟩) ∧ Below w.heap.size w w' := by
  have HSO := toHid (rSorted_any l hl hft ao cap w hat)
  have hsl : (sortE l).length = l.length := sortTo_len l l.length
  have hsf : FitE (sortE l) := sortTo_fit hft _ (Nat.le_refl _)
  obtain ⟨S, HS⟩ := hid_intro (sortE l)
  rw [← HS.out] at HSO hsl hsf ⊢
  have HSF := toHid hsf
  clear hsf hft hat
  obtain ⟨n, HN⟩ := hid_intro l.length
  rw [← HN.out] at HSO hsl hl ⊢
  obtain ⟨R, HR⟩ := hid_intro (serE S)
  rw [← HR.out]
  go_enter Tryz.func79, Tryz.ntmps79
  go_wp2_with (go_at_call 78; refine HSO.out.mono ?_; clear HSO; rintro e w1 ⟨v1, rfl, ho1, hb1⟩; have HO := toHid ho1; have HB := toHid hb1; obtain ⟨bo, dap, rfl⟩ := own_shape ho1; clear ho1 hb1)
  go_loopw [3, 5] (fun vs vi wr => ∃ (t : List UInt8) (i : Nat), vs = .string ⟨t.toArray⟩ ∧ vi = .int .i64 (i : Int) ∧ i ≤ n ∧ t.length ≤ 10 + i * 4194304 ∧ Hid (t = headB ++ (S.take i).flatMap lineE) ∧ ∃ q, wr = w1.drewN q) (fun _ vi _ => n - (intOf vi).toNat)
  case atStart => exact ⟨headB, 0, rfl, rfl, Nat.zero_le _, by decide, by show _ = _; simp, 0, rfl⟩
  case round =>
    obtain ⟨t, i, rfl, rfl, hi, htl, HT, q, hw⟩ := hrel
    rw [hw]; clear hw
    by_cases hlt : i < n
    · obtain ⟨g, rfl, _, _, c1, c2, c3, _, _, _⟩ := own_cellsE HO.out hsl.symm hlt
      obtain ⟨hpl, hbl⟩ := HSF.out.at (i := i) (by omega)
      have hst := lines_step (S := S) (i := i) (by omega)
      obtain ⟨e, HE⟩ := hid_intro (getE S i)
      rw [← HE.out] at c1 c2 c3 hpl hbl hst
      have hll := lineE_len hpl hbl
      have HT2 : Hid (t ++ lineE e = headB ++ (S.take (i + 1)).flatMap lineE) := by show _ = _; rw [hst, HT.out, List.append_assoc]
      clear hst HT
      cases hd : e.dir with
      | true =>
        have hcat := cat_dir t hd
        rw [hd] at c2
        go_wp2
        go_roundw
        case rel => exact ⟨t ++ lineE e, i + 1, rfl, by go_num, by omega, by rw [List.length_append]; omega, HT2, by first | exact ⟨_, rfl⟩ | exact ⟨_, trivial⟩⟩
        case measure => simp [intOf]; omega
      | false =>
        have hcat := cat_file t hd
        rw [hd] at c2
        have HDE := toHid (fun w => rDecimal_any e.b.length hbl w)
        have hdl := decB_len e.b.length
        go_wp2
        go_quiet (first | (go_at_call 138; refine quiet_plus_same (HDE.out _)) | (go_at_call 138; refine Calls.quiet_of_same (HDE.out _)))
        go_wp2
        go_roundw
        case rel => exact ⟨t ++ lineE e, i + 1, rfl, by go_num, by omega, by rw [List.length_append]; omega, HT2, by first | exact ⟨_, rfl⟩ | exact ⟨_, trivial⟩⟩
        case measure => simp [intOf]; omega
    · obtain rfl : i = n := by omega
      have HDE := toHid (fun w => rDecimal_any i hl w)
      have hcat := cat_end t i
      have hdl := decB_len i
      go_wp2_with (go_at_call 138; refine (HDE.out _).mono ?_; clear HDE; rintro e w2 ⟨rfl, hw2⟩; rw [hw2]; clear hw2)
      go_ret
      refine ⟨?_, below_drewN HB.out _⟩
      have hfin : R = t ++ (endB ++ 32 :: (decB i ++ [10])) := by
        rw [HR.out, HT.out, serE, bodyE, hsl, ← hsl, List.take_length]
        simp
      rw [hfin]
      rfl
end Go.Proofs.YtgfbbcnnmoamnaaGreatDoor.Tr

namespace Go.Proofs.YtgfbbcnnmoamnaaGreatDoor.Tr
open Go.Proofs.YtgfbbcnnmoamnaaGreatDoor.Lk

/-- one line: none: it is the end; none within: it may not be; else its entry, and what is behind it -/
def stepR (rest : List UInt8) : Option (Option (E × List UInt8)) :=
  if (cutB 10 rest).2.2 = false ∨ (splitB 32 (cutB 10 rest).1).length < 2 ∨ (splitB 32 (cutB 10 rest).1).getD 0 [] = endB then none
  else if (splitB 32 (cutB 10 rest).1).getD 0 [] = [100] then some (some (⟨(splitB 32 (cutB 10 rest).1).getD ((splitB 32 (cutB 10 rest).1).length - 1) [], true, []⟩, (cutB 10 rest).2.1))
  else if sizeB 0 ((splitB 32 (cutB 10 rest).1).getD 1 []) < 0 ∨ sizeB 0 ((splitB 32 (cutB 10 rest).1).getD 1 []) + 1 > ((cutB 10 rest).2.1.length : Int) then some none
  else some (some (⟨(splitB 32 (cutB 10 rest).1).getD ((splitB 32 (cutB 10 rest).1).length - 1) [], false, (cutB 10 rest).2.1.take (sizeB 0 ((splitB 32 (cutB 10 rest).1).getD 1 [])).toNat⟩, (cutB 10 rest).2.1.drop ((sizeB 0 ((splitB 32 (cutB 10 rest).1).getD 1 [])).toNat + 1)))
theorem stepR_lt {rest r : List UInt8} {e : E} (h : stepR rest = some (some (e, r))) : r.length < rest.length := by
  rw [stepR] at h
  split at h
  · cases h
  · rename_i h1
    have hf : (cutB 10 rest).2.2 = true := by
      cases hx : (cutB 10 rest).2.2 with
      | true => rfl
      | false => exact absurd (.inl hx) h1
    have := cut_rest_lt hf
    split at h
    · injection h with h; injection h with h; injection h with _ h; rw [← h]; exact this
    · split at h
      · injection h with h; cases h
      · injection h with h; injection h with h; injection h with _ h; rw [← h, List.length_drop]; omega
/-- what the document reads -/
def readR (rest : List UInt8) (l : List E) : Option (List E) :=
  match _h : stepR rest with
  | none => some l
  | some none => none
  | some (some (e, r)) => if l.length + 1 > 60 then none else readR r (l ++ [e])
  termination_by rest.length
  decreasing_by exact stepR_lt _h
theorem readR_end {rest : List UInt8} {l : List E} (h : stepR rest = none) : readR rest l = some l := by
  rw [readR]; split
  · rfl
  · rename_i h2; rw [h] at h2; cases h2
  · rename_i h2; rw [h] at h2; cases h2
theorem readR_bad {rest : List UInt8} {l : List E} (h : stepR rest = some none) : readR rest l = none := by
  rw [readR]; split
  · rename_i h2; rw [h] at h2; cases h2
  · rfl
  · rename_i h2; rw [h] at h2; cases h2
theorem readR_go {rest r : List UInt8} {l : List E} {e : E} (h : stepR rest = some (some (e, r))) : readR rest l = if l.length + 1 > 60 then none else readR r (l ++ [e]) := by
  rw [readR]; split
  · rename_i h2; rw [h] at h2; cases h2
  · rename_i h2; rw [h] at h2; cases h2
  · rename_i h2; rw [h] at h2; injection h2 with h2; injection h2 with h2; injection h2 with h3 h4; rw [h3, h4]
theorem stepR_line {e : E} (h : Plain e) (hb : e.b.length ≤ 200000) (r : List UInt8) : stepR (lineE e ++ r) = some (some (e, r)) := by
  obtain ⟨h1, h2, h3, h4⟩ := h
  cases hd : e.dir with
  | true =>
    have hbn := h4 hd
    have e0 : lineE e ++ r = ([100, 32] ++ e.p) ++ 10 :: r := by rw [lineE, if_pos hd]; simp
    have e1 : cutB 10 (lineE e ++ r) = ([100, 32] ++ e.p, r, true) := by
      rw [e0]; exact cut_of_hit (by
        simp only [List.mem_append, List.mem_cons, List.not_mem_nil, or_false]
        rintro ((h | h) | h)
        · exact absurd h (by decide)
        · exact absurd h (by decide)
        · exact h2 h)
    have e2 : splitB 32 ([100, 32] ++ e.p) = [[100], e.p] := by
      have := split_hit (c := 32) (a := [100]) (b := e.p) (by decide)
      rw [split_miss h1] at this
      rw [← this]; rfl
    rw [stepR, e1]
    simp only []
    rw [e2, if_neg (by simp [endB]), if_pos (show [[100], e.p].getD 0 [] = [100] from rfl)]
    congr 3
    cases e
    simp only [] at hd hbn
    rw [hd, hbn]
    rfl
  | false =>
    have e0 : lineE e ++ r = ([102, 32] ++ decB e.b.length ++ [32] ++ e.p) ++ 10 :: (e.b ++ 10 :: r) := by rw [lineE, if_neg (by rw [hd]; exact Bool.false_ne_true)]; simp
    have n10 : (10 : UInt8) ∉ decB e.b.length := decB_no (by decide)
    have n32 : (32 : UInt8) ∉ decB e.b.length := decB_no (by decide)
    have e1 : cutB 10 (lineE e ++ r) = ([102, 32] ++ decB e.b.length ++ [32] ++ e.p, e.b ++ 10 :: r, true) := by
      rw [e0]; exact cut_of_hit (by
        simp only [List.mem_append, List.mem_cons, List.not_mem_nil, or_false]
        rintro ((((h | h) | h) | h) | h)
        · exact absurd h (by decide)
        · exact absurd h (by decide)
        · exact n10 h
        · exact absurd h (by decide)
        · exact h2 h)
    have e2 : splitB 32 ([102, 32] ++ decB e.b.length ++ [32] ++ e.p) = [[102], decB e.b.length, e.p] := by
      have a1 := split_hit (c := 32) (a := [102]) (b := decB e.b.length ++ 32 :: e.p) (by decide)
      rw [split_hit n32, split_miss h1] at a1
      rw [← a1]; congr 1; simp
    rw [stepR, e1]
    simp only []
    rw [e2, if_neg (by simp [endB]), if_neg (by simp)]
    have hs : sizeB 0 ([[102], decB e.b.length, e.p].getD 1 []) = (e.b.length : Int) := size_dec _ hb
    rw [hs, if_neg (by simp; omega)]
    congr 3
    · cases e
      simp only [] at hd ⊢
      rw [hd]
      simp
    · simp
theorem stepR_end (n : Nat) : stepR (endB ++ [32] ++ decB n ++ [10]) = none := by
  have e0 : endB ++ [32] ++ decB n ++ [10] = (endB ++ [32] ++ decB n) ++ 10 :: [] := rfl
  have n10 : (10 : UInt8) ∉ decB n := decB_no (by decide)
  have n32 : (32 : UInt8) ∉ decB n := decB_no (by decide)
  have e1 : cutB 10 (endB ++ [32] ++ decB n ++ [10]) = (endB ++ [32] ++ decB n, [], true) := by
    rw [e0]; exact cut_of_hit (by
      simp only [endB, List.mem_append, List.mem_cons, List.not_mem_nil, or_false]
      rintro ((h | h) | h)
      · rcases h with h | h | h <;> exact absurd h (by decide)
      · exact absurd h (by decide)
      · exact n10 h)
  have e2 : splitB 32 (endB ++ [32] ++ decB n) = [endB, decB n] := by
    have a1 := split_hit (c := 32) (a := endB) (b := decB n) (by decide)
    rw [split_miss n32] at a1
    rw [← a1]; congr 1
  rw [stepR, e1]
  simp only []
  rw [e2, if_pos (.inr (.inr rfl))]
theorem readR_lines : ∀ (m : List E) (r : List UInt8) (l : List E), (∀ e ∈ m, Plain e ∧ e.b.length ≤ 200000) → l.length + m.length ≤ 60 → readR (m.flatMap lineE ++ r) l = readR r (l ++ m)
  | [], r, l, _, _ => by simp
  | e :: m, r, l, h, hl => by
    have hl' : l.length + (m.length + 1) ≤ 60 := hl
    obtain ⟨h1, h2⟩ := h e List.mem_cons_self
    rw [List.flatMap_cons, List.append_assoc, readR_go (stepR_line h1 h2 _), if_neg (by omega), readR_lines m r _ (fun x hx => h x (List.mem_cons_of_mem _ hx)) (by simp; omega)]
    simp
/-- what is written is read again -/
theorem readR_body (m : List E) (n : Nat) (h : ∀ e ∈ m, Plain e ∧ e.b.length ≤ 200000) (hm : m.length ≤ 60) : readR (bodyE m n) [] = some m := by
  rw [bodyE, readR_lines m _ _ h (by simpa using hm), readR_end (stepR_end n)]
  simp
end Go.Proofs.YtgfbbcnnmoamnaaGreatDoor.Tr
