/- The entries of a tree, listed: the program's. -/
import Derived.Test.YtgfbbcnnmoamnaaGreatDoorUnE
import Derived.Laws.AppendOwnNone
namespace Go.Proofs.YtgfbbcnnmoamnaaGreatDoor.Tr
open Go.RowKit Go.Proofs.YtgfbbcnnmoamnaaGreatDoor Go.Proofs.YtgfbbcnnmoamnaaGreatDoor.Lk

theorem ecells_one (l : List E) : ∀ u ∈ ecells l, u.oneCell' = true := fun u hu => by
  obtain ⟨e, _, he⟩ := List.mem_flatMap.1 hu
  simp only [List.mem_cons, List.not_mem_nil, or_false] at he
  rcases he with rfl | rfl | rfl <;> rfl
theorem ecells_app (a b : List E) : ecells (a ++ b) = ecells a ++ ecells b := by simp [ecells]
/-- one row of entries behind another -/
theorem wpList_append_rows {w : World} {ops : Array Oper} {rest : List Oper} {o : Oper} {a : Act} {Q : Exit → Act → World → Prop} (hgd : o.guard = none) (s x : Operand)
    (ho : o.op = .call { callee := .builtin .append, args := #[s, x], argTypes := #[26, 26] }) (B : Nat) (v : Value) (n : Nat) (xs : List Value) (hs : a.eval s = v) (hown : w.ownsRow B 47 3 v n xs)
    (B2 : Nat) (u : Value) (m : Nat) (ys : List Value) (hx : a.eval x = u) (hown2 : w.ownsRow B2 47 3 u m ys) (h1 : ∀ u ∈ ys, u.oneCell' = true) (hbd : n + m ≤ 1048600) (hB : B ≤ w.heap.size)
    (h : ∀ v' w', w'.ownsRow B 47 3 v' (n + m) (xs ++ ys) → w.grownBy w' v.ownBlock → wpList Tryz.prog ops Q rest (a.put o.dst v') w') : wpList Tryz.prog ops Q (o :: rest) a w := by
  obtain ⟨i0, hi0, hz0, hz1, hz2⟩ := info_parts infoEntry
  rcases hown2.2 with ⟨hv, h0⟩ | ⟨g, cap, cur, hv, hg, hb, k1, k2, k3, k4⟩
  · have hys : ys = [] := List.length_eq_zero_iff.1 (by rw [hown2.1, h0])
    refine wpList_append_own_none hgd s x 26 ho B 47 i0 3 Tryz.underlying26 hi0 v n xs hs hown (by rw [hx, hv]) (h v w ?_ ⟨rfl, rfl, rfl, Nat.le_refl _, fun _ _ _ => rfl⟩)
    rw [h0, hys, List.append_nil]; exact hown
  · refine wpList_append_own w hgd s x 26 ho B 47 i0 (.agg #[.string ⟨#[]⟩, .bool false, .string ⟨#[]⟩]) 3 40 Tryz.underlying26 hi0 hz0 hz1 hz2 rfl (by decide) v n xs hs hown ⟨g, 0, none⟩ m cap ys (by rw [hx, hv]) hown2.1 (fun j y hj => ?_) h1 (by unfold maxLen; omega) (by omega) hB (fun v' w' a1 a2 _ => h v' w' a1 a2)
    have hjl : j < m * 3 := by have := (List.getElem?_eq_some_iff.1 hj).1; rw [hown2.1] at this; exact this
    refine World.news_of_block hb j y ?_
    rw [← k4, List.getElem?_take_of_lt hjl] at hj
    exact hj
theorem as_file (n b : ByteArray) (w : World) : Sem.run Tryz.prog (Instr.typeAssert (.iface 103 (.agg #[.string n, .string b])) 106 103 true) w = .ok (.tuple #[.agg #[.string n, .string b], .bool true]) w := by kernel_rfl
theorem as_file_not (n : ByteArray) (s : Option Addr) (k c : Nat) (w : World) : Sem.run Tryz.prog (Instr.typeAssert (.iface 101 (.agg #[.string n, .slice s k c])) 106 103 true) w = .ok (.tuple #[.agg #[.string ⟨#[]⟩, .string ⟨#[]⟩], .bool false]) w := by kernel_rfl
theorem as_dir (n : ByteArray) (s : Option Addr) (k c : Nat) (w : World) : Sem.run Tryz.prog (Instr.typeAssert (.iface 101 (.agg #[.string n, .slice s k c])) 106 101 true) w = .ok (.tuple #[.agg #[.string n, .slice s k c], .bool true]) w := by kernel_rfl
theorem own_weaken {w : World} {B B' n z : Nat} {v : Value} {xs : List Value} {t : TypeId} (h : w.ownsRow B t z v n xs) (hB : B' ≤ B) : w.ownsRow B' t z v n xs := by
  refine ⟨h.1, ?_⟩
  rcases h.2 with hn | ⟨g, cap, cur, h1, h2, rest⟩
  · exact .inl hn
  · exact .inr ⟨g, cap, cur, h1, Nat.le_trans hB h2, rest⟩
/-- what the listing answers -/
def EntOk (w : World) (v : Value) (a : List UInt8) (m : List E) : Prop :=
  Calls Tryz.prog 39 #[.agg #[v], .string ⟨a.toArray⟩] w fun r w' => ∃ u, r = .returned u ∧ w'.ownsRow w.heap.size 47 3 u m.length (ecells m) ∧ Below w.heap.size w w'
/-- the entries of the first nodes -/
def pre (a : List UInt8) (ks : List (Nd × List E)) (i : Nat) : List E := (ks.take i).flatMap fun x => headE a x.1 :: x.2
theorem pre_step (a : List UInt8) (ks : List (Nd × List E)) {i : Nat} (hi : i < ks.length) : pre a ks (i + 1) = pre a ks i ++ headE a ks[i].1 :: ks[i].2 := by
  rw [pre, List.take_add_one, List.getElem?_eq_getElem hi, List.flatMap_append]
  simp [pre]
theorem pre_all (a : List UInt8) (ks : List (Nd × List E)) : pre a ks ks.length = ks.flatMap fun x => headE a x.1 :: x.2 := by rw [pre, List.take_length]
theorem pre_le (a : List UInt8) (ks : List (Nd × List E)) (i : Nat) : (pre a ks i).length ≤ (ks.flatMap fun x => headE a x.1 :: x.2).length := by
  have : ks.flatMap (fun x => headE a x.1 :: x.2) = pre a ks i ++ (ks.drop i).flatMap fun x => headE a x.1 :: x.2 := by
    rw [pre, ← List.flatMap_append, List.take_append_drop]
  rw [this, List.length_append]; omega
theorem str_cat (a b : List UInt8) : (⟨a.toArray⟩ ++ ⟨b.toArray⟩ : ByteArray) = ⟨(a ++ b).toArray⟩ := by
  apply ByteArray.ext
  simp [ByteArray.data_append]
theorem alloc3_new (w : World) (o o' o'' : Obj) : (((w.alloc o).alloc o').alloc o'').heap[w.heap.size + 2]? = some o'' := by
  have := alloc2_new (w.alloc o) o' o''
  rwa [show (w.alloc o).heap.size + 1 = w.heap.size + 2 by simp] at this
theorem Row.at {w : World} {ok : Nat → Prop} {v : Value} {ns : List Nd} (h : Row w ok v ns) {i : Nat} (hi : i < ns.length) : ∃ b cap, v = .slice (some ⟨b, 0, none⟩) ns.length cap ∧ b < w.heap.size ∧ w.cell? ⟨b, i, none⟩ = some ns[i].val := by
  rcases h with ⟨_, h⟩ | ⟨b, cap, h1, _, h3, h4⟩
  · rw [h] at hi; simp at hi
  · exact ⟨b, cap, h1, h3, h4 i _ (List.getElem?_eq_getElem hi)⟩
set_option maxRecDepth 8000 in
set_option maxHeartbeats 1000000 in
theorem ent_step (d : Nat) (w : World) (ok : Nat → Prop) (v : Value) (a : List UInt8) (m : List E) (h : TreeAt w ok (d + 1) v a m) (hm : m.length ≤ 1048576) (hft : FitE m)
    (hrec : ∀ (w' : World) (v' : Value) (a' : List UInt8) (m' : List E), TreeAt w' ok d v' a' m' → m'.length ≤ 1048576 → FitE m' → EntOk w' v' a' m') : EntOk w v a m := by
  obtain ⟨ks, hr, hk, hmm⟩ := h
  unfold EntOk
  have hmf := meth_file
  have hmd := meth_dir
  have HF := toHid (fun n b w => fileName_any n b w)
  have HG := toHid (fun n a k c w => dirName_any n a k c w)
  have HR := toHid hr
  have HREC := toHid hrec
  have HM := toHid hmm
  have HFT := toHid hft
  have HK : Hid (∀ x ∈ ks, KidAt w ok d a x) := hk
  have HPL : Hid (∀ i, (pre a ks i).length ≤ 1048576) := fun i => by have := pre_le a ks i; rw [← hmm] at this; omega
  obtain ⟨sv, kv, cv, hv⟩ := TreeAt.shape (show TreeAt w ok (d + 1) v a m from ⟨ks, hr, hk, hmm⟩)
  have hkv : kv = ks.length := by
    rcases hr with ⟨h1, h2⟩ | ⟨b, cap, h1, _⟩
    · rw [hv] at h1; injection h1 with _ h1 _; rw [h1]; have := congrArg List.length h2; simpa using this.symm
    · rw [hv] at h1; injection h1 with _ h1 _; simpa using h1
  have hks : ks.length ≤ m.length := by
    rw [hmm, List.length_flatMap]
    have : ∀ (l : List (Nd × List E)), l.length ≤ (l.map fun x => (headE a x.1 :: x.2).length).sum := fun l => by
      induction l with
      | nil => simp
      | cons x l ih => simp at ih ⊢; omega
    exact this ks
  subst hv
  have HKV := toHid hkv
  have hkl : kv ≤ 1048576 := by omega
  clear hr hk hmm hrec hks hkv
  obtain ⟨i0, hi0, hz0, hz1, hz2⟩ := info_parts infoEntry
  go_enter Tryz.func39, Tryz.ntmps39
  go_wp2
  go_loopw [5, 14] (fun vl vi wr => ∃ i : Nat, i ≤ kv ∧ vi = .int .i64 i ∧ Hid (wr.ownsRow w.heap.size 47 3 vl (pre a ks i).length (ecells (pre a ks i))) ∧ Below w.heap.size w wr) (fun _ vi _ => kv - (intOf vi).toNat)
  case atStart => exact ⟨0, by omega, rfl, World.ownsRow_nil _ _ _ _, (Below.refl _ w).alloc (Nat.le_refl _) _⟩
  case round =>
    obtain ⟨i, hi, rfl, HO, hb⟩ := hrel
    have hbs := hb.size
    by_cases hlt : i < kv
    · have hil : i < ks.length := by rw [← HKV.out]; exact hlt
      obtain ⟨b, cap, hsv, hblt, hcell⟩ := HR.out.at (i := i) (by simpa using hil)
      injection hsv with hsv hkx hcv
      clear hkx
      subst hsv hcv
      have c0 := (hb.cell (p := ⟨b, i, none⟩) hblt).trans hcell
      have HKID := toHid (HK.out ks[i] (List.getElem_mem hil))
      have HPS := toHid (pre_step a ks hil)
      rw [List.getElem_map] at c0
      have HPLi := HPL.out (i + 1)
      obtain ⟨x, HX⟩ := hid_intro ks[i]
      rw [← HX.out] at c0 HKID HPS
      obtain ⟨nd, kids⟩ := x
      have hpl2 : (pre a ks i).length + 1 + kids.length ≤ 1048576 := by rw [HPS.out] at HPLi; simp at HPLi; omega
      clear HPLi hcell
      have HIN : Hid (∀ y ∈ headE a nd :: kids, y ∈ m) := fun y hy => by
        rw [HM.out]
        refine List.mem_flatMap.2 ⟨(nd, kids), ?_, hy⟩
        rw [HX.out]; exact List.getElem_mem hil
      have hnl : a.length + nd.name.length ≤ 1048576 := by
        have := (HFT.out _ (HIN.out _ List.mem_cons_self)).1
        rw [headE_p, List.length_append] at this
        exact this
      obtain ⟨P, HP⟩ := hid_intro (pre a ks i)
      rw [← HP.out] at HO HPS hpl2
      obtain ⟨k, HKK⟩ := hid_intro P.length
      obtain ⟨EE, HEE⟩ := hid_intro (ecells P)
      rw [← HKK.out, ← HEE.out] at HO
      rw [← HKK.out] at hpl2
      cases nd with
      | file nme bod =>
        have HKD : Hid (kids = []) := HKID.out
        have hcat := str_cat a nme
        unfold Nd.val at c0
        simp only [] at c0
        have ha1 := as_file ⟨nme.toArray⟩ ⟨bod.toArray⟩
        have hnl2 : a.length + nme.length ≤ 1048576 := hnl
        go_wp2_with (first
          | (go_at_call 397; refine (HF.out _ _ _).mono ?_; rintro e w1 ⟨rfl, o1, hw1⟩; rw [hw1]; clear hw1)
          | (at_builtin; refine wpList_append_lies _ rfl _ _ 26 rfl w.heap.size 47 i0 (.agg #[.string ⟨#[]⟩, .bool false, .string ⟨#[]⟩]) 3 40 Tryz.underlying26 hi0 hz0 hz1 hz2 rfl (by decide) _ k EE rfl (World.ownsRow.alloc (World.ownsRow.alloc (World.ownsRow.alloc HO.out _) _) _) ⟨_, 0, none⟩ 1 1 [.string ⟨(a ++ nme).toArray⟩, .bool false, .string ⟨bod.toArray⟩] rfl rfl (World.news_of_block (alloc3_new wr _ _ _)) (by simp [Value.oneCell']) (by decide) (by unfold maxLen; omega) (by omega) (by simp; omega) _ rfl ?_; intro g2 cap2 w5 hown5 hg5 hat5 hlt5; have HO5 := toHid hown5; have HB5 : Hid (Below w.heap.size w w5) := grown_below (((hb.alloc hbs _).alloc (by simp; omega) _).alloc (by simp; omega) _) (World.ownsRow.alloc (World.ownsRow.alloc (World.ownsRow.alloc HO.out _) _) _) (Nat.le_refl _) (by simp; omega) hg5; clear hown5 hg5 hat5 hlt5))
        go_roundw
        case rel =>
          have h1 := HP.out
          have h2 := HKK.out
          have h3 := HEE.out
          have h4 := HKD.out
          subst h2 h3 h4
          refine ⟨i + 1, by omega, by go_num, ?_, HB5.out⟩
          show World.ownsRow _ _ _ _ _ _ _
          rw [HPS.out, List.length_append, ecells_app]
          exact HO5.out
        case measure => simp [intOf]; omega
      | dir nme sk kk ck =>
        have hcat := str_cat a nme
        have hcat2 : (⟨(a ++ nme).toArray⟩ ++ ⟨#[47]⟩ : ByteArray) = ⟨(a ++ (nme ++ [47])).toArray⟩ := (str_cat (a ++ nme) [47]).trans (by rw [List.append_assoc])
        have hnl2 : a.length + nme.length ≤ 1048576 := hnl
        unfold Nd.val at c0
        simp only [] at c0
        have ha0 := as_file_not ⟨nme.toArray⟩ sk kk ck
        have ha1 := as_dir ⟨nme.toArray⟩ sk kk ck
        have HRK : Hid (∀ w', Below w.heap.size w w' → Calls Tryz.prog 39 #[.agg #[.slice sk kk ck], .string ⟨(a ++ (nme ++ [47])).toArray⟩] w' fun r w'' => ∃ u, r = .returned u ∧ w''.ownsRow w'.heap.size 47 3 u kids.length (ecells kids) ∧ Below w'.heap.size w' w'') := fun w' hb' => HREC.out w' _ _ _ (TreeAt.below (show TreeAt w ok d (.slice sk kk ck) (a ++ (nme ++ [47])) kids by rw [← List.append_assoc]; exact HKID.out) hb') (by omega) (fun y hy => HFT.out y (HIN.out y (List.mem_cons_of_mem _ hy)))
        obtain ⟨q, HQ⟩ := hid_intro kids.length
        obtain ⟨QQ, HQQ⟩ := hid_intro (ecells kids)
        rw [← HQ.out, ← HQQ.out] at HRK
        rw [← HQ.out] at hpl2
        clear hnl
        go_wp2_with (first
          | (go_at_call 396; refine (HG.out _ _ _ _ _).mono ?_; rintro e w1 ⟨rfl, o1, hw1⟩; rw [hw1]; clear hw1)
          | (go_at_call 39; refine (HRK.out _ HB5.out).mono ?_; rintro e w6 ⟨u6, rfl, ho6, hb6⟩; have HO6 := toHid ho6; have HB6 := toHid hb6; clear ho6 hb6)
          | (at_builtin; refine wpList_append_rows rfl _ _ rfl w.heap.size _ (k + 1) (EE ++ [.string ⟨(a ++ nme).toArray⟩, .bool true, .string ⟨#[]⟩]) rfl (own_below HO5.out HB6.out) w5.heap.size u6 q QQ rfl HO6.out (by rw [HQQ.out]; exact ecells_one _) (by omega) (Nat.le_trans HB5.out.size HB6.out.size) ?_; intro v7 w7 hown7 hg7; have HO7 := toHid hown7; have HB7 : Hid (Below w.heap.size w w7) := grown_below (HB5.out.trans (HB6.out.mono HB5.out.size)) (own_below HO5.out HB6.out) (Nat.le_refl _) (Nat.le_trans HB5.out.size HB6.out.size) hg7; clear hown7 hg7)
          | (at_builtin; refine wpList_append_lies _ rfl _ _ 26 rfl w.heap.size 47 i0 (.agg #[.string ⟨#[]⟩, .bool false, .string ⟨#[]⟩]) 3 40 Tryz.underlying26 hi0 hz0 hz1 hz2 rfl (by decide) _ k EE rfl (World.ownsRow.alloc (World.ownsRow.alloc (World.ownsRow.alloc HO.out _) _) _) ⟨_, 0, none⟩ 1 1 [.string ⟨(a ++ nme).toArray⟩, .bool true, .string ⟨#[]⟩] rfl rfl (World.news_of_block (alloc3_new wr _ _ _)) (by simp [Value.oneCell']) (by decide) (by unfold maxLen; omega) (by omega) (by simp; omega) _ rfl ?_; intro g2 cap2 w5 hown5 hg5 hat5 hlt5; have HO5 := toHid hown5; have HB5 : Hid (Below w.heap.size w w5) := grown_below (((hb.alloc hbs _).alloc (by simp; omega) _).alloc (by simp; omega) _) (World.ownsRow.alloc (World.ownsRow.alloc (World.ownsRow.alloc HO.out _) _) _) (Nat.le_refl _) (by simp; omega) hg5; have d1 : w5.cell? ⟨wr.heap.size + 1, 1, none⟩ = some (.slice sk kk ck) := (World.cell?_of_block (a := ⟨wr.heap.size + 1, 1, none⟩) (hg5.block (wr.heap.size + 1) (by simp) (fun e => by have := (HO.out.lt _ e.symm).2; omega))).trans ((cell_of_row _ (wr.heap.size + 1) 1 _ _ _ (alloc_keeps (alloc2_new wr _ _))).trans rfl); clear hown5 hg5 hat5 hlt5))
        go_roundw
        case rel =>
          have h1 := HP.out
          have h2 := HKK.out
          have h3 := HEE.out
          have h4 := HQ.out
          have h5 := HQQ.out
          subst h2 h3 h4 h5
          refine ⟨i + 1, by omega, by go_num, ?_, HB7.out⟩
          show World.ownsRow _ _ _ _ _ _ _
          rw [HPS.out, List.length_append, ecells_app]
          have h := HO7.out
          rw [List.append_assoc] at h
          rw [show P.length + (headE a (Nd.dir nme sk kk ck) :: kids).length = P.length + 1 + kids.length by simp; omega]
          exact h
        case measure => simp [intOf]; omega
    · obtain rfl : i = kv := by omega
      have HE : Hid (pre a ks i = m) := (show pre a ks i = m by rw [HKV.out, pre_all, ← HM.out])
      go_wp2
      go_ret
      refine ⟨_, rfl, ?_, hb⟩
      have h := HO.out
      rw [HE.out] at h
      exact h
theorem ent_any (d : Nat) : ∀ (w : World) (ok : Nat → Prop) (v : Value) (a : List UInt8) (m : List E), TreeAt w ok d v a m → m.length ≤ 1048576 → FitE m → EntOk w v a m := by
  induction d with
  | zero => exact fun w ok v a m h => h.elim
  | succ d ih => exact fun w ok v a m h h1 h2 => ent_step d w ok v a m h h1 h2 (fun w' v' a' m' => ih w' ok v' a' m')
set_option maxRecDepth 8000 in
theorem entries_any (d : Nat) (w : World) (ok : Nat → Prop) (s : Option Addr) (k c : Nat) (m : List E) (h : TreeAt w ok d (.slice s k c) [] m) (h1 : m.length ≤ 1048576) (h2 : FitE m) :
    Calls Tryz.prog 15 #[.agg #[.slice s k c]] w fun r w' => ∃ u, r = .returned u ∧ w'.ownsRow w.heap.size 47 3 u m.length (ecells m) ∧ Below w.heap.size w w' := by
  have HE : Hid (∀ w', Below w.heap.size w w' → Calls Tryz.prog 39 #[.agg #[.slice s k c], .string ⟨#[]⟩] w' fun r w'' => ∃ u, r = .returned u ∧ w''.ownsRow w'.heap.size 47 3 u m.length (ecells m) ∧ Below w'.heap.size w' w'') := fun w' hb => ent_any d w' ok _ [] m (h.below hb) h1 h2
  have hb0 : Below w.heap.size w (w.alloc (.cells #[.slice s k c] 37 (0, 0))) := (Below.refl _ w).alloc (Nat.le_refl _) _
  go_enter Tryz.func15, Tryz.ntmps15
  go_wp2_with (go_at_call 39; refine (HE.out _ hb0).mono ?_; rintro e w1 ⟨u, rfl, ho, hb⟩; have HO := toHid ho; have HB := toHid hb; clear ho hb)
  go_ret
  exact ⟨_, rfl, own_weaken HO.out (by simp), hb0.trans (HB.out.mono (by simp))⟩
end Go.Proofs.YtgfbbcnnmoamnaaGreatDoor.Tr
