/- The argument of the law, opened: a script. -/
import Derived.Test.YtgfbbcnnmoamnaaGreatDoorUnP
import Derived.Test.YtgfbbcnnmoamnaaGreatDoorRows
import Derived.Deep.Slices
namespace Go.Proofs.YtgfbbcnnmoamnaaGreatDoor.Tr
open Go.ChangeShapes Go.WideShapes Go.RowKit Go.Deep Go.Proofs.YtgfbbcnnmoamnaaGreatDoor Go.Proofs.YtgfbbcnnmoamnaaGreatDoor.Lk

theorem bulkE_pos {H : Type} (d : DataW H) : 1 ≤ Rows.uptoBulk d := by
  cases d with
  | lit x => cases x <;> simp [Rows.uptoBulk]
  | _ => simp [Rows.uptoBulk]
theorem bulkE_mem {H : Type} : ∀ {L : List (DataW H)} {x : DataW H}, x ∈ L → Rows.uptoBulk x ≤ Rows.uptoBulkAll L
  | [], x, h => by cases h
  | d :: r, x, h => by
    rw [Rows.uptoBulkAll]
    rcases List.mem_cons.1 h with h | h
    · subst h; omega
    · have := bulkE_mem h; omega
theorem bulkE_len {H : Type} : ∀ (L : List (DataW H)), L.length ≤ Rows.uptoBulkAll L
  | [] => by simp [Rows.uptoBulkAll]
  | d :: r => by
    rw [Rows.uptoBulkAll, List.length_cons]
    have := bulkE_len r
    have := bulkE_pos d
    omega
theorem cells_entry : Tryz.prog.cellsOf 47 = 3 := by kernel_rfl
theorem cells_op : Tryz.prog.cellsOf 31 = 8 := by kernel_rfl
theorem cells_strE : Tryz.prog.cellsOf 9 = 1 := by kernel_rfl
theorem cells_boolE : Tryz.prog.cellsOf 4 = 1 := by kernel_rfl
theorem cells_intE : Tryz.prog.cellsOf 3 = 1 := by kernel_rfl
theorem cells_entries : Tryz.prog.cellsOf 26 = 1 := by kernel_rfl
theorem cells_lockeds : Tryz.prog.cellsOf 29 = 1 := by kernel_rfl
theorem backE (s : ByteArray) : (⟨s.data.toList.toArray⟩ : ByteArray) = s := by cases s; simp
set_option maxRecDepth 8000 in
/-- an entry: a text, a Boolean, a text -/
theorem ent_of {H : Type} {enc : TypeId × Value → H} {W : World} {n : Nat} {a : Addr} {D : DataW H} {P : List MemPlace} {cs : List Value} (h1 : W.cells? 0 a 3 = some cs) (h2 : DataW.trod enc Tryz.prog W 0 (fun _ => true) true n 47 cs = some (D, P)) :
    ∃ m : E, W.cell? a = some (.string ⟨m.p.toArray⟩) ∧ W.cell? (a.add 1) = some (.bool m.dir) ∧ W.cell? (a.add 2) = some (.string ⟨m.b.toArray⟩) := by
  obtain ⟨_, hlen, hcell⟩ := World.cells?_some h1
  obtain ⟨xs, k, hk, hxy, _, hxl, hf⟩ := DataW.trod_struct Tryz.underlying47 h2
  match xs, hxl, cs, hlen with
  | [y0, y1, y2], _, [v0, v1, v2], _ =>
    have g0 : DataW.trod enc Tryz.prog W 0 (fun _ => true) true k 9 (([v0, v1, v2].drop 0).take (Tryz.prog.cellsOf 9)) = some y0 := hf 0 _ rfl
    have g1 : DataW.trod enc Tryz.prog W 0 (fun _ => true) true k 4 (([v0, v1, v2].drop 1).take (Tryz.prog.cellsOf 4)) = some y1 := hf 1 _ rfl
    have g2 : DataW.trod enc Tryz.prog W 0 (fun _ => true) true k 9 (([v0, v1, v2].drop 2).take (Tryz.prog.cellsOf 9)) = some y2 := hf 2 _ rfl
    rw [cells_strE] at g0 g2
    rw [cells_boolE] at g1
    obtain ⟨s0, e0, _, _⟩ := DataW.trod_string Tryz.underlying9 g0
    obtain ⟨b1, e1, _⟩ := DataW.trod_bool Tryz.underlying4 g1
    obtain ⟨s2, e2, _, _⟩ := DataW.trod_string Tryz.underlying9 g2
    have e0' : v0 = .string s0 := by simpa using e0
    have e1' : v1 = .bool b1 := by simpa using e1
    have e2' : v2 = .string s2 := by simpa using e2
    have c0 := hcell 0 (by omega)
    have c1 := hcell 1 (by omega)
    have c2 := hcell 2 (by omega)
    refine ⟨⟨s0.data.toList, b1, s2.data.toList⟩, ?_, ?_, ?_⟩
    · show W.cell? a = some (.string ⟨s0.data.toList.toArray⟩)
      rw [backE, ← e0']; simpa [Addr.add] using c0
    · show W.cell? (a.add 1) = some (.bool b1)
      rw [← e1']; simpa using c1
    · show W.cell? (a.add 2) = some (.string ⟨s2.data.toList.toArray⟩)
      rw [backE, ← e2']; simpa using c2
theorem addE (g o k : Nat) : (⟨g, o, none⟩ : Addr).add k = ⟨g, o + k, none⟩ := by unfold Addr.add; split <;> simp_all
/-- a list of entries, wherever it lies -/
theorem ents_of {H : Type} {enc : TypeId × Value → H} {W : World} {fuel : Nat} {v : Value} {d : DataW H} {p : List MemPlace}
    (hf : DataW.trod enc Tryz.prog W 0 (fun _ => true) true fuel 26 [v] = some (d, p)) :
    ∃ (ao : Option Addr) (l : List E) (cap : Nat), v = .slice ao l.length cap ∧ (ao = none → l = [] ∧ cap = 0) ∧ LiesE W ao l ∧ l.length ≤ Rows.uptoBulk d := by
  rcases open_slice Tryz.underlying26 hf with ⟨hcs, hx⟩ | ⟨a, len, cap, m, n, D, Pl, hcs, _, hl, _, hm, hx, hcell⟩
  · have e : v = .slice none 0 0 := by simpa using hcs
    exact ⟨none, [], 0, e, fun _ => ⟨rfl, rfl⟩, .inl rfl, Nat.zero_le _⟩
  · have e : v = .slice (some a) len cap := by simpa using hcs
    have hd : d = .slice ((List.range len).map D) ((List.range (m - len)).map fun j => D (len + j)) := (Prod.mk.inj hx).1
    have hlm : len ≤ m := by rw [hm]; simp; omega
    rw [cells_entry] at hcell
    haveI : Inhabited E := ⟨ze⟩
    obtain ⟨f, hf'⟩ := choose_lt (α := E) (n := len) (p := fun i q => W.cell? (a.add (i * 3)) = some (.string ⟨q.p.toArray⟩) ∧ W.cell? ((a.add (i * 3)).add 1) = some (.bool q.dir) ∧ W.cell? ((a.add (i * 3)).add 2) = some (.string ⟨q.b.toArray⟩)) (fun i hi => by
      obtain ⟨cs', h1, h2⟩ := hcell i (by omega)
      exact ent_of h1 h2)
    have hget : ∀ j q, ((List.range len).map f)[j]? = some q → j < len ∧ q = f j := fun j q hj => by
      have hjl : j < len := by have := (List.getElem?_eq_some_iff.1 hj).1; simpa using this
      rw [List.getElem?_map, List.getElem?_range hjl] at hj
      exact ⟨hjl, (by simpa using hj.symm)⟩
    refine ⟨some a, (List.range len).map f, cap, by simpa using e, (fun h => by cases h), ?_, ?_⟩
    · by_cases h0 : len = 0
      · left; simp [h0]
      right
      obtain ⟨g, o, sp⟩ := a
      have hspot : sp = none := by
        have := World.cell?_spot (hf' 0 (by omega)).1
        simpa [Addr.add] using this
      subst hspot
      refine ⟨g, o, rfl, ?_, fun j q hj => ?_⟩
      · have h1 := (hf' 0 (by omega)).1
        rw [addE] at h1
        exact block_lt_of_cell h1
      · obtain ⟨hjl, rfl⟩ := hget j q hj
        obtain ⟨c0, c1, c2⟩ := hf' j hjl
        rw [add_add, addE] at c1 c2
        rw [addE] at c0
        exact ⟨c0, by rw [← Nat.add_assoc] at c1; exact c1, by rw [← Nat.add_assoc] at c2; exact c2⟩
    · rw [hd, Rows.uptoBulk]
      have := bulkE_len ((List.range len).map D)
      simp at this ⊢; omega
theorem mods_shape {H : Type} {enc : TypeId × Value → H} {W : World} {fuel : Nat} {v : Value} {d : DataW H} {p : List MemPlace}
    (hf : DataW.trod enc Tryz.prog W 0 (fun _ => true) true fuel 29 [v] = some (d, p)) : ∃ ao n cap, v = .slice ao n cap := by
  rcases open_slice Tryz.underlying29 hf with ⟨hcs, hx⟩ | ⟨a, len, cap, m, n, D, Pl, hcs, _⟩
  · exact ⟨none, 0, 0, by simpa using hcs⟩
  · exact ⟨some a, len, cap, by simpa using hcs⟩
set_option maxRecDepth 8000 in
/-- a step -/
theorem op_of {H : Type} {enc : TypeId × Value → H} {W : World} {n : Nat} {a : Addr} {D : DataW H} {P : List MemPlace} {cs : List Value} (h1 : W.cells? 0 a 8 = some cs) (h2 : DataW.trod enc Tryz.prog W 0 (fun _ => true) true n 31 cs = some (D, P)) :
    ∃ o : OpR, (∀ j u, o.cells.toList[j]? = some u → W.cell? (a.add j) = some u) ∧ LiesE W o.lao o.l ∧ (o.lao = none → o.l = [] ∧ o.lcap = 0) ∧ o.l.length ≤ Rows.uptoBulk D := by
  obtain ⟨_, hlen, hcell⟩ := World.cells?_some h1
  obtain ⟨xs, k, hk, hxy, _, hxl, hf⟩ := DataW.trod_struct Tryz.underlying31 h2
  match xs, hxl, cs, hlen with
  | [y0, y1, y2, y3, y4, y5, y6, y7], _, [v0, v1, v2, v3, v4, v5, v6, v7], _ =>
    have g0 : DataW.trod enc Tryz.prog W 0 (fun _ => true) true k 3 (([v0, v1, v2, v3, v4, v5, v6, v7].drop 0).take (Tryz.prog.cellsOf 3)) = some y0 := hf 0 _ rfl
    have g1 : DataW.trod enc Tryz.prog W 0 (fun _ => true) true k 3 (([v0, v1, v2, v3, v4, v5, v6, v7].drop 1).take (Tryz.prog.cellsOf 3)) = some y1 := hf 1 _ rfl
    have g2 : DataW.trod enc Tryz.prog W 0 (fun _ => true) true k 9 (([v0, v1, v2, v3, v4, v5, v6, v7].drop 2).take (Tryz.prog.cellsOf 9)) = some y2 := hf 2 _ rfl
    have g3 : DataW.trod enc Tryz.prog W 0 (fun _ => true) true k 9 (([v0, v1, v2, v3, v4, v5, v6, v7].drop 3).take (Tryz.prog.cellsOf 9)) = some y3 := hf 3 _ rfl
    have g4 : DataW.trod enc Tryz.prog W 0 (fun _ => true) true k 9 (([v0, v1, v2, v3, v4, v5, v6, v7].drop 4).take (Tryz.prog.cellsOf 9)) = some y4 := hf 4 _ rfl
    have g5 : DataW.trod enc Tryz.prog W 0 (fun _ => true) true k 26 (([v0, v1, v2, v3, v4, v5, v6, v7].drop 5).take (Tryz.prog.cellsOf 26)) = some y5 := hf 5 _ rfl
    have g6 : DataW.trod enc Tryz.prog W 0 (fun _ => true) true k 29 (([v0, v1, v2, v3, v4, v5, v6, v7].drop 6).take (Tryz.prog.cellsOf 29)) = some y6 := hf 6 _ rfl
    have g7 : DataW.trod enc Tryz.prog W 0 (fun _ => true) true k 4 (([v0, v1, v2, v3, v4, v5, v6, v7].drop 7).take (Tryz.prog.cellsOf 4)) = some y7 := hf 7 _ rfl
    rw [cells_strE] at g2 g3 g4
    rw [cells_intE] at g0 g1
    rw [cells_boolE] at g7
    rw [cells_entries] at g5
    rw [cells_lockeds] at g6
    obtain ⟨i0, e0, _, _⟩ := DataW.trod_int Tryz.underlying3 g0
    obtain ⟨i1, e1, _, _⟩ := DataW.trod_int Tryz.underlying3 g1
    obtain ⟨s2, e2, _, _⟩ := DataW.trod_string Tryz.underlying9 g2
    obtain ⟨s3, e3, _, _⟩ := DataW.trod_string Tryz.underlying9 g3
    obtain ⟨s4, e4, _, _⟩ := DataW.trod_string Tryz.underlying9 g4
    obtain ⟨ao, l, cap, e5, hnil, hat, hbl⟩ := ents_of (d := y5.1) (p := y5.2) g5
    obtain ⟨mo, mn, mc, e6⟩ := mods_shape (d := y6.1) (p := y6.2) g6
    obtain ⟨b7, e7, _⟩ := DataW.trod_bool Tryz.underlying4 g7
    have e0' : v0 = .int .i64 i0 := by simpa using e0
    have e1' : v1 = .int .i64 i1 := by simpa using e1
    have e2' : v2 = .string s2 := by simpa using e2
    have e3' : v3 = .string s3 := by simpa using e3
    have e4' : v4 = .string s4 := by simpa using e4
    have e7' : v7 = .bool b7 := by simpa using e7
    subst e0' e1' e2' e3' e4' e5 e6 e7'
    refine ⟨⟨i0, i1, s2, s3, s4, ao, l, cap, mo, mn, mc, b7⟩, fun j u hj => ?_, hat, hnil, ?_⟩
    · have hjl : j < 8 := (List.getElem?_eq_some_iff.1 hj).1
      have hc := hcell j hjl
      rw [hc]
      exact hj
    · have hxy1 : D = .agg [y0.1, y1.1, y2.1, y3.1, y4.1, y5.1, y6.1, y7.1] := by simpa using (Prod.mk.inj hxy).1
      rw [hxy1, Rows.uptoBulk]
      have := bulkE_mem (x := y5.1) (L := [y0.1, y1.1, y2.1, y3.1, y4.1, y5.1, y6.1, y7.1]) (by simp)
      show l.length ≤ _
      omega
/-- a script, wherever it lies -/
theorem ops_of {H : Type} {enc : TypeId × Value → H} {W : World} {fuel : Nat} {ao : Option Addr} {len cap : Nat} {d : DataW H} {p : List MemPlace}
    (hf : DataW.trod enc Tryz.prog W 0 (fun _ => true) true fuel 22 (Value.slice ao len cap).cells.toList = some (d, p)) (hbk : Rows.uptoBulk d ≤ 1048576) :
    ∃ ops : List OpR, ops.length = len ∧ OpsIn W ao ops ∧ len ≤ 1048576 := by
  rcases open_slice Tryz.underlying22 hf with ⟨hcs, hx⟩ | ⟨a, len', cap', m, n, D, Pl, hcs, _, hl, _, hm, hx, hcell⟩
  · have e : ao = none ∧ len = 0 ∧ cap = 0 := by simpa [Value.cells] using hcs
    obtain ⟨rfl, rfl, rfl⟩ := e
    exact ⟨[], rfl, .inl rfl, by omega⟩
  · have e : ao = some a ∧ len = len' ∧ cap = cap' := by simpa [Value.cells] using hcs
    obtain ⟨rfl, rfl, rfl⟩ := e
    have hd : d = .slice ((List.range len).map D) ((List.range (m - len)).map fun j => D (len + j)) := (Prod.mk.inj hx).1
    have hlm : len ≤ m := by rw [hm]; simp; omega
    have hbl : Rows.uptoBulkAll ((List.range len).map D) ≤ 1048576 := by rw [hd, Rows.uptoBulk] at hbk; omega
    rw [cells_op] at hcell
    haveI : Inhabited OpR := ⟨⟨0, 0, ⟨#[]⟩, ⟨#[]⟩, ⟨#[]⟩, none, [], 0, none, 0, 0, false⟩⟩
    obtain ⟨f, hf'⟩ := choose_lt (α := OpR) (n := len) (p := fun i o => (∀ j u, o.cells.toList[j]? = some u → W.cell? ((a.add (i * 8)).add j) = some u) ∧ LiesE W o.lao o.l ∧ (o.lao = none → o.l = [] ∧ o.lcap = 0) ∧ o.l.length ≤ Rows.uptoBulk (D i)) (fun i hi => by
      obtain ⟨cs', h1, h2⟩ := hcell i (by omega)
      exact op_of h1 h2)
    refine ⟨(List.range len).map f, by simp, ?_, ?_⟩
    · by_cases h0 : len = 0
      · left; simp [h0]
      right
      obtain ⟨g, o, sp⟩ := a
      have hfirst := (hf' 0 (by omega)).1 0 _ rfl
      have hspot : sp = none := by
        have := World.cell?_spot hfirst
        simpa [Addr.add] using this
      subst hspot
      refine ⟨g, o, rfl, ?_, fun i op hi => ?_⟩
      · rw [addE, addE] at hfirst
        exact block_lt_of_cell hfirst
      · have hil : i < len := by have := (List.getElem?_eq_some_iff.1 hi).1; simpa using this
        rw [List.getElem?_map, List.getElem?_range hil] at hi
        have hop : op = f i := by simpa using hi.symm
        subst hop
        obtain ⟨k1, k2, k3, k4⟩ := hf' i hil
        have hmem := bulkE_mem (List.mem_map.2 ⟨i, List.mem_range.2 hil, rfl⟩ : D i ∈ (List.range len).map D)
        refine ⟨fun j u hj => ?_, k2, k3, by omega⟩
        have := k1 j u hj
        rw [addE, addE] at this
        exact this
    · have := bulkE_len ((List.range len).map D)
      simp at this; omega
end Go.Proofs.YtgfbbcnnmoamnaaGreatDoor.Tr
