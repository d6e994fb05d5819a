/- The arguments of the law, opened. -/
import Derived.Test.YtjngbcbkapjkhaaGreatDoorLkV
import Derived.Test.YtjngbcbkapjkhaaGreatDoorRows
import Derived.Deep.Slices
namespace Go.Proofs.YtjngbcbkapjkhaaGreatDoor.Lk
open Go.ChangeShapes Go.WideShapes Go.RowKit Go.Deep Go.Proofs.YtjngbcbkapjkhaaGreatDoor

theorem bulk_pos {H : Type} (d : DataW H) : 1 ≤ Rows.uptoBulk d := by
  cases d with
  | lit x => cases x <;> simp [Rows.uptoBulk]
  | _ => simp [Rows.uptoBulk]
theorem bulk_mem {H : Type} : ∀ {L : List (DataW H)} {x : DataW H}, x ∈ L → Rows.uptoBulk x ≤ Rows.uptoBulkAll L
  | [], x, h => by cases h
  | d :: r, x, h => by
    rw [Rows.uptoBulkAll]
    rcases List.mem_cons.1 h with h | h
    · subst h; omega
    · have := bulk_mem h; omega
theorem bulk_len {H : Type} : ∀ (L : List (DataW H)), L.length ≤ Rows.uptoBulkAll L
  | [] => by simp [Rows.uptoBulkAll]
  | d :: r => by
    rw [Rows.uptoBulkAll, List.length_cons]
    have := bulk_len r
    have := bulk_pos d
    omega
theorem cells_locked : Tryz.prog.cellsOf 25 = 3 := by kernel_rfl
theorem cells_str : Tryz.prog.cellsOf 9 = 1 := by kernel_rfl
set_option maxRecDepth 8000 in
/-- an element is three texts -/
theorem mod_of {H : Type} {enc : TypeId × Value → H} {W : World} {n : Nat} {a : Addr} {D : DataW H} {P : List MemPlace} {cs : List Value} (h1 : W.cells? 0 a 3 = some cs) (h2 : DataW.trod enc Tryz.prog W 0 (fun _ => true) true n 25 cs = some (D, P)) :
    ∃ m : M, W.cell? a = some (.string ⟨m.n.toArray⟩) ∧ W.cell? (a.add 1) = some (.string ⟨m.v.toArray⟩) ∧ W.cell? (a.add 2) = some (.string ⟨m.d.toArray⟩) ∧ D = .agg [.lit (.string m.n), .lit (.string m.v), .lit (.string m.d)] := by
  obtain ⟨_, hlen, hcell⟩ := World.cells?_some h1
  obtain ⟨xs, k, hk, hxy, _, hxl, hf⟩ := DataW.trod_struct Tryz.underlying25 h2
  match xs, hxl, cs, hlen with
  | [y0, y1, y2], _, [v0, v1, v2], _ =>
    have g0 : DataW.trod enc Tryz.prog W 0 (fun _ => true) true k 9 (([v0, v1, v2].drop 0).take (Tryz.prog.cellsOf 9)) = some y0 := hf 0 _ rfl
    have g1 : DataW.trod enc Tryz.prog W 0 (fun _ => true) true k 9 (([v0, v1, v2].drop 1).take (Tryz.prog.cellsOf 9)) = some y1 := hf 1 _ rfl
    have g2 : DataW.trod enc Tryz.prog W 0 (fun _ => true) true k 9 (([v0, v1, v2].drop 2).take (Tryz.prog.cellsOf 9)) = some y2 := hf 2 _ rfl
    rw [cells_str] at g0 g1 g2
    obtain ⟨s0, e0, f0, _⟩ := DataW.trod_string Tryz.underlying9 g0
    obtain ⟨s1, e1, f1, _⟩ := DataW.trod_string Tryz.underlying9 g1
    obtain ⟨s2, e2, f2, _⟩ := DataW.trod_string Tryz.underlying9 g2
    have e0' : v0 = .string s0 := by simpa using e0
    have e1' : v1 = .string s1 := by simpa using e1
    have e2' : v2 = .string s2 := by simpa using e2
    have c0 := hcell 0 (by omega)
    have c1 := hcell 1 (by omega)
    have c2 := hcell 2 (by omega)
    have hxy1 : D = .agg [y0.1, y1.1, y2.1] := by simpa using (Prod.mk.inj hxy).1
    have back : ∀ s : ByteArray, (⟨s.data.toList.toArray⟩ : ByteArray) = s := fun s => by cases s; simp
    refine ⟨⟨s0.data.toList, s1.data.toList, s2.data.toList⟩, ?_, ?_, ?_, ?_⟩
    · show W.cell? a = some (.string ⟨s0.data.toList.toArray⟩)
      rw [back, ← e0']; simpa [Addr.add] using c0
    · show W.cell? (a.add 1) = some (.string ⟨s1.data.toList.toArray⟩)
      rw [back, ← e1']; simpa using c1
    · show W.cell? (a.add 2) = some (.string ⟨s2.data.toList.toArray⟩)
      rw [back, ← e2']; simpa using c2
    · rw [hxy1, f0, f1, f2]

/-- a list of modules, wherever it lies -/
theorem mods_of {H : Type} {enc : TypeId × Value → H} {W : World} {fuel : Nat} {ao : Option Addr} {len cap : Nat} {d : DataW H} {p : List MemPlace}
    (hf : DataW.trod enc Tryz.prog W 0 (fun _ => true) true fuel 22 (Value.slice ao len cap).cells.toList = some (d, p)) :
    ∃ l : List M, l.length = len ∧ (ao = none → l = [] ∧ cap = 0) ∧ Lies W ao l ∧ len ≤ Rows.uptoBulk d ∧ ∀ m ∈ l, m.n.length ≤ Rows.uptoBulk d ∧ m.v.length ≤ Rows.uptoBulk d ∧ m.d.length ≤ Rows.uptoBulk d := by
  rcases open_slice Tryz.underlying22 hf with ⟨hcs, hx⟩ | ⟨a, len', cap', m, n, D, Pl, hcs, _, hl, _, hm, hx, hcell⟩
  · have e : ao = none ∧ len = 0 ∧ cap = 0 := by simpa [Value.cells] using hcs
    obtain ⟨rfl, rfl, rfl⟩ := e
    exact ⟨[], rfl, fun _ => ⟨rfl, rfl⟩, .inl rfl, Nat.zero_le _, fun m hm => by cases hm⟩
  · have e : ao = some a ∧ len = len' ∧ cap = cap' := by simpa [Value.cells] using hcs
    obtain ⟨rfl, rfl, rfl⟩ := e
    have hd : d = .slice ((List.range len).map D) ((List.range (m - len)).map fun j => D (len + j)) := (Prod.mk.inj hx).1
    have hlm : len ≤ m := by rw [hm]; simp; omega
    rw [cells_locked] at hcell
    haveI : Inhabited M := ⟨zm⟩
    obtain ⟨f, hf'⟩ := choose_lt (α := M) (n := len) (p := fun i q => W.cell? (a.add (i * 3)) = some (.string ⟨q.n.toArray⟩) ∧ W.cell? ((a.add (i * 3)).add 1) = some (.string ⟨q.v.toArray⟩) ∧ W.cell? ((a.add (i * 3)).add 2) = some (.string ⟨q.d.toArray⟩) ∧ D i = .agg [.lit (.string q.n), .lit (.string q.v), .lit (.string q.d)]) (fun i hi => by
      obtain ⟨cs', h1, h2⟩ := hcell i (by omega)
      exact mod_of h1 h2)
    have hget : ∀ j q, ((List.range len).map f)[j]? = some q → j < len ∧ q = f j := fun j q hj => by
      have hjl : j < len := by have := (List.getElem?_eq_some_iff.1 hj).1; simpa using this
      rw [List.getElem?_map, List.getElem?_range hjl] at hj
      exact ⟨hjl, (by simpa using hj.symm)⟩
    refine ⟨(List.range len).map f, by simp, (fun h => by cases h), ?_, ?_, ?_⟩
    · by_cases h0 : len = 0
      · left; simp [h0]
      right
      obtain ⟨g, o, sp⟩ := a
      have hspot : sp = none := by
        have := World.cell?_spot (hf' 0 (by omega)).1
        simpa [Addr.add] using this
      subst hspot
      have hadd : ∀ k, (⟨g, o, none⟩ : Addr).add k = ⟨g, o + k, none⟩ := fun k => by unfold Addr.add; split <;> simp_all
      refine ⟨g, o, rfl, ?_, fun j q hj => ?_⟩
      · have h1 := (hf' 0 (by omega)).1
        rw [hadd] at h1
        exact block_lt_of_cell h1
      · obtain ⟨hjl, rfl⟩ := hget j q hj
        obtain ⟨c0, c1, c2, _⟩ := hf' j hjl
        rw [add_add, hadd] at c1 c2
        rw [hadd] at c0
        exact ⟨c0, by rw [← Nat.add_assoc] at c1; exact c1, by rw [← Nat.add_assoc] at c2; exact c2⟩
    · rw [hd, Rows.uptoBulk]
      have := bulk_len ((List.range len).map D)
      simp at this; omega
    · intro q hq
      obtain ⟨j, hj, rfl⟩ := List.mem_map.1 hq
      have hjl := List.mem_range.1 hj
      have h1 := bulk_mem (List.mem_map.2 ⟨j, hj, rfl⟩ : D j ∈ (List.range len).map D)
      rw [(hf' j hjl).2.2.2] at h1
      simp only [Rows.uptoBulk, Rows.uptoBulkAll] at h1
      rw [hd, Rows.uptoBulk]
      omega
end Go.Proofs.YtjngbcbkapjkhaaGreatDoor.Lk
