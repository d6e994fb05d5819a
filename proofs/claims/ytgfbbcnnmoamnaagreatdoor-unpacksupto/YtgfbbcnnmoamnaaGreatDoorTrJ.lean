/- Series of trees, purely: how they are written, how they are read. What strconv.Atoi, strconv.Itoa, strings.TrimPrefix and strings.Compare do at this program: the library's contracts, laid by the library's own command. A line's entry: the program's reading. The entries that a series tells: the program's reading. -/
import Derived.Test.YtgfbbcnnmoamnaaGreatDoorTrPure
import Derived.Lib.AtoiAll
import Derived.Lib.ItoaNum
import Derived.Shelf.Small.Strs
import Derived.Shelf.LaysM
import Derived.Shelf.LaysC
import Derived.Shelf.Strconv.Itoa3
import Derived.Shelf.Strconv.AtoiAll
import Derived.Shelf.Strings.Prefix
import Derived.Test.YtgfbbcnnmoamnaaGreatDoorProg
import Derived.Test.YtgfbbcnnmoamnaaGreatDoorTrF
import Derived.Deep.AppendLies
namespace Go.Proofs.YtgfbbcnnmoamnaaGreatDoor.Tr
open Go.Proofs.YtgfbbcnnmoamnaaGreatDoor.Lk

/-- a number, written -/
def decB (n : Nat) : List UInt8 := Lib.decDigits n
theorem decB_small {n : Nat} (h : n < 10) : decB n = [UInt8.ofNat (48 + n)] := by rw [decB, Lib.decDigits, dif_pos h]
theorem decB_big {n : Nat} (h : ¬ n < 10) : decB n = decB (n / 10) ++ [UInt8.ofNat (48 + n % 10)] := by rw [decB, Lib.decDigits, dif_neg h]; rfl
theorem dig_nat {d : Nat} (h : d < 10) : (UInt8.ofNat (48 + d)).toNat = 48 + d := by
  rw [UInt8.toNat_ofNat']; omega
theorem decB_ne (n : Nat) : decB n ≠ [] := by
  by_cases h : n < 10
  · rw [decB_small h]; simp
  · rw [decB_big h]; simp
/-- every sign is a digit -/
theorem decB_dig : ∀ (n : Nat), ∀ c ∈ decB n, 48 ≤ c.toNat ∧ c.toNat ≤ 57 := by
  intro n
  induction n using Nat.strongRecOn with
  | _ n ih =>
    intro c hc
    by_cases h : n < 10
    · rw [decB_small h] at hc
      simp only [List.mem_singleton] at hc
      rw [hc, dig_nat h]; omega
    · rw [decB_big h] at hc
      rcases List.mem_append.1 hc with h1 | h1
      · exact ih (n / 10) (by omega) c h1
      · simp only [List.mem_singleton] at h1
        rw [h1, dig_nat (Nat.mod_lt _ (by decide))]; omega
theorem decB_no {n : Nat} {c : UInt8} (hc : ¬ (48 ≤ c.toNat ∧ c.toNat ≤ 57)) : c ∉ decB n := fun h => hc (decB_dig n c h)
theorem uint_snoc {l : List UInt8} {acc n : Nat} {c : UInt8} (h : Lib.parseUint10 acc l = .ok n) (hc : 48 ≤ c.toNat ∧ c.toNat ≤ 57) (hn : n < 100000000) : Lib.parseUint10 acc (l ++ [c]) = .ok (n * 10 + (c.toNat - 48)) := by
  induction l generalizing acc with
  | nil =>
    simp only [Lib.parseUint10] at h
    injection h with h
    subst h
    simp only [List.nil_append, Lib.parseUint10]
    rw [if_pos hc, if_neg (by omega), if_neg (by omega)]
  | cons a t ih =>
    simp only [List.cons_append, Lib.parseUint10] at h ⊢
    split at h
    · rename_i ha
      rw [if_pos ha]
      split at h
      · cases h
      · rename_i h1
        rw [if_neg h1]
        split at h
        · cases h
        · rename_i h2
          rw [if_neg h2]
          exact ih h
    · cases h
theorem uint_dec : ∀ (n : Nat), n < 100000000 → Lib.parseUint10 0 (decB n) = .ok n := by
  intro n
  induction n using Nat.strongRecOn with
  | _ n ih =>
    intro hn
    by_cases h : n < 10
    · rw [decB_small h]
      simp only [Lib.parseUint10, dig_nat h]
      rw [if_pos (by omega), if_neg (by omega), if_neg (by omega)]
      congr 1; omega
    · rw [decB_big h, uint_snoc (ih (n / 10) (by omega) (by omega)) (by rw [dig_nat (Nat.mod_lt _ (by decide))]; omega) (by omega), dig_nat (Nat.mod_lt _ (by decide))]
      congr 1; omega
/-- what is written is read again -/
theorem atoi_dec (n : Nat) (hn : n < 100000000) : Lib.atoiAll (decB n) = .ok (n : Int) := by
  have h0 := decB_ne n
  have h1 := uint_dec n hn
  have h2 := decB_dig n
  cases hd : decB n with
  | nil => exact absurd hd h0
  | cons c r =>
    rw [hd] at h1 h2
    have hc := h2 c List.mem_cons_self
    have hm : Lib.parseMag (c :: r) = .ok n := by rw [Lib.parseMag, if_neg (by simp), h1]
    have a1 : ¬ c.toNat = 43 := by omega
    have a2 : ¬ (c.toNat = 45) := by omega
    simp only [Lib.atoiAll, a1, a2, or_self, hm, not_false_eq_true, true_and, false_and, if_false]
    rw [if_neg (by omega)]
/-- the first four bytes of a series' end; marks -/
def headB : List UInt8 := [98, 105, 110, 100, 101, 114, 121, 32, 49, 10]
def endB : List UInt8 := [101, 110, 100]
/-- an entry, written -/
def lineE (e : E) : List UInt8 := if e.dir then [100, 32] ++ e.p ++ [10] else [102, 32] ++ decB e.b.length ++ [32] ++ e.p ++ [10] ++ e.b ++ [10]
def bodyE (m : List E) (n : Nat) : List UInt8 := m.flatMap lineE ++ (endB ++ [32] ++ decB n ++ [10])
def serE (m : List E) : List UInt8 := headB ++ bodyE m m.length
/-- the entry of a line, and how much of what is behind belongs to it -/
def entryOf (mark told behind : List UInt8) : Option (E × Nat) :=
  if mark = [100] then some (⟨told, true, []⟩, 0)
  else if mark = [102] then match Lib.atoiAll (cutB 32 told).1 with
    | .ok n => if 0 ≤ n ∧ n < behind.length then some (⟨(cutB 32 told).2.1, false, behind.take n.toNat⟩, n.toNat + 1) else none
    | _ => none
  else none
/-- what the program reads -/
def readE (s : List UInt8) (l : List E) : Option (List E) :=
  if _hf : (cutB 10 s).2.2 = true then
    if (cutB 32 (cutB 10 s).1).1 = endB then some l
    else match entryOf (cutB 32 (cutB 10 s).1).1 (cutB 32 (cutB 10 s).1).2.1 (cutB 10 s).2.1 with
      | some (e, n) => readE ((cutB 10 s).2.1.drop n) (l ++ [e])
      | none => none
  else none
  termination_by s.length
  decreasing_by
    have := cut_rest_lt _hf
    simp only [List.length_drop]
    omega
theorem readE_miss {s : List UInt8} {l : List E} (hf : (cutB 10 s).2.2 = false) : readE s l = none := by
  rw [readE, dif_neg (by rw [hf]; exact Bool.false_ne_true)]
theorem readE_end {s : List UInt8} {l : List E} (hf : (cutB 10 s).2.2 = true) (he : (cutB 32 (cutB 10 s).1).1 = endB) : readE s l = some l := by
  rw [readE, dif_pos hf, if_pos he]
theorem readE_bad {s : List UInt8} {l : List E} (he : (cutB 32 (cutB 10 s).1).1 ≠ endB) (h : entryOf (cutB 32 (cutB 10 s).1).1 (cutB 32 (cutB 10 s).1).2.1 (cutB 10 s).2.1 = none) : readE s l = none := by
  rw [readE]
  by_cases hf : (cutB 10 s).2.2 = true
  · rw [dif_pos hf, if_neg he, h]
  · rw [dif_neg hf]
theorem readE_go {s : List UInt8} {l : List E} (hf : (cutB 10 s).2.2 = true) (he : (cutB 32 (cutB 10 s).1).1 ≠ endB) {e : E} {n : Nat} (h : entryOf (cutB 32 (cutB 10 s).1).1 (cutB 32 (cutB 10 s).1).2.1 (cutB 10 s).2.1 = some (e, n)) : readE s l = readE ((cutB 10 s).2.1.drop n) (l ++ [e]) := by
  rw [readE, dif_pos hf, if_neg he, h]
/-- may an entry be written so that it is read again? -/
def Plain (e : E) : Prop := (32 : UInt8) ∉ e.p ∧ (10 : UInt8) ∉ e.p ∧ e.b.length < 100000000 ∧ (e.dir = true → e.b = [])
theorem readE_line {e : E} (h : Plain e) (r : List UInt8) (l : List E) : readE (lineE e ++ r) l = readE r (l ++ [e]) := by
  obtain ⟨h1, h2, h3, h4⟩ := h
  cases hd : e.dir with
  | true =>
    have hb := h4 hd
    have e0 : lineE e ++ r = ([100, 32] ++ e.p) ++ 10 :: r := by rw [lineE, if_pos hd]; simp
    have e1 : cutB 10 (lineE e ++ r) = ([100, 32] ++ e.p, r, true) := by
      rw [e0]; exact cut_of_hit (by
        simp only [List.mem_append, List.mem_cons, List.not_mem_nil, or_false]
        rintro ((h | h) | h)
        · exact absurd h (by decide)
        · exact absurd h (by decide)
        · exact h2 h)
    have e2 : cutB 32 ([100, 32] ++ e.p) = ([100], e.p, true) := cut_of_hit (a := [100]) (b := e.p) (by decide)
    rw [readE_go (e := e) (n := 0) (by rw [e1]) (by rw [e1, e2]; simp [endB]) (by rw [e1, e2, entryOf, if_pos rfl]; congr 2; cases e; simp only [] at hd hb; rw [hd, hb]), e1]
    rfl
  | false =>
    have e0 : lineE e ++ r = ([102, 32] ++ decB e.b.length ++ [32] ++ e.p) ++ 10 :: (e.b ++ 10 :: r) := by rw [lineE, if_neg (by rw [hd]; exact Bool.false_ne_true)]; simp
    have n10 : (10 : UInt8) ∉ decB e.b.length := decB_no (by decide)
    have n32 : (32 : UInt8) ∉ decB e.b.length := decB_no (by decide)
    have e1 : cutB 10 (lineE e ++ r) = ([102, 32] ++ decB e.b.length ++ [32] ++ e.p, e.b ++ 10 :: r, true) := by
      rw [e0]; exact cut_of_hit (by
        simp only [List.mem_append, List.mem_cons, List.not_mem_nil, or_false]
        rintro ((((h | h) | h) | h) | h)
        · exact absurd h (by decide)
        · exact absurd h (by decide)
        · exact n10 h
        · exact absurd h (by decide)
        · exact h2 h)
    have e2 : cutB 32 ([102, 32] ++ decB e.b.length ++ [32] ++ e.p) = ([102], decB e.b.length ++ 32 :: e.p, true) := by
      have := cut_of_hit (c := 32) (a := [102]) (b := decB e.b.length ++ 32 :: e.p) (by decide)
      rw [← this]; congr 1; simp
    have e3 : cutB 32 (decB e.b.length ++ 32 :: e.p) = (decB e.b.length, e.p, true) := cut_of_hit n32
    have hx : entryOf [102] (decB e.b.length ++ 32 :: e.p) (e.b ++ 10 :: r) = some (e, e.b.length + 1) := by
      rw [entryOf, if_neg (by decide), if_pos rfl, e3, atoi_dec _ h3]
      simp only []
      rw [if_pos ⟨by omega, by simp; omega⟩]
      congr 2
      cases e
      simp only [] at hd ⊢
      rw [hd]
      simp
    rw [readE_go (e := e) (n := e.b.length + 1) (by rw [e1]) (by rw [e1, e2]; simp [endB]) (by rw [e1, e2]; exact hx), e1]
    congr 1
    simp
theorem readE_lines : ∀ (m : List E) (r : List UInt8) (l : List E), (∀ e ∈ m, Plain e) → readE (m.flatMap lineE ++ r) l = readE r (l ++ m)
  | [], r, l, _ => by simp
  | e :: m, r, l, h => by
    rw [List.flatMap_cons, List.append_assoc, readE_line (h e List.mem_cons_self), readE_lines m r _ (fun x hx => h x (List.mem_cons_of_mem _ hx))]
    simp
/-- what is written is read again -/
theorem readE_body (m : List E) (n : Nat) (h : ∀ e ∈ m, Plain e) : readE (bodyE m n) [] = some m := by
  rw [bodyE, readE_lines m _ _ h]
  have e0 : endB ++ [32] ++ decB n ++ [10] = (endB ++ [32] ++ decB n) ++ 10 :: [] := rfl
  have n10 : (10 : UInt8) ∉ decB n := decB_no (by decide)
  have e1 : cutB 10 (endB ++ [32] ++ decB n ++ [10]) = (endB ++ [32] ++ decB n, [], true) := by
    rw [e0]; exact cut_of_hit (by
      simp only [endB, List.mem_append, List.mem_cons, List.not_mem_nil, or_false]
      rintro ((h | h) | h)
      · rcases h with h | h | h <;> exact absurd h (by decide)
      · exact absurd h (by decide)
      · exact n10 h)
  have e2 : cutB 32 (endB ++ [32] ++ decB n) = (endB, decB n, true) := by
    have := cut_of_hit (c := 32) (a := endB) (b := decB n) (by decide)
    rw [← this]; congr 1
  rw [readE_end (by rw [e1]) (by rw [e1, e2])]
  simp
end Go.Proofs.YtgfbbcnnmoamnaaGreatDoor.Tr

namespace Go.Proofs
open Go.Shelf
def Tryz.laysC172_ren : Go.Shelf.Ren := ⟨fun | 172 => 222 | 244 => 283 | 245 => 284 | 247 => 329 | 279 => 330 | 280 => 331 | 281 => 332 | 282 => 333 | 287 => 354 | 316 => 355 | 171 => 22 | 205 => 356 | 321 => 368 | 322 => 369 | 243 => 59 | 246 => 123 | 283 => 182 | 284 => 183 | 285 => 184 | 286 => 185 | 129 => 179 | 317 => 234 | 318 => 235 | 319 => 236 | 320 => 237 | 337 => 289 | 338 => 290 | n => n, fun | 9 => 9 | 3 => 3 | 75 => 41 | 76 => 71 | 4 => 4 | 5 => 5 | 167 => 411 | 37 => 66 | 0 => 0 | 85 => 412 | 2 => 2 | 168 => 414 | 53 => 279 | 175 => 427 | 46 => 199 | 210 => 430 | 127 => 125 | 145 => 440 | 143 => 438 | 21 => 21 | 171 => 282 | 173 => 284 | 212 => 343 | 51 => 277 | 20 => 20 | 213 => 344 | 232 => 234 | 233 => 419 | 80 => 44 | n => n, fun | 15 => 20 | 16 => 21 | 17 => 6 | 18 => 16 | 19 => 17 | n => n⟩
theorem Tryz.laysC172 : Go.Proofs.LaysC.n172 Tryz.prog Tryz.laysC172_ren := {
  mixed := by kernel_rfl
  f129 := Tryz.func179.trans (congrArg some (by kernel_rfl))
  f171 := Tryz.func22.trans (congrArg some (by kernel_rfl))
  f172 := Tryz.func222.trans (congrArg some (by kernel_rfl))
  f205 := Tryz.func356.trans (congrArg some (by kernel_rfl))
  f243 := Tryz.func59.trans (congrArg some (by kernel_rfl))
  f244 := Tryz.func283.trans (congrArg some (by kernel_rfl))
  f245 := Tryz.func284.trans (congrArg some (by kernel_rfl))
  f246 := Tryz.func123.trans (congrArg some (by kernel_rfl))
  f247 := Tryz.func329.trans (congrArg some (by kernel_rfl))
  f279 := Tryz.func330.trans (congrArg some (by kernel_rfl))
  f280 := Tryz.func331.trans (congrArg some (by kernel_rfl))
  f281 := Tryz.func332.trans (congrArg some (by kernel_rfl))
  f282 := Tryz.func333.trans (congrArg some (by kernel_rfl))
  f283 := Tryz.func182.trans (congrArg some (by kernel_rfl))
  f284 := Tryz.func183.trans (congrArg some (by kernel_rfl))
  f285 := Tryz.func184.trans (congrArg some (by kernel_rfl))
  f286 := Tryz.func185.trans (congrArg some (by kernel_rfl))
  f287 := Tryz.func354.trans (congrArg some (by kernel_rfl))
  f316 := Tryz.func355.trans (congrArg some (by kernel_rfl))
  f317 := Tryz.func234.trans (congrArg some (by kernel_rfl))
  f318 := Tryz.func235.trans (congrArg some (by kernel_rfl))
  f319 := Tryz.func236.trans (congrArg some (by kernel_rfl))
  f320 := Tryz.func237.trans (congrArg some (by kernel_rfl))
  f321 := Tryz.func368.trans (congrArg some (by kernel_rfl))
  f322 := Tryz.func369.trans (congrArg some (by kernel_rfl))
  f337 := Tryz.func289.trans (congrArg some (by kernel_rfl))
  f338 := Tryz.func290.trans (congrArg some (by kernel_rfl))
  t0 := Tryz.underlying0
  a0 := Tryz.isAgg0
  z0 := Tryz.sizeOf0
  v0 := Tryz.zeroValue0
  t2 := Tryz.underlying2
  a2 := Tryz.isAgg2
  z2 := Tryz.sizeOf2
  v2 := Tryz.zeroValue2
  t3 := Tryz.underlying3
  a3 := Tryz.isAgg3
  z3 := Tryz.sizeOf3
  v3 := Tryz.zeroValue3
  t4 := Tryz.underlying4
  a4 := Tryz.isAgg4
  z4 := Tryz.sizeOf4
  v4 := Tryz.zeroValue4
  t5 := Tryz.underlying5
  a5 := Tryz.isAgg5
  z5 := Tryz.sizeOf5
  v5 := Tryz.zeroValue5
  t9 := Tryz.underlying9
  a9 := Tryz.isAgg9
  z9 := Tryz.sizeOf9
  v9 := Tryz.zeroValue9
  t20 := Tryz.underlying20
  a20 := Tryz.isAgg20
  z20 := Tryz.sizeOf20
  v20 := Tryz.zeroValue20
  t21 := Tryz.underlying21
  a21 := Tryz.isAgg21
  z21 := Tryz.sizeOf21
  v21 := Tryz.zeroValue21
  t37 := Tryz.underlying66
  a37 := Tryz.isAgg66
  z37 := Tryz.sizeOf66
  v37 := Tryz.zeroValue66
  t46 := Tryz.underlying199
  a46 := Tryz.isAgg199
  z46 := Tryz.sizeOf199
  v46 := Tryz.zeroValue199
  t51 := Tryz.underlying277
  a51 := Tryz.isAgg277
  z51 := Tryz.sizeOf277
  v51 := Tryz.zeroValue277
  t53 := Tryz.underlying279
  a53 := Tryz.isAgg279
  z53 := Tryz.sizeOf279
  v53 := Tryz.zeroValue279
  t75 := Tryz.underlying41
  a75 := Tryz.isAgg41
  z75 := Tryz.sizeOf41
  v75 := Tryz.zeroValue41
  t76 := Tryz.underlying71
  a76 := Tryz.isAgg71
  z76 := Tryz.sizeOf71
  v76 := Tryz.zeroValue71
  t85 := Tryz.underlying412
  a85 := Tryz.isAgg412
  z85 := Tryz.sizeOf412
  v85 := Tryz.zeroValue412
  t127 := Tryz.underlying125
  a127 := Tryz.isAgg125
  z127 := Tryz.sizeOf125
  v127 := Tryz.zeroValue125
  t143 := Tryz.underlying438
  a143 := Tryz.isAgg438
  z143 := Tryz.sizeOf438
  v143 := Tryz.zeroValue438
  t145 := Tryz.underlying440
  a145 := Tryz.isAgg440
  z145 := Tryz.sizeOf440
  v145 := Tryz.zeroValue440
  t167 := Tryz.underlying411
  a167 := Tryz.isAgg411
  z167 := Tryz.sizeOf411
  v167 := Tryz.zeroValue411
  t168 := Tryz.underlying414
  a168 := Tryz.isAgg414
  z168 := Tryz.sizeOf414
  v168 := Tryz.zeroValue414
  t171 := Tryz.underlying282
  a171 := Tryz.isAgg282
  z171 := Tryz.sizeOf282
  v171 := Tryz.zeroValue282
  t173 := Tryz.underlying284
  a173 := Tryz.isAgg284
  z173 := Tryz.sizeOf284
  v173 := Tryz.zeroValue284
  t175 := Tryz.underlying427
  a175 := Tryz.isAgg427
  z175 := Tryz.sizeOf427
  v175 := Tryz.zeroValue427
  t210 := Tryz.underlying430
  a210 := Tryz.isAgg430
  z210 := Tryz.sizeOf430
  v210 := Tryz.zeroValue430
  t212 := Tryz.underlying343
  a212 := Tryz.isAgg343
  z212 := Tryz.sizeOf343
  v212 := Tryz.zeroValue343
  t213 := Tryz.underlying344
  a213 := Tryz.isAgg344
  z213 := Tryz.sizeOf344
  t232 := Tryz.underlying234
  a232 := Tryz.isAgg234
  z232 := Tryz.sizeOf234
  v232 := Tryz.zeroValue234
  t233 := Tryz.underlying419
  a233 := Tryz.isAgg419
  z233 := Tryz.sizeOf419
  v233 := Tryz.zeroValue419
  g15 := by kernel_rfl
  g16 := by kernel_rfl
  g17 := by kernel_rfl
  g18 := by kernel_rfl
  g19 := by kernel_rfl
  t80 := Tryz.underlying44
  a80 := Tryz.isAgg44
  z80 := Tryz.sizeOf44
  v80 := Tryz.zeroValue44
  i0 := by kernel_rfl
  i2 := by kernel_rfl
  i3 := by kernel_rfl
  i4 := by kernel_rfl
  i5 := by kernel_rfl
  i9 := by kernel_rfl
  i20 := by kernel_rfl
  i21 := by kernel_rfl
  i37 := by kernel_rfl
  i46 := by kernel_rfl
  i51 := by kernel_rfl
  i53 := by kernel_rfl
  i75 := by kernel_rfl
  i76 := by kernel_rfl
  i80 := by kernel_rfl
  i85 := by kernel_rfl
  i127 := by kernel_rfl
  i143 := by kernel_rfl
  i145 := by kernel_rfl
  i167 := by kernel_rfl
  i168 := by kernel_rfl
  i171 := by kernel_rfl
  i173 := by kernel_rfl
  i175 := by kernel_rfl
  i210 := by kernel_rfl
  i212 := by kernel_rfl
  i232 := by kernel_rfl
  i233 := by kernel_rfl
  m15 := by kernel_rfl
  m16 := by kernel_rfl
  m17 := by kernel_rfl
  m18 := by kernel_rfl
  m19 := by kernel_rfl
  c0 := by kernel_rfl
  c2 := by kernel_rfl
  c3 := by kernel_rfl
  c4 := by kernel_rfl
  c5 := by kernel_rfl
  c9 := by kernel_rfl
  c20 := by kernel_rfl
  c21 := by kernel_rfl
  c37 := by kernel_rfl
  c46 := by kernel_rfl
  c51 := by kernel_rfl
  c53 := by kernel_rfl
  c75 := by kernel_rfl
  c76 := by kernel_rfl
  c80 := by kernel_rfl
  c85 := by kernel_rfl
  c127 := by kernel_rfl
  c143 := by kernel_rfl
  c145 := by kernel_rfl
  c167 := by kernel_rfl
  c168 := by kernel_rfl
  c171 := by kernel_rfl
  c173 := by kernel_rfl
  c175 := by kernel_rfl
  c210 := by kernel_rfl
  c212 := by kernel_rfl
  c213 := by kernel_rfl
  c232 := by kernel_rfl
  c233 := by kernel_rfl }
def Tryz.laysM171_ren : Go.Shelf.Ren := ⟨fun | 171 => 22 | 243 => 59 | 246 => 123 | 283 => 182 | 284 => 183 | 285 => 184 | 286 => 185 | 129 => 179 | 317 => 234 | 318 => 235 | 319 => 236 | 320 => 237 | 337 => 289 | 338 => 290 | n => n, fun | 3 => 3 | 9 => 9 | 2 => 2 | 4 => 4 | 171 => 282 | 0 => 0 | 53 => 279 | 37 => 66 | 5 => 5 | 173 => 284 | 212 => 343 | 51 => 277 | 20 => 20 | 213 => 344 | 46 => 199 | 232 => 234 | 233 => 419 | n => n, fun | 17 => 6 | 18 => 16 | 19 => 17 | n => n⟩
theorem Tryz.laysM171 : Go.Proofs.LaysM.n171 Tryz.prog Tryz.laysM171_ren := {
  mixed := by kernel_rfl
  f129 := Tryz.func179.trans (congrArg some (by kernel_rfl))
  f171 := Tryz.func22.trans (congrArg some (by kernel_rfl))
  f243 := Tryz.func59.trans (congrArg some (by kernel_rfl))
  f246 := Tryz.func123.trans (congrArg some (by kernel_rfl))
  f283 := Tryz.func182.trans (congrArg some (by kernel_rfl))
  f284 := Tryz.func183.trans (congrArg some (by kernel_rfl))
  f285 := Tryz.func184.trans (congrArg some (by kernel_rfl))
  f286 := Tryz.func185.trans (congrArg some (by kernel_rfl))
  f317 := Tryz.func234.trans (congrArg some (by kernel_rfl))
  f318 := Tryz.func235.trans (congrArg some (by kernel_rfl))
  f319 := Tryz.func236.trans (congrArg some (by kernel_rfl))
  f320 := Tryz.func237.trans (congrArg some (by kernel_rfl))
  f337 := Tryz.func289.trans (congrArg some (by kernel_rfl))
  f338 := Tryz.func290.trans (congrArg some (by kernel_rfl))
  t0 := Tryz.underlying0
  a0 := Tryz.isAgg0
  z0 := Tryz.sizeOf0
  v0 := Tryz.zeroValue0
  t2 := Tryz.underlying2
  a2 := Tryz.isAgg2
  z2 := Tryz.sizeOf2
  v2 := Tryz.zeroValue2
  t3 := Tryz.underlying3
  a3 := Tryz.isAgg3
  z3 := Tryz.sizeOf3
  v3 := Tryz.zeroValue3
  t4 := Tryz.underlying4
  a4 := Tryz.isAgg4
  z4 := Tryz.sizeOf4
  v4 := Tryz.zeroValue4
  t5 := Tryz.underlying5
  a5 := Tryz.isAgg5
  z5 := Tryz.sizeOf5
  v5 := Tryz.zeroValue5
  t9 := Tryz.underlying9
  a9 := Tryz.isAgg9
  z9 := Tryz.sizeOf9
  v9 := Tryz.zeroValue9
  t20 := Tryz.underlying20
  a20 := Tryz.isAgg20
  z20 := Tryz.sizeOf20
  v20 := Tryz.zeroValue20
  t37 := Tryz.underlying66
  a37 := Tryz.isAgg66
  z37 := Tryz.sizeOf66
  v37 := Tryz.zeroValue66
  t46 := Tryz.underlying199
  a46 := Tryz.isAgg199
  z46 := Tryz.sizeOf199
  v46 := Tryz.zeroValue199
  t51 := Tryz.underlying277
  a51 := Tryz.isAgg277
  z51 := Tryz.sizeOf277
  v51 := Tryz.zeroValue277
  t53 := Tryz.underlying279
  a53 := Tryz.isAgg279
  z53 := Tryz.sizeOf279
  v53 := Tryz.zeroValue279
  t171 := Tryz.underlying282
  a171 := Tryz.isAgg282
  z171 := Tryz.sizeOf282
  v171 := Tryz.zeroValue282
  t173 := Tryz.underlying284
  a173 := Tryz.isAgg284
  z173 := Tryz.sizeOf284
  v173 := Tryz.zeroValue284
  t212 := Tryz.underlying343
  a212 := Tryz.isAgg343
  z212 := Tryz.sizeOf343
  v212 := Tryz.zeroValue343
  t213 := Tryz.underlying344
  a213 := Tryz.isAgg344
  z213 := Tryz.sizeOf344
  t232 := Tryz.underlying234
  a232 := Tryz.isAgg234
  z232 := Tryz.sizeOf234
  v232 := Tryz.zeroValue234
  t233 := Tryz.underlying419
  a233 := Tryz.isAgg419
  z233 := Tryz.sizeOf419
  v233 := Tryz.zeroValue419
  g17 := by kernel_rfl
  g18 := by kernel_rfl
  g19 := by kernel_rfl
  i0 := by kernel_rfl
  i2 := by kernel_rfl
  i3 := by kernel_rfl
  i4 := by kernel_rfl
  i5 := by kernel_rfl
  i9 := by kernel_rfl
  i20 := by kernel_rfl
  i37 := by kernel_rfl
  i46 := by kernel_rfl
  i51 := by kernel_rfl
  i53 := by kernel_rfl
  i171 := by kernel_rfl
  i173 := by kernel_rfl
  i212 := by kernel_rfl
  i232 := by kernel_rfl
  i233 := by kernel_rfl
  m17 := by kernel_rfl
  m18 := by kernel_rfl
  m19 := by kernel_rfl }
def Tryz.lays101_ren : Go.Shelf.Ren := ⟨fun | 101 => 106 | 208 => 165 | 206 => 223 | n => n, fun | 9 => 9 | 4 => 4 | 3 => 3 | n => n, fun | n => n⟩
theorem Tryz.lays101 : Go.Proofs.Lays.n101 Tryz.prog Tryz.lays101_ren := {
  mixed := by kernel_rfl
  f101 := Tryz.func106.trans (congrArg some (by kernel_rfl))
  f206 := Tryz.func223.trans (congrArg some (by kernel_rfl))
  f208 := Tryz.func165.trans (congrArg some (by kernel_rfl))
  t3 := Tryz.underlying3
  a3 := Tryz.isAgg3
  z3 := Tryz.sizeOf3
  v3 := Tryz.zeroValue3
  t4 := Tryz.underlying4
  a4 := Tryz.isAgg4
  z4 := Tryz.sizeOf4
  v4 := Tryz.zeroValue4
  t9 := Tryz.underlying9
  a9 := Tryz.isAgg9
  z9 := Tryz.sizeOf9
  v9 := Tryz.zeroValue9 }
def Tryz.lays106_ren : Go.Shelf.Ren := ⟨fun | 106 => 47 | 213 => 111 | 265 => 180 | n => n, fun | 9 => 9 | 3 => 3 | n => n, fun | n => n⟩
theorem Tryz.lays106 : Go.Proofs.Lays.n106 Tryz.prog Tryz.lays106_ren := {
  mixed := by kernel_rfl
  f106 := Tryz.func47.trans (congrArg some (by kernel_rfl))
  f213 := Tryz.func111.trans (congrArg some (by kernel_rfl))
  f265 := Tryz.func180.trans (congrArg some (by kernel_rfl))
  t3 := Tryz.underlying3
  a3 := Tryz.isAgg3
  z3 := Tryz.sizeOf3
  v3 := Tryz.zeroValue3
  t9 := Tryz.underlying9
  a9 := Tryz.isAgg9
  z9 := Tryz.sizeOf9
  v9 := Tryz.zeroValue9 }
open Go.RowKit in
theorem Tryz.strconv_Atoi_ok (s : ByteArray) (hmax : s.size ≤ 9223372036854775806) (v : Int) (h : Lib.atoiAll s.data.toList = .ok v) (w : World) :
    Calls Tryz.prog 222 #[.string s] w fun e w' => e = .returned (.tuple #[.int .i64 v, .nilIface]) ∧ (w' = w ∨ ∃ t, w' = Lib.bytesWorld w 5 t) := Any.strconv_Atoi_ok Tryz.laysC172 s hmax v h w
open Go.RowKit in
theorem Tryz.strconv_Atoi_syntax (s : ByteArray) (hlim : s.size ≤ 281474976710656) (h : Lib.atoiAll s.data.toList = .«syntax») (ev : Value) (w : World) (hv : w.cell? ⟨20, 0, none⟩ = some ev) (hev : ev = .nilIface ∨ ∃ te pe, ev = .iface te pe) :
    Calls Tryz.prog 222 #[.string s] w fun e w' => ∃ N, e = .returned (.tuple #[.int .i64 (0), .iface 414 (.pointer (some ⟨N, 0, none⟩))]) ∧ w.heap.size ≤ N ∧ w'.heap[N]? = some (.cells #[.string ⟨#[65, 116, 111, 105]⟩, .string s, ev] 430 (0, 0)) ∧ Below w.heap.size w w' := Any.strconv_Atoi_syntax Tryz.laysC172 s hlim h ev w hv hev
open Go.RowKit in
theorem Tryz.strconv_Atoi_range (s : ByteArray) (hlim : s.size ≤ 281474976710656) (h : Lib.atoiAll s.data.toList = .range) (ev : Value) (w : World) (hv : w.cell? ⟨21, 0, none⟩ = some ev) (hev : ev = .nilIface ∨ ∃ te pe, ev = .iface te pe) :
    Calls Tryz.prog 222 #[.string s] w fun e w' => ∃ N, e = .returned (.tuple #[.int .i64 (Lib.atoiSat s.data.toList), .iface 414 (.pointer (some ⟨N, 0, none⟩))]) ∧ w.heap.size ≤ N ∧ w'.heap[N]? = some (.cells #[.string ⟨#[65, 116, 111, 105]⟩, .string s, ev] 430 (0, 0)) ∧ Below w.heap.size w w' := Any.strconv_Atoi_range Tryz.laysC172 s hlim h ev w hv hev
open Go.RowKit Go.Sort Go.Lib in
theorem Tryz.strconv_Itoa (n : Int) (h0 : -9223372036854775808 ≤ n) (h1 : n ≤ 9223372036854775807) (w : World) (htab : Lib.TabIs Tryz.prog w "internal/strconv.uint64pow10" .u64 Lib.pow10Tab) :
    Calls Tryz.prog 22 #[.int .i64 n] w fun e w' => e = .returned (.string ⟨(Lib.itoa n).toArray⟩) ∧ ∃ k os, w' = grow (w.drewN k) os := Any.strconv_Itoa Tryz.laysM171 n h0 h1 w htab
open Go.RowKit Go.Lib in
theorem Tryz.strings_TrimPrefix (s p : ByteArray) (w : World) :
    Calls Tryz.prog 106 #[.string s, .string p] w fun e w' => e = .returned (.string ⟨(Lib.trimPrefix s.data.toList p.data.toList).toArray⟩) ∧ w' = w := Any.strings_TrimPrefix Tryz.lays101 s p w
open Go.RowKit in
theorem Tryz.strings_Compare (a b : ByteArray) (w : World) :
    Calls Tryz.prog 47 #[.string a, .string b] w fun e w' => e = .returned (.int .i64 (Lib.compareBytes a.data.toList b.data.toList)) ∧ w' = w := Any.strings_Compare Tryz.lays106 a b w
end Go.Proofs

namespace Go.Proofs.YtgfbbcnnmoamnaaGreatDoor.Tr
open Go.RowKit Go.Proofs.YtgfbbcnnmoamnaaGreatDoor Go.Proofs.YtgfbbcnnmoamnaaGreatDoor.Lk

/-- a variable holds an error, or none -/
def IfaceAt (w : World) (g : Nat) : Prop := ∃ ev, w.cell? ⟨g, 0, none⟩ = some ev ∧ (ev = .nilIface ∨ ∃ te pe, ev = .iface te pe) ∧ g < w.heap.size
theorem IfaceAt.below {w w' : World} {g : Nat} (h : IfaceAt w g) (hb : Below w.heap.size w w') : IfaceAt w' g := by
  obtain ⟨ev, h1, h2, h3⟩ := h
  exact ⟨ev, (hb.cell h3).trans h1, h2, Nat.lt_of_lt_of_le h3 hb.size⟩
def NumErrs (w : World) : Prop := IfaceAt w 20 ∧ IfaceAt w 21
theorem NumErrs.below {w w' : World} (h : NumErrs w) (hb : Below w.heap.size w w') : NumErrs w' := ⟨h.1.below hb, h.2.below hb⟩
theorem below_bytes (w : World) (e : TypeId) (s : ByteArray) : Below w.heap.size w (Lib.bytesWorld w e s) := by
  refine ⟨rfl, rfl, rfl, ?_, fun k hk => ?_⟩
  · rw [Lib.bytesWorld_size]; omega
  · exact Lib.bytesWorld_at_old w e s k hk
/-- strconv.Atoi: a number, or an error -/
theorem atoi_good (s : ByteArray) (hs : s.size ≤ 1048576) (n : Int) (h : Lib.atoiAll s.data.toList = .ok n) (w : World) : Calls Tryz.prog 222 #[.string s] w fun r w' => r = .returned (.tuple #[.int .i64 n, .nilIface]) ∧ Below w.heap.size w w' := by
  refine (Tryz.strconv_Atoi_ok s (by omega) n h w).mono ?_
  rintro r w' ⟨h1, h2 | ⟨t, h2⟩⟩
  · exact ⟨h1, by rw [h2]; exact Below.refl _ _⟩
  · exact ⟨h1, by rw [h2]; exact below_bytes _ _ _⟩
theorem atoi_bad (s : ByteArray) (hs : s.size ≤ 1048576) (h : ∀ n, Lib.atoiAll s.data.toList ≠ .ok n) (w : World) (hN : NumErrs w) : Calls Tryz.prog 222 #[.string s] w fun r w' => (∃ v te pe, r = .returned (.tuple #[.int .i64 v, .iface te pe])) ∧ Below w.heap.size w w' := by
  cases hA : Lib.atoiAll s.data.toList with
  | ok n => exact absurd hA (h n)
  | «syntax» =>
    obtain ⟨ev, h1, h2, _⟩ := hN.1
    refine (Tryz.strconv_Atoi_syntax s (by omega) hA ev w h1 h2).mono ?_
    rintro r w' ⟨N, h3, _, _, h4⟩
    exact ⟨⟨_, _, _, h3⟩, h4⟩
  | range =>
    obtain ⟨ev, h1, h2, _⟩ := hN.2
    refine (Tryz.strconv_Atoi_range s (by omega) hA ev w h1 h2).mono ?_
    rintro r w' ⟨N, h3, _, _, h4⟩
    exact ⟨⟨_, _, _, h3⟩, h4⟩
theorem cut_first_le {c : UInt8} (l : List UInt8) : (cutB c l).1.length ≤ l.length := by
  cases h : (cutB c l).2.2 with
  | true => have := congrArg List.length (cut_hit h).1; rw [List.length_append] at this; omega
  | false => rw [(cut_miss h).1]; exact Nat.le_refl _
/-- an entry as a value -/
def ev (e : E) : Value := .agg #[.string ⟨e.p.toArray⟩, .bool e.dir, .string ⟨e.b.toArray⟩]
def entryR : Option (E × Nat) → Value
  | some (e, n) => .tuple #[ev e, .int .i64 (n : Int), .bool true]
  | none => .tuple #[ev ze, .int .i64 0, .bool false]
theorem results_row_tmp2 {P : Program} {fn : Func} {p t u : Tmp} {ty : TypeId} (h : fn.results = #[.cell p ty, .tmp t, .tmp u]) (tmps : Array Value) (w : World) (g : Nat) (tt : TypeId) (cs : Array Value) (fr : Nat × Nat) (d : TypeDesc)
    (hp : tmps.getD p undef = .pointer (some ⟨g, 0, none⟩)) (hg : w.heap[g]? = some (.cells cs tt fr))
    (hu : P.underlying ty = some d) (hd : (match d with | .struct _ | .array _ _ => true | _ => false) = true) (hi : (P.info? ty).map (·.size) = some cs.size) :
    (results fn tmps).run P w = .ok (.tuple #[.agg cs, tmps.getD t undef, tmps.getD u undef]) w := by
  have hp' : tmps[p]?.getD undef = .pointer (some ⟨g, 0, none⟩) := by simpa using hp
  simp [results, h, hp', asAddr, run_loadVar_row w g tt ty cs fr d hg hu hd hi]
theorem sizeEntry : (Tryz.prog.info? 47).map (·.size) = some 3 := by kernel_rfl
theorem entry_f (told behind : List UInt8) : entryOf [102] told behind = match Lib.atoiAll (cutB 32 told).1 with
    | .ok n => if 0 ≤ n ∧ n < behind.length then some (⟨(cutB 32 told).2.1, false, behind.take n.toNat⟩, n.toNat + 1) else none
    | _ => none := by rw [entryOf, if_neg (by decide), if_pos rfl]; first | done | (cases Lib.atoiAll (cutB 32 told).1 <;> rfl)
set_option maxRecDepth 8000 in
set_option maxHeartbeats 1000000 in
theorem readEntry_any (mark told behind : List UInt8) (h1 : told.length ≤ 1048576) (h2 : behind.length ≤ 1048576) (w : World) (hN : NumErrs w) :
    Calls Tryz.prog 164 #[.string ⟨mark.toArray⟩, .string ⟨told.toArray⟩, .string ⟨behind.toArray⟩] w fun r w' => r = .returned (entryR (entryOf mark told behind)) ∧ Below w.heap.size w w' := by
  have HN := toHid hN
  clear hN
  by_cases hd : mark = [100]
  · have HF : Hid (entryOf mark told behind = some (⟨told, true, []⟩, 0)) := by show _ = _; rw [entryOf, if_pos hd]
    rw [HF.out, hd]
    clear HF
    go_enter Tryz.func164, Tryz.ntmps164
    go_wp2
    exact bodyPost_ret_by (results_row_tmp2 Tryz.results164 _ _ w.heap.size 47 _ (0, 0) _ rfl (heap_alloc_new w _) Tryz.underlying47 rfl sizeEntry) rfl ⟨rfl, (Below.refl _ w).alloc (Nat.le_refl _) _⟩
  · by_cases hf : mark = [102]
    · subst hf
      have hE := entry_f told behind
      have HC := (show Hid _ from sCut_one ⟨told.toArray⟩ (by rw [size_of]; omega) 32)
      rw [show cutB 32 (ByteArray.mk told.toArray).data.toList = cutB 32 told from rfl] at HC
      have hcl := cut_first_le (c := 32) told
      have hcr := cut_rest_le (c := 32) told
      obtain ⟨a, HA⟩ := hid_intro (cutB 32 told).1
      obtain ⟨b, HB⟩ := hid_intro (cutB 32 told).2.1
      obtain ⟨f, HFF⟩ := hid_intro (cutB 32 told).2.2
      rw [← HA.out, ← HB.out] at hE
      rw [← HA.out, ← HB.out, ← HFF.out] at HC
      rw [← HA.out] at hcl
      rw [← HB.out] at hcr
      have HE := (show Hid _ from hE)
      clear hE hd
      obtain ⟨R, HR⟩ := hid_intro (entryOf [102] told behind)
      rw [← HR.out] at HE ⊢
      clear HR
      by_cases hA : ∃ n, Lib.atoiAll a = .ok n
      · obtain ⟨n, hn⟩ := hA
        have HAT := toHid (fun w => atoi_good ⟨a.toArray⟩ (by rw [size_of]; omega) n hn w)
        rw [hn] at HE
        by_cases hr : 0 ≤ n ∧ n < behind.length
        · have HF : Hid (R = some (⟨b, false, behind.take n.toNat⟩, n.toNat + 1)) := by show _ = _; rw [HE.out]; exact if_pos hr
          obtain ⟨m, rfl⟩ : ∃ m : Nat, n = m := ⟨n.toNat, by omega⟩
          rw [Int.toNat_natCast] at HF
          clear HE hn
          rw [HF.out]
          have hm : m < behind.length := by omega
          clear hr
          go_enter Tryz.func164, Tryz.ntmps164
          go_wp2_with (first | (go_at_call 163; refine (HC.out _).mono ?_; clear HC; rintro e w2 ⟨rfl, n1, hw2⟩; rw [hw2]; clear hw2) | (go_at_call 222; refine (HAT.out _).mono ?_; clear HAT; rintro e w3 ⟨rfl, hb3⟩; have HB3 : Hid (Below w.heap.size w w3) := (below_drewN ((Below.refl _ w).alloc (Nat.le_refl _) _) _).trans (hb3.mono (by simp)); have hk : w3.heap[w.heap.size]? = some (.cells #[.string ⟨#[]⟩, .bool false, .string ⟨#[]⟩] 47 (0, 0)) := (hb3.block _ (by simp)).trans (heap_alloc_new w _); have k0 := cell_of_row w3 w.heap.size 0 _ _ _ hk; have k1 := cell_of_row w3 w.heap.size 1 _ _ _ hk; have k2 := cell_of_row w3 w.heap.size 2 _ _ _ hk; have z0 := frozen_of_row w3 w.heap.size 0 _ _ hk; have z1 := frozen_of_row w3 w.heap.size 1 _ _ hk; have z2 := frozen_of_row w3 w.heap.size 2 _ _ hk; simp only [List.getElem?_toArray, List.getElem?_cons_zero, List.getElem?_cons_succ] at k0 k1 k2; have HK := toHid hk; clear hk; clear hb3))
          have h3 := set3_block HK.out (.string ⟨b.toArray⟩) (.bool false) (.string ((⟨behind.toArray⟩ : ByteArray).extract 0 m))
          refine bodyPost_ret_by (results_row_tmp2 Tryz.results164 _ _ w.heap.size 47 _ (0, 0) _ rfl h3 Tryz.underlying47 rfl sizeEntry) rfl ⟨?_, set3_below HB3.out (Nat.le_refl _) _ _ _⟩
          rw [extract_list]
          rfl
        · have HF : Hid (R = none) := by show _ = _; rw [HE.out]; exact if_neg hr
          clear HE
          rw [HF.out]
          go_enter Tryz.func164, Tryz.ntmps164
          go_wp2_with (first | (go_at_call 163; refine (HC.out _).mono ?_; clear HC; rintro e w2 ⟨rfl, n1, hw2⟩; rw [hw2]; clear hw2) | (go_at_call 222; refine (HAT.out _).mono ?_; clear HAT; rintro e w3 ⟨rfl, hb3⟩; have HB3 : Hid (Below w.heap.size w w3) := (below_drewN ((Below.refl _ w).alloc (Nat.le_refl _) _) _).trans (hb3.mono (by simp)); have hk : w3.heap[w.heap.size]? = some (.cells #[.string ⟨#[]⟩, .bool false, .string ⟨#[]⟩] 47 (0, 0)) := (hb3.block _ (by simp)).trans (heap_alloc_new w _); have k0 := cell_of_row w3 w.heap.size 0 _ _ _ hk; have k1 := cell_of_row w3 w.heap.size 1 _ _ _ hk; have k2 := cell_of_row w3 w.heap.size 2 _ _ _ hk; have z0 := frozen_of_row w3 w.heap.size 0 _ _ hk; have z1 := frozen_of_row w3 w.heap.size 1 _ _ hk; have z2 := frozen_of_row w3 w.heap.size 2 _ _ hk; simp only [List.getElem?_toArray, List.getElem?_cons_zero, List.getElem?_cons_succ] at k0 k1 k2; have HK := toHid hk; clear hk; clear hb3))
          all_goals exact bodyPost_ret_by (results_row_tmp2 Tryz.results164 _ _ w.heap.size 47 _ (0, 0) _ rfl (set3_block HK.out (.string ⟨#[]⟩) (.bool false) (.string ⟨#[]⟩)) Tryz.underlying47 rfl sizeEntry) rfl ⟨rfl, set3_below HB3.out (Nat.le_refl _) _ _ _⟩
      · have HF : Hid (R = none) := by
          show _ = _
          rw [HE.out]
          cases hx : Lib.atoiAll a with
          | ok n => exact absurd ⟨n, hx⟩ hA
          | «syntax» => rfl
          | range => rfl
        have HAT := toHid (fun w hN => atoi_bad ⟨a.toArray⟩ (by rw [size_of]; omega) (fun n h => hA ⟨n, h⟩) w hN)
        clear HE
        rw [HF.out]
        go_enter Tryz.func164, Tryz.ntmps164
        go_wp2_with (first | (go_at_call 163; refine (HC.out _).mono ?_; clear HC; rintro e w2 ⟨rfl, n1, hw2⟩; rw [hw2]; clear hw2) | (go_at_call 222; refine (HAT.out _ (HN.out.below (below_drewN ((Below.refl _ w).alloc (Nat.le_refl _) _) _))).mono ?_; clear HAT; rintro e w3 ⟨⟨v, te, pe, rfl⟩, hb3⟩; have HB3 : Hid (Below w.heap.size w w3) := (below_drewN ((Below.refl _ w).alloc (Nat.le_refl _) _) _).trans (hb3.mono (by simp)); have hk : w3.heap[w.heap.size]? = some (.cells #[.string ⟨#[]⟩, .bool false, .string ⟨#[]⟩] 47 (0, 0)) := (hb3.block _ (by simp)).trans (heap_alloc_new w _); have k0 := cell_of_row w3 w.heap.size 0 _ _ _ hk; have k1 := cell_of_row w3 w.heap.size 1 _ _ _ hk; have k2 := cell_of_row w3 w.heap.size 2 _ _ _ hk; have z0 := frozen_of_row w3 w.heap.size 0 _ _ hk; have z1 := frozen_of_row w3 w.heap.size 1 _ _ hk; have z2 := frozen_of_row w3 w.heap.size 2 _ _ hk; simp only [List.getElem?_toArray, List.getElem?_cons_zero, List.getElem?_cons_succ] at k0 k1 k2; have HK := toHid hk; clear hk; clear hb3))
        all_goals exact bodyPost_ret_by (results_row_tmp2 Tryz.results164 _ _ w.heap.size 47 _ (0, 0) _ rfl (set3_block HK.out (.string ⟨#[]⟩) (.bool false) (.string ⟨#[]⟩)) Tryz.underlying47 rfl sizeEntry) rfl ⟨rfl, set3_below HB3.out (Nat.le_refl _) _ _ _⟩
    · have HF : Hid (entryOf mark told behind = none) := by show _ = _; rw [entryOf, if_neg hd, if_neg hf]
      rw [HF.out]
      clear HF
      have hd' : (mark == [100]) = false := beq_eq_false_iff_ne.2 hd
      have hf' : (mark == [102]) = false := beq_eq_false_iff_ne.2 hf
      go_enter Tryz.func164, Tryz.ntmps164
      go_wp2
      exact bodyPost_ret_by (results_row_tmp2 Tryz.results164 _ _ w.heap.size 47 _ (0, 0) _ rfl (heap_alloc_new w _) Tryz.underlying47 rfl sizeEntry) rfl ⟨rfl, (Below.refl _ w).alloc (Nat.le_refl _) _⟩
end Go.Proofs.YtgfbbcnnmoamnaaGreatDoor.Tr

namespace Go.Proofs.YtgfbbcnnmoamnaaGreatDoor.Tr
open Go.RowKit Go.Proofs.YtgfbbcnnmoamnaaGreatDoor Go.Proofs.YtgfbbcnnmoamnaaGreatDoor.Lk

/-- the cells of some entries -/
def ecells (l : List E) : List Value := l.flatMap fun e => [.string ⟨e.p.toArray⟩, .bool e.dir, .string ⟨e.b.toArray⟩]
theorem ecells_len (l : List E) : (ecells l).length = l.length * 3 := by
  induction l with
  | nil => rfl
  | cons m l ih => simp [ecells] at ih ⊢; omega
theorem ecells_snoc (l : List E) (e : E) : ecells (l ++ [e]) = ecells l ++ [.string ⟨e.p.toArray⟩, .bool e.dir, .string ⟨e.b.toArray⟩] := by simp [ecells]
theorem ecells_get : ∀ (l : List E) (j : Nat) (e : E), l[j]? = some e → (ecells l)[j * 3]? = some (.string ⟨e.p.toArray⟩) ∧ (ecells l)[j * 3 + 1]? = some (.bool e.dir) ∧ (ecells l)[j * 3 + 2]? = some (.string ⟨e.b.toArray⟩)
  | [], j, en, h => by simp at h
  | e :: l, 0, en, h => by
    have : e = en := by simpa using h
    subst this
    simp [ecells]
  | e :: l, j + 1, en, h => by
    have ih := ecells_get l j en (by simpa using h)
    have e2 : ecells (e :: l) = .string ⟨e.p.toArray⟩ :: .bool e.dir :: .string ⟨e.b.toArray⟩ :: ecells l := by simp [ecells]
    rw [e2, show (j + 1) * 3 = j * 3 + 1 + 1 + 1 by omega, show j * 3 + 1 + 1 + 1 + 1 = (j * 3 + 1) + 1 + 1 + 1 from rfl, show j * 3 + 1 + 1 + 1 + 2 = (j * 3 + 2) + 1 + 1 + 1 from rfl]
    simp only [List.getElem?_cons_succ]
    exact ih
/-- an own row of entries lies -/
theorem own_lies {w : World} {B : Nat} {v : Value} {l : List E} (h : w.ownsRow B 47 3 v l.length (ecells l)) : ∃ ao cap, v = .slice ao l.length cap ∧ LiesE w ao l := by
  rcases h.2 with ⟨hv, h0⟩ | ⟨b, cap, cur, hv, h1, hb, h2, h3, h4, h5⟩
  · exact ⟨none, 0, by rw [hv, h0], .inl (List.length_eq_zero_iff.1 h0)⟩
  · refine ⟨_, cap, hv, .inr ⟨b, 0, rfl, lt_of_block hb, fun j e hj => ?_⟩⟩
    have hjl := (List.getElem?_eq_some_iff.1 hj).1
    obtain ⟨c1, c2, c3⟩ := ecells_get l j e hj
    have key : ∀ i, i < l.length * 3 → cur[i]? = (ecells l)[i]? := fun i hi => by
      rw [← h5, List.getElem?_take_of_lt hi, Array.getElem?_toList]
    refine ⟨?_, ?_, ?_⟩
    · rw [cell_of_row _ _ _ _ _ _ hb, key _ (by omega)]; rw [← c1]; congr 1; omega
    · rw [cell_of_row _ _ _ _ _ _ hb, key _ (by omega)]; rw [← c2]; congr 1; omega
    · rw [cell_of_row _ _ _ _ _ _ hb, key _ (by omega)]; rw [← c3]; congr 1; omega
theorem own_drewN' {w : World} {B : Nat} {e : TypeId} {size : Nat} {v : Value} {n : Nat} {xs : List Value} (h : w.ownsRow B e size v n xs) (m : Nat) : (w.drewN m).ownsRow B e size v n xs := own_below h (below_drewN (Below.refl _ w) m)
theorem cell_three_add2 (w : World) (o : Obj) (a b c : Value) (t : TypeId) (j : Nat) (u : Value) (h : [a, b, c][j]? = some u) : ((w.alloc o).alloc (.cells #[a, b, c] t (0, 0))).cell? ((⟨w.heap.size + 1, 0, none⟩ : Addr).add j) = some u := by
  have := cell_three_add (w.alloc o) a b c t j u h
  rwa [show (w.alloc o).heap.size = w.heap.size + 1 by simp] at this
theorem FitE_nil : FitE [] := fun e he => by cases he
theorem infoEntry : (Tryz.prog.info? 47).map (fun i => (i.zero, i.size, i.bytes)) = some (some (.agg #[.string ⟨#[]⟩, .bool false, .string ⟨#[]⟩]), 3, 40) := by kernel_rfl
theorem entry_fit {mark told behind : List UInt8} {e : E} {n : Nat} (h : entryOf mark told behind = some (e, n)) : e.p.length ≤ told.length ∧ e.b.length ≤ behind.length ∧ n ≤ behind.length := by
  rw [entryOf] at h
  split at h
  · injection h with h; injection h with h1 h2; subst h1; subst h2; exact ⟨Nat.le_refl _, by simp, Nat.zero_le _⟩
  · split at h
    · split at h
      · split at h
        · rename_i hr
          injection h with h; injection h with h1 h2; subst h1; subst h2
          exact ⟨cut_rest_le _, by simp; omega, by omega⟩
        · cases h
      · cases h
    · cases h
theorem entry_kind {mark told behind : List UInt8} {e : E} {n : Nat} (h : entryOf mark told behind = some (e, n)) : e.dir = true → e.b = [] := by
  rw [entryOf] at h
  split at h
  · injection h with h; injection h with h1 h2; subst h1; exact fun _ => rfl
  · split at h
    · split at h
      · split at h
        · injection h with h; injection h with h1 h2; subst h1; intro hd; cases hd
        · cases h
      · cases h
    · cases h
set_option maxRecDepth 8000 in
set_option maxHeartbeats 1000000 in
theorem readEntries_any (s : List UInt8) (hs : s.length ≤ 1048576) (w : World) (hN : NumErrs w) : Calls Tryz.prog 105 #[.string ⟨s.toArray⟩] w fun r w' => ∃ v, r = .returned (.tuple #[v, .bool (readE s []).isSome]) ∧ w'.ownsRow w.heap.size 47 3 v ((readE s []).getD []).length (ecells ((readE s []).getD [])) ∧ FitE ((readE s []).getD []) ∧ ((readE s []).getD []).length ≤ s.length ∧ Below w.heap.size w w' := by
  have HNE := toHid hN
  clear hN
  obtain ⟨R, HR⟩ := hid_intro (readE s [])
  rw [← HR.out]
  obtain ⟨i0, hi0, hz0, hz1, hz2⟩ := info_parts infoEntry
  go_enter Tryz.func105, Tryz.ntmps105
  go_wp2
  go_loopw [0, 4] (fun vs vo wr => ∃ (sl : List UInt8) (l : List E), vs = .string ⟨sl.toArray⟩ ∧ Hid (sl.length + l.length ≤ s.length) ∧ Hid (FitE l) ∧ Hid (R = readE sl l) ∧ Hid (wr.ownsRow w.heap.size 47 3 vo l.length (ecells l)) ∧ Below w.heap.size w wr) (fun vs _ _ => match vs with | .string b => b.size | _ => 0)
  case atStart => exact ⟨s, [], rfl, Nat.le_refl _, FitE_nil, HR.out, World.ownsRow_nil _ _ _ _, Below.refl ..⟩
  case round =>
    obtain ⟨sl, l, rfl, HS, HFT, HL, HO, hb⟩ := hrel
    have hbs := hb.size
    have hsl := HS.out
    have HC := (show Hid _ from sCut_one ⟨sl.toArray⟩ (by rw [size_of]; omega) 10)
    rw [show cutB 10 (ByteArray.mk sl.toArray).data.toList = cutB 10 sl from rfl] at HC
    have hal : (cutB 10 sl).1.length ≤ sl.length := cut_head_le sl
    have hbl : (cutB 10 sl).2.1.length ≤ sl.length := cut_rest_le sl
    cases hf : (cutB 10 sl).2.2 with
    | false =>
      obtain ⟨ao, cap, rfl⟩ := own_shape HO.out
      have HE : Hid (R = none) := HL.out.trans (readE_miss hf)
      rw [hf] at HC
      obtain ⟨a, HAA⟩ := hid_intro (cutB 10 sl).1
      obtain ⟨b, HBB⟩ := hid_intro (cutB 10 sl).2.1
      rw [← HAA.out, ← HBB.out] at HC
      clear hf hal hbl
      go_wp2_with (go_at_call 163; refine (HC.out _).mono ?_; clear HC; rintro e w2 ⟨rfl, n1, hw2⟩; rw [hw2]; clear hw2)
      go_ret2
      exact ⟨_, by rw [HE.out]; rfl, by rw [HE.out]; exact World.ownsRow_nil _ _ _ _, by rw [HE.out]; exact FitE_nil, by rw [HE.out]; exact Nat.zero_le _, below_drewN hb _⟩
    | true =>
      have hlt := cut_rest_lt hf
      have hgo := fun (e : E) (n : Nat) => readE_go (s := sl) (l := l) (e := e) (n := n) hf
      have hbad := readE_bad (s := sl) (l := l)
      have hend := readE_end (s := sl) (l := l) hf
      rw [hf] at HC
      obtain ⟨a, HAA⟩ := hid_intro (cutB 10 sl).1
      obtain ⟨b, HBB⟩ := hid_intro (cutB 10 sl).2.1
      rw [← HAA.out, ← HBB.out] at HC
      rw [← HAA.out] at hgo hbad hend hal
      rw [← HBB.out] at hgo hbad hbl hlt
      have HD := (show Hid _ from sCut_one ⟨a.toArray⟩ (by rw [size_of]; omega) 32)
      rw [show cutB 32 (ByteArray.mk a.toArray).data.toList = cutB 32 a from rfl] at HD
      have htl : (cutB 32 a).2.1.length ≤ a.length := cut_rest_le a
      obtain ⟨k, HKK⟩ := hid_intro (cutB 32 a).1
      obtain ⟨t, HTT⟩ := hid_intro (cutB 32 a).2.1
      obtain ⟨f, HFF⟩ := hid_intro (cutB 32 a).2.2
      rw [← HKK.out, ← HTT.out, ← HFF.out] at HD
      rw [← HKK.out, ← HTT.out] at hgo hbad
      rw [← HKK.out] at hend
      rw [← HTT.out] at htl
      clear hf
      by_cases hk : k = endB
      · have HE : Hid (R = some l) := HL.out.trans (hend hk)
        clear hgo hbad hend
        subst hk
        unfold endB at HD
        obtain ⟨ao, cap, hv⟩ := own_shape HO.out
        obtain ⟨n, HN⟩ := hid_intro l.length
        rw [← HN.out] at hv
        subst hv
        go_wp2_with (first | (go_at_call 163; refine (HC.out _).mono ?_; clear HC; rintro e w2 ⟨rfl, n1, hw2⟩; rw [hw2]; clear hw2) | (go_at_call 163; refine (HD.out _).mono ?_; clear HD; rintro e w3 ⟨rfl, n2, hw3⟩; rw [hw3]; clear hw3))
        go_ret2
        exact ⟨_, by rw [HE.out]; rfl, by rw [HE.out]; exact own_drewN' HO.out _, by rw [HE.out]; exact HFT.out, by rw [HE.out]; show l.length ≤ _; omega, below_drewN hb _⟩
      · have hke : (k == [101, 110, 100]) = false := beq_eq_false_iff_ne.2 hk
        have HRE0 := toHid (fun w' h => readEntry_any k t b (by omega) (by omega) w' h)
        cases hx : entryOf k t b with
        | none =>
          have HE : Hid (R = none) := HL.out.trans (hbad hk hx)
          obtain ⟨ao, cap, hv⟩ := own_shape HO.out
          obtain ⟨n, HN⟩ := hid_intro l.length
          rw [← HN.out] at hv
          subst hv
          have HRE : Hid (∀ w', NumErrs w' → Calls Tryz.prog 164 #[.string ⟨k.toArray⟩, .string ⟨t.toArray⟩, .string ⟨b.toArray⟩] w' fun r w'' => r = .returned (.tuple #[.agg #[.string ⟨#[]⟩, .bool false, .string ⟨#[]⟩], .int .i64 0, .bool false]) ∧ Below w'.heap.size w' w'') := fun w' h => by have := HRE0.out w' h; rw [hx] at this; exact this
          clear hgo hbad hend HRE0 hx
          go_wp2_with (first | (go_at_call 163; refine (HC.out _).mono ?_; clear HC; rintro e w2 ⟨rfl, n1, hw2⟩; rw [hw2]; clear hw2) | (go_at_call 163; refine (HD.out _).mono ?_; clear HD; rintro e w3 ⟨rfl, n2, hw3⟩; rw [hw3]; clear hw3) | (go_at_call 164; refine (HRE.out _ (HNE.out.below (below_drewN hb (n1 + n2)))).mono ?_; clear HRE; rintro e w4 ⟨rfl, hb4⟩; have HB4 : Hid (Below w.heap.size w w4) := (below_drewN hb (n1 + n2)).trans (hb4.mono (by simpa using hbs)); have HW4 : Hid (Below wr.heap.size wr w4) := (below_drewN (Below.refl _ wr) (n1 + n2)).trans (hb4.mono (by simp)); clear hb4))
          go_ret2
          exact ⟨_, by rw [HE.out]; rfl, by rw [HE.out]; exact World.ownsRow_nil _ _ _ _, by rw [HE.out]; exact FitE_nil, by rw [HE.out]; exact Nat.zero_le _, HB4.out.alloc HB4.out.size _⟩
        | some p =>
          obtain ⟨e, m⟩ := p
          obtain ⟨f1, f2, f3⟩ := entry_fit hx
          have HE : Hid (R = readE (b.drop m) (l ++ [e])) := HL.out.trans (hgo e m hk hx)
          have HRE : Hid (∀ w', NumErrs w' → Calls Tryz.prog 164 #[.string ⟨k.toArray⟩, .string ⟨t.toArray⟩, .string ⟨b.toArray⟩] w' fun r w'' => r = .returned (.tuple #[.agg #[.string ⟨e.p.toArray⟩, .bool e.dir, .string ⟨e.b.toArray⟩], .int .i64 (m : Int), .bool true]) ∧ Below w'.heap.size w' w'') := fun w' h => by have := HRE0.out w' h; rw [hx] at this; exact this
          have HFT2 : Hid (FitE (l ++ [e])) := fun x hx => by
            rcases List.mem_append.1 hx with h | h
            · exact HFT.out x h
            · rw [List.mem_singleton.1 h]; exact ⟨by omega, by omega⟩
          clear hgo hbad hend HRE0 hx
          have HC2 := (show Hid _ from ecells_snoc l e)
          have HL2 : Hid (l.length + 1 = (l ++ [e]).length) := by show _ = _; simp
          obtain ⟨n, HN⟩ := hid_intro l.length
          rw [← HN.out] at HO HL2 hsl
          obtain ⟨EE, HEE⟩ := hid_intro (ecells l)
          rw [← HEE.out] at HO HC2
          go_wp2_with (first | (go_at_call 163; refine (HC.out _).mono ?_; clear HC; rintro e w2 ⟨rfl, n1, hw2⟩; rw [hw2]; clear hw2) | (go_at_call 163; refine (HD.out _).mono ?_; clear HD; rintro e w3 ⟨rfl, n2, hw3⟩; rw [hw3]; clear hw3) | (go_at_call 164; refine (HRE.out _ (HNE.out.below (below_drewN hb (n1 + n2)))).mono ?_; clear HRE; rintro e w4 ⟨rfl, hb4⟩; have HB4 : Hid (Below w.heap.size w w4) := (below_drewN hb (n1 + n2)).trans (hb4.mono (by simpa using hbs)); have HW4 : Hid (Below wr.heap.size wr w4) := (below_drewN (Below.refl _ wr) (n1 + n2)).trans (hb4.mono (by simp)); clear hb4) | (at_builtin; refine wpList_append_lies _ rfl _ _ 26 rfl w.heap.size 47 i0 (.agg #[.string ⟨#[]⟩, .bool false, .string ⟨#[]⟩]) 3 40 Tryz.underlying26 hi0 hz0 hz1 hz2 rfl (by decide) _ n EE rfl (World.ownsRow.alloc (World.ownsRow.alloc (own_below HO.out HW4.out) _) _) ⟨_, 0, none⟩ 1 1 [.string ⟨e.p.toArray⟩, .bool e.dir, .string ⟨e.b.toArray⟩] rfl rfl (cell_three_add2 _ _ _ _ _ _) (by simp [Value.oneCell']) (by decide) (by unfold maxLen; omega) (by omega) (by simp; have := HW4.out.size; omega) _ rfl ?_; intro g2 cap2 w5 hown5 hg5 hat _; have HO5 := (show Hid _ from hown5); have HB5 : Hid (Below w.heap.size w w5) := grown_below ((HB4.out.alloc HB4.out.size _).alloc (by have := HB4.out.size; simp; omega) _) (World.ownsRow.alloc (World.ownsRow.alloc (own_below HO.out HW4.out) _) _) (Nat.le_refl _) (by simp; have := HW4.out.size; omega) hg5; clear hown5 hg5 hat))
          go_roundw
          case rel =>
            refine ⟨b.drop m, l ++ [e], ?_, ?_, HFT2, HE, ?_, HB5.out⟩
            · rw [extract_list]
              congr 3
              simp
            · show _ ≤ _
              rw [← HL2.out, List.length_drop]
              omega
            · rw [← HL2.out, HC2.out]
              exact HO5
          case measure =>
            simp [ByteArray.size]
            omega
end Go.Proofs.YtgfbbcnnmoamnaaGreatDoor.Tr
