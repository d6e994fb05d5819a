/- Plain mathematics of SHA-256 over lists of 32-bit words: no program is named here. -/
import Derived.WalkKit
namespace Go.Proofs.YteiolcongejhgaaDoor
open Go.RowKit

abbrev W32 := BitVec 32

def rr (x : W32) (n : Nat) : W32 := x >>> n ||| x <<< (32 - n)
def ch (x y z : W32) : W32 := (x &&& y) ^^^ (~~~x &&& z)
def maj (x y z : W32) : W32 := (x &&& y) ^^^ (x &&& z) ^^^ (y &&& z)
def bS0 (x : W32) : W32 := rr x 2 ^^^ rr x 13 ^^^ rr x 22
def bS1 (x : W32) : W32 := rr x 6 ^^^ rr x 11 ^^^ rr x 25
def sS0 (x : W32) : W32 := rr x 7 ^^^ rr x 18 ^^^ x >>> 3
def sS1 (x : W32) : W32 := rr x 17 ^^^ rr x 19 ^^^ x >>> 10

theorem b_and (x y : W32) : bits .and .u32 (x.toNat : Int) (y.toNat : Int) = ((x &&& y).toNat : Int) := by
  rw [u32_and_nat _ _ x.isLt y.isLt, BitVec.toNat_and]
theorem b_or (x y : W32) : bits .or .u32 (x.toNat : Int) (y.toNat : Int) = ((x ||| y).toNat : Int) := by
  rw [u32_or_nat _ _ x.isLt y.isLt, BitVec.toNat_or]
theorem b_xor (x y : W32) : bits .xor .u32 (x.toNat : Int) (y.toNat : Int) = ((x ^^^ y).toNat : Int) := by
  rw [u32_xor_nat _ _ x.isLt y.isLt, BitVec.toNat_xor]
theorem b_not (x : W32) : bits .xor .u32 IntKind.u32.max (x.toNat : Int) = ((~~~x).toNat : Int) := by
  have e : IntKind.u32.max = (((BitVec.allOnes 32).toNat : Nat) : Int) := by decide
  rw [e, b_xor, BitVec.allOnes_xor]
theorem b_shr (x : W32) (n : Nat) : (x.toNat : Int) / 2 ^ n = ((x >>> n).toNat : Int) := by
  rw [BitVec.toNat_ushiftRight, Nat.shiftRight_eq_div_pow]; simp
theorem b_shl (x : W32) (n : Nat) : (x.toNat : Int) * 2 ^ n % 4294967296 = ((x <<< n).toNat : Int) := by
  rw [BitVec.toNat_shiftLeft, Nat.shiftLeft_eq]; simp
theorem b_add (x y : W32) : IntKind.u32.wrap ((x.toNat : Int) + (y.toNat : Int)) = ((x + y).toNat : Int) := by
  rw [IntKind.wrap_u32', BitVec.toNat_add]; simp
theorem b_add' (x y : W32) : ((x.toNat : Int) + (y.toNat : Int)) % 4294967296 = ((x + y).toNat : Int) := by
  rw [BitVec.toNat_add]; simp
theorem ch_or (x y z : W32) : (x &&& y) ||| (~~~x &&& z) = ch x y z := by
  unfold ch
  ext i hi
  simp
  cases x[i] <;> simp
theorem maj_or (x y z : W32) : (x &&& y) ||| (x &&& z) ||| (y &&& z) = maj x y z := by
  unfold maj
  ext i hi
  simp
  cases x[i] <;> cases y[i] <;> simp
theorem b_sub (x : W32) : (4294967295 : Int) - (x.toNat : Int) = ((~~~x).toNat : Int) := by
  have := x.isLt
  rw [BitVec.toNat_not]; omega

theorem rot_count (n : Nat) (h1 : 1 ≤ n) (h2 : n < 32) : bits .and .u64 (IntKind.u64.wrap (-(n : Int))) 31 = ((32 - n : Nat) : Int) := by
  have : ∀ m : Fin 32, 1 ≤ m.val → bits .and .u64 (IntKind.u64.wrap (-((m.val : Nat) : Int))) 31 = ((32 - m.val : Nat) : Int) := by decide
  exact this ⟨n, h2⟩ h1

/-- a row of words, as a block or a value holds it -/
def row (l : List W32) : Array Value := (l.map fun x => Value.int .u32 (x.toNat : Int)).toArray
theorem row_size (l : List W32) : (row l).size = l.length := by simp [row]
theorem row_get (l : List W32) (j : Nat) (h : j < l.length) : (row l)[j]? = some (.int .u32 ((l.getD j 0).toNat : Int)) := by
  simp [row, h]
theorem row_set (l : List W32) (j : Nat) (x : W32) : (row l).setIfInBounds j (.int .u32 (x.toNat : Int)) = row (l.set j x) := by
  simp [row, List.map_set]
theorem row_one (l : List W32) : (row l).all (·.oneCell') = true := by
  simp [row, Value.oneCell']

/-- one step of the folding -/
def rnd (l : List W32) (key : W32) : List W32 :=
  match l with
  | [a, b, c, d, e, f, g, h] => [h + bS1 e + ch e f g + key + (bS0 a + maj a b c), a, b, c, d + (h + bS1 e + ch e f g + key), e, f, g]
  | _ => l
theorem len8 (l : List W32) (h : l.length = 8) : ∃ a b c d e f g i, l = [a, b, c, d, e, f, g, i] := by
  match l, h with
  | [a, b, c, d, e, f, g, i], _ => exact ⟨a, b, c, d, e, f, g, i, rfl⟩
theorem rnd_len (l : List W32) (k : W32) (h : l.length = 8) : (rnd l k).length = 8 := by
  obtain ⟨a, b, c, d, e, f, g, i, rfl⟩ := len8 l h
  rfl

/-- four bytes, the highest first -/
def be4 (a b c d : Nat) : W32 := BitVec.ofNat 32 (a * 16777216 + b * 65536 + c * 256 + d)
theorem be4_toNat (a b c d : Nat) (ha : a < 256) (hb : b < 256) (hc : c < 256) (hd : d < 256) : (be4 a b c d).toNat = a * 16777216 + b * 65536 + c * 256 + d := by
  unfold be4; rw [BitVec.toNat_ofNat]; exact Nat.mod_eq_of_lt (by omega)
theorem be4_nat (a b c d : Nat) (hb : b < 256) (hc : c < 256) (hd : d < 256) : a * 16777216 ||| b * 65536 ||| c * 256 ||| d = a * 16777216 + b * 65536 + c * 256 + d := by
  have h1 := Nat.two_pow_add_eq_or_of_lt (i := 24) (b := b * 65536) (by omega) a
  have h2 := Nat.two_pow_add_eq_or_of_lt (i := 16) (b := c * 256) (by omega) (a * 256 + b)
  have h3 := Nat.two_pow_add_eq_or_of_lt (i := 8) (b := d) (by omega) (a * 65536 + b * 256 + c)
  have e1 : 2 ^ 24 * a = a * 16777216 := by omega
  have e2 : 2 ^ 16 * (a * 256 + b) = a * 16777216 + b * 65536 := by omega
  have e3 : 2 ^ 8 * (a * 65536 + b * 256 + c) = a * 16777216 + b * 65536 + c * 256 := by omega
  rw [e1] at h1; rw [e2] at h2; rw [e3] at h3
  rw [← h1, ← h2, ← h3]
theorem be4_or (a b c d : Nat) (ha : a < 256) (hb : b < 256) (hc : c < 256) (hd : d < 256) :
    bits .or .u32 (bits .or .u32 (bits .or .u32 ((a : Int) % 4294967296 * 16777216 % 4294967296) ((b : Int) % 4294967296 * 65536 % 4294967296)) ((c : Int) % 4294967296 * 256 % 4294967296)) ((d : Int) % 4294967296) = ((be4 a b c d).toNat : Int) := by
  have e1 : (a : Int) % 4294967296 * 16777216 % 4294967296 = ((a * 16777216 : Nat) : Int) := by omega
  have e2 : (b : Int) % 4294967296 * 65536 % 4294967296 = ((b * 65536 : Nat) : Int) := by omega
  have e3 : (c : Int) % 4294967296 * 256 % 4294967296 = ((c * 256 : Nat) : Int) := by omega
  have e4 : (d : Int) % 4294967296 = ((d : Nat) : Int) := by omega
  have o1 : a * 16777216 ||| b * 65536 < 2 ^ 32 := Nat.or_lt_two_pow (by omega) (by omega)
  have o2 : a * 16777216 ||| b * 65536 ||| c * 256 < 2 ^ 32 := Nat.or_lt_two_pow o1 (by omega)
  rw [e1, e2, e3, e4, u32_or_nat _ _ (by omega) (by omega), u32_or_nat _ _ (by omega) (by omega), u32_or_nat _ _ (by omega) (by omega), be4_nat _ _ _ _ hb hc hd, be4_toNat _ _ _ _ ha hb hc hd]

/-- the next word of the schedule -/
def nextW (l : List W32) : W32 := l.getD (l.length - 16) 0 + sS0 (l.getD (l.length - 15) 0) + l.getD (l.length - 7) 0 + sS1 (l.getD (l.length - 2) 0)
/-- the schedule's first k words -/
def sch (f : Nat → W32) : Nat → List W32
  | 0 => []
  | k + 1 => sch f k ++ [if k < 16 then f k else nextW (sch f k)]
theorem sch_len (f : Nat → W32) (k : Nat) : (sch f k).length = k := by
  induction k with
  | zero => rfl
  | succ k ih => simp [sch, ih]
def zeros (n : Nat) : List W32 := List.replicate n 0
theorem set_next (l : List W32) (x : W32) (n : Nat) : (l ++ zeros (n + 1)).set l.length x = (l ++ [x]) ++ zeros n := by
  simp [zeros, List.replicate_succ, List.set_append_right]
theorem sch_set_lo (f : Nat → W32) (k : Nat) (h : k < 16) : (sch f k ++ zeros (64 - k)).set k (f k) = sch f (k + 1) ++ zeros (64 - (k + 1)) := by
  have e : 64 - k = (64 - (k + 1)) + 1 := by omega
  have := set_next (sch f k) (f k) (64 - (k + 1))
  rw [sch_len] at this
  rw [e, this]
  simp [sch, h]
theorem sch_set_hi (f : Nat → W32) (k : Nat) (h : 16 ≤ k) (hk : k < 64) : (sch f k ++ zeros (64 - k)).set k (nextW (sch f k)) = sch f (k + 1) ++ zeros (64 - (k + 1)) := by
  have e : 64 - k = (64 - (k + 1)) + 1 := by omega
  have := set_next (sch f k) (nextW (sch f k)) (64 - (k + 1))
  rw [sch_len] at this
  rw [e, this]
  simp [sch, Nat.not_lt.2 h]
theorem sch_get (f : Nat → W32) (k j : Nat) (n : Nat) (h : j < k) : (sch f k ++ zeros n).getD j 0 = (sch f k).getD j 0 := by
  have : j < (sch f k).length := by rw [sch_len]; exact h
  simp [List.getElem?_append_left this]

/-- the words of the rounds; the first state -/
def keys : List W32 := [0x428a2f98#32, 0x71374491#32, 0xb5c0fbcf#32, 0xe9b5dba5#32, 0x3956c25b#32, 0x59f111f1#32, 0x923f82a4#32, 0xab1c5ed5#32, 0xd807aa98#32, 0x12835b01#32, 0x243185be#32, 0x550c7dc3#32, 0x72be5d74#32, 0x80deb1fe#32, 0x9bdc06a7#32, 0xc19bf174#32, 0xe49b69c1#32, 0xefbe4786#32, 0x0fc19dc6#32, 0x240ca1cc#32, 0x2de92c6f#32, 0x4a7484aa#32, 0x5cb0a9dc#32, 0x76f988da#32, 0x983e5152#32, 0xa831c66d#32, 0xb00327c8#32, 0xbf597fc7#32, 0xc6e00bf3#32, 0xd5a79147#32, 0x06ca6351#32, 0x14292967#32, 0x27b70a85#32, 0x2e1b2138#32, 0x4d2c6dfc#32, 0x53380d13#32, 0x650a7354#32, 0x766a0abb#32, 0x81c2c92e#32, 0x92722c85#32, 0xa2bfe8a1#32, 0xa81a664b#32, 0xc24b8b70#32, 0xc76c51a3#32, 0xd192e819#32, 0xd6990624#32, 0xf40e3585#32, 0x106aa070#32, 0x19a4c116#32, 0x1e376c08#32, 0x2748774c#32, 0x34b0bcb5#32, 0x391c0cb3#32, 0x4ed8aa4a#32, 0x5b9cca4f#32, 0x682e6ff3#32, 0x748f82ee#32, 0x78a5636f#32, 0x84c87814#32, 0x8cc70208#32, 0x90befffa#32, 0xa4506ceb#32, 0xbef9a3f7#32, 0xc67178f2#32]
def first8 : List W32 := [0x6a09e667#32, 0xbb67ae85#32, 0x3c6ef372#32, 0xa54ff53a#32, 0x510e527f#32, 0x9b05688c#32, 0x1f83d9ab#32, 0x5be0cd19#32]
theorem keys_len : keys.length = 64 := rfl
/-- the state behind k rounds -/
def rnds (h ws : List W32) : Nat → List W32
  | 0 => h
  | k + 1 => rnd (rnds h ws k) (keys.getD k 0 + ws.getD k 0)
theorem rnds_len (h ws : List W32) (hh : h.length = 8) (k : Nat) : (rnds h ws k).length = 8 := by
  induction k with
  | zero => exact hh
  | succ k ih => exact rnd_len _ _ ih
/-- the first k words of a with b's added -/
def mix (k : Nat) (a b : List W32) : List W32 := (List.range 8).map fun j => if j < k then a.getD j 0 + b.getD j 0 else a.getD j 0
theorem mix_len (k : Nat) (a b : List W32) : (mix k a b).length = 8 := by simp [mix]
theorem mix_zero (a b : List W32) (h : a.length = 8) : mix 0 a b = a := by
  obtain ⟨x0, x1, x2, x3, x4, x5, x6, x7, rfl⟩ := len8 a h
  rfl
theorem mix_get (k : Nat) (a b : List W32) (hk : k < 8) : (mix k a b).getD k 0 = a.getD k 0 := by
  simp [mix, hk]
theorem mix_step (k : Nat) (a b : List W32) (_hk : k < 8) : (mix k a b).set k (a.getD k 0 + b.getD k 0) = mix (k + 1) a b := by
  apply List.ext_getElem
  · simp [mix]
  · intro j h1 h2
    have hj : j < 8 := by simpa [mix] using h2
    rw [List.getElem_set]
    by_cases e : k = j
    · subst e; simp [mix]
    · simp only [mix, List.getElem_map, List.getElem_range, e, if_false]
      by_cases h3 : j < k
      · simp [h3, show j < k + 1 by omega]
      · simp [h3, show ¬ j < k + 1 by omega]
/-- one block taken into the state -/
def compress (h : List W32) (f : Nat → W32) : List W32 := mix 8 (rnds h (sch f 64) 64) h
theorem compress_len (h : List W32) (f : Nat → W32) : (compress h f).length = 8 := mix_len _ _ _

theorem sch_congr (f g : Nat → W32) (h : ∀ i, i < 16 → f i = g i) (k : Nat) : sch f k = sch g k := by
  induction k with
  | zero => rfl
  | succ k ih =>
    simp only [sch, ih]
    by_cases hk : k < 16
    · simp [hk, h k hk]
    · simp [hk]
theorem compress_congr (h : List W32) (f g : Nat → W32) (e : ∀ i, i < 16 → f i = g i) : compress h f = compress h g := by
  unfold compress; rw [sch_congr f g e]
/-- the words of block k of a text -/
def blk (l : List UInt8) (k i : Nat) : W32 := be4 (l.getD (64 * k + 4 * i) 0).toNat (l.getD (64 * k + 4 * i + 1) 0).toNat (l.getD (64 * k + 4 * i + 2) 0).toNat (l.getD (64 * k + 4 * i + 3) 0).toNat
/-- the state behind k blocks -/
def foldB (h : List W32) (l : List UInt8) : Nat → List W32
  | 0 => h
  | k + 1 => compress (foldB h l k) (blk l k)
theorem foldB_len (h : List W32) (hh : h.length = 8) (l : List UInt8) (k : Nat) : (foldB h l k).length = 8 := by
  cases k with
  | zero => exact hh
  | succ k => exact compress_len _ _
theorem foldB_left (h : List W32) (a b : List UInt8) (m : Nat) (ha : a.length = 64 * m) : ∀ k, k ≤ m → foldB h (a ++ b) k = foldB h a k := by
  intro k
  induction k with
  | zero => intro _; rfl
  | succ k ih =>
    intro hk
    simp only [foldB]
    rw [ih (by omega)]
    refine compress_congr _ _ _ (fun i hi => ?_)
    have e : ∀ j, j < 64 → (a ++ b).getD (64 * k + j) 0 = a.getD (64 * k + j) 0 := by
      intro j hj
      have : 64 * k + j < a.length := by omega
      simp [List.getElem?_append_left this]
    unfold blk
    simp only [Nat.add_assoc]
    rw [e (4 * i) (by omega), e (4 * i + 1) (by omega), e (4 * i + 2) (by omega), e (4 * i + 3) (by omega)]
theorem foldB_append (h : List W32) (a b : List UInt8) (m : Nat) (ha : a.length = 64 * m) : ∀ k, foldB h (a ++ b) (m + k) = foldB (foldB h a m) b k := by
  intro k
  induction k with
  | zero => exact foldB_left h a b m ha m (Nat.le_refl _)
  | succ k ih =>
    show compress (foldB h (a ++ b) (m + k)) (blk (a ++ b) (m + k)) = compress (foldB (foldB h a m) b k) (blk b k)
    rw [ih]
    refine compress_congr _ _ _ (fun i hi => ?_)
    have e : ∀ j, (a ++ b).getD (64 * (m + k) + j) 0 = b.getD (64 * k + j) 0 := by
      intro j
      have e2 : 64 * (m + k) + j - a.length = 64 * k + j := by omega
      have : a.length ≤ 64 * (m + k) + j := by omega
      simp [List.getElem?_append_right this, e2]
    unfold blk
    simp only [Nat.add_assoc]
    rw [e (4 * i), e (4 * i + 1), e (4 * i + 2), e (4 * i + 3)]

/-- the length in bits, the first k of its eight bytes -/
def lenB (n : Nat) : Nat → List UInt8
  | 0 => []
  | k + 1 => lenB n k ++ [UInt8.ofNat (n * 8 / 2 ^ (56 - 8 * k))]
theorem lenB_len (n k : Nat) : (lenB n k).length = k := by
  induction k with
  | zero => rfl
  | succ k ih => simp [lenB, ih]
/-- the padding's zeros behind m bytes -/
def padZ (m : Nat) : Nat := (64 - (m + 9) % 64) % 64
/-- the last bytes t of a text of n, padded -/
def padL (t : List UInt8) (n : Nat) : List UInt8 := t ++ [0x80] ++ List.replicate (padZ t.length) 0 ++ lenB n 8
theorem padL_len (t : List UInt8) (n : Nat) : (padL t n).length = 64 * ((t.length + 9 + 63) / 64) := by
  simp [padL, lenB_len, padZ]
  omega
theorem u8_shift (n k : Nat) (_hn : n * 8 < 18446744073709551616) (_hk : k < 8) : ((n : Int) * 8 / 2 ^ (56 - 8 * k)) % 256 = ((UInt8.ofNat (n * 8 / 2 ^ (56 - 8 * k))).toNat : Int) := by
  simp [UInt8.toNat_ofNat']

/-- byte p of a state -/
def byteAt (h : List W32) (p : Nat) : UInt8 := UInt8.ofNat ((h.getD (p / 4) 0).toNat / 2 ^ (24 - 8 * (p % 4)))
/-- the first p bytes of a state, then zeros -/
def bpart (h : List W32) (p : Nat) : List UInt8 := (List.range 32).map fun q => if q < p then byteAt h q else 0
def bytesL (h : List W32) : List UInt8 := (List.range 32).map (byteAt h)
theorem bpart_len (h : List W32) (p : Nat) : (bpart h p).length = 32 := by simp [bpart]
theorem bytesL_len (h : List W32) : (bytesL h).length = 32 := by simp [bytesL]
theorem bpart_end (h : List W32) : bpart h 32 = bytesL h := by
  unfold bpart bytesL
  apply List.map_congr_left
  intro q hq
  have : q < 32 := by simpa using hq
  simp [this]
theorem bpart_step (h : List W32) (p : Nat) (_hp : p < 32) : (bpart h p).set p (byteAt h p) = bpart h (p + 1) := by
  apply List.ext_getElem
  · simp [bpart]
  · intro j h1 h2
    have hj : j < 32 := by simpa [bpart] using h2
    rw [List.getElem_set]
    by_cases e : p = j
    · subst e; simp [bpart]
    · simp only [bpart, List.getElem_map, List.getElem_range, e, if_false]
      by_cases h3 : j < p
      · simp [h3, show j < p + 1 by omega]
      · simp [h3, show ¬ j < p + 1 by omega]
/-- a row of bytes, as a block or a value holds it -/
def brow (l : List UInt8) : Array Value := (l.map fun b => Value.int .u8 (b.toNat : Int)).toArray
theorem brow_size (l : List UInt8) : (brow l).size = l.length := by simp [brow]
theorem brow_get (l : List UInt8) (j : Nat) (h : j < l.length) : (brow l)[j]? = some (.int .u8 ((l.getD j 0).toNat : Int)) := by
  simp [brow, h]
theorem brow_set (l : List UInt8) (j : Nat) (x : UInt8) : (brow l).setIfInBounds j (.int .u8 (x.toNat : Int)) = brow (l.set j x) := by
  simp [brow, List.map_set]
theorem brow_one (l : List UInt8) : (brow l).all (·.oneCell') = true := by
  simp [brow, Value.oneCell']
theorem byte_int (h : List W32) (i j : Nat) (hj : j < 4) : (((h.getD i 0).toNat : Int) / 2 ^ (24 - 8 * j)) % 256 = ((byteAt h (4 * i + j)).toNat : Int) := by
  have e1 : (4 * i + j) / 4 = i := by omega
  have e2 : (4 * i + j) % 4 = j := by omega
  unfold byteAt
  rw [e1, e2, UInt8.toNat_ofNat']
  simp

/-- two digits for each byte -/
def digit (n : Nat) : UInt8 := [48, 49, 50, 51, 52, 53, 54, 55, 56, 57, 97, 98, 99, 100, 101, 102].getD n 0
def hexL : List UInt8 → List UInt8
  | [] => []
  | b :: r => digit (b.toNat / 16) :: digit (b.toNat % 16) :: hexL r
theorem hexL_snoc (l : List UInt8) (b : UInt8) : hexL (l ++ [b]) = hexL l ++ [digit (b.toNat / 16), digit (b.toNat % 16)] := by
  induction l with
  | nil => rfl
  | cons x l ih => simp [hexL, ih]
theorem hexL_len (l : List UInt8) : (hexL l).length = 2 * l.length := by
  induction l with
  | nil => rfl
  | cons x l ih => simp [hexL, ih]; omega

end Go.Proofs.YteiolcongejhgaaDoor
