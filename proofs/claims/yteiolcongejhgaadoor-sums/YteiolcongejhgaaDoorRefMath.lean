/- Plain mathematics of the document's words: roots by bisection over rows of parts, as lists of numbers. -/
import Derived.Test.YteiolcongejhgaaDoorMath
namespace Go.Proofs.YteiolcongejhgaaDoor

def partsF (n : Nat) : List Nat := [n % 65536, n / 65536 % 65536, n / 4294967296 % 65536, n / 281474976710656]
def mulX (o a b c : Nat) : Nat := (o + a * b + c) % 18446744073709551616
/-- the inner loop behind k rounds: the row, the carry -/
def inner (a : Nat) (b : List Nat) (i : Nat) (o : List Nat) : Nat → List Nat × Nat
  | 0 => (o, 0)
  | k + 1 =>
    let p := inner a b i o k
    (p.1.set (i + k) (mulX (p.1.getD (i + k) 0) a (b.getD k 0) p.2 % 65536), mulX (p.1.getD (i + k) 0) a (b.getD k 0) p.2 / 65536)
/-- the outer loop behind i rounds -/
def outer (a b : List Nat) : Nat → List Nat
  | 0 => List.replicate (a.length + b.length + 1) 0
  | i + 1 =>
    let p := inner (a.getD i 0) b i (outer a b i) b.length
    p.1.set (i + b.length) ((p.1.getD (i + b.length) 0 + p.2) % 18446744073709551616)
def timesF (a b : List Nat) : List Nat := outer a b a.length
def wantF (len n d : Nat) : List Nat := (List.replicate len 0).set (2 * d) n
/-- the rows' first difference from the top, below i -/
def cmpF (a b : List Nat) : Nat → Bool
  | 0 => false
  | i + 1 => if a.getD i 0 = b.getD i 0 then cmpF a b i else decide (b.getD i 0 < a.getD i 0)
def aboveF (a : List Nat) (n d : Nat) : Bool := cmpF a (wantF a.length n d) a.length
def powF (d mid : Nat) : List Nat := if d = 3 then timesF (timesF (partsF mid) (partsF mid)) (partsF mid) else timesF (partsF mid) (partsF mid)
def halve (n d : Nat) (p : Nat × Nat) : Nat × Nat := if aboveF (powF d ((p.1 + p.2) / 2)) n d then (p.1, (p.1 + p.2) / 2) else ((p.1 + p.2) / 2, p.2)
def bis (n d : Nat) : Nat → Nat × Nat
  | 0 => (0, 68719476736)
  | k + 1 => halve n d (bis n d k)
def behindF (n d : Nat) : W32 := BitVec.ofNat 32 (bis n d 36).1

theorem inner_len (a : Nat) (b : List Nat) (i : Nat) (o : List Nat) (k : Nat) : (inner a b i o k).1.length = o.length := by
  induction k with
  | zero => rfl
  | succ k ih => simp [inner, ih]
theorem outer_len (a b : List Nat) (i : Nat) : (outer a b i).length = a.length + b.length + 1 := by
  induction i with
  | zero => simp [outer]
  | succ i ih => simp [outer, inner_len, ih]
theorem timesF_len (a b : List Nat) : (timesF a b).length = a.length + b.length + 1 := outer_len _ _ _
theorem powF_len (d mid : Nat) : (powF d mid).length = if d = 3 then 14 else 9 := by
  unfold powF
  split <;> simp [timesF_len, partsF]
theorem bis_gap (n d k : Nat) (hk : k ≤ 36) : (bis n d k).2 = (bis n d k).1 + 2 ^ (36 - k) ∧ (bis n d k).2 ≤ 68719476736 := by
  induction k with
  | zero => simp [bis]
  | succ k ih =>
    have h := ih (by omega)
    have e : 2 ^ (36 - k) = 2 * 2 ^ (36 - (k + 1)) := by rw [← Nat.pow_succ', show (36 - (k + 1)).succ = 36 - k by omega]
    have hm : ((bis n d k).1 + (bis n d k).2) / 2 = (bis n d k).1 + 2 ^ (36 - (k + 1)) := by rw [h.1, e]; omega
    simp only [bis, halve]
    split
    · simp only; rw [hm]; omega
    · simp only; rw [hm]; omega

/-- the first 64 primes -/
def primes : List Nat := [2, 3, 5, 7, 11, 13, 17, 19, 23, 29, 31, 37, 41, 43, 47, 53, 59, 61, 67, 71, 73, 79, 83, 89, 97, 101, 103, 107, 109, 113, 127, 131, 137, 139, 149, 151, 157, 163, 167, 173, 179, 181, 191, 193, 197, 199, 211, 223, 227, 229, 233, 239, 241, 251, 257, 263, 269, 271, 277, 281, 283, 293, 307, 311]
/-- no divisor up to the root -/
def isP (n : Nat) : Bool := (List.range 18).all fun e => decide (e < 2) || decide (n < e * e) || n % e != 0
def pcount (n : Nat) : Nat := (primes.filter fun p => decide (p < n)).length
theorem pcount_step : ∀ n, n < 312 → 2 ≤ n → pcount n ≤ 64 ∧ (if isP n then primes.getD (pcount n) 0 = n ∧ pcount (n + 1) = pcount n + 1 else pcount (n + 1) = pcount n) := by decide +kernel
theorem pcount_two : pcount 2 = 0 := by decide +kernel
theorem pcount_end : pcount 312 = 64 := by decide +kernel
theorem pcount_20 : pcount 20 = 8 := by decide +kernel
/-- the words behind n: of the primes below it -/
def wordsF (d n : Nat) : List W32 := (primes.take (pcount n)).map fun p => behindF p d
end Go.Proofs.YteiolcongejhgaaDoor
