/- Plain functions: the sum of bytes, bit by bit, and that it goes byte by byte through a table. -/
import Derived.Test.YtjobhlncllfdmaaPure
namespace Go.Proofs.Ytjobhlncllfdmaa.Pu

/-- one shift -/
def st (n : Nat) : Nat := if n % 2 = 1 then (n / 2) ^^^ 3988292384 else n / 2

def stN : Nat → Nat → Nat
  | 0, n => n
  | k + 1, n => stN k (st n)

/-- a byte more -/
def crc (n : Nat) (b : UInt8) : Nat := stN 8 (n ^^^ b.toNat)
def sumGo (n : Nat) (D : List UInt8) : Nat := D.foldl crc n
def sum (D : List UInt8) : Nat := sumGo 4294967295 D ^^^ 4294967295

theorem stN_succ (k n : Nat) : stN (k + 1) n = st (stN k n) := by
  induction k generalizing n with
  | zero => rfl
  | succ k ih => rw [stN, ih]; rfl

theorem xor_mod2 (a b : Nat) : (a ^^^ b) % 2 = (a % 2 + b % 2) % 2 := by
  have h := Nat.testBit_xor a b 0
  simp only [Nat.testBit_zero] at h
  have ha := Nat.mod_two_eq_zero_or_one a
  have hb := Nat.mod_two_eq_zero_or_one b
  have hc := Nat.mod_two_eq_zero_or_one (a ^^^ b)
  rcases ha with ha | ha <;> rcases hb with hb | hb <;> rcases hc with hc | hc <;> simp_all

theorem xor_div2 (a b : Nat) : (a ^^^ b) / 2 = (a / 2) ^^^ (b / 2) := by
  apply Nat.eq_of_testBit_eq
  intro i
  rw [Nat.testBit_xor, Nat.testBit_div_two, Nat.testBit_div_two, Nat.testBit_div_two, Nat.testBit_xor]

theorem st_xor (a b : Nat) : st (a ^^^ b) = st a ^^^ st b := by
  unfold st
  rw [xor_mod2, xor_div2]
  have ha := Nat.mod_two_eq_zero_or_one a
  have hb := Nat.mod_two_eq_zero_or_one b
  rcases ha with ha | ha <;> rcases hb with hb | hb <;> simp only [ha, hb]
  · rfl
  · simp only [if_true, Nat.zero_ne_one, if_false]
    rw [Nat.xor_assoc]
  · simp only [if_true, Nat.zero_ne_one, if_false]
    rw [Nat.xor_assoc, Nat.xor_assoc, Nat.xor_comm 3988292384]
  · simp only [Nat.reduceAdd, Nat.reduceMod, Nat.zero_ne_one, if_false, if_true]
    rw [Nat.xor_assoc, Nat.xor_comm (b / 2), ← Nat.xor_assoc 3988292384, Nat.xor_self, Nat.zero_xor]

theorem stN_xor (k a b : Nat) : stN k (a ^^^ b) = stN k a ^^^ stN k b := by
  induction k generalizing a b with
  | zero => rfl
  | succ k ih => rw [stN, st_xor, ih]; rfl

theorem stN_shift (k y : Nat) : stN k (y * 2 ^ k) = y := by
  induction k generalizing y with
  | zero => simp [stN]
  | succ k ih =>
    rw [stN]
    have : st (y * 2 ^ (k + 1)) = y * 2 ^ k := by
      unfold st
      rw [Nat.pow_succ, ← Nat.mul_assoc]
      rw [if_neg (by omega)]
      omega
    rw [this, ih]

theorem xor_shift (a b i : Nat) (hb : b < 2 ^ i) : (a * 2 ^ i) ^^^ b = a * 2 ^ i + b := by
  rw [← Nat.shiftLeft_eq]
  apply Nat.eq_of_testBit_eq
  intro j
  rw [Nat.testBit_xor, Nat.shiftLeft_add_eq_or_of_lt hb, Nat.testBit_or, Nat.testBit_shiftLeft]
  by_cases hj : i ≤ j
  · rw [Nat.testBit_lt_two_pow (Nat.lt_of_lt_of_le hb (Nat.pow_le_pow_right (by omega) hj))]; simp
  · simp [hj]

/-- eight shifts: the upper bytes come down, the lowest goes through the table -/
theorem stN_eight (n : Nat) : stN 8 n = (n / 256) ^^^ stN 8 (n % 256) := by
  have h : (n / 256 * 2 ^ 8) ^^^ (n % 256) = n := by
    rw [xor_shift _ _ 8 (by omega)]; omega
  rw [← stN_shift 8 (n / 256), ← stN_xor, h]

theorem st_lt (n : Nat) (h : n < 4294967296) : st n < 4294967296 := by
  unfold st
  split
  · exact Nat.xor_lt_two_pow (n := 32) (by omega) (by omega)
  · omega

theorem stN_lt (k n : Nat) (h : n < 4294967296) : stN k n < 4294967296 := by
  induction k generalizing n with
  | zero => exact h
  | succ k ih => exact ih _ (st_lt n h)

theorem st_top (n : Nat) (h : n < 4294967296) : (st n).testBit 31 = decide (n % 2 = 1) := by
  unfold st
  have h2 : (n / 2).testBit 31 = false := Nat.testBit_lt_two_pow (by omega)
  split
  · rename_i hn
    rw [Nat.testBit_xor, h2]
    simp [hn]
    decide
  · rename_i hn
    rw [h2]; simp [hn]

theorem st_inj {a b : Nat} (ha : a < 4294967296) (hb : b < 4294967296) (h : st a = st b) : a = b := by
  have ht : decide (a % 2 = 1) = decide (b % 2 = 1) := by rw [← st_top a ha, ← st_top b hb, h]
  have hp : (a % 2 = 1) ↔ (b % 2 = 1) := by simpa using ht
  unfold st at h
  by_cases h1 : a % 2 = 1
  · rw [if_pos h1, if_pos (hp.1 h1)] at h
    have h2 : a / 2 = b / 2 := by
      have := congrArg (· ^^^ 3988292384) h
      simpa [Nat.xor_assoc] using this
    have := hp.1 h1
    omega
  · rw [if_neg h1, if_neg (fun h' => h1 (hp.2 h'))] at h
    have : ¬ b % 2 = 1 := fun h' => h1 (hp.2 h')
    omega

theorem stN_inj {k a b : Nat} (ha : a < 4294967296) (hb : b < 4294967296) (h : stN k a = stN k b) : a = b := by
  induction k generalizing a b with
  | zero => exact h
  | succ k ih => exact st_inj ha hb (ih (st_lt a ha) (st_lt b hb) h)

theorem xor_cancel {a b c : Nat} (h : a ^^^ c = b ^^^ c) : a = b := by
  have := congrArg (· ^^^ c) h
  simpa [Nat.xor_assoc] using this

theorem crc_lt (n : Nat) (b : UInt8) (h : n < 4294967296) : crc n b < 4294967296 :=
  stN_lt 8 _ (Nat.xor_lt_two_pow (n := 32) (by omega) (by have := b.toNat_lt; omega))

theorem sumGo_lt (n : Nat) (D : List UInt8) (h : n < 4294967296) : sumGo n D < 4294967296 := by
  induction D generalizing n with
  | nil => exact h
  | cons b D ih => exact ih _ (crc_lt n b h)

theorem sumGo_inj {a b : Nat} {D : List UInt8} (ha : a < 4294967296) (hb : b < 4294967296) (h : sumGo a D = sumGo b D) : a = b := by
  induction D generalizing a b with
  | nil => exact h
  | cons c D ih =>
    have h1 := ih (crc_lt a c ha) (crc_lt b c hb) h
    unfold crc at h1
    have hc := c.toNat_lt
    exact xor_cancel (stN_inj (Nat.xor_lt_two_pow (n := 32) (by omega) (by omega)) (Nat.xor_lt_two_pow (n := 32) (by omega) (by omega)) h1)

/-- one byte changed: another sum -/
theorem sum_ne (A C : List UInt8) (x y : UInt8) (hne : x ≠ y) : sum (A ++ x :: C) ≠ sum (A ++ y :: C) := by
  intro h
  unfold sum at h
  have h1 := xor_cancel h
  unfold sumGo at h1
  rw [List.foldl_append, List.foldl_append, List.foldl_cons, List.foldl_cons] at h1
  have hA : List.foldl crc 4294967295 A < 4294967296 := sumGo_lt _ A (by omega)
  generalize List.foldl crc 4294967295 A = z at *
  have h2 := sumGo_inj (D := C) (crc_lt _ x hA) (crc_lt _ y hA) h1
  unfold crc at h2
  have hx := x.toNat_lt
  have hy := y.toNat_lt
  have h3 := stN_inj (Nat.xor_lt_two_pow (n := 32) (by omega) (by omega)) (Nat.xor_lt_two_pow (n := 32) (by omega) (by omega)) h2
  rw [Nat.xor_comm _ x.toNat, Nat.xor_comm _ y.toNat] at h3
  exact hne (UInt8.toNat_inj.1 (xor_cancel h3))

end Go.Proofs.Ytjobhlncllfdmaa.Pu
