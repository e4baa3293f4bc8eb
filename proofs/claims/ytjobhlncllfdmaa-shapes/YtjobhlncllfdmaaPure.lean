/- Plain functions on lists of bytes: what a varint, a number of several bytes and a row of runs is. -/
import Derived.WalkKit
namespace Go.Proofs.Ytjobhlncllfdmaa.Pu

def byteAt (D : List UInt8) (i : Nat) : Nat := (D.getD i 0).toNat

theorem byteAt_lt (D : List UInt8) (i : Nat) : byteAt D i < 256 := (D.getD i 0).toNat_lt

def viGo (D : List UInt8) (at' : Nat) : Nat → Nat → Nat → Option (Nat × Nat)
  | 0, _, _ => none
  | f + 1, i, n =>
    if at' + i < D.length then
      if byteAt D (at' + i) < 128 then
        if n + 128 ^ i * (byteAt D (at' + i) % 128) ≤ 4294967295 ∧ (i = 0 ∨ 0 < byteAt D (at' + i)) then some (n + 128 ^ i * (byteAt D (at' + i) % 128), at' + i + 1) else none
      else viGo D at' f (i + 1) (n + 128 ^ i * (byteAt D (at' + i) % 128))
    else none

def vi (D : List UInt8) (at' : Nat) : Option (Nat × Nat) := viGo D at' 5 0 0

/-- little-endian value -/
def le : List UInt8 → Nat
  | [] => 0
  | b :: r => b.toNat + 256 * le r

def piece (D : List UInt8) (at' n : Nat) : List UInt8 := (D.drop at').take n

def lo (D : List UInt8) (at' n : Nat) : Option Nat := if at' + n ≤ D.length then some (le (piece D at' n)) else none

def bitAt (L : List UInt8) (q : Nat) : Nat := byteAt L (q / 8) / 2 ^ (q % 8) % 2

/-- the number of the bits q .. q+w-1 -/
def nAt (L : List UInt8) (q : Nat) : Nat → Nat
  | 0 => 0
  | w + 1 => nAt L q w + 2 ^ w * bitAt L (q + w)

/-- the same, from the top: bits k .. w-1, as the reference gathers it -/
def nTop (L : List UInt8) (q : Nat) : Nat → Nat → Nat
  | _, 0 => 0
  | k, m + 1 => bitAt L (q + k) + 2 * nTop L q (k + 1) m

def nums (L : List UInt8) (w n : Nat) : List Nat := (List.range n).map fun i => nAt L (i * w) w

def step (D : List UInt8) (w c at' : Nat) (out : List Nat) : Option (Nat × List Nat) :=
  match vi D at' with
  | none => none
  | some (h, at1) =>
    if h < 2 then none else
    if h % 2 = 0 then
      match lo D at1 ((w + 7) / 8) with
      | none => none
      | some x => if 2 ^ w ≤ x ∨ c - out.length < h / 2 then none else some (at1 + (w + 7) / 8, out ++ List.replicate (h / 2) x)
    else
      if c - out.length ≤ 8 * (h / 2) - 8 ∨ D.length < at1 + h / 2 * w then none else
      if ((nums (piece D at1 (h / 2 * w)) w (8 * (h / 2))).drop (c - out.length)).all (· == 0) then some (at1 + h / 2 * w, out ++ (nums (piece D at1 (h / 2 * w)) w (8 * (h / 2))).take (c - out.length)) else none

def rs (D : List UInt8) (w c : Nat) : Nat → Nat → List Nat → Option (List Nat × Nat)
  | f, at', out => if out.length < c then
      match f with
      | 0 => none
      | f + 1 => match step D w c at' out with
        | none => none
        | some (a, o) => rs D w c f a o
    else some (out, at')

theorem vi_lt {D : List UInt8} {at' h a : Nat} (e : vi D at' = some (h, a)) : at' < a ∧ a ≤ D.length ∧ h ≤ 4294967295 := by
  have key : ∀ f i n, viGo D at' f i n = some (h, a) → at' < a ∧ a ≤ D.length ∧ h ≤ 4294967295 := by
    intro f
    induction f with
    | zero => intro i n e; simp [viGo] at e
    | succ f ih =>
      intro i n e
      unfold viGo at e
      split at e
      · split at e
        · split at e
          · simp only [Option.some.injEq, Prod.mk.injEq] at e
            obtain ⟨rfl, rfl⟩ := e
            omega
          · cases e
        · exact ih _ _ e
      · cases e
  exact key 5 0 0 e

theorem le_lt (L : List UInt8) : le L < 256 ^ L.length := by
  induction L with
  | nil => simp [le]
  | cons b r ih =>
    simp only [le, List.length_cons, Nat.pow_succ]
    have := b.toNat_lt
    omega

theorem length_piece (D : List UInt8) (a n : Nat) (h : a + n ≤ D.length) : (piece D a n).length = n := by simp [piece]; omega

theorem byteAt_piece (D : List UInt8) (a n i : Nat) (h : i < n) : byteAt (piece D a n) i = byteAt D (a + i) := by
  unfold byteAt piece
  simp only [List.getD_eq_getElem?_getD, List.getElem?_take, List.getElem?_drop, h, if_true]

theorem le_cons_drop (L : List UInt8) (i : Nat) (h : i < L.length) : le (L.drop i) = byteAt L i + 256 * le (L.drop (i + 1)) := by
  rw [List.drop_eq_getElem_cons h]
  simp [le, byteAt, List.getD_eq_getElem?_getD, h]

theorem bitAt_lt (L : List UInt8) (q : Nat) : bitAt L q < 2 := by unfold bitAt; omega

theorem nAt_lt (L : List UInt8) (q w : Nat) : nAt L q w < 2 ^ w := by
  induction w with
  | zero => simp [nAt]
  | succ w ih =>
    have hb := bitAt_lt L (q + w)
    simp only [nAt, Nat.pow_succ]
    have : 2 ^ w * bitAt L (q + w) ≤ 2 ^ w := by
      have : bitAt L (q + w) = 0 ∨ bitAt L (q + w) = 1 := by omega
      rcases this with h | h <;> simp [h]
    omega

/-- split a number at k: the low bits and, from k on, the rest gathered from the top -/
theorem nAt_split (L : List UInt8) (q : Nat) (m k : Nat) : nAt L q (k + m) = nAt L q k + 2 ^ k * nTop L q k m := by
  induction m generalizing k with
  | zero => simp [nTop]
  | succ m ih =>
    rw [show k + (m + 1) = (k + 1) + m by omega, ih (k + 1)]
    simp only [nAt, nTop, Nat.pow_succ, Nat.mul_add, Nat.mul_assoc]
    omega

theorem nTop_all (L : List UInt8) (q w : Nat) : nTop L q 0 w = nAt L q w := by
  have := nAt_split L q w 0
  simp [nAt] at this
  exact this.symm

theorem length_nums (L : List UInt8) (w n : Nat) : (nums L w n).length = n := by simp [nums]

theorem nums_succ (L : List UInt8) (w n : Nat) : nums L w (n + 1) = nums L w n ++ [nAt L (n * w) w] := by simp [nums, List.range_succ]

theorem take_nums (L : List UInt8) (w n m : Nat) (h : m ≤ n) : (nums L w n).take m = nums L w m := by
  simp only [nums, ← List.map_take, List.take_range]
  rw [Nat.min_eq_left h]

theorem step_length {D : List UInt8} {w c at' a : Nat} {out o : List Nat} (hc : out.length < c) (e : step D w c at' out = some (a, o)) :
    out.length < o.length ∧ o.length ≤ c ∧ a ≤ D.length := by
  unfold step at e
  cases hv : vi D at' with
  | none => simp [hv] at e
  | some p =>
    obtain ⟨h, at1⟩ := p
    have hl := vi_lt hv
    simp only [hv] at e
    by_cases h2 : h < 2
    · simp [h2] at e
    · rw [if_neg h2] at e
      by_cases hm : h % 2 = 0
      · rw [if_pos hm] at e
        cases hlo : lo D at1 ((w + 7) / 8) with
        | none => simp [hlo] at e
        | some x =>
          have hb : at1 + (w + 7) / 8 ≤ D.length := by
            unfold lo at hlo
            split at hlo
            · assumption
            · cases hlo
          simp only [hlo] at e
          split at e
          · cases e
          · rename_i hn
            simp only [Option.some.injEq, Prod.mk.injEq] at e
            obtain ⟨rfl, rfl⟩ := e
            simp only [List.length_append, List.length_replicate]
            omega
      · rw [if_neg hm] at e
        split at e
        · cases e
        · split at e
          · simp only [Option.some.injEq, Prod.mk.injEq] at e
            obtain ⟨rfl, rfl⟩ := e
            simp only [List.length_append, List.length_take, length_nums]
            omega
          · cases e

end Go.Proofs.Ytjobhlncllfdmaa.Pu
