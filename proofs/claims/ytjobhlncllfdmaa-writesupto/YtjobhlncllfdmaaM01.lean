/- Contracts of the reference's small functions. -/
import Derived.Test.YtjobhlncllfdmaaRows
import Derived.WalkKit
import Derived.WalkSpells
import Derived.WalkLawsBesides
import Derived.Deep.QuietTactic
import Derived.BigQuiet
namespace Go.Proofs.Ytjobhlncllfdmaa
open Go.RowKit

theorem ret_int {k : IntKind} {a b : Int} (h : a = b) : Ending.returned (.int k a) = .returned (.int k b) := by rw [h]
theorem ret_bool {a b : Bool} (h : a = b) : Ending.returned (.bool a) = .returned (.bool b) := by rw [h]

set_option maxHeartbeats 400000 in
theorem power_any (n : Nat) (w : World) (hn : n ≤ 24) :
    Calls Try.prog 45 #[.int .i64 n] w fun e w' => e = .returned (.int .i64 ((2 ^ n : Nat) : Int)) ∧ w' = w := by
  go_enter Try.func45, Try.ntmps45
  go_wp2
  go_loop [3, 4] (fun p i => ∃ k q : Nat, k ≤ n ∧ Hid (q = 2 ^ k) ∧ i = .int .i64 k ∧ p = .int .i64 q) (fun _ i => n - (intOf i).toNat)
  case atStart => exact ⟨0, 1, Nat.zero_le _, rfl, rfl, rfl⟩
  case round =>
    obtain ⟨k, q, hk, Hq, rfl, rfl⟩ := hrel
    have hb : q ≤ 16777216 := by rw [Hq.out]; exact Nat.le_trans (Nat.pow_le_pow_right (by omega) (Nat.le_trans hk hn)) (by decide)
    go_wp2
    · go_round
      case rel => exact ⟨k + 1, 2 * q, by omega, by rw [Hq.out, Nat.pow_succ]; exact Nat.mul_comm _ _, by go_num, by go_num⟩
      case measure => simp [intOf]; omega
    · have : k = n := by omega
      subst this
      go_ret
      exact ⟨ret_int (by rw [Hq.out]; simp), rfl⟩

/-- a power of two, behind a name that the walk does not open -/
def pow2 (n : Nat) : Nat := 2 ^ n
theorem pow2_pos (n : Nat) : 1 ≤ pow2 n := Nat.one_le_two_pow
theorem pow2_le (n : Nat) (h : n ≤ 24) : pow2 n ≤ 16777216 := Nat.le_trans (Nat.pow_le_pow_right (by omega) h) (by decide)

theorem power_int (n : Int) (w : World) (h0 : 0 ≤ n) (hn : n ≤ 24) :
    Calls Try.prog 45 #[.int .i64 n] w fun e w' => e = .returned (.int .i64 ((pow2 n.toNat : Nat) : Int)) ∧ w' = w := by
  obtain ⟨m, rfl⟩ := Int.eq_ofNat_of_zero_le h0
  rw [Int.toNat_natCast]
  exact power_any m w (by omega)

end Go.Proofs.Ytjobhlncllfdmaa

/- Plain functions on lists of bytes: what a varint, a number of several bytes and a row of runs is. -/
namespace Go.Proofs.Ytjobhlncllfdmaa.Pu

def byteAt (D : List UInt8) (i : Nat) : Nat := (D.getD i 0).toNat

theorem byteAt_lt (D : List UInt8) (i : Nat) : byteAt D i < 256 := (D.getD i 0).toNat_lt

def viGo (D : List UInt8) (at' : Nat) : Nat → Nat → Nat → Option (Nat × Nat)
  | 0, _, _ => none
  | f + 1, i, n =>
    if at' + i < D.length then
      if byteAt D (at' + i) < 128 then
        if n + 128 ^ i * (byteAt D (at' + i) % 128) ≤ 4294967295 ∧ (i = 0 ∨ 0 < byteAt D (at' + i)) then some (n + 128 ^ i * (byteAt D (at' + i) % 128), at' + i + 1) else none
      else viGo D at' f (i + 1) (n + 128 ^ i * (byteAt D (at' + i) % 128))
    else none

def vi (D : List UInt8) (at' : Nat) : Option (Nat × Nat) := viGo D at' 5 0 0

/-- little-endian value -/
def le : List UInt8 → Nat
  | [] => 0
  | b :: r => b.toNat + 256 * le r

def piece (D : List UInt8) (at' n : Nat) : List UInt8 := (D.drop at').take n

def lo (D : List UInt8) (at' n : Nat) : Option Nat := if at' + n ≤ D.length then some (le (piece D at' n)) else none

def bitAt (L : List UInt8) (q : Nat) : Nat := byteAt L (q / 8) / 2 ^ (q % 8) % 2

/-- the number of the bits q .. q+w-1 -/
def nAt (L : List UInt8) (q : Nat) : Nat → Nat
  | 0 => 0
  | w + 1 => nAt L q w + 2 ^ w * bitAt L (q + w)

/-- the same, from the top: bits k .. w-1, as the reference gathers it -/
def nTop (L : List UInt8) (q : Nat) : Nat → Nat → Nat
  | _, 0 => 0
  | k, m + 1 => bitAt L (q + k) + 2 * nTop L q (k + 1) m

def nums (L : List UInt8) (w n : Nat) : List Nat := (List.range n).map fun i => nAt L (i * w) w

def step (D : List UInt8) (w c at' : Nat) (out : List Nat) : Option (Nat × List Nat) :=
  match vi D at' with
  | none => none
  | some (h, at1) =>
    if h < 2 then none else
    if h % 2 = 0 then
      match lo D at1 ((w + 7) / 8) with
      | none => none
      | some x => if 2 ^ w ≤ x ∨ c - out.length < h / 2 then none else some (at1 + (w + 7) / 8, out ++ List.replicate (h / 2) x)
    else
      if c - out.length ≤ 8 * (h / 2) - 8 ∨ D.length < at1 + h / 2 * w then none else
      if ((nums (piece D at1 (h / 2 * w)) w (8 * (h / 2))).drop (c - out.length)).all (· == 0) then some (at1 + h / 2 * w, out ++ (nums (piece D at1 (h / 2 * w)) w (8 * (h / 2))).take (c - out.length)) else none

def rs (D : List UInt8) (w c : Nat) : Nat → Nat → List Nat → Option (List Nat × Nat)
  | f, at', out => if out.length < c then
      match f with
      | 0 => none
      | f + 1 => match step D w c at' out with
        | none => none
        | some (a, o) => rs D w c f a o
    else some (out, at')

theorem vi_lt {D : List UInt8} {at' h a : Nat} (e : vi D at' = some (h, a)) : at' < a ∧ a ≤ D.length ∧ h ≤ 4294967295 := by
  have key : ∀ f i n, viGo D at' f i n = some (h, a) → at' < a ∧ a ≤ D.length ∧ h ≤ 4294967295 := by
    intro f
    induction f with
    | zero => intro i n e; simp [viGo] at e
    | succ f ih =>
      intro i n e
      unfold viGo at e
      split at e
      · split at e
        · split at e
          · simp only [Option.some.injEq, Prod.mk.injEq] at e
            obtain ⟨rfl, rfl⟩ := e
            omega
          · cases e
        · exact ih _ _ e
      · cases e
  exact key 5 0 0 e

theorem le_lt (L : List UInt8) : le L < 256 ^ L.length := by
  induction L with
  | nil => simp [le]
  | cons b r ih =>
    simp only [le, List.length_cons, Nat.pow_succ]
    have := b.toNat_lt
    omega

theorem length_piece (D : List UInt8) (a n : Nat) (h : a + n ≤ D.length) : (piece D a n).length = n := by simp [piece]; omega

theorem byteAt_piece (D : List UInt8) (a n i : Nat) (h : i < n) : byteAt (piece D a n) i = byteAt D (a + i) := by
  unfold byteAt piece
  simp only [List.getD_eq_getElem?_getD, List.getElem?_take, List.getElem?_drop, h, if_true]

theorem le_cons_drop (L : List UInt8) (i : Nat) (h : i < L.length) : le (L.drop i) = byteAt L i + 256 * le (L.drop (i + 1)) := by
  rw [List.drop_eq_getElem_cons h]
  simp [le, byteAt, List.getD_eq_getElem?_getD, h]

theorem bitAt_lt (L : List UInt8) (q : Nat) : bitAt L q < 2 := by unfold bitAt; omega

theorem nAt_lt (L : List UInt8) (q w : Nat) : nAt L q w < 2 ^ w := by
  induction w with
  | zero => simp [nAt]
  | succ w ih =>
    have hb := bitAt_lt L (q + w)
    simp only [nAt, Nat.pow_succ]
    have : 2 ^ w * bitAt L (q + w) ≤ 2 ^ w := by
      have : bitAt L (q + w) = 0 ∨ bitAt L (q + w) = 1 := by omega
      rcases this with h | h <;> simp [h]
    omega

/-- split a number at k: the low bits and, from k on, the rest gathered from the top -/
theorem nAt_split (L : List UInt8) (q : Nat) (m k : Nat) : nAt L q (k + m) = nAt L q k + 2 ^ k * nTop L q k m := by
  induction m generalizing k with
  | zero => simp [nTop]
  | succ m ih =>
    rw [show k + (m + 1) = (k + 1) + m by omega, ih (k + 1)]
    simp only [nAt, nTop, Nat.pow_succ, Nat.mul_add, Nat.mul_assoc]
    omega

theorem nTop_all (L : List UInt8) (q w : Nat) : nTop L q 0 w = nAt L q w := by
  have := nAt_split L q w 0
  simp [nAt] at this
  exact this.symm

theorem length_nums (L : List UInt8) (w n : Nat) : (nums L w n).length = n := by simp [nums]

theorem nums_succ (L : List UInt8) (w n : Nat) : nums L w (n + 1) = nums L w n ++ [nAt L (n * w) w] := by simp [nums, List.range_succ]

theorem take_nums (L : List UInt8) (w n m : Nat) (h : m ≤ n) : (nums L w n).take m = nums L w m := by
  simp only [nums, ← List.map_take, List.take_range]
  rw [Nat.min_eq_left h]

theorem step_length {D : List UInt8} {w c at' a : Nat} {out o : List Nat} (hc : out.length < c) (e : step D w c at' out = some (a, o)) :
    out.length < o.length ∧ o.length ≤ c ∧ a ≤ D.length := by
  unfold step at e
  cases hv : vi D at' with
  | none => simp [hv] at e
  | some p =>
    obtain ⟨h, at1⟩ := p
    have hl := vi_lt hv
    simp only [hv] at e
    by_cases h2 : h < 2
    · simp [h2] at e
    · rw [if_neg h2] at e
      by_cases hm : h % 2 = 0
      · rw [if_pos hm] at e
        cases hlo : lo D at1 ((w + 7) / 8) with
        | none => simp [hlo] at e
        | some x =>
          have hb : at1 + (w + 7) / 8 ≤ D.length := by
            unfold lo at hlo
            split at hlo
            · assumption
            · cases hlo
          simp only [hlo] at e
          split at e
          · cases e
          · rename_i hn
            simp only [Option.some.injEq, Prod.mk.injEq] at e
            obtain ⟨rfl, rfl⟩ := e
            simp only [List.length_append, List.length_replicate]
            omega
      · rw [if_neg hm] at e
        split at e
        · cases e
        · split at e
          · simp only [Option.some.injEq, Prod.mk.injEq] at e
            obtain ⟨rfl, rfl⟩ := e
            simp only [List.length_append, List.length_take, length_nums]
            omega
          · cases e

end Go.Proofs.Ytjobhlncllfdmaa.Pu

/- Contracts of the reference's bit, low, varint. -/
namespace Go.Proofs.Ytjobhlncllfdmaa
open Go.RowKit

theorem byte_of (s : ByteArray) (k : Nat) (h : k < s.size) : s[k].toNat = Pu.byteAt s.data.toList k := by
  have : k < s.data.toList.length := by simpa using h
  simp only [Pu.byteAt, List.getD_eq_getElem?_getD, List.getElem?_eq_getElem this, Option.getD_some]
  rfl

set_option maxHeartbeats 400000 in
theorem bit_any (s : ByteArray) (i : Nat) (w : World) (hs : s.size ≤ maxLen) (hi : i / 8 < s.size) (hi2 : i ≤ 1000000000000) :
    Calls Try.prog 46 #[.string s, .int .i64 i] w fun e w' => e = .returned (.int .i64 (Pu.bitAt s.data.toList i)) ∧ ∃ n, w' = w.drewN n := by
  unfold maxLen at hs
  have hb := byte_of s (i / 8) hi
  have hbb := Pu.byteAt_lt s.data.toList (i / 8)
  have hlt : ((i : Int) / 8) < (s.size : Int) := by omega
  have h0 : (0 : Int) ≤ (i : Int) / 8 := by omega
  have hP : (1 : Int) ≤ ((pow2 ((i : Int) % 8).toNat : Nat) : Int) := by have := pow2_pos ((i : Int) % 8).toNat; omega
  go_enter Try.func46, Try.ntmps46
  go_wp2
  go_big_quiet ((go_at_call 45; exact Calls.quiet_of_same (power_int _ _ (by omega) (by omega))))
  go_wp2
  go_ret
  refine ⟨ret_int ?_, _, rfl⟩
  have hz : (((Pu.byteAt s.data.toList (i / 8) / pow2 (i % 8) : Nat) : Int) % 2) = (Pu.bitAt s.data.toList i : Int) := rfl
  have h1 : ((Pu.byteAt s.data.toList (i / 8) : Nat) : Int) / ((pow2 (i % 8) : Nat) : Int) = ((Pu.byteAt s.data.toList (i / 8) / pow2 (i % 8) : Nat) : Int) := by omega
  have h2 : Pu.byteAt s.data.toList (i / 8) / pow2 (i % 8) ≤ Pu.byteAt s.data.toList (i / 8) := Nat.div_le_self _ _
  rw [h1]
  generalize Pu.byteAt s.data.toList (i / 8) / pow2 (i % 8) = z at *
  rw [IntWalk.wrap64_in _ (by omega), Int.tmod_eq_emod_of_nonneg (by omega)]
  exact hz

theorem byte_ex (s : ByteArray) (k : Nat) (h : k < s.size) : ∃ b : Nat, s[k].toNat = b ∧ b < 256 ∧ Hid (b = Pu.byteAt s.data.toList k) :=
  ⟨_, rfl, s[k].toNat_lt, byte_of s k h⟩

theorem vi_start (D : List UInt8) (a : Nat) : Hid (Pu.vi D a = Pu.viGo D a (5 - 0) 0 0) := rfl

theorem vi_last {D : List UInt8} {a k m b : Nat} (hk : k < 5) (hin : a + k < D.length) (hb : b = Pu.byteAt D (a + k)) (hlt : b < 128) (h : Pu.vi D a = Pu.viGo D a (5 - k) k m) :
    Pu.vi D a = if m + 128 ^ k * b ≤ 4294967295 ∧ (k = 0 ∨ 0 < b) then some (m + 128 ^ k * b, a + k + 1) else none := by
  rw [h, show 5 - k = (4 - k) + 1 by omega, Pu.viGo, if_pos hin, ← hb, if_pos hlt, Nat.mod_eq_of_lt hlt]

theorem vi_next {D : List UInt8} {a k m b : Nat} (hk : k < 5) (hin : a + k < D.length) (hb : b = Pu.byteAt D (a + k)) (hlt : ¬ b < 128) (h : Pu.vi D a = Pu.viGo D a (5 - k) k m) :
    Pu.vi D a = Pu.viGo D a (5 - (k + 1)) (k + 1) (m + 128 ^ k * (b % 128)) := by
  rw [h, show 5 - k = (4 - k) + 1 by omega, Pu.viGo, if_pos hin, ← hb, if_neg hlt, show 5 - (k + 1) = 4 - k by omega]

theorem vi_out {D : List UInt8} {a k m : Nat} (hin : ¬ a + k < D.length) (h : Pu.vi D a = Pu.viGo D a (5 - k) k m) : Pu.vi D a = none := by
  rw [h]
  cases hf : 5 - k with
  | zero => rfl
  | succ f => rw [Pu.viGo, if_neg hin]

/-- what the reference's varint answers -/
def ViAns (D : List UInt8) (a : Nat) (e : Ending) : Prop :=
  ∃ (h nx : Int), e = .returned (.tuple #[.int .i64 h, .int .i64 nx, .bool (Pu.vi D a).isSome]) ∧ ∀ p, Pu.vi D a = some p → h = p.1 ∧ nx = p.2

theorem ViAns.of {D : List UInt8} {a m n : Nat} {ok : Bool} {x y : Int} (h : Pu.vi D a = if ok = true then some (m, n) else none) (hx : ok = true → x = m) (hy : ok = true → y = n) :
    ViAns D a (.returned (.tuple #[.int .i64 x, .int .i64 y, .bool ok])) := by
  refine ⟨x, y, ?_, ?_⟩
  · rw [h]; cases ok <;> rfl
  · intro p hp
    rw [h] at hp
    cases ok
    · cases hp
    · simp only [if_true, Option.some.injEq] at hp
      subst hp
      exact ⟨hx rfl, hy rfl⟩

theorem ViAns.no {D : List UInt8} {a : Nat} {x y : Int} (h : Pu.vi D a = none) : ViAns D a (.returned (.tuple #[.int .i64 x, .int .i64 y, .bool false])) :=
  ViAns.of (m := 0) (n := 0) (by simpa using h) (fun h => by cases h) (fun h => by cases h)

theorem cast_mod (m q b : Nat) : (m : Int) + (q : Int) * ((b : Int) % 128) = ((m + q * (b % 128) : Nat) : Int) := by simp

set_option maxHeartbeats 1000000 in
set_option maxRecDepth 100000 in
theorem varint_any (s : ByteArray) (a : Nat) (w : World) (hs : s.size ≤ 140737488355000) (ha : a ≤ s.size) :
    Calls Try.prog 43 #[.string s, .int .i64 a] w fun e w' => ViAns s.data.toList a e ∧ w' = w := by
  have hlen : s.data.toList.length = s.size := by simp
  have Hlen : Hid (s.data.toList.length = s.size) := hlen
  clear hlen
  go_enter Try.func43, Try.ntmps43
  go_wp2
  go_loop [7, 8, 9, 10, 11] (fun n u i _ _ => ∃ k m q : Nat, k ≤ 5 ∧ m < q ∧ Hid (q = 128 ^ k) ∧ Hid (Pu.vi s.data.toList a = Pu.viGo s.data.toList a (5 - k) k m) ∧ n = .int .i64 m ∧ u = .int .i64 q ∧ i = .int .i64 k) (fun _ _ i _ _ => 5 - (intOf i).toNat)
  case atStart => exact ⟨0, 0, 1, by omega, by omega, rfl, vi_start _ _, rfl, rfl, rfl⟩
  case round =>
    obtain ⟨k, m, q, hk, hm, Hq, Hv, rfl, rfl, rfl⟩ := hrel
    by_cases hk5 : k < 5
    · by_cases hin : a + k < s.size
      · obtain ⟨b, hb, hbb, HB⟩ := byte_ex s (a + k) hin
        have hq : q ≤ 268435456 := by rw [Hq.out]; exact Nat.le_trans (Nat.pow_le_pow_right (by omega) (show k ≤ 4 by omega)) (by decide)
        have hmN : q * (b % 128) ≤ 268435456 * 127 := Nat.mul_le_mul hq (by omega)
        have hmL : Hid (q * (b % 128) ≤ q * 127) := Nat.mul_le_mul_left _ (by omega)
        have hm1 : (q : Int) * ((b : Int) % 128) ≤ 34091302912 := by have : ((q * (b % 128) : Nat) : Int) ≤ 34091302912 := by omega
                                                                     simpa using this
        have hm0 : 0 ≤ (q : Int) * ((b : Int) % 128) := by have : 0 ≤ ((q * (b % 128) : Nat) : Int) := by omega
                                                           simpa using this
        have HinL : Hid (a + k < s.data.toList.length) := by rw [Hid, Hlen.out]; exact hin
        have Hlast : Hid (b < 128 → Pu.vi s.data.toList a = if m + q * (b % 128) ≤ 4294967295 ∧ (k = 0 ∨ 0 < b) then some (m + q * (b % 128), a + k + 1) else none) := by
          intro h
          rw [Nat.mod_eq_of_lt h, Hq.out]
          exact vi_last hk5 HinL.out HB.out h Hv.out
        have Hnext : Hid (¬ b < 128 → Pu.vi s.data.toList a = Pu.viGo s.data.toList a (5 - (k + 1)) (k + 1) (m + q * (b % 128))) := by
          intro h
          rw [Hq.out]
          exact vi_next hk5 HinL.out HB.out h Hv.out
        clear hmN
        go_wp2
        · go_ret3
          refine ⟨?_, rfl⟩
          have hc := cast_mod m q b
          have h1 : (b : Int) < 128 := by assumption
          have h2 : (m : Int) + (q : Int) * ((b : Int) % 128) ≤ 4294967295 := by assumption
          have h3 : k = 0 := by assumption
          refine ViAns.of (n := a + k + 1) ?_ (fun _ => hc) (fun _ => ?_)
          · rw [Hlast.out (by omega), if_pos ⟨by omega, Or.inl h3⟩]; rfl
          · omega
        · go_ret3
          refine ⟨?_, rfl⟩
          have hc := cast_mod m q b
          have h1 : (b : Int) < 128 := by assumption
          have h2 : (m : Int) + (q : Int) * ((b : Int) % 128) ≤ 4294967295 := by assumption
          have h3 : ¬ k = 0 := by assumption
          refine ViAns.of (n := a + k + 1) ?_ (fun _ => hc) (fun _ => ?_)
          · rw [Hlast.out (by omega)]
            by_cases h4 : 0 < b
            · rw [if_pos ⟨by omega, Or.inr h4⟩, if_pos (by simp; omega)]
            · rw [if_neg (by omega), if_neg (by simp; omega)]
          · omega
        · go_ret3
          refine ⟨ViAns.no ?_, rfl⟩
          have hc := cast_mod m q b
          have h1 : (b : Int) < 128 := by assumption
          have h2 : 4294967295 < (m : Int) + (q : Int) * ((b : Int) % 128) := by assumption
          rw [Hlast.out (by omega), if_neg (by omega)]
        · have hc := cast_mod m q b
          have h1 : 128 ≤ (b : Int) := by assumption
          go_round
          case rel => exact ⟨k + 1, m + q * (b % 128), 128 * q, by omega, by have := hmL.out; omega, by rw [Hid, Nat.pow_succ, Nat.mul_comm, Hq.out], Hnext.out (by omega), by rw [hc], by go_num, by go_num⟩
          case measure => simp [intOf]; omega
      · go_wp2
        go_ret3
        exact ⟨ViAns.no (vi_out (by rw [Hlen.out]; exact hin) Hv.out), rfl⟩
    · go_wp2
      go_ret3
      exact ⟨ViAns.no (by rw [Hv.out, show 5 - k = 0 by omega]; rfl), rfl⟩
end Go.Proofs.Ytjobhlncllfdmaa

/- Contract of the reference's low. -/
namespace Go.Proofs.Ytjobhlncllfdmaa
open Go.RowKit

theorem le_step (D : List UInt8) (a n k : Nat) (h : a + n ≤ D.length) (hk : k < n) :
    Pu.le ((Pu.piece D a n).drop k) = Pu.byteAt D (a + k) + 256 * Pu.le ((Pu.piece D a n).drop (k + 1)) := by
  rw [Pu.le_cons_drop _ _ (by rw [Pu.length_piece D a n h]; exact hk), Pu.byteAt_piece D a n k hk]

set_option maxHeartbeats 1000000 in
set_option maxRecDepth 100000 in
theorem low_any (s : ByteArray) (a n : Nat) (w : World) (hs : s.size ≤ 140737488355000) (ha : a ≤ s.size) (hn : n ≤ 4) :
    Calls Try.prog 44 #[.string s, .int .i64 a, .int .i64 n] w fun e w' => e = .returned (.tuple #[.int .i64 (((Pu.lo s.data.toList a n).getD 0 : Nat) : Int), .bool (Pu.lo s.data.toList a n).isSome]) ∧ w' = w := by
  have hlen : s.data.toList.length = s.size := by simp
  by_cases hfit : a + n ≤ s.size
  · have Hlo : Hid (Pu.lo s.data.toList a n = some (Pu.le (Pu.piece s.data.toList a n))) := by unfold Hid Pu.lo; rw [if_pos (by omega)]
    have Hstep : Hid (∀ k, k < n → Pu.le ((Pu.piece s.data.toList a n).drop k) = Pu.byteAt s.data.toList (a + k) + 256 * Pu.le ((Pu.piece s.data.toList a n).drop (k + 1))) :=
      fun k hk => le_step _ a n k (by omega) hk
    have Hlt : Hid (∀ k, k < n → Pu.le ((Pu.piece s.data.toList a n).drop (k + 1)) < 16777216) := by
      intro k hk
      refine Nat.lt_of_lt_of_le (Pu.le_lt _) ?_
      rw [List.length_drop, Pu.length_piece _ _ _ (by omega)]
      exact Nat.le_trans (Nat.pow_le_pow_right (by omega) (show n - (k + 1) ≤ 3 by omega)) (by decide)
    have Hend : Hid (Pu.le ((Pu.piece s.data.toList a n).drop n) = 0) := by
      rw [Hid, List.drop_of_length_le (by rw [Pu.length_piece _ _ _ (by omega)]; omega)]; rfl
    generalize (Pu.piece s.data.toList a n) = L at *
    clear hlen
    go_enter Try.func44, Try.ntmps44
    go_wp2
    go_loop [8, 9] (fun x i => ∃ k m : Nat, k ≤ n ∧ Hid (m = Pu.le (L.drop k)) ∧ i = .int .i64 ((k : Int) - 1) ∧ x = .int .i64 m) (fun _ i => (intOf i + 1).toNat)
    case atStart => exact ⟨n, 0, Nat.le_refl _, Hend.out.symm, rfl, rfl⟩
    case round =>
      obtain ⟨k, m, hk, Hm, rfl, rfl⟩ := hrel
      by_cases hk0 : k = 0
      · subst hk0
        go_wp2
        go_ret2
        exact ⟨by rw [Hlo.out]; simp [Hm.out], rfl⟩
      · obtain ⟨j, rfl⟩ : ∃ j, k = j + 1 := ⟨k - 1, by omega⟩
        have hml : m < 16777216 := by rw [Hm.out]; exact Hlt.out j (by omega)
        obtain ⟨b, hb, hbb, HB⟩ := byte_ex s (a + j) (by omega)
        go_wp2
        go_round
        case rel => exact ⟨j, 256 * m + b, by omega, by rw [Hid, Hstep.out j (by omega), ← Hm.out, ← HB.out]; omega, by go_num, by go_num⟩
        case measure => simp [intOf]
  · have Hlo : Hid (Pu.lo s.data.toList a n = none) := by unfold Hid Pu.lo; rw [if_neg (by omega)]
    go_enter Try.func44, Try.ntmps44
    go_wp2
    go_ret2
    exact ⟨by rw [Hlo.out]; rfl, rfl⟩

theorem varint_no (s : ByteArray) (a : Nat) (w : World) (hs : s.size ≤ 140737488355000) (ha : a ≤ s.size) (hv : Pu.vi s.data.toList a = none) :
    Calls Try.prog 43 #[.string s, .int .i64 a] w fun e w' => ∃ h nx : Int, e = .returned (.tuple #[.int .i64 h, .int .i64 nx, .bool false]) ∧ w' = w := by
  refine (varint_any s a w hs ha).mono ?_
  rintro e w' ⟨⟨h, nx, he, _⟩, hw⟩
  rw [hv] at he
  exact ⟨h, nx, he, hw⟩

theorem varint_yes (s : ByteArray) (a h nx : Nat) (w : World) (hs : s.size ≤ 140737488355000) (ha : a ≤ s.size) (hv : Pu.vi s.data.toList a = some (h, nx)) :
    Calls Try.prog 43 #[.string s, .int .i64 a] w fun e w' => e = .returned (.tuple #[.int .i64 h, .int .i64 nx, .bool true]) ∧ w' = w := by
  refine (varint_any s a w hs ha).mono ?_
  rintro e w' ⟨⟨h', nx', he, hp⟩, hw⟩
  obtain ⟨rfl, rfl⟩ := hp _ hv
  rw [hv] at he
  exact ⟨he, hw⟩

theorem low_no (s : ByteArray) (a n : Nat) (w : World) (hs : s.size ≤ 140737488355000) (ha : a ≤ s.size) (hn : n ≤ 4) (hv : Pu.lo s.data.toList a n = none) :
    Calls Try.prog 44 #[.string s, .int .i64 a, .int .i64 n] w fun e w' => e = .returned (.tuple #[.int .i64 0, .bool false]) ∧ w' = w := by
  refine (low_any s a n w hs ha hn).mono ?_
  rw [hv]
  exact fun _ _ h => h

theorem low_yes (s : ByteArray) (a n x : Nat) (w : World) (hs : s.size ≤ 140737488355000) (ha : a ≤ s.size) (hn : n ≤ 4) (hv : Pu.lo s.data.toList a n = some x) :
    Calls Try.prog 44 #[.string s, .int .i64 a, .int .i64 n] w fun e w' => e = .returned (.tuple #[.int .i64 x, .bool true]) ∧ w' = w := by
  refine (low_any s a n w hs ha hn).mono ?_
  rw [hv]
  exact fun _ _ h => h

end Go.Proofs.Ytjobhlncllfdmaa
