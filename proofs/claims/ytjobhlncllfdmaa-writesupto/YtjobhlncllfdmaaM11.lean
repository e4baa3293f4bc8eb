/- Plain functions: the sum of bytes, bit by bit, and that it goes byte by byte through a table. -/
import Derived.Test.YtjobhlncllfdmaaM01
import Derived.Test.YtjobhlncllfdmaaM10
namespace Go.Proofs.Ytjobhlncllfdmaa.Pu

/-- one shift -/
def st (n : Nat) : Nat := if n % 2 = 1 then (n / 2) ^^^ 3988292384 else n / 2

def stN : Nat → Nat → Nat
  | 0, n => n
  | k + 1, n => stN k (st n)

/-- a byte more -/
def crc (n : Nat) (b : UInt8) : Nat := stN 8 (n ^^^ b.toNat)
def sumGo (n : Nat) (D : List UInt8) : Nat := D.foldl crc n
def sum (D : List UInt8) : Nat := sumGo 4294967295 D ^^^ 4294967295

theorem stN_succ (k n : Nat) : stN (k + 1) n = st (stN k n) := by
  induction k generalizing n with
  | zero => rfl
  | succ k ih => rw [stN, ih]; rfl

theorem xor_mod2 (a b : Nat) : (a ^^^ b) % 2 = (a % 2 + b % 2) % 2 := by
  have h := Nat.testBit_xor a b 0
  simp only [Nat.testBit_zero] at h
  have ha := Nat.mod_two_eq_zero_or_one a
  have hb := Nat.mod_two_eq_zero_or_one b
  have hc := Nat.mod_two_eq_zero_or_one (a ^^^ b)
  rcases ha with ha | ha <;> rcases hb with hb | hb <;> rcases hc with hc | hc <;> simp_all

theorem xor_div2 (a b : Nat) : (a ^^^ b) / 2 = (a / 2) ^^^ (b / 2) := by
  apply Nat.eq_of_testBit_eq
  intro i
  rw [Nat.testBit_xor, Nat.testBit_div_two, Nat.testBit_div_two, Nat.testBit_div_two, Nat.testBit_xor]

theorem st_xor (a b : Nat) : st (a ^^^ b) = st a ^^^ st b := by
  unfold st
  rw [xor_mod2, xor_div2]
  have ha := Nat.mod_two_eq_zero_or_one a
  have hb := Nat.mod_two_eq_zero_or_one b
  rcases ha with ha | ha <;> rcases hb with hb | hb <;> simp only [ha, hb]
  · rfl
  · simp only [if_true, Nat.zero_ne_one, if_false]
    rw [Nat.xor_assoc]
  · simp only [if_true, Nat.zero_ne_one, if_false]
    rw [Nat.xor_assoc, Nat.xor_assoc, Nat.xor_comm 3988292384]
  · simp only [Nat.reduceAdd, Nat.reduceMod, Nat.zero_ne_one, if_false, if_true]
    rw [Nat.xor_assoc, Nat.xor_comm (b / 2), ← Nat.xor_assoc 3988292384, Nat.xor_self, Nat.zero_xor]

theorem stN_xor (k a b : Nat) : stN k (a ^^^ b) = stN k a ^^^ stN k b := by
  induction k generalizing a b with
  | zero => rfl
  | succ k ih => rw [stN, st_xor, ih]; rfl

theorem stN_shift (k y : Nat) : stN k (y * 2 ^ k) = y := by
  induction k generalizing y with
  | zero => simp [stN]
  | succ k ih =>
    rw [stN]
    have : st (y * 2 ^ (k + 1)) = y * 2 ^ k := by
      unfold st
      rw [Nat.pow_succ, ← Nat.mul_assoc]
      rw [if_neg (by omega)]
      omega
    rw [this, ih]

theorem xor_shift (a b i : Nat) (hb : b < 2 ^ i) : (a * 2 ^ i) ^^^ b = a * 2 ^ i + b := by
  rw [← Nat.shiftLeft_eq]
  apply Nat.eq_of_testBit_eq
  intro j
  rw [Nat.testBit_xor, Nat.shiftLeft_add_eq_or_of_lt hb, Nat.testBit_or, Nat.testBit_shiftLeft]
  by_cases hj : i ≤ j
  · rw [Nat.testBit_lt_two_pow (Nat.lt_of_lt_of_le hb (Nat.pow_le_pow_right (by omega) hj))]; simp
  · simp [hj]

/-- eight shifts: the upper bytes come down, the lowest goes through the table -/
theorem stN_eight (n : Nat) : stN 8 n = (n / 256) ^^^ stN 8 (n % 256) := by
  have h : (n / 256 * 2 ^ 8) ^^^ (n % 256) = n := by
    rw [xor_shift _ _ 8 (by omega)]; omega
  rw [← stN_shift 8 (n / 256), ← stN_xor, h]

theorem st_lt (n : Nat) (h : n < 4294967296) : st n < 4294967296 := by
  unfold st
  split
  · exact Nat.xor_lt_two_pow (n := 32) (by omega) (by omega)
  · omega

theorem stN_lt (k n : Nat) (h : n < 4294967296) : stN k n < 4294967296 := by
  induction k generalizing n with
  | zero => exact h
  | succ k ih => exact ih _ (st_lt n h)

theorem st_top (n : Nat) (h : n < 4294967296) : (st n).testBit 31 = decide (n % 2 = 1) := by
  unfold st
  have h2 : (n / 2).testBit 31 = false := Nat.testBit_lt_two_pow (by omega)
  split
  · rename_i hn
    rw [Nat.testBit_xor, h2]
    simp [hn]
    decide
  · rename_i hn
    rw [h2]; simp [hn]

theorem st_inj {a b : Nat} (ha : a < 4294967296) (hb : b < 4294967296) (h : st a = st b) : a = b := by
  have ht : decide (a % 2 = 1) = decide (b % 2 = 1) := by rw [← st_top a ha, ← st_top b hb, h]
  have hp : (a % 2 = 1) ↔ (b % 2 = 1) := by simpa using ht
  unfold st at h
  by_cases h1 : a % 2 = 1
  · rw [if_pos h1, if_pos (hp.1 h1)] at h
    have h2 : a / 2 = b / 2 := by
      have := congrArg (· ^^^ 3988292384) h
      simpa [Nat.xor_assoc] using this
    have := hp.1 h1
    omega
  · rw [if_neg h1, if_neg (fun h' => h1 (hp.2 h'))] at h
    have : ¬ b % 2 = 1 := fun h' => h1 (hp.2 h')
    omega

theorem stN_inj {k a b : Nat} (ha : a < 4294967296) (hb : b < 4294967296) (h : stN k a = stN k b) : a = b := by
  induction k generalizing a b with
  | zero => exact h
  | succ k ih => exact st_inj ha hb (ih (st_lt a ha) (st_lt b hb) h)

theorem xor_cancel {a b c : Nat} (h : a ^^^ c = b ^^^ c) : a = b := by
  have := congrArg (· ^^^ c) h
  simpa [Nat.xor_assoc] using this

theorem crc_lt (n : Nat) (b : UInt8) (h : n < 4294967296) : crc n b < 4294967296 :=
  stN_lt 8 _ (Nat.xor_lt_two_pow (n := 32) (by omega) (by have := b.toNat_lt; omega))

theorem sumGo_lt (n : Nat) (D : List UInt8) (h : n < 4294967296) : sumGo n D < 4294967296 := by
  induction D generalizing n with
  | nil => exact h
  | cons b D ih => exact ih _ (crc_lt n b h)

theorem sumGo_inj {a b : Nat} {D : List UInt8} (ha : a < 4294967296) (hb : b < 4294967296) (h : sumGo a D = sumGo b D) : a = b := by
  induction D generalizing a b with
  | nil => exact h
  | cons c D ih =>
    have h1 := ih (crc_lt a c ha) (crc_lt b c hb) h
    unfold crc at h1
    have hc := c.toNat_lt
    exact xor_cancel (stN_inj (Nat.xor_lt_two_pow (n := 32) (by omega) (by omega)) (Nat.xor_lt_two_pow (n := 32) (by omega) (by omega)) h1)

/-- one byte changed: another sum -/
theorem sum_ne (A C : List UInt8) (x y : UInt8) (hne : x ≠ y) : sum (A ++ x :: C) ≠ sum (A ++ y :: C) := by
  intro h
  unfold sum at h
  have h1 := xor_cancel h
  unfold sumGo at h1
  rw [List.foldl_append, List.foldl_append, List.foldl_cons, List.foldl_cons] at h1
  have hA : List.foldl crc 4294967295 A < 4294967296 := sumGo_lt _ A (by omega)
  generalize List.foldl crc 4294967295 A = z at *
  have h2 := sumGo_inj (D := C) (crc_lt _ x hA) (crc_lt _ y hA) h1
  unfold crc at h2
  have hx := x.toNat_lt
  have hy := y.toNat_lt
  have h3 := stN_inj (Nat.xor_lt_two_pow (n := 32) (by omega) (by omega)) (Nat.xor_lt_two_pow (n := 32) (by omega) (by omega)) h2
  rw [Nat.xor_comm _ x.toNat, Nat.xor_comm _ y.toNat] at h3
  exact hne (UInt8.toNat_inj.1 (xor_cancel h3))

end Go.Proofs.Ytjobhlncllfdmaa.Pu

/- Contract of the reference's Sum. -/
namespace Go.Proofs.Ytjobhlncllfdmaa
open Go.RowKit

theorem take_snoc' (D : List UInt8) (k : Nat) (h : k < D.length) : D.take (k + 1) = D.take k ++ [D[k]] := by
  rw [List.take_succ_eq_append_getElem h]
theorem sumGo_snoc (n : Nat) (D : List UInt8) (b : UInt8) : Pu.sumGo n (D ++ [b]) = Pu.crc (Pu.sumGo n D) b := by simp [Pu.sumGo]

set_option maxHeartbeats 1000000 in
set_option maxRecDepth 100000 in
theorem refSum_any (s : ByteArray) (w : World) (hs : s.size ≤ 140737488355000) :
    Calls Try.prog 29 #[.string s] w fun e w' => e = .returned (.int .u32 (Pu.sum s.data.toList)) ∧ w' = w := by
  have hlen : s.data.toList.length = s.size := by simp
  have Hlen : Hid (s.data.toList.length = s.size) := hlen
  clear hlen
  go_enter Try.func29, Try.ntmps29
  go_wp2
  go_loop [3, 4] (fun n i => ∃ k x : Nat, k ≤ s.size ∧ x < 4294967296 ∧ Hid (x = Pu.sumGo 4294967295 (s.data.toList.take k)) ∧ n = .int .u32 x ∧ i = .int .i64 k) (fun _ i => s.size - (intOf i).toNat)
  case atStart => exact ⟨0, 4294967295, Nat.zero_le _, by omega, rfl, rfl, rfl⟩
  case round =>
    obtain ⟨k, x, hk, hx, Hx, rfl, rfl⟩ := hrel
    by_cases hk2 : k < s.size
    · obtain ⟨b, hb, hbb, HB⟩ := byte_ex s k hk2
      obtain ⟨y0, hy0⟩ : ∃ y0, y0 = x ^^^ b := ⟨_, rfl⟩
      have hxor : bits .xor .u32 (x : Int) (b : Int) = (y0 : Int) := by rw [hy0]; exact u32_xor_nat x b hx (by omega)
      have hyl : y0 < 4294967296 := by rw [hy0]; exact Nat.xor_lt_two_pow (n := 32) (by omega) (by omega)
      have Hnew : Hid (Pu.stN 8 y0 = Pu.sumGo 4294967295 (s.data.toList.take (k + 1))) := by
        rw [Hid, take_snoc' _ _ (by rw [Hlen.out]; exact hk2), sumGo_snoc, ← Hx.out, hy0]
        unfold Pu.crc
        rw [HB.out]
        simp only [Pu.byteAt, List.getD_eq_getElem?_getD, List.getElem?_eq_getElem (show k < s.data.toList.length by rw [Hlen.out]; exact hk2), Option.getD_some]
      clear hy0
      have hkd : decide ((k : Int) < (s.size : Int)) = true := by simp; omega
      go_wp2
      go_loop [3, 5] (fun n i => ∃ j y : Nat, j ≤ 8 ∧ y < 4294967296 ∧ Hid (Pu.stN 8 y0 = Pu.stN (8 - j) y) ∧ n = .int .u32 y ∧ i = .int .i64 j) (fun _ i => 8 - (intOf i).toNat)
      case atStart => exact ⟨0, y0, by omega, hyl, rfl, rfl, rfl⟩
      case round =>
        obtain ⟨j, y, hj, hy, Hy, rfl, rfl⟩ := hrel
        by_cases hj8 : j < 8
        · obtain ⟨h, hh⟩ : ∃ h, h = y / 2 := ⟨_, rfl⟩
          have hh2 : (y : Int) / 2 = (h : Int) := by omega
          have hst : Pu.stN (8 - j) y = Pu.stN (8 - (j + 1)) (Pu.st y) := by rw [show 8 - j = (8 - (j + 1)) + 1 by omega]; rfl
          by_cases hodd : y % 2 = 1
          · have ho : ((y : Int) % 2 == 1) = true := by simp; omega
            obtain ⟨z, hz⟩ : ∃ z, z = h ^^^ 3988292384 := ⟨_, rfl⟩
            have hxor2 : bits .xor .u32 (h : Int) 3988292384 = (z : Int) := by rw [hz]; exact u32_xor_nat h 3988292384 (by omega) (by omega)
            have hzl : z < 4294967296 := by rw [hz]; exact Nat.xor_lt_two_pow (n := 32) (by omega) (by omega)
            have HY : Hid (Pu.stN 8 y0 = Pu.stN (8 - (j + 1)) z) := by rw [Hid, Hy.out, hst, hz, hh]; unfold Pu.st; rw [if_pos hodd]
            clear hst hz hodd hh
            go_wp2
            go_round
            case rel => exact ⟨j + 1, z, by omega, hzl, HY, rfl, by go_num⟩
            case measure => simp [intOf]; omega
          · have ho : ((y : Int) % 2 == 1) = false := by simp; omega
            have hhl : h < 4294967296 := by omega
            have HY : Hid (Pu.stN 8 y0 = Pu.stN (8 - (j + 1)) h) := by rw [Hid, Hy.out, hst, hh]; unfold Pu.st; rw [if_neg hodd]
            clear hst hodd hh
            go_wp2
            go_round
            case rel => exact ⟨j + 1, h, by omega, hhl, HY, rfl, by go_num⟩
            case measure => simp [intOf]; omega
        · obtain rfl : j = 8 := by omega
          have HY : Hid (y = Pu.sumGo 4294967295 (s.data.toList.take (k + 1))) := by rw [Hid, ← Hnew.out, Hy.out]; rfl
          go_wp2
          go_round
          case rel => exact ⟨k + 1, y, by omega, hy, HY, rfl, by go_num⟩
          case measure => simp [intOf]; omega
    · obtain rfl : k = s.size := by omega
      have hxor3 : bits .xor .u32 (x : Int) 4294967295 = ((Pu.sum s.data.toList : Nat) : Int) := by
        rw [show (4294967295 : Int) = ((4294967295 : Nat) : Int) from rfl, u32_xor_nat x 4294967295 hx (by omega), Hx.out, List.take_of_length_le (by rw [Hlen.out]; exact Nat.le_refl _)]
        rfl
      go_wp2
      go_ret
      exact ⟨rfl, rfl⟩
end Go.Proofs.Ytjobhlncllfdmaa

/- Contract of the reference's Look. -/
namespace Go.Proofs.Ytjobhlncllfdmaa
open Go.RowKit

def stra : List UInt8 := [83, 84, 82, 65]

/-- what a look at a file tells: an error, or its footer (where it begins, its columns, its groups) -/
inductive Pu.Seen where
  | bad (e : Nat)
  | good (E : Nat) (cs : List Pu.Col) (gs : List (Nat × List (Nat × Nat)))

def Pu.look (D : List UInt8) : Pu.Seen :=
  if D.length < 16 ∨ D.take 4 ≠ stra ∨ D.drop (D.length - 4) ≠ stra then .bad 6 else
  if D.length - 16 < Pu.le (Pu.piece D (D.length - 12) 4) then .bad 6 else
  if Pu.sum (Pu.piece D (D.length - 12 - Pu.le (Pu.piece D (D.length - 12) 4)) (Pu.le (Pu.piece D (D.length - 12) 4))) ≠ Pu.le (Pu.piece D (D.length - 8) 4) then .bad 7 else
  match Pu.foot (Pu.piece D (D.length - 12 - Pu.le (Pu.piece D (D.length - 12) 4)) (Pu.le (Pu.piece D (D.length - 12) 4))) (D.length - 12 - Pu.le (Pu.piece D (D.length - 12) 4)) with
  | none => .bad 8
  | some (cs, gs) => .good (D.length - 12 - Pu.le (Pu.piece D (D.length - 12) 4)) cs gs

/-- what the reference's Look answers -/
def LookAns (w : World) (r : Pu.Seen) (e : Ending) (w' : World) : Prop :=
  match r with
  | .bad k => e = .returned (.tuple #[.pointer none, .int .i64 k])
  | .good E cs gs => ∃ F vc vr vk vs, e = .returned (.tuple #[.pointer (some ⟨F, 0, none⟩), .int .i64 0]) ∧ w.heap.size ≤ F ∧ w'.ownsRow w.heap.size 45 3 vc cs.length (colsV cs) ∧ vc.ownBlock ≠ some F ∧
      FBlk w' F vc vr vk E ∧ w'.ownsRow w.heap.size 3 1 vr gs.length (ints (gs.map Prod.fst)) ∧ w'.ownsRow w.heap.size 136 1 vk gs.length vs ∧
      (∀ i, (h : i < gs.length) → ∃ v, vs[i]? = some v ∧ w'.ownsRow w.heap.size 138 2 v gs[i].2.length (chV gs[i].2))

theorem Pu.sum_lt (D : List UInt8) : Pu.sum D < 4294967296 := Nat.xor_lt_two_pow (n := 32) (Pu.sumGo_lt _ _ (by omega)) (by omega)

theorem len_data (t : ByteArray) : t.data.toList.length = t.size := by simp

theorem look_bad6 {D : List UInt8} (h : D.length < 16 ∨ D.take 4 ≠ stra ∨ D.drop (D.length - 4) ≠ stra) : Pu.look D = .bad 6 := by unfold Pu.look; rw [if_pos h]
theorem look_bad6' {D : List UInt8} {z : Nat} (hz : z = Pu.le (Pu.piece D (D.length - 12) 4)) (h : D.length - 16 < z) : Pu.look D = .bad 6 := by
  subst hz; unfold Pu.look; split <;> first | rfl | rw [if_pos h]
theorem look_rest {D : List UInt8} {z E : Nat} (hz : z = Pu.le (Pu.piece D (D.length - 12) 4)) (h0 : ¬ (D.length < 16 ∨ D.take 4 ≠ stra ∨ D.drop (D.length - 4) ≠ stra)) (h : ¬ D.length - 16 < z) (hE : E = D.length - 12 - z) :
    Pu.look D = if Pu.sum (Pu.piece D E z) ≠ Pu.le (Pu.piece D (D.length - 8) 4) then .bad 7 else match Pu.foot (Pu.piece D E z) E with
      | none => .bad 8
      | some (cs, gs) => .good E cs gs := by
  subst hz hE; unfold Pu.look; rw [if_neg h0, if_neg h]

theorem ext_take (s : ByteArray) (n : Nat) (h : n ≤ s.size) : (s.extract 0 n).toList = s.data.toList.take n := by
  have := extract_list s 0 n (by omega)
  rw [Nat.zero_add] at this
  rw [ByteArray.toList_eq, this]; simp [Pu.piece]
theorem ext_drop (s : ByteArray) (n : Nat) (h : n ≤ s.size) : (s.extract n s.size).toList = s.data.toList.drop n := by
  have := extract_list s n (s.size - n) (by omega)
  rw [show n + (s.size - n) = s.size by omega] at this
  rw [ByteArray.toList_eq, this]
  have hlen : s.data.toList.length = s.size := by simp
  simp only [Pu.piece]
  rw [List.take_of_length_le (by rw [List.length_drop, hlen]; exact Nat.le_refl _)]

set_option maxHeartbeats 4000000 in
set_option maxRecDepth 100000 in
theorem refLook_head (s : ByteArray) (w : World) (hs : s.size ≤ 140737488355000) (h : s.size < 16 ∨ s.data.toList.take 4 ≠ stra ∨ s.data.toList.drop (s.size - 4) ≠ stra) :
    Calls Try.prog 25 #[.string s] w fun e w' => LookAns w (Pu.look s.data.toList) e w' ∧ Below w.heap.size w w' := by
  have Hlen : Hid (s.data.toList.length = s.size) := by simp [Hid]
  have HX : Hid (Pu.look s.data.toList = .bad 6) := look_bad6 (by rw [Hlen.out]; exact h)
  by_cases h1 : s.size < 16
  · clear h
    go_enter Try.func25, Try.ntmps25
    go_wp2
    go_ret2
    exact ⟨by rw [HX.out]; rfl, Below.refl _ _⟩
  · have e1 := ext_take s 4 (by omega)
    have e2 := ext_drop s (s.size - 4) (by omega)
    by_cases h2 : s.data.toList.take 4 = stra
    · have h3 : s.data.toList.drop (s.size - 4) ≠ stra := by
        rcases h with h | h | h
        · exact absurd h h1
        · exact absurd h2 h
        · exact h
      have hA : (s.extract 0 4).toList = [83, 84, 82, 65] := by rw [e1, h2]; rfl
      have hB : ((s.extract (s.size - 4) s.size).toList == [83, 84, 82, 65]) = false := by rw [e2, beq_eq_false_iff_ne]; exact h3
      clear e1 e2 h h2 h3
      go_enter Try.func25, Try.ntmps25
      go_wp2
      go_ret2
      exact ⟨by rw [HX.out]; rfl, Below.refl _ _⟩
    · have hA : ¬ (s.extract 0 4).toList = [83, 84, 82, 65] := by rw [e1]; exact h2
      clear e1 e2 h h2
      go_enter Try.func25, Try.ntmps25
      go_wp2
      go_ret2
      exact ⟨by rw [HX.out]; rfl, Below.refl _ _⟩

set_option maxHeartbeats 4000000 in
set_option maxRecDepth 100000 in
theorem refLook_body (s : ByteArray) (w : World) (hs : s.size ≤ 140737488355000) (h : ¬ (s.size < 16 ∨ s.data.toList.take 4 ≠ stra ∨ s.data.toList.drop (s.size - 4) ≠ stra)) :
    Calls Try.prog 25 #[.string s] w fun e w' => LookAns w (Pu.look s.data.toList) e w' ∧ Below w.heap.size w w' := by
  have hlen : s.data.toList.length = s.size := by simp
  have h16 : 16 ≤ s.size := by omega
  have h0 : ¬ (s.data.toList.length < 16 ∨ s.data.toList.take 4 ≠ stra ∨ s.data.toList.drop (s.data.toList.length - 4) ≠ stra) := by rw [hlen]; exact h
  have e1 := ext_take s 4 (by omega)
  have e2 := ext_drop s (s.size - 4) (by omega)
  have hA : (s.extract 0 4).toList = [83, 84, 82, 65] := by
    rw [e1]; exact Decidable.of_not_not (fun hn => h (.inr (.inl hn)))
  have hB : ((s.extract (s.size - 4) s.size).toList == [83, 84, 82, 65]) = true := by
    rw [e2, beq_iff_eq]; exact Decidable.of_not_not (fun hn => h (.inr (.inr hn)))
  obtain ⟨z, hz⟩ : ∃ z, z = Pu.le (Pu.piece s.data.toList (s.size - 12) 4) := ⟨_, rfl⟩
  obtain ⟨y, hy⟩ : ∃ y, y = Pu.le (Pu.piece s.data.toList (s.size - 8) 4) := ⟨_, rfl⟩
  have Lz : Hid (Pu.lo s.data.toList (s.size - 12) 4 = some z) := by unfold Hid Pu.lo; rw [if_pos (by omega), hz]
  have Ly : Hid (Pu.lo s.data.toList (s.size - 8) 4 = some y) := by unfold Hid Pu.lo; rw [if_pos (by omega), hy]
  have hzl : z < 4294967296 := by rw [hz]; have := Pu.le_lt (Pu.piece s.data.toList (s.size - 12) 4); rw [Pu.length_piece _ _ _ (by omega)] at this; exact this
  have hyl : y < 4294967296 := by rw [hy]; have := Pu.le_lt (Pu.piece s.data.toList (s.size - 8) 4); rw [Pu.length_piece _ _ _ (by omega)] at this; exact this
  have hi12 : ((s.size : Int) - 12) = ((s.size - 12 : Nat) : Int) := by omega
  have hi8 : ((s.size : Int) - 8) = ((s.size - 8 : Nat) : Int) := by omega
  have C12 : Hid (((s.size : Int) - 12) = ((s.size - 12 : Nat) : Int)) := hi12
  have C8 : Hid (((s.size : Int) - 8) = ((s.size - 8 : Nat) : Int)) := hi8
  clear hi12 hi8 e1 e2 h
  by_cases hbig : s.size - 16 < z
  · have HX : Hid (Pu.look s.data.toList = .bad 6) := look_bad6' (z := z) (by rw [hlen]; exact hz) (by rw [hlen]; exact hbig)
    clear hz hy h0 hlen
    go_enter Try.func25, Try.ntmps25
    go_wp2_with fail
    rw [C12.out]
    refine (low_yes s (s.size - 12) 4 z _ hs (by omega) (by omega) Lz.out).mono ?_
    rintro e w' ⟨rfl, hw'⟩
    subst w'
    go_wp2_with fail
    rw [C8.out]
    refine (low_yes s (s.size - 8) 4 y _ hs (by omega) (by omega) Ly.out).mono ?_
    rintro e w' ⟨rfl, hw'⟩
    subst w'
    go_wp2
    go_ret2
    exact ⟨by rw [HX.out]; rfl, Below.refl _ _⟩
  · obtain ⟨E, hE⟩ : ∃ E, E = s.size - 12 - z := ⟨_, rfl⟩
    have hR := look_rest (D := s.data.toList) (z := z) (E := E) (by rw [hlen]; exact hz) h0 (by rw [hlen]; exact hbig) (by rw [hlen]; exact hE)
    rw [hlen, ← hy] at hR
    have hfl := extract_list s E z (by omega)
    rw [show E + z = s.size - 12 by omega] at hfl
    have hfs : (s.extract E (s.size - 12)).size = z := by simp; omega
    rw [← hfl] at hR
    have HR : Hid (Pu.look s.data.toList = if Pu.sum (s.extract E (s.size - 12)).data.toList ≠ y then .bad 7 else match Pu.foot (s.extract E (s.size - 12)).data.toList E with
      | none => .bad 8
      | some (cs, gs) => .good E cs gs) := hR
    have HFs : Hid ((s.extract E (s.size - 12)).size = z) := hfs
    have hE1 : (s.size : Int) - 12 - (z : Int) = (E : Int) := by omega
    have hE2 : 4 ≤ E := by omega
    have hE3 : E ≤ s.size - 12 := by omega
    obtain ⟨q, hq⟩ : ∃ q, q = Pu.sum (s.extract E (s.size - 12)).data.toList := ⟨_, rfl⟩
    have hsl : q < 4294967296 := by rw [hq]; exact Pu.sum_lt _
    have SUM : Hid (∀ W : World, Calls Try.prog 29 #[.string (s.extract E (s.size - 12))] W fun e w' => e = .returned (.int .u32 (q : Int)) ∧ w' = W) := fun W => by
      rw [hq]; exact refSum_any _ W (by rw [HFs.out]; omega)
    have HR2 : Hid (Pu.look s.data.toList = if q ≠ y then .bad 7 else match Pu.foot (s.extract E (s.size - 12)).data.toList E with
      | none => .bad 8
      | some (cs, gs) => .good E cs gs) := by rw [Hid, hq]; exact HR.out
    clear hR hfl hfs hz hy h0 hlen hE hq HR
    by_cases hsum : q = y
    · have hsum' := hsum.symm
      subst hsum'
      obtain ⟨ft, hft⟩ : ∃ ft, ft = s.extract E (s.size - 12) := ⟨_, rfl⟩
      have HR3 : Hid (Pu.look s.data.toList = match Pu.foot (s.extract E (s.size - 12)).data.toList E with
        | none => .bad 8
        | some (cs, gs) => .good E cs gs) := by rw [Hid, HR2.out, if_neg (by simp)]
      have COL : Hid (∀ W : World, Calls Try.prog 49 #[.string (s.extract E (s.size - 12))] W fun e w' => ColsAns W.heap.size (Pu.cols (s.extract E (s.size - 12)).data.toList) e w' ∧ Below W.heap.size W w') := fun W => refCols_any _ W (by rw [HFs.out]; omega)
      have GRP : Hid (∀ (W : World) (a F nc : Nat) (av : Option Addr) (cv : Nat), a ≤ z → nc ≤ 20 → FBlk W F (.slice av nc cv) nilS nilS E → Calls Try.prog 50 #[.pointer (some ⟨F, 0, none⟩), .string (s.extract E (s.size - 12)), .int .i64 (a : Int)] W fun e w' => GrpsAns W F (.slice av nc cv) E (Pu.grps (s.extract E (s.size - 12)).data.toList E nc a) e w') := fun W a F nc av cv ha hn hF =>
        refGroups_any _ a F E nc av cv W (by rw [HFs.out]; omega) (by rw [HFs.out]; exact ha) (by omega) hn hF
      clear hft HR2
      cases hc : Pu.cols (s.extract E (s.size - 12)).data.toList with
      | none =>
        have HX : Hid (Pu.look s.data.toList = .bad 8) := by rw [Hid, HR3.out]; simp only [Pu.foot, hc]
        rw [hc] at COL
        clear hc
        go_enter Try.func25, Try.ntmps25
        go_wp2_with fail
        rw [C12.out]
        refine (low_yes s (s.size - 12) 4 z _ hs (by omega) (by omega) Lz.out).mono ?_
        rintro e w' ⟨rfl, hw'⟩
        subst w'
        go_wp2_with fail
        rw [C8.out]
        refine (low_yes s (s.size - 8) 4 y _ hs (by omega) (by omega) Ly.out).mono ?_
        rintro e w' ⟨rfl, hw'⟩
        subst w'
        go_wp2_with fail
        refine (SUM.out _).mono ?_
        rintro e w' ⟨rfl, hw'⟩
        subst w'
        go_wp2_with fail
        refine (COL.out _).mono ?_
        rintro e w' ⟨rfl, hbel⟩
        have HF0 : Hid (FBlk w' w.heap.size nilS nilS nilS E) := by
          have h0 : FBlk (w.alloc (.cells #[.slice none 0 0, .slice none 0 0, .slice none 0 0, .int .i64 (E : Int)] 73)) w.heap.size nilS nilS nilS E := heap_alloc_new w _
          exact h0.kept (hbel.block _ (by rw [size_alloc']; omega))
        have c0 := HF0.out.c0
        have f0 := HF0.out.fz 0
        have hb2 : Below w.heap.size w w' := ((Below.refl _ _).alloc (Nat.le_refl _) _).trans (hbel.mono (by rw [size_alloc']; omega))
        unfold nilS at c0
        clear hbel
        go_wp2
        go_ret2
        exact ⟨by rw [HX.out]; rfl, hb2.setCell (Nat.le_refl _) _⟩
      | some p =>
        obtain ⟨cs, a⟩ := p
        have hcs := Pu.cols_spec hc
        rw [(len_data _).trans HFs.out] at hcs
        obtain ⟨hc1, hc2, hc3⟩ := hcs
        have HR4 : Hid (Pu.look s.data.toList = match Pu.grps (s.extract E (s.size - 12)).data.toList E cs.length a with
          | none => .bad 8
          | some gs => .good E cs gs) := by
          rw [Hid, HR3.out]; simp only [Pu.foot, hc]
          cases Pu.grps (s.extract E (s.size - 12)).data.toList E cs.length a <;> rfl
        rw [hc] at COL
        clear hc HR3
        go_enter Try.func25, Try.ntmps25
        go_wp2_with fail
        rw [C12.out]
        refine (low_yes s (s.size - 12) 4 z _ hs (by omega) (by omega) Lz.out).mono ?_
        rintro e w' ⟨rfl, hw'⟩
        subst w'
        go_wp2_with fail
        rw [C8.out]
        refine (low_yes s (s.size - 8) 4 y _ hs (by omega) (by omega) Ly.out).mono ?_
        rintro e w' ⟨rfl, hw'⟩
        subst w'
        go_wp2_with fail
        refine (SUM.out _).mono ?_
        rintro e w' ⟨rfl, hw'⟩
        subst w'
        go_wp2_with fail
        refine (COL.out _).mono ?_
        rintro e w' ⟨⟨vc, rfl, hvc⟩, hbel⟩
        obtain ⟨av, cv, rfl⟩ := slen_of hvc
        have HF0 : Hid (FBlk w' w.heap.size nilS nilS nilS E) := by
          have h0 : FBlk (w.alloc (.cells #[.slice none 0 0, .slice none 0 0, .slice none 0 0, .int .i64 (E : Int)] 73)) w.heap.size nilS nilS nilS E := heap_alloc_new w _
          exact h0.kept (hbel.block _ (by rw [size_alloc']; omega))
        have c0 := HF0.out.c0
        have f0 := HF0.out.fz 0
        have hb2 : Below w.heap.size w w' := ((Below.refl _ _).alloc (Nat.le_refl _) _).trans (hbel.mono (by rw [size_alloc']; omega))
        rw [size_alloc'] at hvc
        have hvne : (Value.slice av cs.length cv).ownBlock ≠ some w.heap.size := fun e' => by have := (hvc.lt _ e').1; omega
        have Hvne : Hid ((Value.slice av cs.length cv).ownBlock ≠ some w.heap.size) := hvne
        have HF1 : Hid (FBlk (w'.setCell ⟨w.heap.size, 0, none⟩ (.slice av cs.length cv)) w.heap.size (.slice av cs.length cv) nilS nilS E) := HF0.out.set0 _
        have Hvc : Hid ((w'.setCell ⟨w.heap.size, 0, none⟩ (.slice av cs.length cv)).ownsRow w.heap.size 45 3 (.slice av cs.length cv) cs.length (colsV cs)) := ownsRow_set_other' (hvc.mono (by omega)) hvne
        have Hb3 : Hid (Below w.heap.size w (w'.setCell ⟨w.heap.size, 0, none⟩ (.slice av cs.length cv))) := hb2.setCell (Nat.le_refl _) _
        unfold nilS at c0
        clear hbel hvc hb2 hvne HF0
        go_wp2_with fail
        refine (GRP.out _ a w.heap.size cs.length av cv hc3 hc2 HF1.out).mono ?_
        cases hg : Pu.grps (s.extract E (s.size - 12)).data.toList E cs.length a with
        | none =>
          have HX : Hid (Pu.look s.data.toList = .bad 8) := by rw [Hid, HR4.out, hg]
          rintro e w4 ⟨rfl, hfr⟩
          have hb4 : Below w.heap.size w w4 := Hb3.out.trans (hfr.below Hb3.out.size (fun k hk => by omega))
          clear hg hfr
          go_wp2
          go_ret2
          exact ⟨by rw [HX.out]; rfl, hb4⟩
        | some gs =>
          have HX : Hid (Pu.look s.data.toList = .good E cs gs) := by rw [Hid, HR4.out, hg]
          rintro e w4 ⟨rfl, vr, vk, vs, hGS⟩
          have HW : Hid (LookAns w (.good E cs gs) (.returned (.tuple #[.pointer (some ⟨w.heap.size, 0, none⟩), .int .i64 0])) w4 ∧ Below w.heap.size w w4) := by
            obtain ⟨g1, g2, g3, g4, g5, g6⟩ := hGS
            have hsz := Hb3.out.size
            refine ⟨⟨w.heap.size, _, vr, vk, vs, rfl, Nat.le_refl _, ?_, Hvne.out, g1, ?_, ?_, ?_⟩, Hb3.out.trans (g5.below Hb3.out.size (fun k hk => by omega))⟩
            · exact own_agreeS Hvc.out (fun k hk => g5.block k (own_tyS Hvc.out hk).lt (fun e' => Hvne.out (by rw [← e']; exact hk)))
            · rw [List.length_map] at g2; exact g2.mono hsz
            · rw [List.length_map] at g3; exact g3.mono hsz
            · intro i hi
              obtain ⟨v, hv, ho⟩ := g4 i (by simpa using hi)
              exact ⟨v, hv, by rw [List.getElem_map] at ho; exact ho.mono hsz⟩
          clear hg hGS
          go_wp2
          go_ret2
          rw [HX.out]
          exact HW.out
    · have HX : Hid (Pu.look s.data.toList = .bad 7) := by rw [Hid, HR2.out, if_pos hsum]
      have hsd : ((q : Int) == (y : Int)) = false := by simp; omega
      clear hsum
      go_enter Try.func25, Try.ntmps25
      go_wp2_with fail
      rw [C12.out]
      refine (low_yes s (s.size - 12) 4 z _ hs (by omega) (by omega) Lz.out).mono ?_
      rintro e w' ⟨rfl, hw'⟩
      subst w'
      go_wp2_with fail
      rw [C8.out]
      refine (low_yes s (s.size - 8) 4 y _ hs (by omega) (by omega) Ly.out).mono ?_
      rintro e w' ⟨rfl, hw'⟩
      subst w'
      go_wp2_with fail
      refine (SUM.out _).mono ?_
      rintro e w' ⟨rfl, hw'⟩
      subst w'
      go_wp2
      go_ret2
      exact ⟨by rw [HX.out]; rfl, (Below.refl _ _).alloc (Nat.le_refl _) _⟩

theorem refLook_any (s : ByteArray) (w : World) (hs : s.size ≤ 140737488355000) :
    Calls Try.prog 25 #[.string s] w fun e w' => LookAns w (Pu.look s.data.toList) e w' ∧ Below w.heap.size w w' := by
  by_cases h : s.size < 16 ∨ s.data.toList.take 4 ≠ stra ∨ s.data.toList.drop (s.size - 4) ≠ stra
  · exact refLook_head s w hs h
  · exact refLook_body s w hs h

end Go.Proofs.Ytjobhlncllfdmaa
