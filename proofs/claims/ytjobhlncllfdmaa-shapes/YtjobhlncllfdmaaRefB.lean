/- Contracts of the reference's bit, low, varint. -/
import Derived.Test.YtjobhlncllfdmaaRefA
import Derived.Test.YtjobhlncllfdmaaPure
namespace Go.Proofs.Ytjobhlncllfdmaa
open Go.RowKit

theorem byte_of (s : ByteArray) (k : Nat) (h : k < s.size) : s[k].toNat = Pu.byteAt s.data.toList k := by
  have : k < s.data.toList.length := by simpa using h
  simp only [Pu.byteAt, List.getD_eq_getElem?_getD, List.getElem?_eq_getElem this, Option.getD_some]
  rfl

set_option maxHeartbeats 400000 in
theorem bit_any (s : ByteArray) (i : Nat) (w : World) (hs : s.size ≤ maxLen) (hi : i / 8 < s.size) (hi2 : i ≤ 1000000000000) :
    Calls Try.prog 46 #[.string s, .int .i64 i] w fun e w' => e = .returned (.int .i64 (Pu.bitAt s.data.toList i)) ∧ ∃ n, w' = w.drewN n := by
  unfold maxLen at hs
  have hb := byte_of s (i / 8) hi
  have hbb := Pu.byteAt_lt s.data.toList (i / 8)
  have hlt : ((i : Int) / 8) < (s.size : Int) := by omega
  have h0 : (0 : Int) ≤ (i : Int) / 8 := by omega
  have hP : (1 : Int) ≤ ((pow2 ((i : Int) % 8).toNat : Nat) : Int) := by have := pow2_pos ((i : Int) % 8).toNat; omega
  go_enter Try.func46, Try.ntmps46
  go_wp2
  go_big_quiet ((go_at_call 45; exact Calls.quiet_of_same (power_int _ _ (by omega) (by omega))))
  go_wp2
  go_ret
  refine ⟨ret_int ?_, _, rfl⟩
  have hz : (((Pu.byteAt s.data.toList (i / 8) / pow2 (i % 8) : Nat) : Int) % 2) = (Pu.bitAt s.data.toList i : Int) := rfl
  have h1 : ((Pu.byteAt s.data.toList (i / 8) : Nat) : Int) / ((pow2 (i % 8) : Nat) : Int) = ((Pu.byteAt s.data.toList (i / 8) / pow2 (i % 8) : Nat) : Int) := by omega
  have h2 : Pu.byteAt s.data.toList (i / 8) / pow2 (i % 8) ≤ Pu.byteAt s.data.toList (i / 8) := Nat.div_le_self _ _
  rw [h1]
  generalize Pu.byteAt s.data.toList (i / 8) / pow2 (i % 8) = z at *
  rw [IntWalk.wrap64_in _ (by omega), Int.tmod_eq_emod_of_nonneg (by omega)]
  exact hz

theorem byte_ex (s : ByteArray) (k : Nat) (h : k < s.size) : ∃ b : Nat, s[k].toNat = b ∧ b < 256 ∧ Hid (b = Pu.byteAt s.data.toList k) :=
  ⟨_, rfl, s[k].toNat_lt, byte_of s k h⟩

theorem vi_start (D : List UInt8) (a : Nat) : Hid (Pu.vi D a = Pu.viGo D a (5 - 0) 0 0) := rfl

theorem vi_last {D : List UInt8} {a k m b : Nat} (hk : k < 5) (hin : a + k < D.length) (hb : b = Pu.byteAt D (a + k)) (hlt : b < 128) (h : Pu.vi D a = Pu.viGo D a (5 - k) k m) :
    Pu.vi D a = if m + 128 ^ k * b ≤ 4294967295 ∧ (k = 0 ∨ 0 < b) then some (m + 128 ^ k * b, a + k + 1) else none := by
  rw [h, show 5 - k = (4 - k) + 1 by omega, Pu.viGo, if_pos hin, ← hb, if_pos hlt, Nat.mod_eq_of_lt hlt]

theorem vi_next {D : List UInt8} {a k m b : Nat} (hk : k < 5) (hin : a + k < D.length) (hb : b = Pu.byteAt D (a + k)) (hlt : ¬ b < 128) (h : Pu.vi D a = Pu.viGo D a (5 - k) k m) :
    Pu.vi D a = Pu.viGo D a (5 - (k + 1)) (k + 1) (m + 128 ^ k * (b % 128)) := by
  rw [h, show 5 - k = (4 - k) + 1 by omega, Pu.viGo, if_pos hin, ← hb, if_neg hlt, show 5 - (k + 1) = 4 - k by omega]

theorem vi_out {D : List UInt8} {a k m : Nat} (hin : ¬ a + k < D.length) (h : Pu.vi D a = Pu.viGo D a (5 - k) k m) : Pu.vi D a = none := by
  rw [h]
  cases hf : 5 - k with
  | zero => rfl
  | succ f => rw [Pu.viGo, if_neg hin]

/-- what the reference's varint answers -/
def ViAns (D : List UInt8) (a : Nat) (e : Ending) : Prop :=
  ∃ (h nx : Int), e = .returned (.tuple #[.int .i64 h, .int .i64 nx, .bool (Pu.vi D a).isSome]) ∧ ∀ p, Pu.vi D a = some p → h = p.1 ∧ nx = p.2

theorem ViAns.of {D : List UInt8} {a m n : Nat} {ok : Bool} {x y : Int} (h : Pu.vi D a = if ok = true then some (m, n) else none) (hx : ok = true → x = m) (hy : ok = true → y = n) :
    ViAns D a (.returned (.tuple #[.int .i64 x, .int .i64 y, .bool ok])) := by
  refine ⟨x, y, ?_, ?_⟩
  · rw [h]; cases ok <;> rfl
  · intro p hp
    rw [h] at hp
    cases ok
    · cases hp
    · simp only [if_true, Option.some.injEq] at hp
      subst hp
      exact ⟨hx rfl, hy rfl⟩

theorem ViAns.no {D : List UInt8} {a : Nat} {x y : Int} (h : Pu.vi D a = none) : ViAns D a (.returned (.tuple #[.int .i64 x, .int .i64 y, .bool false])) :=
  ViAns.of (m := 0) (n := 0) (by simpa using h) (fun h => by cases h) (fun h => by cases h)

theorem cast_mod (m q b : Nat) : (m : Int) + (q : Int) * ((b : Int) % 128) = ((m + q * (b % 128) : Nat) : Int) := by simp

set_option maxHeartbeats 1000000 in
set_option maxRecDepth 100000 in
theorem varint_any (s : ByteArray) (a : Nat) (w : World) (hs : s.size ≤ 140737488355000) (ha : a ≤ s.size) :
    Calls Try.prog 43 #[.string s, .int .i64 a] w fun e w' => ViAns s.data.toList a e ∧ w' = w := by
  have hlen : s.data.toList.length = s.size := by simp
  have Hlen : Hid (s.data.toList.length = s.size) := hlen
  clear hlen
  go_enter Try.func43, Try.ntmps43
  go_wp2
  go_loop [7, 8, 9, 10, 11] (fun n u i _ _ => ∃ k m q : Nat, k ≤ 5 ∧ m < q ∧ Hid (q = 128 ^ k) ∧ Hid (Pu.vi s.data.toList a = Pu.viGo s.data.toList a (5 - k) k m) ∧ n = .int .i64 m ∧ u = .int .i64 q ∧ i = .int .i64 k) (fun _ _ i _ _ => 5 - (intOf i).toNat)
  case atStart => exact ⟨0, 0, 1, by omega, by omega, rfl, vi_start _ _, rfl, rfl, rfl⟩
  case round =>
    obtain ⟨k, m, q, hk, hm, Hq, Hv, rfl, rfl, rfl⟩ := hrel
    by_cases hk5 : k < 5
    · by_cases hin : a + k < s.size
      · obtain ⟨b, hb, hbb, HB⟩ := byte_ex s (a + k) hin
        have hq : q ≤ 268435456 := by rw [Hq.out]; exact Nat.le_trans (Nat.pow_le_pow_right (by omega) (show k ≤ 4 by omega)) (by decide)
        have hmN : q * (b % 128) ≤ 268435456 * 127 := Nat.mul_le_mul hq (by omega)
        have hmL : Hid (q * (b % 128) ≤ q * 127) := Nat.mul_le_mul_left _ (by omega)
        have hm1 : (q : Int) * ((b : Int) % 128) ≤ 34091302912 := by have : ((q * (b % 128) : Nat) : Int) ≤ 34091302912 := by omega
                                                                     simpa using this
        have hm0 : 0 ≤ (q : Int) * ((b : Int) % 128) := by have : 0 ≤ ((q * (b % 128) : Nat) : Int) := by omega
                                                           simpa using this
        have HinL : Hid (a + k < s.data.toList.length) := by rw [Hid, Hlen.out]; exact hin
        have Hlast : Hid (b < 128 → Pu.vi s.data.toList a = if m + q * (b % 128) ≤ 4294967295 ∧ (k = 0 ∨ 0 < b) then some (m + q * (b % 128), a + k + 1) else none) := by
          intro h
          rw [Nat.mod_eq_of_lt h, Hq.out]
          exact vi_last hk5 HinL.out HB.out h Hv.out
        have Hnext : Hid (¬ b < 128 → Pu.vi s.data.toList a = Pu.viGo s.data.toList a (5 - (k + 1)) (k + 1) (m + q * (b % 128))) := by
          intro h
          rw [Hq.out]
          exact vi_next hk5 HinL.out HB.out h Hv.out
        clear hmN
        go_wp2
        · go_ret3
          refine ⟨?_, rfl⟩
          have hc := cast_mod m q b
          have h1 : (b : Int) < 128 := by assumption
          have h2 : (m : Int) + (q : Int) * ((b : Int) % 128) ≤ 4294967295 := by assumption
          have h3 : k = 0 := by assumption
          refine ViAns.of (n := a + k + 1) ?_ (fun _ => hc) (fun _ => ?_)
          · rw [Hlast.out (by omega), if_pos ⟨by omega, Or.inl h3⟩]; rfl
          · omega
        · go_ret3
          refine ⟨?_, rfl⟩
          have hc := cast_mod m q b
          have h1 : (b : Int) < 128 := by assumption
          have h2 : (m : Int) + (q : Int) * ((b : Int) % 128) ≤ 4294967295 := by assumption
          have h3 : ¬ k = 0 := by assumption
          refine ViAns.of (n := a + k + 1) ?_ (fun _ => hc) (fun _ => ?_)
          · rw [Hlast.out (by omega)]
            by_cases h4 : 0 < b
            · rw [if_pos ⟨by omega, Or.inr h4⟩, if_pos (by simp; omega)]
            · rw [if_neg (by omega), if_neg (by simp; omega)]
          · omega
        · go_ret3
          refine ⟨ViAns.no ?_, rfl⟩
          have hc := cast_mod m q b
          have h1 : (b : Int) < 128 := by assumption
          have h2 : 4294967295 < (m : Int) + (q : Int) * ((b : Int) % 128) := by assumption
          rw [Hlast.out (by omega), if_neg (by omega)]
        · have hc := cast_mod m q b
          have h1 : 128 ≤ (b : Int) := by assumption
          go_round
          case rel => exact ⟨k + 1, m + q * (b % 128), 128 * q, by omega, by have := hmL.out; omega, by rw [Hid, Nat.pow_succ, Nat.mul_comm, Hq.out], Hnext.out (by omega), by rw [hc], by go_num, by go_num⟩
          case measure => simp [intOf]; omega
      · go_wp2
        go_ret3
        exact ⟨ViAns.no (vi_out (by rw [Hlen.out]; exact hin) Hv.out), rfl⟩
    · go_wp2
      go_ret3
      exact ⟨ViAns.no (by rw [Hv.out, show 5 - k = 0 by omega]; rfl), rfl⟩
end Go.Proofs.Ytjobhlncllfdmaa
