/- Contract of the program's Varint. -/
import Derived.Test.YtjobhlncllfdmaaProB
namespace Go.Proofs.Ytjobhlncllfdmaa
open Go.RowKit

/-- what the program's Varint answers, and what it leaves in the reader's cell -/
def VAns (D : List UInt8) (a R o : Nat) (ao : Option Addr) (len cap : Nat) (w : World) (e : Ending) (w' : World) : Prop :=
  match Pu.vi D a with
  | none => e = .returned (.tuple #[.int .u32 0, .bool false]) ∧ w' = w
  | some (h, nx) => e = .returned (.tuple #[.int .u32 h, .bool true]) ∧ w' = w.setCell ⟨R, o, none⟩ (.slice (cutA ao cap (nx - a)) (len - (nx - a)) (cap - (nx - a)))

theorem VAns.no {D : List UInt8} {a R o : Nat} {ao : Option Addr} {len cap : Nat} {w : World} (h : Pu.vi D a = none) : VAns D a R o ao len cap w (.returned (.tuple #[.int .u32 0, .bool false])) w := by
  unfold VAns; rw [h]; exact ⟨rfl, rfl⟩

theorem VAns.yes {D : List UInt8} {a R o : Nat} {ao : Option Addr} {len cap h k : Nat} {w : World} {v : Value} (hv : Pu.vi D a = some (h, a + k + 1))
    (hx : v = .slice (cutA ao cap (k + 1)) (len - (k + 1)) (cap - (k + 1))) : VAns D a R o ao len cap w (.returned (.tuple #[.int .u32 h, .bool true])) (w.setCell ⟨R, o, none⟩ v) := by
  unfold VAns; rw [hv]
  refine ⟨rfl, ?_⟩
  rw [show a + k + 1 - a = k + 1 by omega, hx]

theorem and127 (b : Nat) (hb : b < 256) : bits .and .u8 (b : Int) 127 = ((b % 128 : Nat) : Int) := by
  have := u8_and_nat b 127 hb (by omega)
  rw [Nat.and_two_pow_sub_one_eq_mod b 7] at this
  exact this

theorem orv (m b i Q : Nat) (hQ : Q = 2 ^ i) (hm : m < Q) (hb : b < 256) (h : b % 128 * Q < 4294967296) (h2 : Q ≤ 268435456) :
    bits .or .u32 (m : Int) (bits .and .u8 (b : Int) 127 % 4294967296 * (Q : Int) % 4294967296) = ((m + Q * (b % 128) : Nat) : Int) := by
  have e : bits .and .u8 (b : Int) 127 % 4294967296 * (Q : Int) % 4294967296 = ((b % 128 * Q : Nat) : Int) := by
    rw [and127 b hb]
    have h1 : ((b % 128 : Nat) : Int) % 4294967296 = ((b % 128 : Nat) : Int) := by omega
    rw [h1, ← Int.natCast_mul]
    generalize b % 128 * Q = z at *
    omega
  rw [e, u32_or_nat _ _ (by omega) h, Nat.or_comm, hQ, or_shift _ _ _ (by rw [← hQ]; exact hm), Nat.add_comm, Nat.mul_comm]

set_option maxHeartbeats 2000000 in
set_option maxRecDepth 100000 in
theorem varintP_row (D : List UInt8) (a R o lb off cap len : Nat) (w : World) (hlen : len = D.length - a) (ha : a ≤ D.length) (hcap : len ≤ cap) (hcm : cap ≤ maxLen)
    (hc : w.cell? ⟨R, o, none⟩ = some (.slice (some ⟨lb, off, none⟩) len cap)) (hf : w.frozen? ⟨R, o, none⟩ = false) (hrow : ∀ j, j < len → w.cell? ⟨lb, off + j, none⟩ = some (.int .u8 (Pu.byteAt D (a + j) : Int))) :
    Calls Try.prog 62 #[.pointer (some ⟨R, o, none⟩)] w fun e w' => VAns D a R o (some ⟨lb, off, none⟩) len cap w e w' := by
  have Hlen : Hid (len = D.length - a) := hlen
  have Hrow : Hid (∀ j, j < len → w.cell? ⟨lb, off + j, none⟩ = some (.int .u8 (Pu.byteAt D (a + j) : Int))) := hrow
  clear hrow hlen
  unfold maxLen at hcm
  go_enter Try.func62, Try.ntmps62
  go_wp2
  go_loop [4, 12] (fun n i => ∃ k m q : Nat, k ≤ 4 ∧ k ≤ len ∧ m < q ∧ Hid (q = 128 ^ k) ∧ Hid (Pu.vi D a = Pu.viGo D a (5 - k) k m) ∧ n = .int .u32 m ∧ i = .int .i64 k) (fun _ i => 5 - (intOf i).toNat)
  case atStart => exact ⟨0, 0, 1, by omega, by omega, by omega, rfl, vi_start _ _, rfl, rfl⟩
  case round =>
    obtain ⟨k, m, q, hk, hkl, hm, Hq, Hv, rfl, rfl⟩ := hrel
    by_cases hin : k < len
    · have hcell := Hrow.out k hin
      have hbb := Pu.byteAt_lt D (a + k)
      have HB : ∃ b, Hid (b = Pu.byteAt D (a + k)) ∧ b < 256 ∧ w.cell? ⟨lb, off + k, none⟩ = some (.int .u8 (b : Int)) := ⟨_, rfl, hbb, hcell⟩
      obtain ⟨b, HB, hb, hcb⟩ := HB
      clear hcell hbb
      have HinL : Hid (a + k < D.length) := by have := Hlen.out; unfold Hid; omega
      have Hlast : Hid (b < 128 → Pu.vi D a = if m + q * b ≤ 4294967295 ∧ (k = 0 ∨ 0 < b) then some (m + q * b, a + k + 1) else none) := by
        intro h
        rw [Hq.out]
        exact vi_last (by omega) HinL.out HB.out h Hv.out
      have Hnext : Hid (¬ b < 128 → Pu.vi D a = Pu.viGo D a (5 - (k + 1)) (k + 1) (m + q * (b % 128))) := by
        intro h
        rw [Hq.out]
        exact vi_next (by omega) HinL.out HB.out h Hv.out
      clear HB HinL
      have hcase : k = 0 ∨ k = 1 ∨ k = 2 ∨ k = 3 ∨ k = 4 := by omega
      rcases hcase with rfl | rfl | rfl | rfl | rfl
      · obtain rfl : q = 1 := Hq.out
        clear Hq
        obtain rfl : m = 0 := by omega
        rw [Nat.add_zero] at hcb
        have hor : bits .or .u32 0 (bits .and .u8 (b : Int) 127 % 4294967296) = ((b % 128 : Nat) : Int) := by
          have := orv 0 b 0 1 rfl (by omega) hb (by omega) (by omega)
          rw [Int.natCast_one, Int.mul_one, Int.emod_emod_of_dvd _ (by decide)] at this
          simpa using this
        obtain ⟨x, hx⟩ : ∃ x, x = b % 128 := ⟨_, rfl⟩
        rw [← hx] at hor
        have Hx : Hid (x = b % 128) := hx
        clear hx
        by_cases hb7 : b < 128
        · have hx7 : x = b := by have := Hx.out; omega
          have Hx7 : Hid (x = b) := hx7
          clear hx7
          have HV : Hid (Pu.vi D a = some (x, a + 0 + 1)) := by
            have := Hx7.out
            rw [Hid, Hlast.out hb7, if_pos ⟨by omega, Or.inl rfl⟩, this]; simp
          by_cases hcp : cap = 1
          · subst hcp
            go_wp2
            all_goals
              go_ret2
              exact VAns.yes (k := 0) HV.out (by simp [cutA]; try omega)
          · go_wp2
            all_goals
              go_ret2
              exact VAns.yes (k := 0) HV.out (by simp [cutA, hcp, Addr.add])
        · have HV : Hid (Pu.vi D a = Pu.viGo D a (5 - (0 + 1)) (0 + 1) x) := by
            have := Hx.out
            rw [Hid, Hnext.out hb7, this]; simp
          have hxl : x < 128 := by have := Hx.out; omega
          go_wp2
          go_round
          case rel => exact ⟨1, x, 128, by omega, by omega, hxl, by unfold Hid; decide, HV.out, rfl, by go_num⟩
          case measure => simp [intOf]
      · obtain rfl : q = 128 := Hq.out
        clear Hq
        have hor : bits .or .u32 (m : Int) (bits .and .u8 (b : Int) 127 % 4294967296 * 128 % 4294967296) = ((m + 128 * (b % 128) : Nat) : Int) := orv m b 7 128 (by decide) (by omega) hb (by omega) (by omega)
        obtain ⟨x, hx⟩ : ∃ x, x = m + 128 * (b % 128) := ⟨_, rfl⟩
        rw [← hx] at hor
        have Hx : Hid (x = m + 128 * (b % 128)) := hx
        clear hx
        by_cases hb7 : b < 128
        · have hx7 : x = m + 128 * b := by have := Hx.out; omega
          have Hx7 : Hid (x = m + 128 * b) := hx7
          clear hx7
          by_cases hb0 : b = 0
          · subst hb0
            have HV : Hid (Pu.vi D a = none) := by
              rw [Hid, Hlast.out hb7, if_neg (by omega)]
            go_wp2
            go_ret2
            exact VAns.no HV.out
          · have HV : Hid (Pu.vi D a = some (x, a + 1 + 1)) := by
              have := Hx7.out
              rw [Hid, Hlast.out hb7, if_pos ⟨by omega, Or.inr (by omega)⟩, this]
            by_cases hcp : cap = 2
            · subst hcp
              go_wp2
              go_ret2
              exact VAns.yes HV.out (by simp [cutA]; try omega)
            · go_wp2
              go_ret2
              exact VAns.yes HV.out (by simp [cutA, hcp, Addr.add])
        · have HV : Hid (Pu.vi D a = Pu.viGo D a (5 - (1 + 1)) (1 + 1) x) := by
            have := Hx.out
            rw [Hid, Hnext.out hb7, this]
          have hxl : x < 16384 := by have := Hx.out; omega
          go_wp2
          go_round
          case rel => exact ⟨2, x, 16384, by omega, by omega, hxl, by unfold Hid; decide, HV.out, rfl, by go_num⟩
          case measure => simp [intOf]
      · obtain rfl : q = 16384 := Hq.out
        clear Hq
        have hor : bits .or .u32 (m : Int) (bits .and .u8 (b : Int) 127 % 4294967296 * 16384 % 4294967296) = ((m + 16384 * (b % 128) : Nat) : Int) := orv m b 14 16384 (by decide) (by omega) hb (by omega) (by omega)
        obtain ⟨x, hx⟩ : ∃ x, x = m + 16384 * (b % 128) := ⟨_, rfl⟩
        rw [← hx] at hor
        have Hx : Hid (x = m + 16384 * (b % 128)) := hx
        clear hx
        by_cases hb7 : b < 128
        · have hx7 : x = m + 16384 * b := by have := Hx.out; omega
          have Hx7 : Hid (x = m + 16384 * b) := hx7
          clear hx7
          by_cases hb0 : b = 0
          · subst hb0
            have HV : Hid (Pu.vi D a = none) := by
              rw [Hid, Hlast.out hb7, if_neg (by omega)]
            go_wp2
            go_ret2
            exact VAns.no HV.out
          · have HV : Hid (Pu.vi D a = some (x, a + 2 + 1)) := by
              have := Hx7.out
              rw [Hid, Hlast.out hb7, if_pos ⟨by omega, Or.inr (by omega)⟩, this]
            by_cases hcp : cap = 3
            · subst hcp
              go_wp2
              go_ret2
              exact VAns.yes HV.out (by simp [cutA]; try omega)
            · go_wp2
              go_ret2
              exact VAns.yes HV.out (by simp [cutA, hcp, Addr.add])
        · have HV : Hid (Pu.vi D a = Pu.viGo D a (5 - (2 + 1)) (2 + 1) x) := by
            have := Hx.out
            rw [Hid, Hnext.out hb7, this]
          have hxl : x < 2097152 := by have := Hx.out; omega
          go_wp2
          go_round
          case rel => exact ⟨3, x, 2097152, by omega, by omega, hxl, by unfold Hid; decide, HV.out, rfl, by go_num⟩
          case measure => simp [intOf]
      · obtain rfl : q = 2097152 := Hq.out
        clear Hq
        have hor : bits .or .u32 (m : Int) (bits .and .u8 (b : Int) 127 % 4294967296 * 2097152 % 4294967296) = ((m + 2097152 * (b % 128) : Nat) : Int) := orv m b 21 2097152 (by decide) (by omega) hb (by omega) (by omega)
        obtain ⟨x, hx⟩ : ∃ x, x = m + 2097152 * (b % 128) := ⟨_, rfl⟩
        rw [← hx] at hor
        have Hx : Hid (x = m + 2097152 * (b % 128)) := hx
        clear hx
        by_cases hb7 : b < 128
        · have hx7 : x = m + 2097152 * b := by have := Hx.out; omega
          have Hx7 : Hid (x = m + 2097152 * b) := hx7
          clear hx7
          by_cases hb0 : b = 0
          · subst hb0
            have HV : Hid (Pu.vi D a = none) := by
              rw [Hid, Hlast.out hb7, if_neg (by omega)]
            go_wp2
            go_ret2
            exact VAns.no HV.out
          · have HV : Hid (Pu.vi D a = some (x, a + 3 + 1)) := by
              have := Hx7.out
              rw [Hid, Hlast.out hb7, if_pos ⟨by omega, Or.inr (by omega)⟩, this]
            by_cases hcp : cap = 4
            · subst hcp
              go_wp2
              go_ret2
              exact VAns.yes HV.out (by simp [cutA]; try omega)
            · go_wp2
              go_ret2
              exact VAns.yes HV.out (by simp [cutA, hcp, Addr.add])
        · have HV : Hid (Pu.vi D a = Pu.viGo D a (5 - (3 + 1)) (3 + 1) x) := by
            have := Hx.out
            rw [Hid, Hnext.out hb7, this]
          have hxl : x < 268435456 := by have := Hx.out; omega
          go_wp2
          go_round
          case rel => exact ⟨4, x, 268435456, by omega, by omega, hxl, by unfold Hid; decide, HV.out, rfl, by go_num⟩
          case measure => simp [intOf]
      · obtain rfl : q = 268435456 := Hq.out
        clear Hq
        by_cases hb15 : b ≤ 15
        · have hor : bits .or .u32 (m : Int) (bits .and .u8 (b : Int) 127 % 4294967296 * 268435456 % 4294967296) = ((m + 268435456 * (b % 128) : Nat) : Int) := orv m b 28 268435456 (by decide) (by omega) hb (by omega) (by omega)
          obtain ⟨x, hx⟩ : ∃ x, x = m + 268435456 * (b % 128) := ⟨_, rfl⟩
          rw [← hx] at hor
          have hx7 : x = m + 268435456 * b := by omega
          have Hx7 : Hid (x = m + 268435456 * b) := hx7
          clear hx7 hx
          by_cases hb0 : b = 0
          · subst hb0
            have HV : Hid (Pu.vi D a = none) := by
              rw [Hid, Hlast.out (by omega), if_neg (by omega)]
            go_wp2
            go_ret2
            exact VAns.no HV.out
          · have HV : Hid (Pu.vi D a = some (x, a + 4 + 1)) := by
              have := Hx7.out
              rw [Hid, Hlast.out (by omega), if_pos ⟨by omega, Or.inr (by omega)⟩, this]
            by_cases hcp : cap = 5
            · subst hcp
              go_wp2
              go_ret2
              exact VAns.yes HV.out (by simp [cutA]; try omega)
            · go_wp2
              go_ret2
              exact VAns.yes HV.out (by simp [cutA, hcp, Addr.add])
        · have HV : Hid (Pu.vi D a = none) := by
            by_cases hb7 : b < 128
            · rw [Hid, Hlast.out hb7, if_neg (by omega)]
            · rw [Hid, Hnext.out hb7]; rfl
          go_wp2
          go_ret2
          exact VAns.no HV.out
    · obtain rfl : k = len := by omega
      have HV : Hid (Pu.vi D a = none) := vi_out (k := k) (by have := Hlen.out; omega) Hv.out
      go_wp2
      go_ret2
      exact VAns.no HV.out

end Go.Proofs.Ytjobhlncllfdmaa
