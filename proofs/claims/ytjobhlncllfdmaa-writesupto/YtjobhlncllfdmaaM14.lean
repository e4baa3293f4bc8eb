/- Contracts of the program's reader of bytes. -/
import Derived.Test.YtjobhlncllfdmaaM02
namespace Go.Proofs.Ytjobhlncllfdmaa
open Go.RowKit

/-- the slice v reads the bytes L, all in block lb -/
def Rest (w : World) (lb : Nat) (ao : Option Addr) (cap : Nat) (L : List UInt8) : Prop :=
  L.length ≤ cap ∧ cap ≤ maxLen ∧
    (L = [] ∨ ∃ o, ao = some ⟨lb, o, none⟩ ∧ ∀ j, j < L.length → w.cell? ⟨lb, o + j, none⟩ = some (.int .u8 (Pu.byteAt L j : Int)))

def cutA (ao : Option Addr) (cap n : Nat) : Option Addr := if cap = n then ao else ao.map (·.add n)

theorem byteAt_take (L : List UInt8) (n j : Nat) (h : j < n) : Pu.byteAt (L.take n) j = Pu.byteAt L j := by
  simp [Pu.byteAt, h]
theorem byteAt_drop (L : List UInt8) (n j : Nat) : Pu.byteAt (L.drop n) j = Pu.byteAt L (n + j) := by
  simp [Pu.byteAt]

theorem Rest.take {w : World} {lb : Nat} {ao : Option Addr} {cap : Nat} {L : List UInt8} (h : Rest w lb ao cap L) (n : Nat) (hn : n ≤ L.length) : Rest w lb ao n (L.take n) := by
  obtain ⟨h1, h2, h3⟩ := h
  refine ⟨by simp; omega, by omega, ?_⟩
  rcases h3 with rfl | ⟨o, rfl, hc⟩
  · exact Or.inl (by simp)
  · refine Or.inr ⟨o, rfl, fun j hj => ?_⟩
    rw [List.length_take] at hj
    rw [byteAt_take _ _ _ (by omega)]
    exact hc j (by omega)

theorem Rest.drop {w : World} {lb : Nat} {ao : Option Addr} {cap : Nat} {L : List UInt8} (h : Rest w lb ao cap L) (n : Nat) (hn : n ≤ L.length) : Rest w lb (cutA ao cap n) (cap - n) (L.drop n) := by
  obtain ⟨h1, h2, h3⟩ := h
  refine ⟨by simp; omega, by omega, ?_⟩
  by_cases hl : n = L.length
  · exact Or.inl (List.drop_of_length_le (by omega))
  rcases h3 with rfl | ⟨o, rfl, hc⟩
  · exact Or.inl (by simp)
  · refine Or.inr ⟨o + n, ?_, fun j hj => ?_⟩
    · unfold cutA
      rw [if_neg (by omega)]
      simp only [Option.map, Addr.add]
      split
      · simp_all
      · rfl
    · rw [List.length_drop] at hj
      rw [byteAt_drop, Nat.add_assoc]
      exact hc (n + j) (by omega)

theorem Rest.kept {w w' : World} {lb : Nat} {ao : Option Addr} {cap : Nat} {L : List UInt8} (h : Rest w lb ao cap L) (hw : w'.heap[lb]? = w.heap[lb]?) : Rest w' lb ao cap L := by
  obtain ⟨h1, h2, h3⟩ := h
  refine ⟨h1, h2, ?_⟩
  rcases h3 with rfl | ⟨o, rfl, hc⟩
  · exact Or.inl rfl
  · exact Or.inr ⟨o, rfl, fun j hj => by rw [World.cell?_of_block (w := w) hw]; exact hc j hj⟩

set_option maxHeartbeats 1000000 in
set_option maxRecDepth 100000 in
theorem take_no (R o n : Nat) (ao : Option Addr) (len cap : Nat) (w : World) (hc : w.cell? ⟨R, o, none⟩ = some (.slice ao len cap)) (hn : len < n) (_hlen : len ≤ maxLen) :
    Calls Try.prog 79 #[.pointer (some ⟨R, o, none⟩), .int .i64 n] w fun e w' => e = .returned (.tuple #[.slice none 0 0, .bool false]) ∧ w' = w := by
  unfold maxLen at _hlen
  go_enter Try.func79, Try.ntmps79
  go_wp2
  go_ret2
  exact ⟨rfl, rfl⟩

set_option maxHeartbeats 1000000 in
set_option maxRecDepth 100000 in
theorem take_yes (R o n : Nat) (ao : Option Addr) (len cap : Nat) (w : World) (hc : w.cell? ⟨R, o, none⟩ = some (.slice ao len cap)) (hf : w.frozen? ⟨R, o, none⟩ = false) (hn : n ≤ len) (hlen : len ≤ cap) (hcap : cap ≤ maxLen) :
    Calls Try.prog 79 #[.pointer (some ⟨R, o, none⟩), .int .i64 n] w fun e w' => e = .returned (.tuple #[.slice ao n n, .bool true]) ∧ w' = w.setCell ⟨R, o, none⟩ (.slice (cutA ao cap n) (len - n) (cap - n)) := by
  unfold maxLen at hcap
  by_cases hcn : cap = n
  · subst hcn
    have Hcut : Hid (cutA ao cap cap = ao) := by simp [Hid, cutA]
    go_enter Try.func79, Try.ntmps79
    go_wp2
    go_ret2
    exact ⟨rfl, by rw [Hcut.out, show len - cap = 0 by omega, Nat.sub_self]⟩
  · have Hcut : Hid (cutA ao cap n = ao.map (·.add n)) := by simp [Hid, cutA, hcn]
    go_enter Try.func79, Try.ntmps79
    go_wp2
    go_ret2
    exact ⟨rfl, by rw [Hcut.out]⟩

set_option maxHeartbeats 1000000 in
theorem left_any (R o : Nat) (ao : Option Addr) (len cap : Nat) (w : World) (hc : w.cell? ⟨R, o, none⟩ = some (.slice ao len cap)) :
    Calls Try.prog 42 #[.pointer (some ⟨R, o, none⟩)] w fun e w' => e = .returned (.int .i64 len) ∧ w' = w := by
  go_enter Try.func42, Try.ntmps42
  go_wp2
  go_ret
  exact ⟨rfl, rfl⟩

set_option maxHeartbeats 1000000 in
theorem missing_any (R : Nat) (C : Nat) (ao : Option Addr) (len cap : Nat) (w : World) (hc2 : w.cell? ⟨R, 2, none⟩ = some (.int .i64 C)) (hc3 : w.cell? ⟨R, 3, none⟩ = some (.slice ao len cap)) (hC : C ≤ 100000) (hl : len ≤ C) :
    Calls Try.prog 40 #[.pointer (some ⟨R, 0, none⟩)] w fun e w' => e = .returned (.int .i64 ((C - len : Nat) : Int)) ∧ ∃ n, w' = w.drewN n := by
  go_enter Try.func40, Try.ntmps40
  go_wp2
  go_quiet (fail)
  go_wp2
  go_ret
  exact ⟨ret_int (by omega), _, rfl⟩

set_option maxHeartbeats 1000000 in
theorem new_any (ao : Option Addr) (len cap : Nat) (w : World) :
    Calls Try.prog 39 #[.slice ao len cap] w fun e w' => e = .returned (.agg #[.slice ao len cap]) ∧ w' = w.alloc (.cells #[.slice ao len cap] 87) := by
  go_enter Try.func39, Try.ntmps39
  go_wp2
  exact bodyPost_ret (v := .agg #[.slice ao len cap]) (by simp [results, Try.results39, go_sem]) rfl ⟨rfl, rfl⟩

end Go.Proofs.Ytjobhlncllfdmaa

/- Contracts of lowestFirst and Number. -/
namespace Go.Proofs.Ytjobhlncllfdmaa
open Go.RowKit

theorem or_shift (a b i : Nat) (hb : b < 2 ^ i) : (a * 2 ^ i) ||| b = a * 2 ^ i + b := by
  rw [← Nat.shiftLeft_eq, Nat.shiftLeft_add_eq_or_of_lt hb]

theorem or8 (a b : Nat) (ha : a < 16777216) (hb : b < 256) : bits .or .u32 ((a : Int) * 256 % 4294967296) (b : Int) = ((256 * a + b : Nat) : Int) := by
  have e : (a : Int) * 256 % 4294967296 = ((a * 256 : Nat) : Int) := by omega
  rw [e, u32_or_nat _ _ (by omega) (by omega), show (a * 256 : Nat) = a * 2 ^ 8 from rfl, or_shift a b 8 (by omega)]
  omega
theorem or8' (a b : Nat) (ha : a < 16777216) (hb : b < 256) : bits .or .u32 ((a : Int) * 256) (b : Int) = ((256 * a + b : Nat) : Int) := by
  rw [← or8 a b ha hb]; congr 1; omega
theorem or0 (b : Nat) (hb : b < 256) : bits .or .u32 0 (b : Int) = (b : Int) := by
  have := u32_or_nat 0 b (by omega) (by omega)
  simpa using this

section
variable (lb o cap b0 b1 b2 b3 : Nat) (w : World)
set_option maxHeartbeats 1000000
set_option maxRecDepth 100000

theorem low0 (ao : Option Addr) :
    Calls Try.prog 94 #[.slice ao 0 cap] w fun e w' => e = .returned (.int .u32 0) ∧ w' = w := by
  go_enter Try.func94, Try.ntmps94
  go_wp2
  go_ret
  exact ⟨rfl, rfl⟩

theorem low1 (h0 : w.cell? ⟨lb, o, none⟩ = some (.int .u8 b0)) (k0 : b0 < 256) :
    Calls Try.prog 94 #[.slice (some ⟨lb, o, none⟩) 1 cap] w fun e w' => e = .returned (.int .u32 ((b0 : Nat) : Int)) ∧ w' = w := by
  go_enter Try.func94, Try.ntmps94
  go_wp2
  go_ret
  exact ⟨ret_int (or0 b0 k0), rfl⟩

theorem low2 (h0 : w.cell? ⟨lb, o, none⟩ = some (.int .u8 b0)) (h1 : w.cell? ⟨lb, o + 1, none⟩ = some (.int .u8 b1)) (k0 : b0 < 256) (k1 : b1 < 256) :
    Calls Try.prog 94 #[.slice (some ⟨lb, o, none⟩) 2 cap] w fun e w' => e = .returned (.int .u32 ((b0 + 256 * b1 : Nat) : Int)) ∧ w' = w := by
  go_enter Try.func94, Try.ntmps94
  go_wp2
  go_ret
  refine ⟨ret_int ?_, rfl⟩
  rw [or0 b1 k1, or8 _ _ (by omega) k0]
  omega

theorem low3 (h0 : w.cell? ⟨lb, o, none⟩ = some (.int .u8 b0)) (h1 : w.cell? ⟨lb, o + 1, none⟩ = some (.int .u8 b1)) (h2 : w.cell? ⟨lb, o + 2, none⟩ = some (.int .u8 b2)) (k0 : b0 < 256) (k1 : b1 < 256) (k2 : b2 < 256) :
    Calls Try.prog 94 #[.slice (some ⟨lb, o, none⟩) 3 cap] w fun e w' => e = .returned (.int .u32 ((b0 + 256 * (b1 + 256 * b2) : Nat) : Int)) ∧ w' = w := by
  go_enter Try.func94, Try.ntmps94
  go_wp2
  go_ret
  refine ⟨ret_int ?_, rfl⟩
  rw [or0 b2 k2, or8 _ _ (by omega) k1, or8 _ _ (by omega) k0]
  omega

theorem low4 (h0 : w.cell? ⟨lb, o, none⟩ = some (.int .u8 b0)) (h1 : w.cell? ⟨lb, o + 1, none⟩ = some (.int .u8 b1)) (h2 : w.cell? ⟨lb, o + 2, none⟩ = some (.int .u8 b2)) (h3 : w.cell? ⟨lb, o + 3, none⟩ = some (.int .u8 b3)) (k0 : b0 < 256) (k1 : b1 < 256) (k2 : b2 < 256) (k3 : b3 < 256) :
    Calls Try.prog 94 #[.slice (some ⟨lb, o, none⟩) 4 cap] w fun e w' => e = .returned (.int .u32 ((b0 + 256 * (b1 + 256 * (b2 + 256 * b3)) : Nat) : Int)) ∧ w' = w := by
  go_enter Try.func94, Try.ntmps94
  go_wp2
  go_ret
  refine ⟨ret_int ?_, rfl⟩
  rw [or8' _ _ (by omega) k2, or8 _ _ (by omega) k1, or8 _ _ (by omega) k0]
  omega
end

theorem lowest_any (lb : Nat) (ao : Option Addr) (cap : Nat) (L : List UInt8) (w : World) (h : Rest w lb ao cap L) (hl : L.length ≤ 4) :
    Calls Try.prog 94 #[.slice ao L.length cap] w fun e w' => e = .returned (.int .u32 ((Pu.le L : Nat) : Int)) ∧ w' = w := by
  obtain ⟨h1, h2, h3⟩ := h
  rcases h3 with rfl | ⟨o, rfl, hc⟩
  · exact low0 cap w ao
  · match L, hl, hc with
    | [], _, _ => exact low0 cap w _
    | [x0], _, hc => exact low1 lb o cap x0.toNat w (hc 0 (by simp)) x0.toNat_lt
    | [x0, x1], _, hc => exact low2 lb o cap x0.toNat x1.toNat w (hc 0 (by simp)) (hc 1 (by simp)) x0.toNat_lt x1.toNat_lt
    | [x0, x1, x2], _, hc => exact low3 lb o cap x0.toNat x1.toNat x2.toNat w (hc 0 (by simp)) (hc 1 (by simp)) (hc 2 (by simp)) x0.toNat_lt x1.toNat_lt x2.toNat_lt
    | [x0, x1, x2, x3], _, hc => exact low4 lb o cap x0.toNat x1.toNat x2.toNat x3.toNat w (hc 0 (by simp)) (hc 1 (by simp)) (hc 2 (by simp)) (hc 3 (by simp)) x0.toNat_lt x1.toNat_lt x2.toNat_lt x3.toNat_lt

set_option maxHeartbeats 1000000 in
set_option maxRecDepth 100000 in
theorem number_no (R o n lb : Nat) (ao : Option Addr) (cap : Nat) (L : List UInt8) (w : World) (hr : Rest w lb ao cap L) (hc : w.cell? ⟨R, o, none⟩ = some (.slice ao L.length cap)) (hn : n ≤ 4) (h : L.length < n) :
    Calls Try.prog 78 #[.pointer (some ⟨R, o, none⟩), .int .i64 n] w fun e w' => e = .returned (.tuple #[.int .u32 0, .bool false]) ∧ w' = w := by
  have hm : L.length ≤ maxLen := Nat.le_trans hr.1 hr.2.1
  go_enter Try.func78, Try.ntmps78
  go_wp2_with fail
  refine (take_no R o n ao L.length cap w hc h hm).mono ?_
  rintro e w' ⟨rfl, rfl⟩
  go_wp2
  go_ret2
  exact ⟨rfl, rfl⟩

set_option maxHeartbeats 1000000 in
set_option maxRecDepth 100000 in
theorem number_yes (R o n lb : Nat) (ao : Option Addr) (cap : Nat) (L : List UInt8) (w : World) (hr : Rest w lb ao cap L) (hc : w.cell? ⟨R, o, none⟩ = some (.slice ao L.length cap)) (hf : w.frozen? ⟨R, o, none⟩ = false) (hne : R ≠ lb) (hn : n ≤ 4) (h : n ≤ L.length) :
    Calls Try.prog 78 #[.pointer (some ⟨R, o, none⟩), .int .i64 n] w fun e w' => e = .returned (.tuple #[.int .u32 ((Pu.le (L.take n) : Nat) : Int), .bool true]) ∧ w' = w.setCell ⟨R, o, none⟩ (.slice (cutA ao cap n) (L.length - n) (cap - n)) := by
  have Ht : Hid (Rest (w.setCell ⟨R, o, none⟩ (.slice (cutA ao cap n) (L.length - n) (cap - n))) lb ao n (L.take n)) := (hr.take n h).kept (Below.heap_setCell _ _ _ _ (fun e => hne e.symm))
  have Hl : Hid ((L.take n).length = n) := by simp [Hid]; omega
  go_enter Try.func78, Try.ntmps78
  go_wp2_with fail
  refine (take_yes R o n ao L.length cap w hc hf h hr.1 hr.2.1).mono ?_
  rintro e w' ⟨rfl, rfl⟩
  go_wp2_with fail
  have hcall := lowest_any lb ao n (L.take n) _ Ht.out (by rw [Hl.out]; exact hn)
  rw [Hl.out] at hcall
  refine hcall.mono ?_
  rintro e w' ⟨rfl, rfl⟩
  clear hcall
  go_wp2
  go_ret2
  exact ⟨rfl, rfl⟩

end Go.Proofs.Ytjobhlncllfdmaa

/- Contract of the program's Varint. -/
namespace Go.Proofs.Ytjobhlncllfdmaa
open Go.RowKit

/-- what the program's Varint answers, and what it leaves in the reader's cell -/
def VAns (D : List UInt8) (a R o : Nat) (ao : Option Addr) (len cap : Nat) (w : World) (e : Ending) (w' : World) : Prop :=
  match Pu.vi D a with
  | none => e = .returned (.tuple #[.int .u32 0, .bool false]) ∧ w' = w
  | some (h, nx) => e = .returned (.tuple #[.int .u32 h, .bool true]) ∧ w' = w.setCell ⟨R, o, none⟩ (.slice (cutA ao cap (nx - a)) (len - (nx - a)) (cap - (nx - a)))

theorem VAns.no {D : List UInt8} {a R o : Nat} {ao : Option Addr} {len cap : Nat} {w : World} (h : Pu.vi D a = none) : VAns D a R o ao len cap w (.returned (.tuple #[.int .u32 0, .bool false])) w := by
  unfold VAns; rw [h]; exact ⟨rfl, rfl⟩

theorem VAns.yes {D : List UInt8} {a R o : Nat} {ao : Option Addr} {len cap h k : Nat} {w : World} {v : Value} (hv : Pu.vi D a = some (h, a + k + 1))
    (hx : v = .slice (cutA ao cap (k + 1)) (len - (k + 1)) (cap - (k + 1))) : VAns D a R o ao len cap w (.returned (.tuple #[.int .u32 h, .bool true])) (w.setCell ⟨R, o, none⟩ v) := by
  unfold VAns; rw [hv]
  refine ⟨rfl, ?_⟩
  rw [show a + k + 1 - a = k + 1 by omega, hx]

theorem and127 (b : Nat) (hb : b < 256) : bits .and .u8 (b : Int) 127 = ((b % 128 : Nat) : Int) := by
  have := u8_and_nat b 127 hb (by omega)
  rw [Nat.and_two_pow_sub_one_eq_mod b 7] at this
  exact this

theorem orv (m b i Q : Nat) (hQ : Q = 2 ^ i) (hm : m < Q) (hb : b < 256) (h : b % 128 * Q < 4294967296) (h2 : Q ≤ 268435456) :
    bits .or .u32 (m : Int) (bits .and .u8 (b : Int) 127 % 4294967296 * (Q : Int) % 4294967296) = ((m + Q * (b % 128) : Nat) : Int) := by
  have e : bits .and .u8 (b : Int) 127 % 4294967296 * (Q : Int) % 4294967296 = ((b % 128 * Q : Nat) : Int) := by
    rw [and127 b hb]
    have h1 : ((b % 128 : Nat) : Int) % 4294967296 = ((b % 128 : Nat) : Int) := by omega
    rw [h1, ← Int.natCast_mul]
    generalize b % 128 * Q = z at *
    omega
  rw [e, u32_or_nat _ _ (by omega) h, Nat.or_comm, hQ, or_shift _ _ _ (by rw [← hQ]; exact hm), Nat.add_comm, Nat.mul_comm]

set_option maxHeartbeats 2000000 in
set_option maxRecDepth 100000 in
theorem varintP_row (D : List UInt8) (a R o lb off cap len : Nat) (w : World) (hlen : len = D.length - a) (ha : a ≤ D.length) (hcap : len ≤ cap) (hcm : cap ≤ maxLen)
    (hc : w.cell? ⟨R, o, none⟩ = some (.slice (some ⟨lb, off, none⟩) len cap)) (hf : w.frozen? ⟨R, o, none⟩ = false) (hrow : ∀ j, j < len → w.cell? ⟨lb, off + j, none⟩ = some (.int .u8 (Pu.byteAt D (a + j) : Int))) :
    Calls Try.prog 62 #[.pointer (some ⟨R, o, none⟩)] w fun e w' => VAns D a R o (some ⟨lb, off, none⟩) len cap w e w' := by
  have Hlen : Hid (len = D.length - a) := hlen
  have Hrow : Hid (∀ j, j < len → w.cell? ⟨lb, off + j, none⟩ = some (.int .u8 (Pu.byteAt D (a + j) : Int))) := hrow
  clear hrow hlen
  unfold maxLen at hcm
  go_enter Try.func62, Try.ntmps62
  go_wp2
  go_loop [4, 12] (fun n i => ∃ k m q : Nat, k ≤ 4 ∧ k ≤ len ∧ m < q ∧ Hid (q = 128 ^ k) ∧ Hid (Pu.vi D a = Pu.viGo D a (5 - k) k m) ∧ n = .int .u32 m ∧ i = .int .i64 k) (fun _ i => 5 - (intOf i).toNat)
  case atStart => exact ⟨0, 0, 1, by omega, by omega, by omega, rfl, vi_start _ _, rfl, rfl⟩
  case round =>
    obtain ⟨k, m, q, hk, hkl, hm, Hq, Hv, rfl, rfl⟩ := hrel
    by_cases hin : k < len
    · have hcell := Hrow.out k hin
      have hbb := Pu.byteAt_lt D (a + k)
      have HB : ∃ b, Hid (b = Pu.byteAt D (a + k)) ∧ b < 256 ∧ w.cell? ⟨lb, off + k, none⟩ = some (.int .u8 (b : Int)) := ⟨_, rfl, hbb, hcell⟩
      obtain ⟨b, HB, hb, hcb⟩ := HB
      clear hcell hbb
      have HinL : Hid (a + k < D.length) := by have := Hlen.out; unfold Hid; omega
      have Hlast : Hid (b < 128 → Pu.vi D a = if m + q * b ≤ 4294967295 ∧ (k = 0 ∨ 0 < b) then some (m + q * b, a + k + 1) else none) := by
        intro h
        rw [Hq.out]
        exact vi_last (by omega) HinL.out HB.out h Hv.out
      have Hnext : Hid (¬ b < 128 → Pu.vi D a = Pu.viGo D a (5 - (k + 1)) (k + 1) (m + q * (b % 128))) := by
        intro h
        rw [Hq.out]
        exact vi_next (by omega) HinL.out HB.out h Hv.out
      clear HB HinL
      have hcase : k = 0 ∨ k = 1 ∨ k = 2 ∨ k = 3 ∨ k = 4 := by omega
      rcases hcase with rfl | rfl | rfl | rfl | rfl
      · obtain rfl : q = 1 := Hq.out
        clear Hq
        obtain rfl : m = 0 := by omega
        rw [Nat.add_zero] at hcb
        have hor : bits .or .u32 0 (bits .and .u8 (b : Int) 127 % 4294967296) = ((b % 128 : Nat) : Int) := by
          have := orv 0 b 0 1 rfl (by omega) hb (by omega) (by omega)
          rw [Int.natCast_one, Int.mul_one, Int.emod_emod_of_dvd _ (by decide)] at this
          simpa using this
        obtain ⟨x, hx⟩ : ∃ x, x = b % 128 := ⟨_, rfl⟩
        rw [← hx] at hor
        have Hx : Hid (x = b % 128) := hx
        clear hx
        by_cases hb7 : b < 128
        · have hx7 : x = b := by have := Hx.out; omega
          have Hx7 : Hid (x = b) := hx7
          clear hx7
          have HV : Hid (Pu.vi D a = some (x, a + 0 + 1)) := by
            have := Hx7.out
            rw [Hid, Hlast.out hb7, if_pos ⟨by omega, Or.inl rfl⟩, this]; simp
          by_cases hcp : cap = 1
          · subst hcp
            go_wp2
            all_goals
              go_ret2
              exact VAns.yes (k := 0) HV.out (by simp [cutA]; try omega)
          · go_wp2
            all_goals
              go_ret2
              exact VAns.yes (k := 0) HV.out (by simp [cutA, hcp, Addr.add])
        · have HV : Hid (Pu.vi D a = Pu.viGo D a (5 - (0 + 1)) (0 + 1) x) := by
            have := Hx.out
            rw [Hid, Hnext.out hb7, this]; simp
          have hxl : x < 128 := by have := Hx.out; omega
          go_wp2
          go_round
          case rel => exact ⟨1, x, 128, by omega, by omega, hxl, by unfold Hid; decide, HV.out, rfl, by go_num⟩
          case measure => simp [intOf]
      · obtain rfl : q = 128 := Hq.out
        clear Hq
        have hor : bits .or .u32 (m : Int) (bits .and .u8 (b : Int) 127 % 4294967296 * 128 % 4294967296) = ((m + 128 * (b % 128) : Nat) : Int) := orv m b 7 128 (by decide) (by omega) hb (by omega) (by omega)
        obtain ⟨x, hx⟩ : ∃ x, x = m + 128 * (b % 128) := ⟨_, rfl⟩
        rw [← hx] at hor
        have Hx : Hid (x = m + 128 * (b % 128)) := hx
        clear hx
        by_cases hb7 : b < 128
        · have hx7 : x = m + 128 * b := by have := Hx.out; omega
          have Hx7 : Hid (x = m + 128 * b) := hx7
          clear hx7
          by_cases hb0 : b = 0
          · subst hb0
            have HV : Hid (Pu.vi D a = none) := by
              rw [Hid, Hlast.out hb7, if_neg (by omega)]
            go_wp2
            go_ret2
            exact VAns.no HV.out
          · have HV : Hid (Pu.vi D a = some (x, a + 1 + 1)) := by
              have := Hx7.out
              rw [Hid, Hlast.out hb7, if_pos ⟨by omega, Or.inr (by omega)⟩, this]
            by_cases hcp : cap = 2
            · subst hcp
              go_wp2
              go_ret2
              exact VAns.yes HV.out (by simp [cutA]; try omega)
            · go_wp2
              go_ret2
              exact VAns.yes HV.out (by simp [cutA, hcp, Addr.add])
        · have HV : Hid (Pu.vi D a = Pu.viGo D a (5 - (1 + 1)) (1 + 1) x) := by
            have := Hx.out
            rw [Hid, Hnext.out hb7, this]
          have hxl : x < 16384 := by have := Hx.out; omega
          go_wp2
          go_round
          case rel => exact ⟨2, x, 16384, by omega, by omega, hxl, by unfold Hid; decide, HV.out, rfl, by go_num⟩
          case measure => simp [intOf]
      · obtain rfl : q = 16384 := Hq.out
        clear Hq
        have hor : bits .or .u32 (m : Int) (bits .and .u8 (b : Int) 127 % 4294967296 * 16384 % 4294967296) = ((m + 16384 * (b % 128) : Nat) : Int) := orv m b 14 16384 (by decide) (by omega) hb (by omega) (by omega)
        obtain ⟨x, hx⟩ : ∃ x, x = m + 16384 * (b % 128) := ⟨_, rfl⟩
        rw [← hx] at hor
        have Hx : Hid (x = m + 16384 * (b % 128)) := hx
        clear hx
        by_cases hb7 : b < 128
        · have hx7 : x = m + 16384 * b := by have := Hx.out; omega
          have Hx7 : Hid (x = m + 16384 * b) := hx7
          clear hx7
          by_cases hb0 : b = 0
          · subst hb0
            have HV : Hid (Pu.vi D a = none) := by
              rw [Hid, Hlast.out hb7, if_neg (by omega)]
            go_wp2
            go_ret2
            exact VAns.no HV.out
          · have HV : Hid (Pu.vi D a = some (x, a + 2 + 1)) := by
              have := Hx7.out
              rw [Hid, Hlast.out hb7, if_pos ⟨by omega, Or.inr (by omega)⟩, this]
            by_cases hcp : cap = 3
            · subst hcp
              go_wp2
              go_ret2
              exact VAns.yes HV.out (by simp [cutA]; try omega)
            · go_wp2
              go_ret2
              exact VAns.yes HV.out (by simp [cutA, hcp, Addr.add])
        · have HV : Hid (Pu.vi D a = Pu.viGo D a (5 - (2 + 1)) (2 + 1) x) := by
            have := Hx.out
            rw [Hid, Hnext.out hb7, this]
          have hxl : x < 2097152 := by have := Hx.out; omega
          go_wp2
          go_round
          case rel => exact ⟨3, x, 2097152, by omega, by omega, hxl, by unfold Hid; decide, HV.out, rfl, by go_num⟩
          case measure => simp [intOf]
      · obtain rfl : q = 2097152 := Hq.out
        clear Hq
        have hor : bits .or .u32 (m : Int) (bits .and .u8 (b : Int) 127 % 4294967296 * 2097152 % 4294967296) = ((m + 2097152 * (b % 128) : Nat) : Int) := orv m b 21 2097152 (by decide) (by omega) hb (by omega) (by omega)
        obtain ⟨x, hx⟩ : ∃ x, x = m + 2097152 * (b % 128) := ⟨_, rfl⟩
        rw [← hx] at hor
        have Hx : Hid (x = m + 2097152 * (b % 128)) := hx
        clear hx
        by_cases hb7 : b < 128
        · have hx7 : x = m + 2097152 * b := by have := Hx.out; omega
          have Hx7 : Hid (x = m + 2097152 * b) := hx7
          clear hx7
          by_cases hb0 : b = 0
          · subst hb0
            have HV : Hid (Pu.vi D a = none) := by
              rw [Hid, Hlast.out hb7, if_neg (by omega)]
            go_wp2
            go_ret2
            exact VAns.no HV.out
          · have HV : Hid (Pu.vi D a = some (x, a + 3 + 1)) := by
              have := Hx7.out
              rw [Hid, Hlast.out hb7, if_pos ⟨by omega, Or.inr (by omega)⟩, this]
            by_cases hcp : cap = 4
            · subst hcp
              go_wp2
              go_ret2
              exact VAns.yes HV.out (by simp [cutA]; try omega)
            · go_wp2
              go_ret2
              exact VAns.yes HV.out (by simp [cutA, hcp, Addr.add])
        · have HV : Hid (Pu.vi D a = Pu.viGo D a (5 - (3 + 1)) (3 + 1) x) := by
            have := Hx.out
            rw [Hid, Hnext.out hb7, this]
          have hxl : x < 268435456 := by have := Hx.out; omega
          go_wp2
          go_round
          case rel => exact ⟨4, x, 268435456, by omega, by omega, hxl, by unfold Hid; decide, HV.out, rfl, by go_num⟩
          case measure => simp [intOf]
      · obtain rfl : q = 268435456 := Hq.out
        clear Hq
        by_cases hb15 : b ≤ 15
        · have hor : bits .or .u32 (m : Int) (bits .and .u8 (b : Int) 127 % 4294967296 * 268435456 % 4294967296) = ((m + 268435456 * (b % 128) : Nat) : Int) := orv m b 28 268435456 (by decide) (by omega) hb (by omega) (by omega)
          obtain ⟨x, hx⟩ : ∃ x, x = m + 268435456 * (b % 128) := ⟨_, rfl⟩
          rw [← hx] at hor
          have hx7 : x = m + 268435456 * b := by omega
          have Hx7 : Hid (x = m + 268435456 * b) := hx7
          clear hx7 hx
          by_cases hb0 : b = 0
          · subst hb0
            have HV : Hid (Pu.vi D a = none) := by
              rw [Hid, Hlast.out (by omega), if_neg (by omega)]
            go_wp2
            go_ret2
            exact VAns.no HV.out
          · have HV : Hid (Pu.vi D a = some (x, a + 4 + 1)) := by
              have := Hx7.out
              rw [Hid, Hlast.out (by omega), if_pos ⟨by omega, Or.inr (by omega)⟩, this]
            by_cases hcp : cap = 5
            · subst hcp
              go_wp2
              go_ret2
              exact VAns.yes HV.out (by simp [cutA]; try omega)
            · go_wp2
              go_ret2
              exact VAns.yes HV.out (by simp [cutA, hcp, Addr.add])
        · have HV : Hid (Pu.vi D a = none) := by
            by_cases hb7 : b < 128
            · rw [Hid, Hlast.out hb7, if_neg (by omega)]
            · rw [Hid, Hnext.out hb7]; rfl
          go_wp2
          go_ret2
          exact VAns.no HV.out
    · obtain rfl : k = len := by omega
      have HV : Hid (Pu.vi D a = none) := vi_out (k := k) (by have := Hlen.out; omega) Hv.out
      go_wp2
      go_ret2
      exact VAns.no HV.out

end Go.Proofs.Ytjobhlncllfdmaa
