/- Contracts of the program's reader of bytes. -/
import Derived.Test.YtjobhlncllfdmaaRefD
namespace Go.Proofs.Ytjobhlncllfdmaa
open Go.RowKit

/-- the slice v reads the bytes L, all in block lb -/
def Rest (w : World) (lb : Nat) (ao : Option Addr) (cap : Nat) (L : List UInt8) : Prop :=
  L.length ≤ cap ∧ cap ≤ maxLen ∧
    (L = [] ∨ ∃ o, ao = some ⟨lb, o, none⟩ ∧ ∀ j, j < L.length → w.cell? ⟨lb, o + j, none⟩ = some (.int .u8 (Pu.byteAt L j : Int)))

def cutA (ao : Option Addr) (cap n : Nat) : Option Addr := if cap = n then ao else ao.map (·.add n)

theorem byteAt_take (L : List UInt8) (n j : Nat) (h : j < n) : Pu.byteAt (L.take n) j = Pu.byteAt L j := by
  simp [Pu.byteAt, h]
theorem byteAt_drop (L : List UInt8) (n j : Nat) : Pu.byteAt (L.drop n) j = Pu.byteAt L (n + j) := by
  simp [Pu.byteAt]

theorem Rest.take {w : World} {lb : Nat} {ao : Option Addr} {cap : Nat} {L : List UInt8} (h : Rest w lb ao cap L) (n : Nat) (hn : n ≤ L.length) : Rest w lb ao n (L.take n) := by
  obtain ⟨h1, h2, h3⟩ := h
  refine ⟨by simp; omega, by omega, ?_⟩
  rcases h3 with rfl | ⟨o, rfl, hc⟩
  · exact Or.inl (by simp)
  · refine Or.inr ⟨o, rfl, fun j hj => ?_⟩
    rw [List.length_take] at hj
    rw [byteAt_take _ _ _ (by omega)]
    exact hc j (by omega)

theorem Rest.drop {w : World} {lb : Nat} {ao : Option Addr} {cap : Nat} {L : List UInt8} (h : Rest w lb ao cap L) (n : Nat) (hn : n ≤ L.length) : Rest w lb (cutA ao cap n) (cap - n) (L.drop n) := by
  obtain ⟨h1, h2, h3⟩ := h
  refine ⟨by simp; omega, by omega, ?_⟩
  by_cases hl : n = L.length
  · exact Or.inl (List.drop_of_length_le (by omega))
  rcases h3 with rfl | ⟨o, rfl, hc⟩
  · exact Or.inl (by simp)
  · refine Or.inr ⟨o + n, ?_, fun j hj => ?_⟩
    · unfold cutA
      rw [if_neg (by omega)]
      simp only [Option.map, Addr.add]
      split
      · simp_all
      · rfl
    · rw [List.length_drop] at hj
      rw [byteAt_drop, Nat.add_assoc]
      exact hc (n + j) (by omega)

theorem Rest.kept {w w' : World} {lb : Nat} {ao : Option Addr} {cap : Nat} {L : List UInt8} (h : Rest w lb ao cap L) (hw : w'.heap[lb]? = w.heap[lb]?) : Rest w' lb ao cap L := by
  obtain ⟨h1, h2, h3⟩ := h
  refine ⟨h1, h2, ?_⟩
  rcases h3 with rfl | ⟨o, rfl, hc⟩
  · exact Or.inl rfl
  · exact Or.inr ⟨o, rfl, fun j hj => by rw [World.cell?_of_block (w := w) hw]; exact hc j hj⟩

set_option maxHeartbeats 1000000 in
set_option maxRecDepth 100000 in
theorem take_no (R o n : Nat) (ao : Option Addr) (len cap : Nat) (w : World) (hc : w.cell? ⟨R, o, none⟩ = some (.slice ao len cap)) (hn : len < n) (_hlen : len ≤ maxLen) :
    Calls Try.prog 79 #[.pointer (some ⟨R, o, none⟩), .int .i64 n] w fun e w' => e = .returned (.tuple #[.slice none 0 0, .bool false]) ∧ w' = w := by
  unfold maxLen at _hlen
  go_enter Try.func79, Try.ntmps79
  go_wp2
  go_ret2
  exact ⟨rfl, rfl⟩

set_option maxHeartbeats 1000000 in
set_option maxRecDepth 100000 in
theorem take_yes (R o n : Nat) (ao : Option Addr) (len cap : Nat) (w : World) (hc : w.cell? ⟨R, o, none⟩ = some (.slice ao len cap)) (hf : w.frozen? ⟨R, o, none⟩ = false) (hn : n ≤ len) (hlen : len ≤ cap) (hcap : cap ≤ maxLen) :
    Calls Try.prog 79 #[.pointer (some ⟨R, o, none⟩), .int .i64 n] w fun e w' => e = .returned (.tuple #[.slice ao n n, .bool true]) ∧ w' = w.setCell ⟨R, o, none⟩ (.slice (cutA ao cap n) (len - n) (cap - n)) := by
  unfold maxLen at hcap
  by_cases hcn : cap = n
  · subst hcn
    have Hcut : Hid (cutA ao cap cap = ao) := by simp [Hid, cutA]
    go_enter Try.func79, Try.ntmps79
    go_wp2
    go_ret2
    exact ⟨rfl, by rw [Hcut.out, show len - cap = 0 by omega, Nat.sub_self]⟩
  · have Hcut : Hid (cutA ao cap n = ao.map (·.add n)) := by simp [Hid, cutA, hcn]
    go_enter Try.func79, Try.ntmps79
    go_wp2
    go_ret2
    exact ⟨rfl, by rw [Hcut.out]⟩

set_option maxHeartbeats 1000000 in
theorem left_any (R o : Nat) (ao : Option Addr) (len cap : Nat) (w : World) (hc : w.cell? ⟨R, o, none⟩ = some (.slice ao len cap)) :
    Calls Try.prog 42 #[.pointer (some ⟨R, o, none⟩)] w fun e w' => e = .returned (.int .i64 len) ∧ w' = w := by
  go_enter Try.func42, Try.ntmps42
  go_wp2
  go_ret
  exact ⟨rfl, rfl⟩

set_option maxHeartbeats 1000000 in
theorem missing_any (R : Nat) (C : Nat) (ao : Option Addr) (len cap : Nat) (w : World) (hc2 : w.cell? ⟨R, 2, none⟩ = some (.int .i64 C)) (hc3 : w.cell? ⟨R, 3, none⟩ = some (.slice ao len cap)) (hC : C ≤ 100000) (hl : len ≤ C) :
    Calls Try.prog 40 #[.pointer (some ⟨R, 0, none⟩)] w fun e w' => e = .returned (.int .i64 ((C - len : Nat) : Int)) ∧ ∃ n, w' = w.drewN n := by
  go_enter Try.func40, Try.ntmps40
  go_wp2
  go_quiet (fail)
  go_wp2
  go_ret
  exact ⟨ret_int (by omega), _, rfl⟩

set_option maxHeartbeats 1000000 in
theorem new_any (ao : Option Addr) (len cap : Nat) (w : World) :
    Calls Try.prog 39 #[.slice ao len cap] w fun e w' => e = .returned (.agg #[.slice ao len cap]) ∧ w' = w.alloc (.cells #[.slice ao len cap] 87) := by
  go_enter Try.func39, Try.ntmps39
  go_wp2
  exact bodyPost_ret (v := .agg #[.slice ao len cap]) (by simp [results, Try.results39, go_sem]) rfl ⟨rfl, rfl⟩

end Go.Proofs.Ytjobhlncllfdmaa
