/- bytes.Equal, HasPrefix, HasSuffix as find calls them; pieceOf. -/
import Derived.Test.YtjobhlncllfdmaaFtE
namespace Go.Proofs.Ytjobhlncllfdmaa
open Go.RowKit

set_option maxHeartbeats 1000000 in
set_option maxRecDepth 100000 in
theorem equalB (v1 v2 : Value) (L1 L2 : List UInt8) (w : World) (h1 : (convert 24 9 v1).run Try.prog w = .ok (.string ⟨L1.toArray⟩) w) (h2 : (convert 24 9 v2).run Try.prog w = .ok (.string ⟨L2.toArray⟩) w) :
    Calls Try.prog 95 #[v1, v2] w fun e w' => e = .returned (.bool (L1 == L2)) ∧ w' = w := by
  go_enter Try.func95, Try.ntmps95
  go_wp2
  go_ret
  exact ⟨rfl, rfl⟩

/-- bytes in a row of cells -/
def Row (w : World) (b o : Nat) (L : List UInt8) : Prop := ∀ j, j < L.length → w.cell? ⟨b, o + j, none⟩ = some (.int .u8 (Pu.byteAt L j : Int))

theorem Row.text {w : World} {b o cap : Nat} {L : List UInt8} (h : Row w b o L) : (convert 24 9 (.slice (some ⟨b, o, none⟩) L.length cap)).run Try.prog w = .ok (.string ⟨L.toArray⟩) w :=
  run_convert_bytes_back (P := Try.prog) w 24 9 5 ⟨b, o, none⟩ cap L Try.underlying24 Try.underlying5 Try.underlying9 (fun j hj => by
    rw [show (⟨b, o, none⟩ : Addr).add j = ⟨b, o + j, none⟩ from by unfold Addr.add; split <;> simp_all, h j hj]
    simp only [Pu.byteAt, List.getD_eq_getElem?_getD, List.getElem?_eq_getElem hj, Option.getD_some])
theorem Row.take {w : World} {b o : Nat} {L : List UInt8} (h : Row w b o L) (n : Nat) : Row w b o (L.take n) := fun j hj => by
  rw [List.length_take] at hj
  rw [byteAt_take _ _ _ (by omega)]
  exact h j (by omega)
theorem Row.drop {w : World} {b o : Nat} {L : List UInt8} (h : Row w b o L) (n : Nat) : Row w b (o + n) (L.drop n) := fun j hj => by
  rw [List.length_drop] at hj
  rw [byteAt_drop, Nat.add_assoc]
  exact h (n + j) (by omega)

set_option maxHeartbeats 1000000 in
set_option maxRecDepth 100000 in
theorem hasPrefix4 (lb o n c p d : Nat) (D M : List UInt8) (w : World) (hn : D.length = n) (hM : M.length = 4) (h4 : 4 ≤ n) (hnc : n ≤ c) (hcm : c ≤ maxLen) (hD : Row w lb o D) (hP : Row w p 0 M) :
    Calls Try.prog 81 #[.slice (some ⟨lb, o, none⟩) n c, .slice (some ⟨p, 0, none⟩) 4 d] w fun e w' => e = .returned (.bool (D.take 4 == M)) ∧ w' = w := by
  have t1 := (hD.take 4).text (cap := c)
  have t2 := hP.text (cap := d)
  rw [hM] at t2
  rw [show (D.take 4).length = 4 by rw [List.length_take]; omega] at t1
  have EQ : Hid (Calls Try.prog 95 #[.slice (some ⟨lb, o, none⟩) 4 c, .slice (some ⟨p, 0, none⟩) 4 d] w fun e w' => e = .returned (.bool (D.take 4 == M)) ∧ w' = w) := equalB _ _ _ _ w t1 t2
  unfold maxLen at hcm
  clear t1 t2 hD hP hn hM
  go_enter Try.func81, Try.ntmps81
  go_wp2_with fail
  refine EQ.out.mono ?_
  rintro e w' ⟨rfl, hw'⟩
  subst w'
  go_wp2
  go_ret
  exact ⟨rfl, rfl⟩

set_option maxHeartbeats 1000000 in
set_option maxRecDepth 100000 in
theorem hasSuffix4 (lb o n c p d : Nat) (D M : List UInt8) (w : World) (hn : D.length = n) (hM : M.length = 4) (h4 : 4 ≤ n) (hnc : n ≤ c) (hcm : c ≤ maxLen) (hD : Row w lb o D) (hP : Row w p 0 M) :
    Calls Try.prog 82 #[.slice (some ⟨lb, o, none⟩) n c, .slice (some ⟨p, 0, none⟩) 4 d] w fun e w' => e = .returned (.bool (D.drop (n - 4) == M)) ∧ w' = w := by
  have t1 := (hD.drop (n - 4)).text (cap := c - (n - 4))
  have t2 := hP.text (cap := d)
  rw [hM] at t2
  rw [show (D.drop (n - 4)).length = n - (n - 4) by rw [List.length_drop]; omega] at t1
  have EQ : Hid (Calls Try.prog 95 #[.slice (some ⟨lb, o + (n - 4), none⟩) (n - (n - 4)) (c - (n - 4)), .slice (some ⟨p, 0, none⟩) 4 d] w fun e w' => e = .returned (.bool (D.drop (n - 4) == M)) ∧ w' = w) := equalB _ _ _ _ w t1 t2
  unfold maxLen at hcm
  have hne : ¬ c = n - 4 := by omega
  clear t1 t2 hD hP hn hM
  go_enter Try.func82, Try.ntmps82
  go_wp2_with fail
  refine EQ.out.mono ?_
  rintro e w' ⟨rfl, hw'⟩
  subst w'
  go_wp2
  go_ret
  exact ⟨rfl, rfl⟩

def pieceA (ao : Option Addr) (a b : Nat) : Option Addr := if b = a then ao else ao.map (·.add a)

set_option maxHeartbeats 1000000 in
set_option maxRecDepth 100000 in
theorem pieceOf_any (ao : Option Addr) (n cap a b : Nat) (w : World) (hab : a ≤ b) (hbn : b ≤ n) (hnc : n ≤ cap) (_hcm : cap ≤ maxLen) :
    Calls Try.prog 83 #[.slice ao n cap, .int .i64 (a : Int), .int .i64 (b : Int)] w fun e w' => e = .returned (.slice (pieceA ao a b) (b - a) (b - a)) ∧ w' = w := by
  unfold maxLen at _hcm
  by_cases h : b = a
  · have HP : Hid (pieceA ao a b = ao) := by rw [Hid, pieceA, if_pos h]
    have hz : b - a = 0 := by omega
    go_enter Try.func83, Try.ntmps83
    go_wp2
    go_ret
    exact ⟨by rw [HP.out, hz]; rfl, rfl⟩
  · have HP : Hid (pieceA ao a b = ao.map (·.add a)) := by rw [Hid, pieceA, if_neg h]
    go_enter Try.func83, Try.ntmps83
    go_wp2
    go_ret
    exact ⟨by rw [HP.out]; rfl, rfl⟩

theorem Rest.piece {w : World} {lb : Nat} {ao : Option Addr} {cap : Nat} {D : List UInt8} (h : Rest w lb ao cap D) (a b : Nat) (hab : a ≤ b) (hb : b ≤ D.length) : Rest w lb (pieceA ao a b) (b - a) (Pu.piece D a (b - a)) := by
  have hm := h.2.1
  have hl := h.1
  refine ⟨by rw [Pu.length_piece _ _ _ (by omega)]; exact Nat.le_refl _, by omega, ?_⟩
  by_cases hz : b = a
  · left
    subst hz
    simp [Pu.piece]
  · rcases h.2.2 with rfl | ⟨o, rfl, hc⟩
    · simp at hb; omega
    · refine .inr ⟨o + a, ?_, fun j hj => ?_⟩
      · unfold pieceA
        rw [if_neg hz]
        simp only [Option.map, Addr.add]
        split
        · simp_all
        · rfl
      · rw [Pu.length_piece _ _ _ (by omega)] at hj
        rw [Pu.byteAt_piece _ _ _ _ hj, Nat.add_assoc]
        exact hc (a + j) (by omega)

end Go.Proofs.Ytjobhlncllfdmaa
