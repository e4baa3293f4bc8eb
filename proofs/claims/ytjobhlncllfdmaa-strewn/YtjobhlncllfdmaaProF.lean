/- Contract of eights. -/
import Derived.Test.YtjobhlncllfdmaaProE
namespace Go.Proofs.Ytjobhlncllfdmaa
open Go.RowKit

set_option maxHeartbeats 1000000 in
set_option maxRecDepth 100000 in
theorem eights_many (R lb B : Nat) (D : List UInt8) (W C a n : Nat) (xs : List Nat) (w : World) (h : RSt w R lb B D W C a xs) (hC : C ≤ 100000) (hx : xs.length < C) (hn : n ≤ 2147483648) (hno : C - xs.length ≤ 8 * n - 8) (hn1 : 1 ≤ n) :
    Calls Try.prog 64 #[.pointer (some ⟨R, 0, none⟩), .int .i64 n] w fun e w' => e = .returned (.bool false) ∧ Below B w w' := by
  obtain ⟨ao, cap, v, hb, ha, hr, ho, hv, hlb, hB⟩ := h
  obtain ⟨ao3, cap3, rfl⟩ := slen_of ho
  have M2 : Hid _ := hb.c2
  have M3 : Hid _ := hb.c3
  go_enter Try.func64, Try.ntmps64
  go_wp2_with fail
  refine (missing_any R C ao3 xs.length cap3 _ (by exact M2.out) (by exact M3.out) hC (by omega)).mono ?_
  rintro e w' ⟨rfl, q, rfl⟩
  go_wp2
  go_ret
  exact ⟨rfl, below_drewN (Below.refl _ _) _⟩

set_option maxHeartbeats 1000000 in
set_option maxRecDepth 100000 in
theorem eights_short (R lb B : Nat) (D : List UInt8) (W C a n : Nat) (xs : List Nat) (w : World) (h : RSt w R lb B D W C a xs) (hW : W ≤ 24) (hC : C ≤ 100000) (hx : xs.length < C) (hn : n ≤ 2147483648) (hok : ¬ C - xs.length ≤ 8 * n - 8) (hn1 : 1 ≤ n) (hs : D.length < a + n * W) :
    Calls Try.prog 64 #[.pointer (some ⟨R, 0, none⟩), .int .i64 n] w fun e w' => e = .returned (.bool false) ∧ Below B w w' := by
  obtain ⟨ao, cap, v, hb, ha, hr, ho, hv, hlb, hB⟩ := h
  obtain ⟨ao3, cap3, rfl⟩ := slen_of ho
  have M2 : Hid _ := hb.c2
  have M3 : Hid _ := hb.c3
  have c1 := hb.c1
  have C0 : Hid _ := hb.c0
  have Hs : Hid (D.length - a < n * W) := by unfold Hid; omega
  have hm : D.length - a ≤ maxLen := by have := hr.1; have := hr.2.1; rw [List.length_drop] at *; omega
  have EP : Hid (IntKind.i64.wrap ((n : Int) * (W : Int)) = ((n * W : Nat) : Int)) := by
    have : n * W ≤ 2147483648 * 24 := Nat.mul_le_mul hn hW
    rw [Hid, ← Int.natCast_mul]; exact IntWalk.i64_in _ (by omega)
  clear hs
  go_enter Try.func64, Try.ntmps64
  go_wp2_with fail
  refine (missing_any R C ao3 xs.length cap3 _ (by exact M2.out) (by exact M3.out) hC (by omega)).mono ?_
  rintro e w' ⟨rfl, q, rfl⟩
  go_wp2
  go_region_with (go_at_call 79; rw [EP.out]; refine (take_no R 0 (n * W) ao (D.length - a) cap _ (by exact C0.out) Hs.out hm).mono ?_; rintro e w' ⟨rfl, rfl⟩)
  all_goals
    go_wp2
    go_ret
    exact ⟨rfl, by first | exact below_drewN (Below.refl _ _) _ | exact (below_drewN (Below.refl _ _) _).drew⟩

end Go.Proofs.Ytjobhlncllfdmaa
