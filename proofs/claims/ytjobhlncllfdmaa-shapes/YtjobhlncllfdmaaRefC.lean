/- Contract of the reference's low. -/
import Derived.Test.YtjobhlncllfdmaaRefB
namespace Go.Proofs.Ytjobhlncllfdmaa
open Go.RowKit

theorem le_step (D : List UInt8) (a n k : Nat) (h : a + n ≤ D.length) (hk : k < n) :
    Pu.le ((Pu.piece D a n).drop k) = Pu.byteAt D (a + k) + 256 * Pu.le ((Pu.piece D a n).drop (k + 1)) := by
  rw [Pu.le_cons_drop _ _ (by rw [Pu.length_piece D a n h]; exact hk), Pu.byteAt_piece D a n k hk]

set_option maxHeartbeats 1000000 in
set_option maxRecDepth 100000 in
theorem low_any (s : ByteArray) (a n : Nat) (w : World) (hs : s.size ≤ 140737488355000) (ha : a ≤ s.size) (hn : n ≤ 4) :
    Calls Try.prog 44 #[.string s, .int .i64 a, .int .i64 n] w fun e w' => e = .returned (.tuple #[.int .i64 (((Pu.lo s.data.toList a n).getD 0 : Nat) : Int), .bool (Pu.lo s.data.toList a n).isSome]) ∧ w' = w := by
  have hlen : s.data.toList.length = s.size := by simp
  by_cases hfit : a + n ≤ s.size
  · have Hlo : Hid (Pu.lo s.data.toList a n = some (Pu.le (Pu.piece s.data.toList a n))) := by unfold Hid Pu.lo; rw [if_pos (by omega)]
    have Hstep : Hid (∀ k, k < n → Pu.le ((Pu.piece s.data.toList a n).drop k) = Pu.byteAt s.data.toList (a + k) + 256 * Pu.le ((Pu.piece s.data.toList a n).drop (k + 1))) :=
      fun k hk => le_step _ a n k (by omega) hk
    have Hlt : Hid (∀ k, k < n → Pu.le ((Pu.piece s.data.toList a n).drop (k + 1)) < 16777216) := by
      intro k hk
      refine Nat.lt_of_lt_of_le (Pu.le_lt _) ?_
      rw [List.length_drop, Pu.length_piece _ _ _ (by omega)]
      exact Nat.le_trans (Nat.pow_le_pow_right (by omega) (show n - (k + 1) ≤ 3 by omega)) (by decide)
    have Hend : Hid (Pu.le ((Pu.piece s.data.toList a n).drop n) = 0) := by
      rw [Hid, List.drop_of_length_le (by rw [Pu.length_piece _ _ _ (by omega)]; omega)]; rfl
    generalize (Pu.piece s.data.toList a n) = L at *
    clear hlen
    go_enter Try.func44, Try.ntmps44
    go_wp2
    go_loop [8, 9] (fun x i => ∃ k m : Nat, k ≤ n ∧ Hid (m = Pu.le (L.drop k)) ∧ i = .int .i64 ((k : Int) - 1) ∧ x = .int .i64 m) (fun _ i => (intOf i + 1).toNat)
    case atStart => exact ⟨n, 0, Nat.le_refl _, Hend.out.symm, rfl, rfl⟩
    case round =>
      obtain ⟨k, m, hk, Hm, rfl, rfl⟩ := hrel
      by_cases hk0 : k = 0
      · subst hk0
        go_wp2
        go_ret2
        exact ⟨by rw [Hlo.out]; simp [Hm.out], rfl⟩
      · obtain ⟨j, rfl⟩ : ∃ j, k = j + 1 := ⟨k - 1, by omega⟩
        have hml : m < 16777216 := by rw [Hm.out]; exact Hlt.out j (by omega)
        obtain ⟨b, hb, hbb, HB⟩ := byte_ex s (a + j) (by omega)
        go_wp2
        go_round
        case rel => exact ⟨j, 256 * m + b, by omega, by rw [Hid, Hstep.out j (by omega), ← Hm.out, ← HB.out]; omega, by go_num, by go_num⟩
        case measure => simp [intOf]
  · have Hlo : Hid (Pu.lo s.data.toList a n = none) := by unfold Hid Pu.lo; rw [if_neg (by omega)]
    go_enter Try.func44, Try.ntmps44
    go_wp2
    go_ret2
    exact ⟨by rw [Hlo.out]; rfl, rfl⟩

theorem varint_no (s : ByteArray) (a : Nat) (w : World) (hs : s.size ≤ 140737488355000) (ha : a ≤ s.size) (hv : Pu.vi s.data.toList a = none) :
    Calls Try.prog 43 #[.string s, .int .i64 a] w fun e w' => ∃ h nx : Int, e = .returned (.tuple #[.int .i64 h, .int .i64 nx, .bool false]) ∧ w' = w := by
  refine (varint_any s a w hs ha).mono ?_
  rintro e w' ⟨⟨h, nx, he, _⟩, hw⟩
  rw [hv] at he
  exact ⟨h, nx, he, hw⟩

theorem varint_yes (s : ByteArray) (a h nx : Nat) (w : World) (hs : s.size ≤ 140737488355000) (ha : a ≤ s.size) (hv : Pu.vi s.data.toList a = some (h, nx)) :
    Calls Try.prog 43 #[.string s, .int .i64 a] w fun e w' => e = .returned (.tuple #[.int .i64 h, .int .i64 nx, .bool true]) ∧ w' = w := by
  refine (varint_any s a w hs ha).mono ?_
  rintro e w' ⟨⟨h', nx', he, hp⟩, hw⟩
  obtain ⟨rfl, rfl⟩ := hp _ hv
  rw [hv] at he
  exact ⟨he, hw⟩

theorem low_no (s : ByteArray) (a n : Nat) (w : World) (hs : s.size ≤ 140737488355000) (ha : a ≤ s.size) (hn : n ≤ 4) (hv : Pu.lo s.data.toList a n = none) :
    Calls Try.prog 44 #[.string s, .int .i64 a, .int .i64 n] w fun e w' => e = .returned (.tuple #[.int .i64 0, .bool false]) ∧ w' = w := by
  refine (low_any s a n w hs ha hn).mono ?_
  rw [hv]
  exact fun _ _ h => h

theorem low_yes (s : ByteArray) (a n x : Nat) (w : World) (hs : s.size ≤ 140737488355000) (ha : a ≤ s.size) (hn : n ≤ 4) (hv : Pu.lo s.data.toList a n = some x) :
    Calls Try.prog 44 #[.string s, .int .i64 a, .int .i64 n] w fun e w' => e = .returned (.tuple #[.int .i64 x, .bool true]) ∧ w' = w := by
  refine (low_any s a n w hs ha hn).mono ?_
  rw [hv]
  exact fun _ _ h => h

end Go.Proofs.Ytjobhlncllfdmaa
