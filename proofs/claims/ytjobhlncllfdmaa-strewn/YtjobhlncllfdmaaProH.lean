/- Contract of run. -/
import Derived.Test.YtjobhlncllfdmaaProG
namespace Go.Proofs.Ytjobhlncllfdmaa
open Go.RowKit

/-- what run answers -/
def StepAns (R lb B : Nat) (D : List UInt8) (W C : Nat) (s : Option (Nat × List Nat)) (e : Ending) (w' : World) : Prop :=
  match s with
  | none => e = .returned (.bool false)
  | some (a', o) => e = .returned (.bool true) ∧ RSt w' R lb B D W C a' o

theorem and1u (h : Nat) (hh : h < 4294967296) : bits .and .u32 (h : Int) 1 = ((h % 2 : Nat) : Int) := by
  have := u32_and_nat h 1 hh (by omega)
  rw [Nat.and_two_pow_sub_one_eq_mod h 1] at this
  exact this

set_option maxHeartbeats 1000000 in
set_option maxRecDepth 100000 in
theorem run_any (R lb B : Nat) (D : List UInt8) (W C a : Nat) (xs : List Nat) (w : World) (h : RSt w R lb B D W C a xs) (hBs : B ≤ w.heap.size) (hW : W ≤ 24) (hC : C ≤ 100000) (hx : xs.length < C) :
    Calls Try.prog 41 #[.pointer (some ⟨R, 0, none⟩)] w fun e w' => StepAns R lb B D W C (Pu.step D W C a xs) e w' ∧ Below B w w' := by
  obtain ⟨ao, cap, v, hb, ha, hr, ho, hv, hlb, hB⟩ := h
  have V : Hid (Calls Try.prog 62 #[.pointer (some ⟨R, 0, none⟩)] w fun e w' => VAns D a R 0 ao (D.length - a) cap w e w') := varintP_any D a R 0 lb ao cap w ha hr hb.c0 (hb.fz 0)
  cases hvi : Pu.vi D a with
  | none =>
    have Hst : Hid (Pu.step D W C a xs = none) := step_vi hvi
    unfold VAns at V
    rw [hvi] at V
    clear hvi hr ho
    go_enter Try.func41, Try.ntmps41
    go_wp2_with fail
    refine V.out.mono ?_
    rintro e w' ⟨rfl, rfl⟩
    go_wp2
    go_ret
    exact ⟨by rw [Hst.out]; rfl, Below.refl _ _⟩
  | some pr =>
    obtain ⟨h, nx⟩ := pr
    have Hvi : Hid (Pu.vi D a = some (h, nx)) := hvi
    have hvl := Pu.vi_lt hvi
    obtain ⟨hv1, hv2, hv3⟩ := hvl
    unfold VAns at V
    rw [hvi] at V
    have hS := RSt.skip (n := nx - a) hb (by omega) hr ho hv hlb hB
    rw [show a + (nx - a) = nx by omega] at hS
    have hbel : Below B w (w.setCell ⟨R, 0, none⟩ (.slice (cutA ao cap (nx - a)) (D.length - a - (nx - a)) (cap - (nx - a)))) := (Below.refl _ _).setCell hB _
    clear hvi hr ho hb
    obtain ⟨w1, hw1⟩ : ∃ w1, w1 = (w.setCell ⟨R, 0, none⟩ (.slice (cutA ao cap (nx - a)) (D.length - a - (nx - a)) (cap - (nx - a)))) := ⟨_, rfl⟩
    have V2 : Hid (Calls Try.prog 62 #[.pointer (some ⟨R, 0, none⟩)] w fun e w' => e = .returned (.tuple #[.int .u32 h, .bool true]) ∧ w' = w1) := by
      rw [hw1]; exact V.out
    rw [← hw1] at hS hbel
    clear V hw1
    have HS : Hid (RSt w1 R lb B D W C nx xs) := hS
    clear hS
    have hs1 : B ≤ w1.heap.size := Nat.le_trans hBs hbel.size
    by_cases h2 : h < 2
    · have Hst : Hid (Pu.step D W C a xs = none) := step_two Hvi.out h2
      have h0 : ((h : Int) / 2 == 0) = true := by simp; omega
      go_enter Try.func41, Try.ntmps41
      go_wp2_with fail
      refine V2.out.mono ?_
      rintro e w' ⟨rfl, rfl⟩
      go_wp2
      go_ret
      exact ⟨by rw [Hst.out]; rfl, hbel⟩
    · have h0 : ((h : Int) / 2 == 0) = false := by simp; omega
      obtain ⟨n, hn⟩ : ∃ n, n = h / 2 := ⟨_, rfl⟩
      have Hn : Hid (n = h / 2) := hn
      have hn2 : (h : Int) / 2 = (n : Int) := by omega
      have h0' : ((n : Int) == 0) = false := by simp; omega
      have hn3 : 1 ≤ n := by omega
      have hn4 : n ≤ 2147483648 := by omega
      clear hn h0
      by_cases hm : h % 2 = 0
      · have hand : (bits .and .u32 (h : Int) 1 == 0) = true := by rw [and1u h (by omega), hm]; rfl
        have Hm : Hid (h % 2 = 0) := hm
        clear hm
        have HE : Hid (Calls Try.prog 63 #[.pointer (some ⟨R, 0, none⟩), .int .i64 n] w1 fun e w' => StepAns R lb B D W C (Pu.step D W C a xs) e w' ∧ Below B w1 w') := by
          cases hl : Pu.lo D nx ((W + 7) / 8) with
          | none =>
            rw [step_lo Hvi.out h2 Hm.out hl]
            exact equal_no R lb B D W C nx n xs w1 HS.out hW hl
          | some x =>
            by_cases hb : 2 ^ W ≤ x ∨ C - xs.length < n
            · rw [step_eq_no Hvi.out h2 Hm.out hl (by rw [← Hn.out]; exact hb)]
              exact equal_bad R lb B D W C nx n x xs w1 HS.out hW hC (by omega) hl hn4 hb
            · rw [step_eq Hvi.out h2 Hm.out hl (by rw [← Hn.out]; exact hb), ← Hn.out]
              refine (equal_yes R lb B D W C nx n x xs w1 HS.out hs1 hW hC (by omega) hl hn4 hb).mono ?_
              rintro e w' ⟨h1, h2, h3⟩
              exact ⟨⟨h1, h2⟩, h3⟩
        clear HS
        have HE2 : Hid (Calls Try.prog 63 #[.pointer (some ⟨R, 0, none⟩), .int .i64 n] w1 fun e w' => ∃ b : Bool, e = .returned (.bool b) ∧ StepAns R lb B D W C (Pu.step D W C a xs) (.returned (.bool b)) w' ∧ Below B w1 w') := by
          refine HE.out.mono ?_
          rintro e w' ⟨h1, h3⟩
          have : ∃ b : Bool, e = .returned (.bool b) := by
            unfold StepAns at h1
            split at h1
            · exact ⟨false, h1⟩
            · exact ⟨true, h1.1⟩
          obtain ⟨b, rfl⟩ := this
          exact ⟨b, rfl, h1, h3⟩
        clear HE
        go_enter Try.func41, Try.ntmps41
        go_wp2_with fail
        refine V2.out.mono ?_
        rintro e w' ⟨rfl, rfl⟩
        go_wp2_with fail
        refine HE2.out.mono ?_
        rintro e w2 ⟨b, rfl, h1, h3⟩
        go_wp2
        go_ret
        exact ⟨h1, hbel.trans h3⟩
      · have hand : (bits .and .u32 (h : Int) 1 == 0) = false := by rw [and1u h (by omega), show h % 2 = 1 by omega]; rfl
        have Hm : Hid (¬ h % 2 = 0) := hm
        clear hm
        have HE : Hid (Calls Try.prog 64 #[.pointer (some ⟨R, 0, none⟩), .int .i64 n] w1 fun e w' => StepAns R lb B D W C (Pu.step D W C a xs) e w' ∧ Below B w1 w') := by
          by_cases h8 : C - xs.length ≤ 8 * n - 8
          · rw [step_8_no Hvi.out h2 Hm.out (Or.inl (by rw [← Hn.out]; exact h8))]
            exact eights_many R lb B D W C nx n xs w1 HS.out hC hx hn4 h8 hn3
          · by_cases hs : D.length < nx + n * W
            · rw [step_8_no Hvi.out h2 Hm.out (Or.inr (by rw [← Hn.out]; exact hs))]
              exact eights_short R lb B D W C nx n xs w1 HS.out hW hC hx hn4 h8 hn3 hs
            · rw [step_8 Hvi.out h2 Hm.out (by rw [← Hn.out]; omega), ← Hn.out]
              refine (eights_any R lb B D W C nx n xs w1 HS.out hs1 hW hC hx hn4 h8 hn3 hs).mono ?_
              rintro e w' ⟨h1, h3⟩
              refine ⟨?_, h3⟩
              unfold E8 at h1
              split at h1
              · rename_i hz; rw [if_pos hz]; exact h1
              · rename_i hz; rw [if_neg hz]; exact h1
        clear HS
        have HE2 : Hid (Calls Try.prog 64 #[.pointer (some ⟨R, 0, none⟩), .int .i64 n] w1 fun e w' => ∃ b : Bool, e = .returned (.bool b) ∧ StepAns R lb B D W C (Pu.step D W C a xs) (.returned (.bool b)) w' ∧ Below B w1 w') := by
          refine HE.out.mono ?_
          rintro e w' ⟨h1, h3⟩
          have : ∃ b : Bool, e = .returned (.bool b) := by
            unfold StepAns at h1
            split at h1
            · exact ⟨false, h1⟩
            · exact ⟨true, h1.1⟩
          obtain ⟨b, rfl⟩ := this
          exact ⟨b, rfl, h1, h3⟩
        clear HE
        go_enter Try.func41, Try.ntmps41
        go_wp2_with fail
        refine V2.out.mono ?_
        rintro e w' ⟨rfl, rfl⟩
        go_wp2_with fail
        refine HE2.out.mono ?_
        rintro e w2 ⟨b, rfl, h1, h3⟩
        go_wp2
        go_ret
        exact ⟨h1, hbel.trans h3⟩

end Go.Proofs.Ytjobhlncllfdmaa
