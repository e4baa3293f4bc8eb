/- Contract of eights, its loop. -/
import Derived.Test.YtjobhlncllfdmaaGreatM26
namespace Go.Proofs.YtjobhlncllfdmaaGreat
open Go.RowKit

/-- what eights answers -/
def E8 (R lb B : Nat) (D : List UInt8) (W C a n : Nat) (xs : List Nat) (L : List UInt8) (e : Ending) (w' : World) : Prop :=
  if ((Pu.nums L W (8 * n)).drop (C - xs.length)).all (· == 0) = true then e = .returned (.bool true) ∧ RSt w' R lb B D W C (a + n * W) (xs ++ (Pu.nums L W (8 * n)).take (C - xs.length))
  else e = .returned (.bool false)

set_option maxHeartbeats 1000000 in
set_option maxRecDepth 100000 in
theorem eights_any (R lb B : Nat) (D : List UInt8) (W C a n : Nat) (xs : List Nat) (w : World) (h : RSt w R lb B D W C a xs) (hBs : B ≤ w.heap.size) (hW : W ≤ 24) (hC : C ≤ 100000) (hx : xs.length < C) (hn : n ≤ 2147483648) (hok : ¬ C - xs.length ≤ 8 * n - 8) (hn1 : 1 ≤ n) (hs : ¬ D.length < a + n * W) :
    Calls Tryz.prog 114 #[.pointer (some ⟨R, 0, none⟩), .int .i64 n] w fun e w' => E8 R lb B D W C a n xs (Pu.piece D a (n * W)) e w' ∧ Below B w w' := by
  obtain ⟨ao, cap, v, hb, ha, hr, ho, hv, hlb, hB⟩ := h
  have HS : Hid _ := RSt.skip (n := n * W) hb (by omega) hr ho hv hlb hB
  obtain ⟨ao3, cap3, rfl⟩ := slen_of ho
  have M2 : Hid _ := hb.c2
  have M3 : Hid _ := hb.c3
  have c1 := hb.c1
  have C0 : Hid _ := hb.c0
  have F0 : Hid _ := hb.fz 0
  have Hcap : Hid (D.length - a ≤ cap ∧ cap ≤ maxLen) := by have := hr.1; have := hr.2.1; rw [List.length_drop] at *; exact ⟨by omega, by omega⟩
  have hpb : n * W ≤ 2147483648 * 24 := Nat.mul_le_mul hn hW
  have hrP := hr.take (n * W) (by rw [List.length_drop]; omega)
  have HrP : Hid (Rest w lb ao (n * W) (Pu.piece D a (n * W))) := hrP
  have HLl : Hid ((Pu.piece D a (n * W)).length = n * W) := Pu.length_piece D a (n * W) (by omega)
  clear hrP hr
  generalize Pu.piece D a (n * W) = L at *
  obtain ⟨p, hp⟩ : ∃ p, p = n * W := ⟨_, rfl⟩
  have Hp : Hid (p = n * W) := hp
  rw [← hp] at hs hpb HS
  have HLl2 : Hid (L.length = p) := by rw [Hid, hp]; exact HLl.out
  have HrP2 : Hid (Rest w lb ao p L) := by rw [Hid, hp]; exact HrP.out
  have EP : Hid (IntKind.i64.wrap ((n : Int) * (W : Int)) = (p : Int)) := by
    rw [Hid, ← Int.natCast_mul, ← hp]; exact IntWalk.i64_in _ (by omega)
  clear hp HLl HrP
  have hbel : Below B w (w.setCell ⟨R, 0, none⟩ (.slice (cutA ao cap p) (D.length - a - p) (cap - p))) := (Below.refl _ _).setCell hB _
  obtain ⟨M, hM⟩ : ∃ M, M = C - xs.length := ⟨_, rfl⟩
  have HM : Hid (M = C - xs.length) := hM
  have HE : Hid (∀ (b : Bool) (w' : World), ((Pu.nums L W (8 * n)).drop M).all (· == 0) = b → (b = true → RSt w' R lb B D W C (a + p) (xs ++ (Pu.nums L W (8 * n)).take M)) → E8 R lb B D W C a n xs L (.returned (.bool b)) w') := by
    intro b w' h1 h2
    unfold E8
    rw [← hM, h1, ← Hp.out]
    cases b
    · simp
    · simp only [if_true]; exact ⟨trivial, h2 rfl⟩
  have hM2 : xs.length + M = C := by omega
  rw [← hM] at hok
  have hM3 : (C - xs.length : Nat) = M := hM.symm
  clear hM
  go_enter Tryz.func114, Tryz.ntmps114
  go_wp2_with fail
  refine (missing_any R C ao3 xs.length cap3 _ (by exact M2.out) (by exact M3.out) hC (by omega)).mono ?_
  rw [hM3]
  clear hM3
  rintro e w' ⟨rfl, q, rfl⟩
  go_wp2
  go_region_with (go_at_call 75; rw [EP.out]; refine (take_yes R 0 p ao (D.length - a) cap _ (by exact C0.out) (by exact F0.out) (by omega) Hcap.out.1 Hcap.out.2).mono ?_; rintro e w' ⟨rfl, rfl⟩)
  go_wp2
  go_loopw [34] (fun i wr => ∃ k : Nat, k ≤ 8 * n ∧ i = .int .i64 k ∧ RSt wr R lb B D W C (a + p) (xs ++ (Pu.nums L W k).take M) ∧ Hid (((Pu.nums L W k).drop M).all (· == 0) = true) ∧ Below B w wr)
    (fun i _ => 8 * n - (intOf i).toNat)
  case atStart => exact ⟨0, Nat.zero_le _, rfl, by rw [show (Pu.nums L W 0).take M = [] from by simp [Pu.nums], List.append_nil]; exact HS.out, by simp [Hid, Pu.nums], below_drewN hbel _⟩
  case round =>
    obtain ⟨k, hk, rfl, hS, Hz, hbel2⟩ := hrel
    by_cases hk2 : k < 8 * n
    · obtain ⟨z, hz⟩ : ∃ z, z = k * W := ⟨_, rfl⟩
      have Hzz : Hid (z = k * W) := hz
      have hz2 : (k : Int) * (W : Int) = (z : Int) := by rw [hz]; simp
      have hz4 : z + W ≤ 8 * p := by rw [hz, Hp.out, ← Nat.mul_assoc, ← Nat.succ_mul]; exact Nat.mul_le_mul_right _ hk2
      clear hz
      have hkd : decide ((k : Int) < 8 * (n : Int)) = true := by simp; omega
      obtain ⟨ao2, cap2, v2, hb2, ha2, hr2, ho2, hv2, _, _⟩ := hS
      obtain ⟨ao4, cap4, rfl⟩ := slen_of ho2
      have hRw : Rest wr lb ao p L := HrP2.out.kept (hbel2.block lb hlb)
      have HRw : Hid (Rest wr lb ao L.length L) := by rw [Hid, HLl2.out]; exact hRw
      clear hRw
      have d1 := hb2.c1
      have c3 := hb2.c3
      obtain ⟨y, hy⟩ : ∃ y, y = Pu.nAt L z W := ⟨_, rfl⟩
      have HNA : Hid (∀ m : Nat, Calls Tryz.prog 115 #[.slice ao p p, .int .i64 z, .int .i64 W] (wr.drewN m) fun e w' => e = .returned (.int .i64 y) ∧ w' = wr.drewN m) := by
        intro m
        rw [hy]
        have hh := numberAt_any L lb ao L.length z W (wr.drewN m) hW (by rw [HLl2.out]; exact hz4) (by rw [HLl2.out]; omega) HRw.out
        rw [HLl2.out] at hh
        exact hh
      have HY : Hid (y = Pu.nAt L (k * W) W) := by rw [Hid, hy, Hzz.out]
      have hyl : y ≤ 16777216 := by rw [hy]; exact Nat.le_of_lt (Nat.lt_of_lt_of_le (Pu.nAt_lt _ _ _) (Nat.le_trans (Nat.pow_le_pow_right (by omega) hW) (by decide)))
      clear hy HRw
      have hll : (xs ++ (Pu.nums L W k).take M).length = xs.length + min k M := by simp [Pu.length_nums, Nat.min_comm]
      have Hll : Hid ((xs ++ (Pu.nums L W k).take M).length = xs.length + min k M) := hll
      rw [hll] at c3 ho2 hb2
      have Hr2 : Hid _ := hr2
      clear hll hr2
      by_cases hkM : k < M
      · have hkMd : decide (k < M) = true := by simp; exact hkM
        have hmin : min k M = k := Nat.min_eq_left (by omega)
        rw [hmin] at c3 ho2 hb2
        have Hmin : Hid (min k M = k) := hmin
        clear hmin
        obtain ⟨i0, hi, hz0, hz1, hz2'⟩ := info_parts Tryz.info3
        go_wp2
        go_quiet ((go_at_call 115; exact Calls.quiet_of_same (HNA.out _)))
        go_wp2_with (first
          | (at_builtin; refine wpList_append_own _ rfl _ _ 27 rfl B 3 i0 (.int .i64 0) 1 8 Tryz.underlying27 hi hz0 hz1 hz2' rfl (by decide) _ _ _ rfl ((ownsRow_drewN ho2 nq).alloc _) ⟨_, 0, none⟩ 1 1 [.int .i64 y] rfl rfl ?c1 ?c2 ?c3 ?c4 ?c5 ?_)
          | go_in)
        case c1 => exact one_new rfl
        case c2 => exact one_cell
        case c3 => unfold maxLen; omega
        case c4 => omega
        case c5 => rw [size_alloc']; have := hbel2.size; show B ≤ wr.heap.size + 1; omega
        intro v' w1 ho3 hg hnn
        clear hnn
        obtain ⟨ao5, cap5, hv5⟩ := slen_of ho3
        rw [hv5] at ho3 ⊢
        clear hv5 v'
        have hlk : (xs ++ (Pu.nums L W k).take M).length = xs.length + k := by rw [Hll.out, Hmin.out]
        rw [← hlk] at ho3 ho2 hb2 hg
        have hp := RSt.push (w := wr.drewN nq) hb2 ha2 Hr2.out ho2 hlb hB hg ho3
        rw [List.append_assoc, HY.out, ← gath_lt _ _ _ _ hkM, hlk] at hp
        have hbel3 : Below B w (w1.setCell ⟨R, 3, none⟩ (.slice ao5 (xs.length + k + 1) cap5)) := below_push (w := wr.drewN nq) (below_drewN hbel2 nq) (by have := hbel2.size; show B ≤ wr.heap.size; omega) hB (ownsRow_drewN ho2 nq) hg
        have c3' := hp.1.c3
        have f3' := hp.1.fz 3
        have HP : Hid _ := hp.2
        clear hp hg ho2 ho3 hb2 hbel2 c3 Hr2 ha2 hlk
        go_wp2
        go_roundw
        case rel => exact ⟨k + 1, by omega, by go_num, HP.out, zero_lt _ _ _ _ hkM, hbel3⟩
        case measure => simp [intOf]; omega
      · have hkMd : decide (k < M) = false := by simp; omega
        have hS2 : Hid (RSt wr R lb B D W C (a + p) (xs ++ (Pu.nums L W k).take M)) := ⟨ao2, cap2, _, by rw [← Hll.out] at hb2; exact hb2, ha2, Hr2.out, by rw [← Hll.out] at ho2; rw [Hll.out] at ho2 ⊢; exact ho2, hv2, hlb, hB⟩
        by_cases hy0 : y = 0
        · subst hy0
          go_wp2
          go_quiet ((go_at_call 115; exact Calls.quiet_of_same (HNA.out _)))
          go_wp2
          go_roundw
          case rel => exact ⟨k + 1, by omega, by go_num, by rw [gath_ge _ _ _ _ (by omega)]; exact hS2.out, by rw [Hid, zero_ge _ _ _ _ (by omega), Hz.out, ← HY.out]; rfl, below_drewN hbel2 _⟩
          case measure => simp [intOf]; omega
        · go_wp2
          go_quiet ((go_at_call 115; exact Calls.quiet_of_same (HNA.out _)))
          go_wp2
          go_ret
          exact ⟨HE.out false _ (zero_no (i := k) (by omega) hk2 (by rw [← HY.out]; exact hy0)) (fun h => by cases h), below_drewN hbel2 _⟩
    · obtain rfl : k = 8 * n := by omega
      go_wp2
      go_ret
      exact ⟨HE.out true _ Hz.out (fun _ => hS), hbel2⟩
end Go.Proofs.YtjobhlncllfdmaaGreat

/- Contract of run. -/
namespace Go.Proofs.YtjobhlncllfdmaaGreat
open Go.RowKit

/-- what run answers -/
def StepAns (R lb B : Nat) (D : List UInt8) (W C : Nat) (s : Option (Nat × List Nat)) (e : Ending) (w' : World) : Prop :=
  match s with
  | none => e = .returned (.bool false)
  | some (a', o) => e = .returned (.bool true) ∧ RSt w' R lb B D W C a' o

theorem and1u (h : Nat) (hh : h < 4294967296) : bits .and .u32 (h : Int) 1 = ((h % 2 : Nat) : Int) := by
  have := u32_and_nat h 1 hh (by omega)
  rw [Nat.and_two_pow_sub_one_eq_mod h 1] at this
  exact this

set_option maxHeartbeats 1000000 in
set_option maxRecDepth 100000 in
theorem run_any (R lb B : Nat) (D : List UInt8) (W C a : Nat) (xs : List Nat) (w : World) (h : RSt w R lb B D W C a xs) (hBs : B ≤ w.heap.size) (hW : W ≤ 24) (hC : C ≤ 100000) (hx : xs.length < C) :
    Calls Tryz.prog 111 #[.pointer (some ⟨R, 0, none⟩)] w fun e w' => StepAns R lb B D W C (Pu.step D W C a xs) e w' ∧ Below B w w' := by
  obtain ⟨ao, cap, v, hb, ha, hr, ho, hv, hlb, hB⟩ := h
  have V : Hid (Calls Tryz.prog 89 #[.pointer (some ⟨R, 0, none⟩)] w fun e w' => VAns D a R 0 ao (D.length - a) cap w e w') := varintP_any D a R 0 lb ao cap w ha hr hb.c0 (hb.fz 0)
  cases hvi : Pu.vi D a with
  | none =>
    have Hst : Hid (Pu.step D W C a xs = none) := step_vi hvi
    unfold VAns at V
    rw [hvi] at V
    clear hvi hr ho
    go_enter Tryz.func111, Tryz.ntmps111
    go_wp2_with fail
    refine V.out.mono ?_
    rintro e w' ⟨rfl, rfl⟩
    go_wp2
    go_ret
    exact ⟨by rw [Hst.out]; rfl, Below.refl _ _⟩
  | some pr =>
    obtain ⟨h, nx⟩ := pr
    have Hvi : Hid (Pu.vi D a = some (h, nx)) := hvi
    have hvl := Pu.vi_lt hvi
    obtain ⟨hv1, hv2, hv3⟩ := hvl
    unfold VAns at V
    rw [hvi] at V
    have hS := RSt.skip (n := nx - a) hb (by omega) hr ho hv hlb hB
    rw [show a + (nx - a) = nx by omega] at hS
    have hbel : Below B w (w.setCell ⟨R, 0, none⟩ (.slice (cutA ao cap (nx - a)) (D.length - a - (nx - a)) (cap - (nx - a)))) := (Below.refl _ _).setCell hB _
    clear hvi hr ho hb
    obtain ⟨w1, hw1⟩ : ∃ w1, w1 = (w.setCell ⟨R, 0, none⟩ (.slice (cutA ao cap (nx - a)) (D.length - a - (nx - a)) (cap - (nx - a)))) := ⟨_, rfl⟩
    have V2 : Hid (Calls Tryz.prog 89 #[.pointer (some ⟨R, 0, none⟩)] w fun e w' => e = .returned (.tuple #[.int .u32 h, .bool true]) ∧ w' = w1) := by
      rw [hw1]; exact V.out
    rw [← hw1] at hS hbel
    clear V hw1
    have HS : Hid (RSt w1 R lb B D W C nx xs) := hS
    clear hS
    have hs1 : B ≤ w1.heap.size := Nat.le_trans hBs hbel.size
    by_cases h2 : h < 2
    · have Hst : Hid (Pu.step D W C a xs = none) := step_two Hvi.out h2
      have h0 : ((h : Int) / 2 == 0) = true := by simp; omega
      go_enter Tryz.func111, Tryz.ntmps111
      go_wp2_with fail
      refine V2.out.mono ?_
      rintro e w' ⟨rfl, rfl⟩
      go_wp2
      go_ret
      exact ⟨by rw [Hst.out]; rfl, hbel⟩
    · have h0 : ((h : Int) / 2 == 0) = false := by simp; omega
      obtain ⟨n, hn⟩ : ∃ n, n = h / 2 := ⟨_, rfl⟩
      have Hn : Hid (n = h / 2) := hn
      have hn2 : (h : Int) / 2 = (n : Int) := by omega
      have h0' : ((n : Int) == 0) = false := by simp; omega
      have hn3 : 1 ≤ n := by omega
      have hn4 : n ≤ 2147483648 := by omega
      clear hn h0
      by_cases hm : h % 2 = 0
      · have hand : (bits .and .u32 (h : Int) 1 == 0) = true := by rw [and1u h (by omega), hm]; rfl
        have Hm : Hid (h % 2 = 0) := hm
        clear hm
        have HE : Hid (Calls Tryz.prog 113 #[.pointer (some ⟨R, 0, none⟩), .int .i64 n] w1 fun e w' => StepAns R lb B D W C (Pu.step D W C a xs) e w' ∧ Below B w1 w') := by
          cases hl : Pu.lo D nx ((W + 7) / 8) with
          | none =>
            rw [step_lo Hvi.out h2 Hm.out hl]
            exact equal_no R lb B D W C nx n xs w1 HS.out hW hl
          | some x =>
            by_cases hb : 2 ^ W ≤ x ∨ C - xs.length < n
            · rw [step_eq_no Hvi.out h2 Hm.out hl (by rw [← Hn.out]; exact hb)]
              exact equal_bad R lb B D W C nx n x xs w1 HS.out hW hC (by omega) hl hn4 hb
            · rw [step_eq Hvi.out h2 Hm.out hl (by rw [← Hn.out]; exact hb), ← Hn.out]
              refine (equal_yes R lb B D W C nx n x xs w1 HS.out hs1 hW hC (by omega) hl hn4 hb).mono ?_
              rintro e w' ⟨h1, h2, h3⟩
              exact ⟨⟨h1, h2⟩, h3⟩
        clear HS
        have HE2 : Hid (Calls Tryz.prog 113 #[.pointer (some ⟨R, 0, none⟩), .int .i64 n] w1 fun e w' => ∃ b : Bool, e = .returned (.bool b) ∧ StepAns R lb B D W C (Pu.step D W C a xs) (.returned (.bool b)) w' ∧ Below B w1 w') := by
          refine HE.out.mono ?_
          rintro e w' ⟨h1, h3⟩
          have : ∃ b : Bool, e = .returned (.bool b) := by
            unfold StepAns at h1
            split at h1
            · exact ⟨false, h1⟩
            · exact ⟨true, h1.1⟩
          obtain ⟨b, rfl⟩ := this
          exact ⟨b, rfl, h1, h3⟩
        clear HE
        go_enter Tryz.func111, Tryz.ntmps111
        go_wp2_with fail
        refine V2.out.mono ?_
        rintro e w' ⟨rfl, rfl⟩
        go_wp2_with fail
        refine HE2.out.mono ?_
        rintro e w2 ⟨b, rfl, h1, h3⟩
        go_wp2
        go_ret
        exact ⟨h1, hbel.trans h3⟩
      · have hand : (bits .and .u32 (h : Int) 1 == 0) = false := by rw [and1u h (by omega), show h % 2 = 1 by omega]; rfl
        have Hm : Hid (¬ h % 2 = 0) := hm
        clear hm
        have HE : Hid (Calls Tryz.prog 114 #[.pointer (some ⟨R, 0, none⟩), .int .i64 n] w1 fun e w' => StepAns R lb B D W C (Pu.step D W C a xs) e w' ∧ Below B w1 w') := by
          by_cases h8 : C - xs.length ≤ 8 * n - 8
          · rw [step_8_no Hvi.out h2 Hm.out (Or.inl (by rw [← Hn.out]; exact h8))]
            exact eights_many R lb B D W C nx n xs w1 HS.out hC hx hn4 h8 hn3
          · by_cases hs : D.length < nx + n * W
            · rw [step_8_no Hvi.out h2 Hm.out (Or.inr (by rw [← Hn.out]; exact hs))]
              exact eights_short R lb B D W C nx n xs w1 HS.out hW hC hx hn4 h8 hn3 hs
            · rw [step_8 Hvi.out h2 Hm.out (by rw [← Hn.out]; omega), ← Hn.out]
              refine (eights_any R lb B D W C nx n xs w1 HS.out hs1 hW hC hx hn4 h8 hn3 hs).mono ?_
              rintro e w' ⟨h1, h3⟩
              refine ⟨?_, h3⟩
              unfold E8 at h1
              split at h1
              · rename_i hz; rw [if_pos hz]; exact h1
              · rename_i hz; rw [if_neg hz]; exact h1
        clear HS
        have HE2 : Hid (Calls Tryz.prog 114 #[.pointer (some ⟨R, 0, none⟩), .int .i64 n] w1 fun e w' => ∃ b : Bool, e = .returned (.bool b) ∧ StepAns R lb B D W C (Pu.step D W C a xs) (.returned (.bool b)) w' ∧ Below B w1 w') := by
          refine HE.out.mono ?_
          rintro e w' ⟨h1, h3⟩
          have : ∃ b : Bool, e = .returned (.bool b) := by
            unfold StepAns at h1
            split at h1
            · exact ⟨false, h1⟩
            · exact ⟨true, h1.1⟩
          obtain ⟨b, rfl⟩ := this
          exact ⟨b, rfl, h1, h3⟩
        clear HE
        go_enter Tryz.func111, Tryz.ntmps111
        go_wp2_with fail
        refine V2.out.mono ?_
        rintro e w' ⟨rfl, rfl⟩
        go_wp2_with fail
        refine HE2.out.mono ?_
        rintro e w2 ⟨b, rfl, h1, h3⟩
        go_wp2
        go_ret
        exact ⟨h1, hbel.trans h3⟩

end Go.Proofs.YtjobhlncllfdmaaGreat

/- The program's unpacker: element. -/
namespace Go.Proofs.YtjobhlncllfdmaaGreat
open Go.RowKit

theorem and3u (h : Nat) (hh : h < 4294967296) : bits .and .u32 (h : Int) 3 = ((h % 4 : Nat) : Int) := by
  have := u32_and_nat h 3 hh (by omega)
  rw [Nat.and_two_pow_sub_one_eq_mod h 2] at this
  exact this

theorem le_oneD (D : List UInt8) (a : Nat) (h : a < D.length) : Pu.le ((D.drop a).take 1) = Pu.byteAt D a := by
  rw [List.drop_eq_getElem_cons h, List.take_succ_cons, List.take_zero]
  simp only [Pu.le, Pu.byteAt, List.getD_eq_getElem?_getD, List.getElem?_eq_getElem h, Option.getD_some]
  omega

theorem lo_le {D : List UInt8} {a k : Nat} (h : a + k ≤ D.length) : Pu.lo D a k = some (Pu.le ((D.drop a).take k)) := by unfold Pu.lo; rw [if_pos h]; rfl
theorem le_small {L : List UInt8} {k : Nat} (hk : k ≤ 4) : Pu.le (L.take k) ≤ 4294967295 := by
  have := Pu.le_lt (L.take k)
  have h4 : 256 ^ (L.take k).length ≤ 256 ^ 4 := Nat.pow_le_pow_right (by omega) (by rw [List.length_take]; omega)
  have : (256 : Nat) ^ 4 = 4294967296 := by decide
  omega

/-- the next bytes, or none: a step of the unpacker's own reader -/
theorem unumber (R lb B : Nat) (D : List UInt8) (n a k : Nat) (o : List UInt8) (w : World) (h : USt w R lb B D n a o) (hk : k ≤ 4) :
    (D.length < a + k ∧ ∀ q : Nat, Calls Tryz.prog 59 #[.pointer (some ⟨R, 0, none⟩), .int .i64 (k : Int)] (w.drewN q) fun e w' => e = .returned (.tuple #[.int .u32 0, .bool false]) ∧ w' = w.drewN q) ∨
    (a + k ≤ D.length ∧ ∃ w1, (∀ q : Nat, Calls Tryz.prog 59 #[.pointer (some ⟨R, 0, none⟩), .int .i64 (k : Int)] (w.drewN q) fun e w' => e = .returned (.tuple #[.int .u32 ((Pu.le ((D.drop a).take k) : Nat) : Int), .bool true]) ∧ w' = w1.drewN q) ∧ USt w1 R lb B D n (a + k) o ∧ Below B w w1) := by
  obtain ⟨ao, cap, v, hb, ha, hr, hown, hlb, hB⟩ := h
  have hlen : (D.drop a).length = D.length - a := List.length_drop
  have hc0 : w.cell? ⟨R, 0, none⟩ = some (.slice ao (D.drop a).length cap) := by rw [hlen]; exact hb.c0
  by_cases hfit : D.length < a + k
  · exact .inl ⟨hfit, fun q => number_no R 0 k lb ao cap (D.drop a) (w.drewN q) hr hc0 hk (by rw [hlen]; omega)⟩
  · refine .inr ⟨by omega, _, fun q => ?_, USt.skip (k := k) hb (by omega) hr hown hlb hB, (Below.refl B w).setCell hB _⟩
    have := number_yes R 0 k lb ao cap (D.drop a) (w.drewN q) hr hc0 (hb.fz 0) (by omega) hk (by rw [hlen]; omega)
    rw [hlen] at this
    exact this

theorem uans_bool {R lb B : Nat} {D : List UInt8} {n : Nat} {r : Option (Nat × List UInt8)} {e : Ending} {w' : World} (h : UAns R lb B D n r e w') : ∃ b : Bool, e = .returned (.bool b) := by
  unfold UAns at h
  split at h
  · exact ⟨false, h⟩
  · exact ⟨true, h.1⟩

section
variable (R lb B : Nat) (D : List UInt8) (n a : Nat) (o : List UInt8) (w : World)
set_option maxHeartbeats 4000000
set_option maxRecDepth 100000

theorem or8u (m x : Nat) (hm : m ≤ 7) (hx : x < 256) : bits .or .u32 ((m : Int) * 256) (x : Int) = ((256 * m + x : Nat) : Int) := or8' m x (by omega) hx

theorem element_any (h : USt w R lb B D n a o) (hBs : B ≤ w.heap.size) (hn : n ≤ 1048576) (ho : o.length ≤ n) (hlt : a < D.length) :
    Calls Tryz.prog 102 #[.pointer (some ⟨R, 0, none⟩)] w fun e w' => UAns R lb B D n (Pu.el D n a o) e w' ∧ Below B w w' := by
  have hU := unumber R lb B D n a 1 o w h (by omega)
  rcases hU with ⟨hbad, _⟩ | ⟨_, w1, hN, hS1, hb1⟩
  · omega
  · obtain ⟨b, hb⟩ : ∃ b, b = Pu.byteAt D a := ⟨_, rfl⟩
    have HB : Hid (b = Pu.byteAt D a) := hb
    have hbl : b < 256 := by rw [hb]; exact Pu.byteAt_lt _ _
    have N1 : Hid (Calls Tryz.prog 59 #[.pointer (some ⟨R, 0, none⟩), .int .i64 1] w fun e w' => e = .returned (.tuple #[.int .u32 (b : Int), .bool true]) ∧ w' = w1) := by
      have := hN 0
      rw [le_oneD D a hlt, ← hb] at this
      exact this
    clear hN hb h
    obtain ⟨m, hm⟩ : ∃ m, m = b / 4 := ⟨_, rfl⟩
    have Hm : Hid (m = b / 4) := hm
    have hm4 : (b : Int) / 4 = (m : Int) := by omega
    have hm63 : m ≤ 63 := by omega
    clear hm
    have hBs1 : B ≤ w1.heap.size := Nat.le_trans hBs hb1.size
    have hand : bits .and .u32 (b : Int) 3 = ((b % 4 : Nat) : Int) := and3u b (by omega)
    have hcase : b % 4 = 0 ∨ b % 4 = 1 ∨ b % 4 = 2 ∨ b % 4 = 3 := by omega
    rcases hcase with hk | hk | hk | hk
    · rw [hk] at hand
      have LT : Hid (Calls Tryz.prog 106 #[.pointer (some ⟨R, 0, none⟩), .int .i64 m] w1 fun e w' => ∃ r : Bool, e = .returned (.bool r) ∧ UAns R lb B D n (Pu.el D n a o) (.returned (.bool r)) w' ∧ Below B w1 w') := by
        refine (literal_any R lb B D n (a + 1) m o w1 hS1 hBs1 hm63 hn ho).mono ?_
        rintro e w' ⟨h1, h2⟩
        obtain ⟨r, rfl⟩ := uans_bool h1
        refine ⟨r, rfl, ?_, h2⟩
        have hmo : Pu.mo b = lm m := by unfold Pu.mo lm; rw [if_pos hk, ← Hm.out]
        unfold Pu.el
        rw [← HB.out, hmo]
        cases hlo : Pu.lo D (a + 1) (lm m) with
        | none => rw [hlo] at h1; exact h1
        | some x => rw [hlo] at h1; simp only [hk, if_true, ← Hm.out]; exact h1
      clear hk hS1
      go_enter Tryz.func102, Tryz.ntmps102
      go_wp2_with fail
      refine N1.out.mono ?_
      rintro e w' ⟨rfl, hw'⟩
      subst w'
      go_wp2_with fail
      refine LT.out.mono ?_
      rintro e w2 ⟨r, rfl, h1, h2⟩
      have H1 : Hid (UAns R lb B D n (Pu.el D n a o) (.returned (.bool r)) w2) := h1
      clear h1
      go_wp2
      go_ret
      exact ⟨H1.out, hb1.trans h2⟩
    · rw [hk] at hand
      have HE : Hid (Pu.el D n a o = match Pu.lo D (a + 1) 1 with
        | none => none
        | some x => Pu.cp n (a + 2) (4 + m % 8) (256 * (m / 8) + x) o) := by
        unfold Hid Pu.el
        rw [← HB.out, mo_1 hk, ← Hm.out]
        cases Pu.lo D (a + 1) 1 with
        | none => rfl
        | some x => simp [hk]
      rcases unumber R lb B D n (a + 1) 1 o w1 hS1 (by omega) with ⟨hbad, hN2⟩ | ⟨hfit, w2, hN2, hS2, hb2⟩
      · have HX : Hid (Pu.el D n a o = none) := by rw [Hid, HE.out]; unfold Pu.lo; rw [if_neg (by omega)]
        have N2 : Hid (Calls Tryz.prog 59 #[.pointer (some ⟨R, 0, none⟩), .int .i64 1] w1 fun e w' => e = .returned (.tuple #[.int .u32 0, .bool false]) ∧ w' = w1) := hN2 0
        clear hk hS1 hN2
        go_enter Tryz.func102, Tryz.ntmps102
        go_wp2_with fail
        refine N1.out.mono ?_
        rintro e w' ⟨rfl, hw'⟩
        subst w'
        go_wp2_with fail
        refine N2.out.mono ?_
        rintro e w' ⟨rfl, hw'⟩
        subst w'
        go_wp2
        go_ret
        exact ⟨by rw [HX.out]; rfl, hb1⟩
      · obtain ⟨x, hx⟩ : ∃ x, x = Pu.le ((D.drop (a + 1)).take 1) := ⟨_, rfl⟩
        have hxl : x < 256 := by rw [hx, le_oneD _ _ (by omega)]; exact Pu.byteAt_lt _ _
        have N2 : Hid (Calls Tryz.prog 59 #[.pointer (some ⟨R, 0, none⟩), .int .i64 1] w1 fun e w' => e = .returned (.tuple #[.int .u32 (x : Int), .bool true]) ∧ w' = w2) := by rw [hx]; exact hN2 0
        have HX : Hid (Pu.el D n a o = Pu.cp n (a + 2) (4 + m % 8) (256 * (m / 8) + x) o) := by rw [Hid, HE.out, lo_le (by omega), hx]
        obtain ⟨m8, hm8⟩ : ∃ m8, m8 = m / 8 := ⟨_, rfl⟩
        obtain ⟨r8, hr8⟩ : ∃ r8, r8 = 4 + m % 8 := ⟨_, rfl⟩
        have e1 : (m : Int) / 8 = (m8 : Int) := by omega
        have e2 : (4 : Int) + (m : Int) % 8 = (r8 : Int) := by omega
        have l1 : m8 ≤ 7 := by omega
        have l2 : r8 ≤ 11 := by omega
        have hor : bits .or .u32 ((m8 : Int) * 256) (x : Int) = ((256 * m8 + x : Nat) : Int) := or8u m8 x l1 hxl
        rw [← hm8, ← hr8] at HX
        have CB : Hid (Calls Tryz.prog 107 #[.pointer (some ⟨R, 0, none⟩), .int .i64 (r8 : Int), .int .u32 ((256 * m8 + x : Nat) : Int)] w2 fun e w' => ∃ r : Bool, e = .returned (.bool r) ∧ UAns R lb B D n (Pu.el D n a o) (.returned (.bool r)) w' ∧ Below B w2 w') := by
          refine (copyBack_any R lb B D n (a + 2) r8 (256 * m8 + x) o w2 hS2 (Nat.le_trans hBs1 hb2.size) (by omega) (by omega) hn ho).mono ?_
          rintro e w' ⟨h1, h2⟩
          obtain ⟨r, rfl⟩ := uans_bool h1
          exact ⟨r, rfl, by rw [HX.out]; exact h1, h2⟩
        clear hk hS1 hS2 hN2 hm8 hr8 hx HE
        go_enter Tryz.func102, Tryz.ntmps102
        go_wp2_with fail
        refine N1.out.mono ?_
        rintro e w' ⟨rfl, hw'⟩
        subst w'
        go_wp2_with fail
        refine N2.out.mono ?_
        rintro e w' ⟨rfl, hw'⟩
        subst w'
        go_wp2_with fail
        refine CB.out.mono ?_
        rintro e w3 ⟨r, rfl, h1, h2⟩
        have H1 : Hid (UAns R lb B D n (Pu.el D n a o) (.returned (.bool r)) w3) := h1
        clear h1
        go_wp2
        go_ret
        exact ⟨H1.out, hb1.trans (hb2.trans h2)⟩
    · rw [hk] at hand
      have HE : Hid (Pu.el D n a o = match Pu.lo D (a + 1) 2 with
        | none => none
        | some x => Pu.cp n (a + 1 + 2) (m + 1) x o) := by
        unfold Hid Pu.el
        rw [← HB.out, mo_2 hk, ← Hm.out]
        cases Pu.lo D (a + 1) 2 with
        | none => rfl
        | some x => simp [hk]
      rcases unumber R lb B D n (a + 1) 2 o w1 hS1 (by omega) with ⟨hbad, hN2⟩ | ⟨hfit, w2, hN2, hS2, hb2⟩
      · have HX : Hid (Pu.el D n a o = none) := by rw [Hid, HE.out]; unfold Pu.lo; rw [if_neg (by omega)]
        have N2 : Hid (Calls Tryz.prog 59 #[.pointer (some ⟨R, 0, none⟩), .int .i64 2] w1 fun e w' => e = .returned (.tuple #[.int .u32 0, .bool false]) ∧ w' = w1) := hN2 0
        clear hk hS1 hN2
        go_enter Tryz.func102, Tryz.ntmps102
        go_wp2_with fail
        refine N1.out.mono ?_
        rintro e w' ⟨rfl, hw'⟩
        subst w'
        go_wp2_with fail
        refine N2.out.mono ?_
        rintro e w' ⟨rfl, hw'⟩
        subst w'
        go_wp2
        go_ret
        exact ⟨by rw [HX.out]; rfl, hb1⟩
      · obtain ⟨x, hx⟩ : ∃ x, x = Pu.le ((D.drop (a + 1)).take 2) := ⟨_, rfl⟩
        have hxl : x ≤ 4294967295 := by rw [hx]; exact le_small (by omega)
        have N2 : Hid (Calls Tryz.prog 59 #[.pointer (some ⟨R, 0, none⟩), .int .i64 2] w1 fun e w' => e = .returned (.tuple #[.int .u32 (x : Int), .bool true]) ∧ w' = w2) := by rw [hx]; exact hN2 0
        have HX : Hid (Pu.el D n a o = Pu.cp n (a + 1 + 2) (m + 1) x o) := by rw [Hid, HE.out, lo_le (by omega), hx]
        obtain ⟨r8, hr8⟩ : ∃ r8, r8 = m + 1 := ⟨_, rfl⟩
        have e2 : (m : Int) + 1 = (r8 : Int) := by omega
        have l2 : r8 ≤ 64 := by omega
        rw [← hr8] at HX
        have CB : Hid (Calls Tryz.prog 107 #[.pointer (some ⟨R, 0, none⟩), .int .i64 (r8 : Int), .int .u32 (x : Int)] w2 fun e w' => ∃ r : Bool, e = .returned (.bool r) ∧ UAns R lb B D n (Pu.el D n a o) (.returned (.bool r)) w' ∧ Below B w2 w') := by
          refine (copyBack_any R lb B D n (a + 1 + 2) r8 x o w2 hS2 (Nat.le_trans hBs1 hb2.size) (by omega) (by omega) hn ho).mono ?_
          rintro e w' ⟨h1, h2⟩
          obtain ⟨r, rfl⟩ := uans_bool h1
          exact ⟨r, rfl, by rw [HX.out]; exact h1, h2⟩
        clear hk hS1 hS2 hN2 hr8 hx HE
        go_enter Tryz.func102, Tryz.ntmps102
        go_wp2_with fail
        refine N1.out.mono ?_
        rintro e w' ⟨rfl, hw'⟩
        subst w'
        go_wp2_with fail
        refine N2.out.mono ?_
        rintro e w' ⟨rfl, hw'⟩
        subst w'
        go_wp2_with fail
        refine CB.out.mono ?_
        rintro e w3 ⟨r, rfl, h1, h2⟩
        have H1 : Hid (UAns R lb B D n (Pu.el D n a o) (.returned (.bool r)) w3) := h1
        clear h1
        go_wp2
        go_ret
        exact ⟨H1.out, hb1.trans (hb2.trans h2)⟩
    · rw [hk] at hand
      have HE : Hid (Pu.el D n a o = match Pu.lo D (a + 1) 4 with
        | none => none
        | some x => Pu.cp n (a + 1 + 4) (m + 1) x o) := by
        unfold Hid Pu.el
        rw [← HB.out, mo_3 hk, ← Hm.out]
        cases Pu.lo D (a + 1) 4 with
        | none => rfl
        | some x => simp [hk]
      rcases unumber R lb B D n (a + 1) 4 o w1 hS1 (by omega) with ⟨hbad, hN2⟩ | ⟨hfit, w2, hN2, hS2, hb2⟩
      · have HX : Hid (Pu.el D n a o = none) := by rw [Hid, HE.out]; unfold Pu.lo; rw [if_neg (by omega)]
        have N2 : Hid (Calls Tryz.prog 59 #[.pointer (some ⟨R, 0, none⟩), .int .i64 4] w1 fun e w' => e = .returned (.tuple #[.int .u32 0, .bool false]) ∧ w' = w1) := hN2 0
        clear hk hS1 hN2
        go_enter Tryz.func102, Tryz.ntmps102
        go_wp2_with fail
        refine N1.out.mono ?_
        rintro e w' ⟨rfl, hw'⟩
        subst w'
        go_wp2_with fail
        refine N2.out.mono ?_
        rintro e w' ⟨rfl, hw'⟩
        subst w'
        go_wp2
        go_ret
        exact ⟨by rw [HX.out]; rfl, hb1⟩
      · obtain ⟨x, hx⟩ : ∃ x, x = Pu.le ((D.drop (a + 1)).take 4) := ⟨_, rfl⟩
        have hxl : x ≤ 4294967295 := by rw [hx]; exact le_small (by omega)
        have N2 : Hid (Calls Tryz.prog 59 #[.pointer (some ⟨R, 0, none⟩), .int .i64 4] w1 fun e w' => e = .returned (.tuple #[.int .u32 (x : Int), .bool true]) ∧ w' = w2) := by rw [hx]; exact hN2 0
        have HX : Hid (Pu.el D n a o = Pu.cp n (a + 1 + 4) (m + 1) x o) := by rw [Hid, HE.out, lo_le (by omega), hx]
        obtain ⟨r8, hr8⟩ : ∃ r8, r8 = m + 1 := ⟨_, rfl⟩
        have e2 : (m : Int) + 1 = (r8 : Int) := by omega
        have l2 : r8 ≤ 64 := by omega
        rw [← hr8] at HX
        have CB : Hid (Calls Tryz.prog 107 #[.pointer (some ⟨R, 0, none⟩), .int .i64 (r8 : Int), .int .u32 (x : Int)] w2 fun e w' => ∃ r : Bool, e = .returned (.bool r) ∧ UAns R lb B D n (Pu.el D n a o) (.returned (.bool r)) w' ∧ Below B w2 w') := by
          refine (copyBack_any R lb B D n (a + 1 + 4) r8 x o w2 hS2 (Nat.le_trans hBs1 hb2.size) (by omega) (by omega) hn ho).mono ?_
          rintro e w' ⟨h1, h2⟩
          obtain ⟨r, rfl⟩ := uans_bool h1
          exact ⟨r, rfl, by rw [HX.out]; exact h1, h2⟩
        clear hk hS1 hS2 hN2 hr8 hx HE
        go_enter Tryz.func102, Tryz.ntmps102
        go_wp2_with fail
        refine N1.out.mono ?_
        rintro e w' ⟨rfl, hw'⟩
        subst w'
        go_wp2_with fail
        refine N2.out.mono ?_
        rintro e w' ⟨rfl, hw'⟩
        subst w'
        go_wp2_with fail
        refine CB.out.mono ?_
        rintro e w3 ⟨r, rfl, h1, h2⟩
        have H1 : Hid (UAns R lb B D n (Pu.el D n a o) (.returned (.bool r)) w3) := h1
        clear h1
        go_wp2
        go_ret
        exact ⟨H1.out, hb1.trans (hb2.trans h2)⟩
end
end Go.Proofs.YtjobhlncllfdmaaGreat
