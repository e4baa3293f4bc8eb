/- Contract of eights, its loop. -/
import Derived.Test.YtjobhlncllfdmaaProF
namespace Go.Proofs.Ytjobhlncllfdmaa
open Go.RowKit

/-- what eights answers -/
def E8 (R lb B : Nat) (D : List UInt8) (W C a n : Nat) (xs : List Nat) (L : List UInt8) (e : Ending) (w' : World) : Prop :=
  if ((Pu.nums L W (8 * n)).drop (C - xs.length)).all (· == 0) = true then e = .returned (.bool true) ∧ RSt w' R lb B D W C (a + n * W) (xs ++ (Pu.nums L W (8 * n)).take (C - xs.length))
  else e = .returned (.bool false)

set_option maxHeartbeats 1000000 in
set_option maxRecDepth 100000 in
theorem eights_any (R lb B : Nat) (D : List UInt8) (W C a n : Nat) (xs : List Nat) (w : World) (h : RSt w R lb B D W C a xs) (hBs : B ≤ w.heap.size) (hW : W ≤ 24) (hC : C ≤ 100000) (hx : xs.length < C) (hn : n ≤ 2147483648) (hok : ¬ C - xs.length ≤ 8 * n - 8) (hn1 : 1 ≤ n) (hs : ¬ D.length < a + n * W) :
    Calls Try.prog 64 #[.pointer (some ⟨R, 0, none⟩), .int .i64 n] w fun e w' => E8 R lb B D W C a n xs (Pu.piece D a (n * W)) e w' ∧ Below B w w' := by
  obtain ⟨ao, cap, v, hb, ha, hr, ho, hv, hlb, hB⟩ := h
  have HS : Hid _ := RSt.skip (n := n * W) hb (by omega) hr ho hv hlb hB
  obtain ⟨ao3, cap3, rfl⟩ := slen_of ho
  have M2 : Hid _ := hb.c2
  have M3 : Hid _ := hb.c3
  have c1 := hb.c1
  have C0 : Hid _ := hb.c0
  have F0 : Hid _ := hb.fz 0
  have Hcap : Hid (D.length - a ≤ cap ∧ cap ≤ maxLen) := by have := hr.1; have := hr.2.1; rw [List.length_drop] at *; exact ⟨by omega, by omega⟩
  have hpb : n * W ≤ 2147483648 * 24 := Nat.mul_le_mul hn hW
  have hrP := hr.take (n * W) (by rw [List.length_drop]; omega)
  have HrP : Hid (Rest w lb ao (n * W) (Pu.piece D a (n * W))) := hrP
  have HLl : Hid ((Pu.piece D a (n * W)).length = n * W) := Pu.length_piece D a (n * W) (by omega)
  clear hrP hr
  generalize Pu.piece D a (n * W) = L at *
  obtain ⟨p, hp⟩ : ∃ p, p = n * W := ⟨_, rfl⟩
  have Hp : Hid (p = n * W) := hp
  rw [← hp] at hs hpb HS
  have HLl2 : Hid (L.length = p) := by rw [Hid, hp]; exact HLl.out
  have HrP2 : Hid (Rest w lb ao p L) := by rw [Hid, hp]; exact HrP.out
  have EP : Hid (IntKind.i64.wrap ((n : Int) * (W : Int)) = (p : Int)) := by
    rw [Hid, ← Int.natCast_mul, ← hp]; exact IntWalk.i64_in _ (by omega)
  clear hp HLl HrP
  have hbel : Below B w (w.setCell ⟨R, 0, none⟩ (.slice (cutA ao cap p) (D.length - a - p) (cap - p))) := (Below.refl _ _).setCell hB _
  obtain ⟨M, hM⟩ : ∃ M, M = C - xs.length := ⟨_, rfl⟩
  have HM : Hid (M = C - xs.length) := hM
  have HE : Hid (∀ (b : Bool) (w' : World), ((Pu.nums L W (8 * n)).drop M).all (· == 0) = b → (b = true → RSt w' R lb B D W C (a + p) (xs ++ (Pu.nums L W (8 * n)).take M)) → E8 R lb B D W C a n xs L (.returned (.bool b)) w') := by
    intro b w' h1 h2
    unfold E8
    rw [← hM, h1, ← Hp.out]
    cases b
    · simp
    · simp only [if_true]; exact ⟨trivial, h2 rfl⟩
  have hM2 : xs.length + M = C := by omega
  rw [← hM] at hok
  have hM3 : (C - xs.length : Nat) = M := hM.symm
  clear hM
  go_enter Try.func64, Try.ntmps64
  go_wp2_with fail
  refine (missing_any R C ao3 xs.length cap3 _ (by exact M2.out) (by exact M3.out) hC (by omega)).mono ?_
  rw [hM3]
  clear hM3
  rintro e w' ⟨rfl, q, rfl⟩
  go_wp2
  go_region_with (go_at_call 79; rw [EP.out]; refine (take_yes R 0 p ao (D.length - a) cap _ (by exact C0.out) (by exact F0.out) (by omega) Hcap.out.1 Hcap.out.2).mono ?_; rintro e w' ⟨rfl, rfl⟩)
  go_wp2
  go_loopw [34] (fun i wr => ∃ k : Nat, k ≤ 8 * n ∧ i = .int .i64 k ∧ RSt wr R lb B D W C (a + p) (xs ++ (Pu.nums L W k).take M) ∧ Hid (((Pu.nums L W k).drop M).all (· == 0) = true) ∧ Below B w wr)
    (fun i _ => 8 * n - (intOf i).toNat)
  case atStart => exact ⟨0, Nat.zero_le _, rfl, by rw [show (Pu.nums L W 0).take M = [] from by simp [Pu.nums], List.append_nil]; exact HS.out, by simp [Hid, Pu.nums], below_drewN hbel _⟩
  case round =>
    obtain ⟨k, hk, rfl, hS, Hz, hbel2⟩ := hrel
    by_cases hk2 : k < 8 * n
    · obtain ⟨z, hz⟩ : ∃ z, z = k * W := ⟨_, rfl⟩
      have Hzz : Hid (z = k * W) := hz
      have hz2 : (k : Int) * (W : Int) = (z : Int) := by rw [hz]; simp
      have hz4 : z + W ≤ 8 * p := by rw [hz, Hp.out, ← Nat.mul_assoc, ← Nat.succ_mul]; exact Nat.mul_le_mul_right _ hk2
      clear hz
      have hkd : decide ((k : Int) < 8 * (n : Int)) = true := by simp; omega
      obtain ⟨ao2, cap2, v2, hb2, ha2, hr2, ho2, hv2, _, _⟩ := hS
      obtain ⟨ao4, cap4, rfl⟩ := slen_of ho2
      have hRw : Rest wr lb ao p L := HrP2.out.kept (hbel2.block lb hlb)
      have HRw : Hid (Rest wr lb ao L.length L) := by rw [Hid, HLl2.out]; exact hRw
      clear hRw
      have d1 := hb2.c1
      have c3 := hb2.c3
      obtain ⟨y, hy⟩ : ∃ y, y = Pu.nAt L z W := ⟨_, rfl⟩
      have HNA : Hid (∀ m : Nat, Calls Try.prog 80 #[.slice ao p p, .int .i64 z, .int .i64 W] (wr.drewN m) fun e w' => e = .returned (.int .i64 y) ∧ w' = wr.drewN m) := by
        intro m
        rw [hy]
        have hh := numberAt_any L lb ao L.length z W (wr.drewN m) hW (by rw [HLl2.out]; exact hz4) (by rw [HLl2.out]; omega) HRw.out
        rw [HLl2.out] at hh
        exact hh
      have HY : Hid (y = Pu.nAt L (k * W) W) := by rw [Hid, hy, Hzz.out]
      have hyl : y ≤ 16777216 := by rw [hy]; exact Nat.le_of_lt (Nat.lt_of_lt_of_le (Pu.nAt_lt _ _ _) (Nat.le_trans (Nat.pow_le_pow_right (by omega) hW) (by decide)))
      clear hy HRw
      have hll : (xs ++ (Pu.nums L W k).take M).length = xs.length + min k M := by simp [Pu.length_nums, Nat.min_comm]
      have Hll : Hid ((xs ++ (Pu.nums L W k).take M).length = xs.length + min k M) := hll
      rw [hll] at c3 ho2 hb2
      have Hr2 : Hid _ := hr2
      clear hll hr2
      by_cases hkM : k < M
      · have hkMd : decide (k < M) = true := by simp; exact hkM
        have hmin : min k M = k := Nat.min_eq_left (by omega)
        rw [hmin] at c3 ho2 hb2
        have Hmin : Hid (min k M = k) := hmin
        clear hmin
        obtain ⟨i0, hi, hz0, hz1, hz2'⟩ := info_parts Try.info3
        go_wp2
        go_quiet ((go_at_call 80; exact Calls.quiet_of_same (HNA.out _)))
        go_wp2_with (first
          | (at_builtin; refine wpList_append_own _ rfl _ _ 26 rfl B 3 i0 (.int .i64 0) 1 8 Try.underlying26 hi hz0 hz1 hz2' rfl (by decide) _ _ _ rfl ((ownsRow_drewN ho2 nq).alloc _) ⟨_, 0, none⟩ 1 1 [.int .i64 y] rfl rfl ?c1 ?c2 ?c3 ?c4 ?c5 ?_)
          | go_in)
        case c1 => exact one_new rfl
        case c2 => exact one_cell
        case c3 => unfold maxLen; omega
        case c4 => omega
        case c5 => rw [size_alloc']; have := hbel2.size; show B ≤ wr.heap.size + 1; omega
        intro v' w1 ho3 hg hnn
        clear hnn
        obtain ⟨ao5, cap5, hv5⟩ := slen_of ho3
        rw [hv5] at ho3 ⊢
        clear hv5 v'
        have hlk : (xs ++ (Pu.nums L W k).take M).length = xs.length + k := by rw [Hll.out, Hmin.out]
        rw [← hlk] at ho3 ho2 hb2 hg
        have hp := RSt.push (w := wr.drewN nq) hb2 ha2 Hr2.out ho2 hlb hB hg ho3
        rw [List.append_assoc, HY.out, ← gath_lt _ _ _ _ hkM, hlk] at hp
        have hbel3 : Below B w (w1.setCell ⟨R, 3, none⟩ (.slice ao5 (xs.length + k + 1) cap5)) := below_push (w := wr.drewN nq) (below_drewN hbel2 nq) (by have := hbel2.size; show B ≤ wr.heap.size; omega) hB (ownsRow_drewN ho2 nq) hg
        have c3' := hp.1.c3
        have f3' := hp.1.fz 3
        have HP : Hid _ := hp.2
        clear hp hg ho2 ho3 hb2 hbel2 c3 Hr2 ha2 hlk
        go_wp2
        go_roundw
        case rel => exact ⟨k + 1, by omega, by go_num, HP.out, zero_lt _ _ _ _ hkM, hbel3⟩
        case measure => simp [intOf]; omega
      · have hkMd : decide (k < M) = false := by simp; omega
        have hS2 : Hid (RSt wr R lb B D W C (a + p) (xs ++ (Pu.nums L W k).take M)) := ⟨ao2, cap2, _, by rw [← Hll.out] at hb2; exact hb2, ha2, Hr2.out, by rw [← Hll.out] at ho2; rw [Hll.out] at ho2 ⊢; exact ho2, hv2, hlb, hB⟩
        by_cases hy0 : y = 0
        · subst hy0
          go_wp2
          go_quiet ((go_at_call 80; exact Calls.quiet_of_same (HNA.out _)))
          go_wp2
          go_roundw
          case rel => exact ⟨k + 1, by omega, by go_num, by rw [gath_ge _ _ _ _ (by omega)]; exact hS2.out, by rw [Hid, zero_ge _ _ _ _ (by omega), Hz.out, ← HY.out]; rfl, below_drewN hbel2 _⟩
          case measure => simp [intOf]; omega
        · go_wp2
          go_quiet ((go_at_call 80; exact Calls.quiet_of_same (HNA.out _)))
          go_wp2
          go_ret
          exact ⟨HE.out false _ (zero_no (i := k) (by omega) hk2 (by rw [← HY.out]; exact hy0)) (fun h => by cases h), below_drewN hbel2 _⟩
    · obtain rfl : k = 8 * n := by omega
      go_wp2
      go_ret
      exact ⟨HE.out true _ Hz.out (fun _ => hS), hbel2⟩
end Go.Proofs.Ytjobhlncllfdmaa
