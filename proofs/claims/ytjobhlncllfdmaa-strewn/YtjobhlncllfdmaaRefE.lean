/- Contract of the reference's Runs. -/
import Derived.Test.YtjobhlncllfdmaaRefD
namespace Go.Proofs.Ytjobhlncllfdmaa
open Go.RowKit

set_option maxHeartbeats 1000000 in
set_option maxRecDepth 100000 in
theorem refRuns_any (s : ByteArray) (a0 W C : Nat) (w : World) (hs : s.size ≤ 140737488355000) (ha0 : a0 ≤ s.size) (hW : W ≤ 24) (hC : C ≤ 100000) :
    Calls Try.prog 21 #[.string s, .int .i64 a0, .int .i64 W, .int .i64 C] w fun e w' => RunsAns w.heap.size (Pu.rs s.data.toList W C C a0 []) e w' ∧ Below w.heap.size w w' := by
  have Hlen : Hid (s.data.toList.length = s.size) := by simp [Hid]
  go_enter Try.func21, Try.ntmps21
  go_wp2
  go_loopw [1, 11] (fun t v wr => ∃ (a f : Nat) (xs : List Nat), a ≤ s.size ∧ xs.length ≤ C ∧ C ≤ xs.length + f ∧ t = .int .i64 a ∧ wr.ownsRow w.heap.size 3 1 v xs.length (ints xs) ∧ Hid (Pu.rs s.data.toList W C C a0 [] = Pu.rs s.data.toList W C f a xs) ∧ Below w.heap.size w wr)
    (fun _ v _ => C - slen v)
  case atStart => exact ⟨a0, C, [], ha0, Nat.zero_le _, by simp, rfl, World.ownsRow_nil _ _ _ _, rfl, Below.refl _ _⟩
  case round =>
    obtain ⟨a, f, xs, ha, hxl, hf, rfl, hown, Hrs, hbel⟩ := hrel
    obtain ⟨ao, cap, rfl⟩ := slen_of hown
    by_cases hlt : xs.length < C
    · cases hv : Pu.vi s.data.toList a with
      | none =>
        have Hv : Hid (Pu.vi s.data.toList a = none) := hv
        clear hv
        go_wp2_with fail
        refine (varint_no s a _ hs ha Hv.out).mono ?_
        rintro e w' ⟨h, nx, rfl, rfl⟩
        go_wp2
        go_ret3
        refine ⟨?_, hbel⟩
        rw [Hrs.out, rs_no hlt (step_vi Hv.out)]
        rfl
      | some p =>
        obtain ⟨h, nx⟩ := p
        have Hv : Hid (Pu.vi s.data.toList a = some (h, nx)) := hv
        have hvl := Pu.vi_lt hv
        rw [Hlen.out] at hvl
        obtain ⟨hv1, hv2, hv3⟩ := hvl
        clear hv
        by_cases h2 : h < 2
        · go_wp2_with fail
          refine (varint_yes s a h nx _ hs ha Hv.out).mono ?_
          rintro e w' ⟨rfl, rfl⟩
          go_wp2
          go_ret3
          refine ⟨?_, hbel⟩
          rw [Hrs.out, rs_no hlt (step_two Hv.out h2)]
          rfl
        · by_cases hm : h % 2 = 0
          · have Hm : Hid (h % 2 = 0) := hm
            have hmb : ((h : Int) % 2 == 0) = true := by simp; omega
            clear hm
            cases hl : Pu.lo s.data.toList nx ((W + 7) / 8) with
            | none =>
              have Hl : Hid (Pu.lo s.data.toList nx ((W + 7) / 8) = none) := hl
              clear hl
              go_wp2_with fail
              refine (varint_yes s a h nx _ hs ha Hv.out).mono ?_
              rintro e w' ⟨rfl, rfl⟩
              go_wp2_with fail
              rw [show ((W : Int) + 7) / 8 = (((W + 7) / 8 : Nat) : Int) from by omega]
              refine (low_no s nx ((W + 7) / 8) _ hs (by omega) (by omega) Hl.out).mono ?_
              rintro e w' ⟨rfl, rfl⟩
              go_wp2
              go_ret3
              refine ⟨?_, hbel⟩
              rw [Hrs.out, rs_no hlt (step_lo Hv.out h2 Hm.out Hl.out)]
              rfl
            | some x =>
              have Hl : Hid (Pu.lo s.data.toList nx ((W + 7) / 8) = some x) := hl
              clear hl
              have hP := pow2_pos W
              have hP2 := pow2_le W hW
              by_cases hx : pow2 W ≤ x
              · go_wp2_with fail
                refine (varint_yes s a h nx _ hs ha Hv.out).mono ?_
                rintro e w' ⟨rfl, rfl⟩
                go_wp2_with fail
                rw [show ((W : Int) + 7) / 8 = (((W + 7) / 8 : Nat) : Int) from by omega]
                refine (low_yes s nx ((W + 7) / 8) x _ hs (by omega) (by omega) Hl.out).mono ?_
                rintro e w' ⟨rfl, rfl⟩
                go_wp2_with fail
                refine (power_nat W _ hW).mono ?_
                rintro e w' ⟨rfl, rfl⟩
                go_wp2
                go_ret3
                refine ⟨?_, hbel⟩
                rw [Hrs.out, rs_no hlt (step_eq_no Hv.out h2 Hm.out Hl.out (Or.inl hx))]
                rfl
              · by_cases hn : C - xs.length < h / 2
                · go_wp2_with fail
                  refine (varint_yes s a h nx _ hs ha Hv.out).mono ?_
                  rintro e w' ⟨rfl, rfl⟩
                  go_wp2_with fail
                  rw [show ((W : Int) + 7) / 8 = (((W + 7) / 8 : Nat) : Int) from by omega]
                  refine (low_yes s nx ((W + 7) / 8) x _ hs (by omega) (by omega) Hl.out).mono ?_
                  rintro e w' ⟨rfl, rfl⟩
                  go_wp2_with fail
                  refine (power_nat W _ hW).mono ?_
                  rintro e w' ⟨rfl, rfl⟩
                  go_wp2
                  go_ret3
                  refine ⟨?_, hbel⟩
                  rw [Hrs.out, rs_no hlt (step_eq_no Hv.out h2 Hm.out Hl.out (Or.inr hn))]
                  rfl
                · have hlo : nx + (W + 7) / 8 ≤ s.size := by
                    have := Hl.out
                    unfold Pu.lo at this
                    rw [Hlen.out] at this
                    split at this
                    · assumption
                    · cases this
                  have Hst := step_eq (C := C) (xs := xs) Hv.out h2 Hm.out Hl.out (by unfold pow2 at hx; omega)
                  have HR : Hid (Pu.rs s.data.toList W C C a0 [] = Pu.rs s.data.toList W C (f - 1) (nx + (W + 7) / 8) (xs ++ List.replicate (h / 2) x)) := Hrs.out.trans (rs_yes hlt hf Hst)
                  clear Hst
                  go_wp2_with fail
                  refine (varint_yes s a h nx _ hs ha Hv.out).mono ?_
                  rintro e w' ⟨rfl, rfl⟩
                  go_wp2_with fail
                  rw [show ((W : Int) + 7) / 8 = (((W + 7) / 8 : Nat) : Int) from by omega]
                  refine (low_yes s nx ((W + 7) / 8) x _ hs (by omega) (by omega) Hl.out).mono ?_
                  rintro e w' ⟨rfl, rfl⟩
                  go_wp2_with fail
                  refine (power_nat W _ hW).mono ?_
                  rintro e w' ⟨rfl, rfl⟩
                  go_wp2
                  go_loopw [11, 19] (fun v i wr => ∃ k : Nat, k ≤ h / 2 ∧ i = .int .i64 k ∧ wr.ownsRow w.heap.size 3 1 v (xs.length + k) (ints (xs ++ List.replicate k x)) ∧ Below w.heap.size w wr)
                    (fun _ i _ => h / 2 - (intOf i).toNat)
                  case atStart => exact ⟨0, Nat.zero_le _, rfl, by simpa using hown, hbel⟩
                  case round =>
                    obtain ⟨k, hk, rfl, hown2, hbel2⟩ := hrel
                    obtain ⟨ao2, cap2, rfl⟩ := slen_of hown2
                    by_cases hk2 : k < h / 2
                    · obtain ⟨i0, hi, hz0, hz1, hz2⟩ := info_parts Try.info3
                      go_wp2_with (first
                        | (at_builtin; refine wpList_append_own _ rfl _ _ 26 rfl w.heap.size 3 i0 (.int .i64 0) 1 8 Try.underlying26 hi hz0 hz1 hz2 rfl (by decide) _ _ _ rfl (hown2.alloc _) ⟨_, 0, none⟩ 1 1 [.int .i64 x] rfl rfl ?c1 ?c2 ?c3 ?c4 ?c5 ?_)
                        | go_in)
                      case c1 => exact one_new rfl
                      case c2 => exact one_cell
                      case c3 => unfold maxLen; omega
                      case c4 => omega
                      case c5 => rw [size_alloc']; have := hbel2.size; omega
                      intro v' w1 hown3 hg _
                      have hrow := fun k e => ((hown2.alloc (Obj.cells #[Value.int .i64 x] 3)).lt k e).1
                      have hbel3 := below_append hbel2 (Nat.le_refl _) hg hrow
                      rw [ints_snoc, rep_snoc] at hown3
                      clear hg hrow hown2 hbel2
                      go_wp2
                      go_roundw
                      case rel => exact ⟨k + 1, by omega, by go_num, hown3, hbel3⟩
                      case measure => simp [intOf]; omega
                    · obtain rfl : k = h / 2 := by omega
                      go_wp2
                      go_roundw
                      case rel => exact ⟨nx + (W + 7) / 8, f - 1, xs ++ List.replicate (h / 2) x, hlo, by simp; omega, by simp; omega, by go_num, by simpa using hown2, HR, hbel2⟩
                      case measure => simp [slen]; omega
          · have Hm : Hid (¬ h % 2 = 0) := hm
            have hmb : ((h : Int) % 2 == 0) = false := by simp; omega
            clear hm
            obtain ⟨n, hn⟩ : ∃ n, n = h / 2 := ⟨_, rfl⟩
            have Hn : Hid (n = h / 2) := hn
            have hn2 : (h : Int) / 2 = (n : Int) := by omega
            have hn3 : 1 ≤ n := by omega
            have hn4 : n ≤ 2147483647 := by omega
            clear hn
            obtain ⟨p, hp⟩ : ∃ p, p = n * W := ⟨_, rfl⟩
            have Hp : Hid (p = n * W) := hp
            have hp2 : (n : Int) * (W : Int) = (p : Int) := by rw [hp]; simp
            have hp3 : p ≤ 51539607528 := by rw [hp]; exact Nat.mul_le_mul hn4 hW
            clear hp
            by_cases h8 : C - xs.length ≤ 8 * n - 8
            · go_wp2_with fail
              refine (varint_yes s a h nx _ hs ha Hv.out).mono ?_
              rintro e w' ⟨rfl, rfl⟩
              go_wp2
              go_ret3
              refine ⟨?_, hbel⟩
              rw [Hrs.out, rs_no hlt (step_8_no Hv.out h2 Hm.out (Or.inl (by rw [← Hn.out]; exact h8)))]
              rfl
            · by_cases hfit : s.size < nx + p
              · go_wp2_with fail
                refine (varint_yes s a h nx _ hs ha Hv.out).mono ?_
                rintro e w' ⟨rfl, rfl⟩
                go_wp2
                go_ret3
                refine ⟨?_, hbel⟩
                rw [Hrs.out, rs_no hlt (step_8_no Hv.out h2 Hm.out (Or.inr (by rw [← Hn.out, ← Hp.out, Hlen.out]; exact hfit)))]
                rfl
              · have Hst := step_8 (C := C) (xs := xs) Hv.out h2 Hm.out (by rw [← Hn.out, ← Hp.out, Hlen.out]; omega)
                rw [← Hn.out, ← Hp.out] at Hst
                have HL := extract_list s nx p (by omega)
                have hes : (s.extract nx (nx + p)).size = p := by simp; omega
                have Hes : Hid ((s.extract nx (nx + p)).size = p) := hes
                clear hes
                obtain ⟨M, hM⟩ : ∃ M, M = C - xs.length := ⟨_, rfl⟩
                have HM : Hid (M = C - xs.length) := hM
                rw [← hM] at Hst
                have hM2 : xs.length + M = C := by omega
                clear hM
                obtain ⟨L, hL⟩ : ∃ L, L = Pu.piece s.data.toList nx p := ⟨_, rfl⟩
                have HL2 : Hid (L = (s.extract nx (nx + p)).data.toList) := by rw [Hid, hL, HL]
                rw [← hL] at Hst
                have HSt := show Hid _ from Hst
                clear HL hL Hst
                go_wp2_with fail
                refine (varint_yes s a h nx _ hs ha Hv.out).mono ?_
                rintro e w' ⟨rfl, rfl⟩
                go_wp2
                go_loopw [11, 21] (fun v i wr => ∃ k : Nat, k ≤ 8 * n ∧ i = .int .i64 k ∧ wr.ownsRow w.heap.size 3 1 v (xs.length + min k M) (ints (xs ++ (Pu.nums L W k).take M)) ∧ Hid (((Pu.nums L W k).drop M).all (· == 0) = true) ∧ Below w.heap.size w wr)
                  (fun _ i _ => 8 * n - (intOf i).toNat)
                case atStart => exact ⟨0, Nat.zero_le _, rfl, by simpa [Pu.nums] using hown, by simp [Hid, Pu.nums], hbel⟩
                case round =>
                  obtain ⟨k, hk, rfl, hown2, Hz, hbel2⟩ := hrel
                  obtain ⟨ao2, cap2, rfl⟩ := slen_of hown2
                  obtain ⟨z, hz⟩ : ∃ z, z = k * W := ⟨_, rfl⟩
                  have Hzz : Hid (z = k * W) := hz
                  have hz2 : (k : Int) * (W : Int) = (z : Int) := by rw [hz]; simp
                  have hz3 : z ≤ 8 * p := by rw [hz, Hp.out, ← Nat.mul_assoc]; exact Nat.mul_le_mul_right _ hk
                  clear hz
                  by_cases hk2 : k < 8 * n
                  · have hz4 : z + W ≤ 8 * p := by
                      rw [Hzz.out, Hp.out, ← Nat.mul_assoc, ← Nat.succ_mul]; exact Nat.mul_le_mul_right _ hk2
                    have hkd : decide ((k : Int) < 8 * (n : Int)) = true := by simp; omega
                    go_wp2
                    go_loopw [22, 23] (fun x j w2 => ∃ j' y q : Nat, j' ≤ W ∧ j = .int .i64 ((j' : Int) - 1) ∧ x = .int .i64 y ∧ Hid (y = Pu.nTop L z j' (W - j')) ∧ w2 = wr.drewN q)
                      (fun _ j _ => (intOf j + 1).toNat)
                    case atStart => exact ⟨W, 0, 0, Nat.le_refl _, rfl, rfl, by rw [Hid, Nat.sub_self]; rfl, rfl⟩
                    case round =>
                      obtain ⟨j', y, q, hj', rfl, rfl, Hy, rfl⟩ := hrel
                      by_cases hj0 : j' = 0
                      · subst hj0
                        have HY : Hid (y = Pu.nAt L (k * W) W) := by
                          rw [Hid, Hy.out, Nat.sub_zero, Pu.nTop_all, Hzz.out]
                        clear Hy
                        by_cases hkM : k < M
                        · have hmin : min k M = k := Nat.min_eq_left (by omega)
                          rw [hmin] at hown2
                          simp only [hmin]
                          clear hmin
                          have hown2' := ownsRow_drewN hown2 q
                          have hbel2' := below_drewN hbel2 q
                          clear hown2 hbel2
                          obtain ⟨i0, hi, hz0, hz1, hz2'⟩ := info_parts Try.info3
                          go_wp2_with (first
                            | (at_builtin; refine wpList_append_own _ rfl _ _ 26 rfl w.heap.size 3 i0 (.int .i64 0) 1 8 Try.underlying26 hi hz0 hz1 hz2' rfl (by decide) _ _ _ rfl (hown2'.alloc _) ⟨_, 0, none⟩ 1 1 [.int .i64 y] rfl rfl ?c1 ?c2 ?c3 ?c4 ?c5 ?_)
                            | go_in)
                          case c1 => exact one_new rfl
                          case c2 => exact one_cell
                          case c3 => unfold maxLen; omega
                          case c4 => omega
                          case c5 => rw [size_alloc']; have := hbel2'.size; omega
                          intro v' w1 hown3 hg _
                          have hrow := fun k e => ((hown2'.alloc (Obj.cells #[Value.int .i64 y] 3)).lt k e).1
                          have hbel3 := below_append hbel2' (Nat.le_refl _) hg hrow
                          rw [ints_snoc, List.append_assoc, HY.out, ← gath_lt _ _ _ _ hkM, show xs.length + k + 1 = xs.length + min (k + 1) M by omega] at hown3
                          clear hg hrow hown2' hbel2'
                          go_wp2
                          go_roundw
                          case rel => exact ⟨k + 1, by omega, by go_num, hown3, zero_lt _ _ _ _ hkM, hbel3⟩
                          case measure => simp [intOf]; omega
                        · have hmin : min k M = M := Nat.min_eq_right (by omega)
                          rw [hmin] at hown2
                          simp only [hmin]
                          clear hmin
                          by_cases hy0 : y = 0
                          · subst hy0
                            go_wp2
                            go_roundw
                            case rel => exact ⟨k + 1, by omega, by go_num, by rw [gath_ge _ _ _ _ (by omega), show min (k + 1) M = M by omega]; exact ownsRow_drewN hown2 q, by rw [Hid, zero_ge _ _ _ _ (by omega), Hz.out, ← HY.out]; rfl, below_drewN hbel2 q⟩
                            case measure => simp [intOf]; omega
                          · go_wp2
                            go_ret3
                            refine ⟨?_, below_drewN hbel2 q⟩
                            have := HSt.out
                            rw [zero_no (i := k) (by omega) hk2 (by rw [← HY.out]; exact hy0)] at this
                            rw [Hrs.out, rs_no hlt this]
                            rfl
                      · obtain ⟨j, rfl⟩ : ∃ j, j' = j + 1 := ⟨j' - 1, by omega⟩
                        have hy : y ≤ 16777216 := by
                          rw [Hy.out]; exact Nat.le_of_lt (Nat.lt_of_lt_of_le (nTop_lt _ _ _ _) (Nat.le_trans (Nat.pow_le_pow_right (by omega) (show W - (j + 1) ≤ 24 by omega)) (by decide)))
                        go_wp2_with fail
                        refine (bit_ex _ L HL2 _ _ ?d1 ?d2 ?d3 ?d4).mono ?_
                        case d1 => rw [Hes.out]; unfold maxLen; omega
                        case d2 => omega
                        case d3 => rw [Hes.out]; omega
                        case d4 => omega
                        rintro e w' ⟨b, q2, rfl, hb2, Hb, rfl⟩
                        have hst := nTop_step L z j W (by omega)
                        have HN : Hid (2 * y + b = Pu.nTop L z j (W - j)) := by
                          rw [Hid, hst, Hy.out, Hb.out]
                          rw [Nat.add_comm]
                          congr 2
                        clear hst Hy Hb
                        go_wp2
                        go_roundw
                        case rel => exact ⟨j, 2 * y + b, q + q2, by omega, by go_num, by go_num, HN, rfl⟩
                        case measure => simp [intOf]
                  · obtain rfl : k = 8 * n := by omega
                    have hst := HSt.out
                    rw [Hz.out, if_pos rfl] at hst
                    have HR : Hid (Pu.rs s.data.toList W C C a0 [] = Pu.rs s.data.toList W C (f - 1) (nx + p) (xs ++ (Pu.nums L W (8 * n)).take M)) := Hrs.out.trans (rs_yes hlt hf hst)
                    clear hst
                    have hl8 : (xs ++ (Pu.nums L W (8 * n)).take M).length = xs.length + min (8 * n) M := by simp [Pu.length_nums]; omega
                    have hown4 : wr.ownsRow w.heap.size 3 1 (.slice ao2 (xs.length + min (8 * n) M) cap2) (xs ++ (Pu.nums L W (8 * n)).take M).length (ints (xs ++ (Pu.nums L W (8 * n)).take M)) := by rw [hl8]; exact hown2
                    have Hl8 : Hid ((xs ++ (Pu.nums L W (8 * n)).take M).length = xs.length + min (8 * n) M) := hl8
                    clear hl8 hown2
                    go_wp2
                    go_roundw
                    case rel => exact ⟨nx + p, f - 1, xs ++ (Pu.nums L W (8 * n)).take M, by omega, by rw [Hl8.out]; omega, by rw [Hl8.out]; omega, by go_num, hown4, HR, hbel2⟩
                    case measure => simp [slen]; omega
    · go_wp2
      go_ret3
      refine ⟨?_, hbel⟩
      rw [Hrs.out, rs_done hlt]
      exact ⟨_, rfl, hown⟩
end Go.Proofs.Ytjobhlncllfdmaa
