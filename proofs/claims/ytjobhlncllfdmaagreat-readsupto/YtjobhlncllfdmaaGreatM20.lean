/- Contract of the reference's Unpack: the walk. -/
import Derived.Test.YtjobhlncllfdmaaGreatM19
namespace Go.Proofs.YtjobhlncllfdmaaGreat
open Go.RowKit

set_option maxHeartbeats 4000000 in
set_option maxRecDepth 100000 in
theorem refUnpack_good (s : ByteArray) (most n a0 : Nat) (w : World) (hs : s.size ≤ 140737488355000) (hmost : most ≤ 1048576) (hvi : Pu.vi s.data.toList 0 = some (n, a0)) (hn : n ≤ most) :
    Calls Tryz.prog 55 #[.string s, .int .i64 most] w fun e w' => UnAns (Pu.un s.data.toList n s.size a0 []) e ∧ Below w.heap.size w w' := by
  have hd1 : decide ((most : Int) < 0) = false := decide_eq_false (by omega)
  have hd2 : decide ((1048576 : Int) < (most : Int)) = false := decide_eq_false (by omega)
  have hd3 : decide (most < n) = false := decide_eq_false (by omega)
  have Hvi : Hid (Pu.vi s.data.toList 0 = some (n, a0)) := hvi
  have hlen : s.data.toList.length = s.size := by simp
  have Hlen : Hid (s.data.toList.length = s.size) := hlen
  have ha0 : a0 ≤ s.size := by have := (Pu.vi_lt hvi).2.1; omega
  clear hvi hlen
  have V : Hid (Calls Tryz.prog 54 #[.string s, .int .i64 0] w fun e w' => e = .returned (.tuple #[.int .i64 n, .int .i64 a0, .bool true]) ∧ w' = w) := varint_yes s 0 n a0 w hs (Nat.zero_le _) Hvi.out
  go_enter Tryz.func55, Tryz.ntmps55
  go_wp2_with fail
  refine V.out.mono ?_
  rintro e w' ⟨rfl, rfl⟩
  go_wp2
  go_loopw [7, 9] (fun t v wr => ∃ (a f : Nat) (o : List UInt8), a ≤ s.size ∧ o.length ≤ n ∧ s.size ≤ a + f ∧ t = .int .i64 a ∧ wr.ownsRow w'.heap.size 5 1 v o.length (bytesV o) ∧ Hid (Pu.un s.data.toList n s.size a0 [] = Pu.un s.data.toList n f a o) ∧ Below w'.heap.size w' wr)
    (fun t _ _ => s.size - (intOf t).toNat)
  case atStart => exact ⟨a0, s.size, [], ha0, Nat.zero_le _, by omega, rfl, World.ownsRow_nil _ _ _ _, rfl, Below.refl _ _⟩
  case round =>
    obtain ⟨a, f, o, ha, hol, hf, rfl, hown, Hun, hbel⟩ := hrel
    obtain ⟨ao, cap, rfl⟩ := slen_of hown
    by_cases hlt : a < s.size
    · have hltL : Hid (a < s.data.toList.length) := by rw [Hid, Hlen.out]; exact hlt
      have hfL : Hid (s.data.toList.length ≤ a + f) := by rw [Hid, Hlen.out]; exact hf
      obtain ⟨b, hb, hbb, HB⟩ := byte_ex s a hlt
      obtain ⟨m, hm⟩ : ∃ m, m = b / 4 := ⟨_, rfl⟩
      have Hm : Hid (m = b / 4) := hm
      have hm4 : (b : Int) / 4 = (m : Int) := by omega
      have hm63 : m ≤ 63 := by omega
      clear hm
      have hcase : b % 4 = 0 ∨ b % 4 = 1 ∨ b % 4 = 2 ∨ b % 4 = 3 := by omega
      rcases hcase with hk | hk | hk | hk
      · have h4 : (b : Int) % 4 = 0 := by omega
        have Hk : Hid (b % 4 = 0) := hk
        clear hk
        by_cases hm60 : m < 60
        · obtain ⟨q, hq⟩ : ∃ q, q = a + 1 := ⟨_, rfl⟩
          have Hq : Hid (q = a + 1) := hq
          have hq1 : (a : Int) + 1 = (q : Int) := by omega
          have hq2 : q ≤ s.size := by omega
          have hq3 : a < q := by omega
          clear hq
          obtain ⟨z, hz⟩ : ∃ z, z = m + 1 := ⟨_, rfl⟩
          have Hz : Hid (z = m + 1) := hz
          have hz1 : (m : Int) + 1 = (z : Int) := by omega
          have hz2 : 1 ≤ z := by omega
          have hz3 : z ≤ 64 := by omega
          clear hz
          have hlo : Pu.lo s.data.toList (a + 1) (Pu.mo b) = some 0 := by
            rw [mo_0s Hk.out (by rw [← Hm.out]; exact hm60)]
            unfold Pu.lo
            rw [if_pos (by have := hltL.out; omega)]
            simp [Pu.piece, Pu.le]
          have HL : Hid (Pu.lo s.data.toList (q : Int).toNat (0 : Int).toNat = some 0) := by
            rw [mo_0s Hk.out (by rw [← Hm.out]; exact hm60)] at hlo
            rw [Hid, Int.toNat_natCast, Hq.out]
            exact hlo
          have Hel : Hid (∀ n o, Pu.el s.data.toList n a o = Pu.lit s.data.toList n q z o) := by
            intro n o
            rw [el_lit (z := z) HB.out hlo Hk.out (by rw [← Hm.out, if_pos hm60, Hz.out]), mo_0s Hk.out (by rw [← Hm.out]; exact hm60), Hq.out]
          clear hlo
          by_cases hfit : z ≤ s.size - q ∧ z ≤ n - o.length
          · obtain ⟨hf1, hf2⟩ := hfit
            have Hyes : Hid (Pu.el s.data.toList n a o = some (q + z, o ++ Pu.piece s.data.toList q z)) := by
              rw [Hid, Hel.out]; unfold Pu.lit; rw [if_pos (by rw [Hlen.out]; exact ⟨hf1, hf2⟩)]
            have hes : (s.extract q (q + z)).size = z := by simp; omega
            obtain ⟨v1, w1, run1, own1, gr1⟩ := append_strOn (s.extract q (q + z)) wr w'.heap.size (.slice ao o.length cap) o.length (bytesV o) hown hbel.size (by omega) 24
            rw [hes, extract_list s q z (by omega), ← bytesV_append] at own1
            obtain ⟨ao1, cap1, hv1⟩ := slen_of own1
            rw [hv1] at run1 own1
            clear hv1 v1
            have hbel1 : Below w'.heap.size w' w1 := hbel.trans ⟨gr1.os, gr1.tape, gr1.output, gr1.size, fun k hk => gr1.block k (by have := hbel.size; omega) (fun e' => by have := (hown.lt k e'.symm).1; omega)⟩
            have hl1 : (o ++ Pu.piece s.data.toList q z).length = o.length + z := by rw [List.length_append, Pu.length_piece _ _ _ (by rw [Hlen.out]; omega)]
            have Hown1 : Hid (w1.ownsRow w'.heap.size 5 1 (.slice ao1 (o.length + z) cap1) (o ++ Pu.piece s.data.toList q z).length (bytesV (o ++ Pu.piece s.data.toList q z))) := by rw [Hid, hl1]; exact own1
            have HL1 : Hid ((o ++ Pu.piece s.data.toList q z).length = o.length + z) := hl1
            have R1 : Hid ((Builtin.append_ #[25, 9] 25 #[.slice ao o.length cap, .string (s.extract q (q + z))]).run Tryz.prog wr = .ok (.slice ao1 (o.length + z) cap1) w1) := run1
            clear run1 own1 gr1 hes hl1 hown
            go_wp2_with fail
            refine (lowI_yes s (q : Int) 0 0 _ hs (by omega) (by omega) (by omega) (by omega) HL.out).mono ?_
            rintro e w2 ⟨rfl, rfl⟩
            go_wp2_with (first | (at_builtin; refine wpList_append_run rfl (.tmp 100) (.tmp 106) 25 9 rfl _ _ _ rfl rfl R1.out ?_) | go_in)
            go_roundw
            case rel => exact ⟨q + z, f - 1, o ++ Pu.piece s.data.toList q z, by omega, by rw [HL1.out]; omega, by omega, by go_num, Hown1.out, Hun.out.trans (Pu.un_yes hltL.out hfL.out Hyes.out), hbel1⟩
            case measure => simp [intOf]; omega
          · have Hno : Hid (Pu.el s.data.toList n a o = none) := by
              rw [Hid, Hel.out]; unfold Pu.lit; rw [if_neg (by rw [Hlen.out]; exact hfit)]
            by_cases hf1 : z ≤ s.size - q
            · have hf2 : ¬ z ≤ n - o.length := fun h => hfit ⟨hf1, h⟩
              go_wp2_with fail
              refine (lowI_yes s (q : Int) 0 0 _ hs (by omega) (by omega) (by omega) (by omega) HL.out).mono ?_
              rintro e w2 ⟨rfl, rfl⟩
              go_wp2
              go_ret2
              refine ⟨?_, hbel⟩
              rw [Hun.out, Pu.un_no hltL.out Hno.out]
              rfl
            · go_wp2_with fail
              refine (lowI_yes s (q : Int) 0 0 _ hs (by omega) (by omega) (by omega) (by omega) HL.out).mono ?_
              rintro e w2 ⟨rfl, rfl⟩
              go_wp2
              go_ret2
              refine ⟨?_, hbel⟩
              rw [Hun.out, Pu.un_no hltL.out Hno.out]
              rfl
        · obtain ⟨q0, hq0⟩ : ∃ q0, q0 = a + 1 := ⟨_, rfl⟩
          have Hq0 : Hid (q0 = a + 1) := hq0
          have hq01 : (a : Int) + 1 = (q0 : Int) := by omega
          have hq02 : q0 ≤ s.size := by omega
          clear hq0
          have hmo : Pu.mo b = m - 59 := by rw [mo_0l Hk.out (by rw [← Hm.out]; exact hm60), ← Hm.out]
          cases hl : Pu.lo s.data.toList (a + 1) (m - 59) with
          | none =>
            have HL : Hid (Pu.lo s.data.toList (q0 : Int).toNat ((m : Int) - 59).toNat = none) := by
              rw [Hid, Int.toNat_natCast, Hq0.out, show ((m : Int) - 59).toNat = m - 59 by omega]; exact hl
            have Hno : Hid (Pu.el s.data.toList n a o = none) := el_none HB.out (by rw [hmo]; exact hl)
            clear hl hmo
            go_wp2_with fail
            refine (lowI_no s (q0 : Int) ((m : Int) - 59) _ hs (by omega) (by omega) (by omega) (by omega) HL.out).mono ?_
            rintro e w2 ⟨rfl, rfl⟩
            go_wp2
            go_ret2
            refine ⟨?_, hbel⟩
            rw [Hun.out, Pu.un_no hltL.out Hno.out]
            rfl
          | some x =>
            have HL : Hid (Pu.lo s.data.toList (q0 : Int).toNat ((m : Int) - 59).toNat = some x) := by
              rw [Hid, Int.toNat_natCast, Hq0.out, show ((m : Int) - 59).toNat = m - 59 by omega]; exact hl
            have hx : x ≤ 4294967295 ∧ a + 1 + (m - 59) ≤ s.size := by
              unfold Pu.lo at hl
              split at hl
              · rename_i hc
                rw [Hlen.out] at hc
                simp only [Option.some.injEq] at hl
                have h1 := Pu.le_lt (Pu.piece s.data.toList (a + 1) (m - 59))
                rw [hl, Pu.length_piece _ _ _ (by rw [Hlen.out]; omega)] at h1
                have h2 : 256 ^ (m - 59) ≤ 4294967296 := Nat.le_trans (Nat.pow_le_pow_right (by omega) (show m - 59 ≤ 4 by omega)) (by decide)
                omega
              · cases hl
            obtain ⟨hx1, hx2⟩ := hx
            obtain ⟨q, hq⟩ : ∃ q, q = q0 + (m - 59) := ⟨_, rfl⟩
            have hq1 : (q0 : Int) + ((m : Int) - 59) = (q : Int) := by omega
            have hq2 : q ≤ s.size := by have := Hq0.out; omega
            have hq3 : a < q := by have := Hq0.out; omega
            obtain ⟨z, hz⟩ : ∃ z, z = x + 1 := ⟨_, rfl⟩
            have hz1 : (x : Int) + 1 = (z : Int) := by omega
            have hz2 : 1 ≤ z := by omega
            have hz3 : z ≤ 4294967296 := by omega
            have Hel : Hid (∀ n o, Pu.el s.data.toList n a o = Pu.lit s.data.toList n q z o) := by
              intro n o
              rw [el_lit (z := z) HB.out (by rw [hmo]; exact hl) Hk.out (by rw [← Hm.out, if_neg hm60, hz]), hmo, hq, Hq0.out]
            clear hl hmo hq hz
            by_cases hfit : z ≤ s.size - q ∧ z ≤ n - o.length
            · obtain ⟨hf1, hf2⟩ := hfit
              have Hyes : Hid (Pu.el s.data.toList n a o = some (q + z, o ++ Pu.piece s.data.toList q z)) := by
                rw [Hid, Hel.out]; unfold Pu.lit; rw [if_pos (by rw [Hlen.out]; exact ⟨hf1, hf2⟩)]
              have hes : (s.extract q (q + z)).size = z := by simp; omega
              obtain ⟨v1, w1, run1, own1, gr1⟩ := append_strOn (s.extract q (q + z)) wr w'.heap.size (.slice ao o.length cap) o.length (bytesV o) hown hbel.size (by omega) 24
              rw [hes, extract_list s q z (by omega), ← bytesV_append] at own1
              obtain ⟨ao1, cap1, hv1⟩ := slen_of own1
              rw [hv1] at run1 own1
              clear hv1 v1
              have hbel1 : Below w'.heap.size w' w1 := hbel.trans ⟨gr1.os, gr1.tape, gr1.output, gr1.size, fun k hk => gr1.block k (by have := hbel.size; omega) (fun e' => by have := (hown.lt k e'.symm).1; omega)⟩
              have hl1 : (o ++ Pu.piece s.data.toList q z).length = o.length + z := by rw [List.length_append, Pu.length_piece _ _ _ (by rw [Hlen.out]; omega)]
              have Hown1 : Hid (w1.ownsRow w'.heap.size 5 1 (.slice ao1 (o.length + z) cap1) (o ++ Pu.piece s.data.toList q z).length (bytesV (o ++ Pu.piece s.data.toList q z))) := by rw [Hid, hl1]; exact own1
              have HL1 : Hid ((o ++ Pu.piece s.data.toList q z).length = o.length + z) := hl1
              have R1 : Hid ((Builtin.append_ #[25, 9] 25 #[.slice ao o.length cap, .string (s.extract q (q + z))]).run Tryz.prog wr = .ok (.slice ao1 (o.length + z) cap1) w1) := run1
              clear run1 own1 gr1 hes hl1 hown
              go_wp2_with fail
              refine (lowI_yes s (q0 : Int) ((m : Int) - 59) x _ hs (by omega) (by omega) (by omega) (by omega) HL.out).mono ?_
              rintro e w2 ⟨rfl, rfl⟩
              go_wp2_with (first | (at_builtin; refine wpList_append_run rfl (.tmp 100) (.tmp 106) 25 9 rfl _ _ _ rfl rfl R1.out ?_) | go_in)
              go_roundw
              case rel => exact ⟨q + z, f - 1, o ++ Pu.piece s.data.toList q z, by omega, by rw [HL1.out]; omega, by omega, by go_num, Hown1.out, Hun.out.trans (Pu.un_yes hltL.out hfL.out Hyes.out), hbel1⟩
              case measure => simp [intOf]; omega
            · have Hno : Hid (Pu.el s.data.toList n a o = none) := by
                rw [Hid, Hel.out]; unfold Pu.lit; rw [if_neg (by rw [Hlen.out]; exact hfit)]
              by_cases hf1 : z ≤ s.size - q
              · have hf2 : ¬ z ≤ n - o.length := fun h => hfit ⟨hf1, h⟩
                go_wp2_with fail
                refine (lowI_yes s (q0 : Int) ((m : Int) - 59) x _ hs (by omega) (by omega) (by omega) (by omega) HL.out).mono ?_
                rintro e w2 ⟨rfl, rfl⟩
                go_wp2
                go_ret2
                refine ⟨?_, hbel⟩
                rw [Hun.out, Pu.un_no hltL.out Hno.out]
                rfl
              · go_wp2_with fail
                refine (lowI_yes s (q0 : Int) ((m : Int) - 59) x _ hs (by omega) (by omega) (by omega) (by omega) HL.out).mono ?_
                rintro e w2 ⟨rfl, rfl⟩
                go_wp2
                go_ret2
                refine ⟨?_, hbel⟩
                rw [Hun.out, Pu.un_no hltL.out Hno.out]
                rfl
      · have h4 : (b : Int) % 4 = 1 := by omega
        have Hk : Hid (b % 4 = 1) := hk
        clear hk
        obtain ⟨q0, hq0⟩ : ∃ q0, q0 = a + 1 := ⟨_, rfl⟩
        have Hq0 : Hid (q0 = a + 1) := hq0
        have hq01 : (a : Int) + 1 = (q0 : Int) := by omega
        have hq02 : q0 ≤ s.size := by omega
        clear hq0
        have hmo : Pu.mo b = 1 := mo_1 Hk.out
        cases hl : Pu.lo s.data.toList (a + 1) 1 with
        | none =>
          have HL : Hid (Pu.lo s.data.toList (q0 : Int).toNat (1 : Int).toNat = none) := by
            rw [Hid, Int.toNat_natCast, Hq0.out]; exact hl
          have Hno : Hid (Pu.el s.data.toList n a o = none) := el_none HB.out (by rw [hmo]; exact hl)
          clear hl hmo
          go_wp2_with fail
          refine (lowI_no s (q0 : Int) 1 _ hs (by omega) (by omega) (by omega) (by omega) HL.out).mono ?_
          rintro e w2 ⟨rfl, rfl⟩
          go_wp2
          go_ret2
          refine ⟨?_, hbel⟩
          rw [Hun.out, Pu.un_no hltL.out Hno.out]
          rfl
        | some x =>
          have HL : Hid (Pu.lo s.data.toList (q0 : Int).toNat (1 : Int).toNat = some x) := by
            rw [Hid, Int.toNat_natCast, Hq0.out]; exact hl
          have hx : x ≤ 4294967295 ∧ a + 1 + 1 ≤ s.size := by
            unfold Pu.lo at hl
            split at hl
            · rename_i hc
              rw [Hlen.out] at hc
              simp only [Option.some.injEq] at hl
              have h1 := Pu.le_lt (Pu.piece s.data.toList (a + 1) 1)
              rw [hl, Pu.length_piece _ _ _ (by rw [Hlen.out]; omega)] at h1
              omega
            · cases hl
          obtain ⟨hx1, hx2⟩ := hx
          obtain ⟨q, hq⟩ : ∃ q, q = q0 + 1 := ⟨_, rfl⟩
          have hq1 : (q0 : Int) + 1 = (q : Int) := by omega
          have hq2 : q ≤ s.size := by have := Hq0.out; omega
          have hq3 : a < q := by have := Hq0.out; omega
          obtain ⟨z, hz⟩ : ∃ z, z = 4 + m % 8 := ⟨_, rfl⟩
          have hz1 : (4 : Int) + (m : Int) % 8 = (z : Int) := by omega
          have hz2 : 1 ≤ z := by omega
          have hz3 : z ≤ 64 := by omega
          obtain ⟨y, hy⟩ : ∃ y, y = 256 * (m / 8) + x := ⟨_, rfl⟩
          obtain ⟨u, hu⟩ : ∃ u, u = 256 * (m / 8) := ⟨_, rfl⟩
          have hu1 : 256 * ((m : Int) / 8) = (u : Int) := by omega
          have hu2 : u ≤ 4096 := by omega
          have hy1 : (u : Int) + (x : Int) = (y : Int) := by omega
          have hy3 : y ≤ 4294967295 + 4096 := by omega
          have Hel : Hid (∀ n o, Pu.el s.data.toList n a o = Pu.cp n q z y o) := by
            intro n o
            rw [el_cp1 HB.out (by rw [hmo]; exact hl) Hk.out, hmo, hq, Hq0.out, hz, hy, Hm.out]
          clear hl hmo hq hz hu hy
          by_cases hy0 : y = 0
          · have hyb : ((y : Int) == 0) = true := by simp; omega
            have Hno : Hid (Pu.el s.data.toList n a o = none) := by rw [Hid, Hel.out]; unfold Pu.cp; rw [if_pos (Or.inl hy0)]
            go_wp2_with fail
            refine (lowI_yes s (q0 : Int) 1 x _ hs (by omega) (by omega) (by omega) (by omega) HL.out).mono ?_
            rintro e w2 ⟨rfl, rfl⟩
            go_wp2
            go_ret2
            refine ⟨?_, hbel⟩
            rw [Hun.out, Pu.un_no hltL.out Hno.out]
            rfl
          · have hyb : ((y : Int) == 0) = false := by simp; omega
            by_cases hy4 : o.length < y
            · have Hno : Hid (Pu.el s.data.toList n a o = none) := by rw [Hid, Hel.out]; unfold Pu.cp; rw [if_pos (Or.inr (Or.inl hy4))]
              go_wp2_with fail
              refine (lowI_yes s (q0 : Int) 1 x _ hs (by omega) (by omega) (by omega) (by omega) HL.out).mono ?_
              rintro e w2 ⟨rfl, rfl⟩
              go_wp2
              go_ret2
              refine ⟨?_, hbel⟩
              rw [Hun.out, Pu.un_no hltL.out Hno.out]
              rfl
            · by_cases hz4 : n - o.length < z
              · have Hno : Hid (Pu.el s.data.toList n a o = none) := by rw [Hid, Hel.out]; unfold Pu.cp; rw [if_pos (Or.inr (Or.inr hz4))]
                go_wp2_with fail
                refine (lowI_yes s (q0 : Int) 1 x _ hs (by omega) (by omega) (by omega) (by omega) HL.out).mono ?_
                rintro e w2 ⟨rfl, rfl⟩
                go_wp2
                go_ret2
                refine ⟨?_, hbel⟩
                rw [Hun.out, Pu.un_no hltL.out Hno.out]
                rfl
              · have Hyes : Hid (Pu.el s.data.toList n a o = some (q, Pu.copyN y z o)) := by rw [Hid, Hel.out]; unfold Pu.cp; rw [if_neg (by omega)]
                have hown0 := hown
                clear hown
                go_wp2_with fail
                refine (lowI_yes s (q0 : Int) 1 x _ hs (by omega) (by omega) (by omega) (by omega) HL.out).mono ?_
                rintro e w2 ⟨rfl, rfl⟩
                go_wp2
                clear h4
                go_loopw [9, 17] (fun v i w3 => ∃ (k : Nat) (ao' : Option Addr) (cap' : Nat), k ≤ z ∧ i = .int .i64 k ∧ v = .slice ao' (o.length + k) cap' ∧ w3.ownsRow w'.heap.size 5 1 (.slice ao' (o.length + k) cap') (o.length + k) (bytesV (Pu.copyN y k o)) ∧ Below w'.heap.size w' w3) (fun _ i _ => z - (intOf i).toNat)
                case atStart => exact ⟨0, ao, cap, Nat.zero_le _, rfl, rfl, hown0, hbel⟩
                case round =>
                  obtain ⟨k, ao', cap', hk, rfl, rfl, hown3, hbel3⟩ := hrel
                  by_cases hk2 : k < z
                  · obtain ⟨g, cp', hform, _, _⟩ := hown3.form (by omega)
                    simp only [Value.slice.injEq, true_and] at hform
                    obtain ⟨rfl, rfl⟩ := hform
                    have hc := bytesV_cell (i := o.length + k - y) hown3 (by omega)
                    have HN : Hid (Pu.copyN y (k + 1) o = Pu.copyN y k o ++ [Pu.nth (Pu.copyN y k o) (o.length + k - y)]) := by
                      rw [Hid, Pu.copyN_snoc, Pu.length_copyN]
                    generalize Pu.nth (Pu.copyN y k o) (o.length + k - y) = c at *
                    have hcl := c.toNat_lt
                    obtain ⟨c', hc'⟩ : ∃ c', c' = c.toNat := ⟨_, rfl⟩
                    have Hc' : Hid (c' = c.toNat) := hc'
                    rw [← hc'] at hc hcl
                    clear hc'
                    obtain ⟨i0, hi, hz0, hz1', hz2'⟩ := info_parts Tryz.info5
                    go_wp2_with (first | (at_builtin; refine wpList_append_own _ rfl (.tmp 148) (.tmp 150) 25 rfl w'.heap.size 5 i0 (.int .u8 0) 1 1 Tryz.underlying25 hi hz0 hz1' hz2' rfl (by decide) _ _ _ rfl (hown3.alloc _) ⟨_, 0, none⟩ 1 1 [.int .u8 c'] rfl rfl ?c1 ?c2 ?c3 ?c4 ?c5 ?_) | go_in)
                    case c1 => exact one_new rfl
                    case c2 => exact one_cell
                    case c3 => unfold maxLen; omega
                    case c4 => omega
                    case c5 => rw [size_alloc']; have := hbel3.size; omega
                    intro v' w4 own4 hg4 hnn
                    clear hnn
                    obtain ⟨ao5, cap5, hv5⟩ := slen_of own4
                    rw [hv5] at own4 ⊢
                    clear hv5 v'
                    have e4 : bytesV (Pu.copyN y k o) ++ [Value.int .u8 (c' : Int)] = bytesV (Pu.copyN y (k + 1) o) := by rw [HN.out, bytesV_append, Hc'.out]; rfl
                    rw [e4] at own4
                    have hbel4 : Below w'.heap.size w' w4 := below_append hbel3 (Nat.le_refl _) hg4 (fun k e => (hown3.lt k e).1)
                    have Hown4 : Hid (w4.ownsRow w'.heap.size 5 1 (.slice ao5 (o.length + k + 1) cap5) (o.length + k + 1) (bytesV (Pu.copyN y (k + 1) o))) := own4
                    clear own4 e4 hg4 hown3 hc HN
                    go_wp2
                    go_roundw
                    case rel => exact ⟨k + 1, ao5, cap5, by omega, by go_num, rfl, Hown4.out, hbel4⟩
                    case measure => simp [intOf]; omega
                  · obtain rfl : k = z := by omega
                    have hlc : (Pu.copyN y k o).length = o.length + k := Pu.length_copyN y k o
                    have Hlc : Hid ((Pu.copyN y k o).length = o.length + k) := hlc
                    have Hown5 : Hid (wr.ownsRow w'.heap.size 5 1 (.slice ao' (o.length + k) cap') (Pu.copyN y k o).length (bytesV (Pu.copyN y k o))) := by rw [Hid, hlc]; exact hown3
                    clear hlc hown3
                    go_wp2
                    go_roundw
                    case rel => exact ⟨q, f - 1, Pu.copyN y k o, by omega, by rw [Hlc.out]; omega, by omega, by go_num, Hown5.out, Hun.out.trans (Pu.un_yes hltL.out hfL.out Hyes.out), hbel3⟩
                    case measure => simp [intOf]; omega
      · have h4 : (b : Int) % 4 = 2 := by omega
        have Hk : Hid (b % 4 = 2) := hk
        clear hk
        obtain ⟨q0, hq0⟩ : ∃ q0, q0 = a + 1 := ⟨_, rfl⟩
        have Hq0 : Hid (q0 = a + 1) := hq0
        have hq01 : (a : Int) + 1 = (q0 : Int) := by omega
        have hq02 : q0 ≤ s.size := by omega
        clear hq0
        have hmo : Pu.mo b = 2 := mo_2 Hk.out
        cases hl : Pu.lo s.data.toList (a + 1) 2 with
        | none =>
          have HL : Hid (Pu.lo s.data.toList (q0 : Int).toNat (2 : Int).toNat = none) := by
            rw [Hid, Int.toNat_natCast, Hq0.out]; exact hl
          have Hno : Hid (Pu.el s.data.toList n a o = none) := el_none HB.out (by rw [hmo]; exact hl)
          clear hl hmo
          go_wp2_with fail
          refine (lowI_no s (q0 : Int) 2 _ hs (by omega) (by omega) (by omega) (by omega) HL.out).mono ?_
          rintro e w2 ⟨rfl, rfl⟩
          go_wp2
          go_ret2
          refine ⟨?_, hbel⟩
          rw [Hun.out, Pu.un_no hltL.out Hno.out]
          rfl
        | some x =>
          have HL : Hid (Pu.lo s.data.toList (q0 : Int).toNat (2 : Int).toNat = some x) := by
            rw [Hid, Int.toNat_natCast, Hq0.out]; exact hl
          have hx : x ≤ 4294967295 ∧ a + 1 + 2 ≤ s.size := by
            unfold Pu.lo at hl
            split at hl
            · rename_i hc
              rw [Hlen.out] at hc
              simp only [Option.some.injEq] at hl
              have h1 := Pu.le_lt (Pu.piece s.data.toList (a + 1) 2)
              rw [hl, Pu.length_piece _ _ _ (by rw [Hlen.out]; omega)] at h1
              omega
            · cases hl
          obtain ⟨hx1, hx2⟩ := hx
          obtain ⟨q, hq⟩ : ∃ q, q = q0 + 2 := ⟨_, rfl⟩
          have hq1 : (q0 : Int) + 2 = (q : Int) := by omega
          have hq2 : q ≤ s.size := by have := Hq0.out; omega
          have hq3 : a < q := by have := Hq0.out; omega
          obtain ⟨z, hz⟩ : ∃ z, z = m + 1 := ⟨_, rfl⟩
          have hz1 : (m : Int) + 1 = (z : Int) := by omega
          have hz2 : 1 ≤ z := by omega
          have hz3 : z ≤ 64 := by omega
          obtain ⟨y, hy⟩ : ∃ y, y = x := ⟨_, rfl⟩
          have hy3 : y ≤ 4294967295 + 4096 := by omega
          have Hel : Hid (∀ n o, Pu.el s.data.toList n a o = Pu.cp n q z y o) := by
            intro n o
            rw [el_cp2 HB.out (by rw [hmo]; exact hl) (Or.inl Hk.out), hmo, hq, Hq0.out, hz, hy, Hm.out]
          clear hl hmo hq hz
          subst hy
          by_cases hy0 : y = 0
          · have hyb : ((y : Int) == 0) = true := by simp; omega
            have Hno : Hid (Pu.el s.data.toList n a o = none) := by rw [Hid, Hel.out]; unfold Pu.cp; rw [if_pos (Or.inl hy0)]
            go_wp2_with fail
            refine (lowI_yes s (q0 : Int) 2 y _ hs (by omega) (by omega) (by omega) (by omega) HL.out).mono ?_
            rintro e w2 ⟨rfl, rfl⟩
            go_wp2
            go_ret2
            refine ⟨?_, hbel⟩
            rw [Hun.out, Pu.un_no hltL.out Hno.out]
            rfl
          · have hyb : ((y : Int) == 0) = false := by simp; omega
            by_cases hy4 : o.length < y
            · have Hno : Hid (Pu.el s.data.toList n a o = none) := by rw [Hid, Hel.out]; unfold Pu.cp; rw [if_pos (Or.inr (Or.inl hy4))]
              go_wp2_with fail
              refine (lowI_yes s (q0 : Int) 2 y _ hs (by omega) (by omega) (by omega) (by omega) HL.out).mono ?_
              rintro e w2 ⟨rfl, rfl⟩
              go_wp2
              go_ret2
              refine ⟨?_, hbel⟩
              rw [Hun.out, Pu.un_no hltL.out Hno.out]
              rfl
            · by_cases hz4 : n - o.length < z
              · have Hno : Hid (Pu.el s.data.toList n a o = none) := by rw [Hid, Hel.out]; unfold Pu.cp; rw [if_pos (Or.inr (Or.inr hz4))]
                go_wp2_with fail
                refine (lowI_yes s (q0 : Int) 2 y _ hs (by omega) (by omega) (by omega) (by omega) HL.out).mono ?_
                rintro e w2 ⟨rfl, rfl⟩
                go_wp2
                go_ret2
                refine ⟨?_, hbel⟩
                rw [Hun.out, Pu.un_no hltL.out Hno.out]
                rfl
              · have Hyes : Hid (Pu.el s.data.toList n a o = some (q, Pu.copyN y z o)) := by rw [Hid, Hel.out]; unfold Pu.cp; rw [if_neg (by omega)]
                have hown0 := hown
                clear hown
                go_wp2_with fail
                refine (lowI_yes s (q0 : Int) 2 y _ hs (by omega) (by omega) (by omega) (by omega) HL.out).mono ?_
                rintro e w2 ⟨rfl, rfl⟩
                go_wp2
                clear h4
                go_loopw [9, 17] (fun v i w3 => ∃ (k : Nat) (ao' : Option Addr) (cap' : Nat), k ≤ z ∧ i = .int .i64 k ∧ v = .slice ao' (o.length + k) cap' ∧ w3.ownsRow w'.heap.size 5 1 (.slice ao' (o.length + k) cap') (o.length + k) (bytesV (Pu.copyN y k o)) ∧ Below w'.heap.size w' w3) (fun _ i _ => z - (intOf i).toNat)
                case atStart => exact ⟨0, ao, cap, Nat.zero_le _, rfl, rfl, hown0, hbel⟩
                case round =>
                  obtain ⟨k, ao', cap', hk, rfl, rfl, hown3, hbel3⟩ := hrel
                  by_cases hk2 : k < z
                  · obtain ⟨g, cp', hform, _, _⟩ := hown3.form (by omega)
                    simp only [Value.slice.injEq, true_and] at hform
                    obtain ⟨rfl, rfl⟩ := hform
                    have hc := bytesV_cell (i := o.length + k - y) hown3 (by omega)
                    have HN : Hid (Pu.copyN y (k + 1) o = Pu.copyN y k o ++ [Pu.nth (Pu.copyN y k o) (o.length + k - y)]) := by
                      rw [Hid, Pu.copyN_snoc, Pu.length_copyN]
                    generalize Pu.nth (Pu.copyN y k o) (o.length + k - y) = c at *
                    have hcl := c.toNat_lt
                    obtain ⟨c', hc'⟩ : ∃ c', c' = c.toNat := ⟨_, rfl⟩
                    have Hc' : Hid (c' = c.toNat) := hc'
                    rw [← hc'] at hc hcl
                    clear hc'
                    obtain ⟨i0, hi, hz0, hz1', hz2'⟩ := info_parts Tryz.info5
                    go_wp2_with (first | (at_builtin; refine wpList_append_own _ rfl (.tmp 148) (.tmp 150) 25 rfl w'.heap.size 5 i0 (.int .u8 0) 1 1 Tryz.underlying25 hi hz0 hz1' hz2' rfl (by decide) _ _ _ rfl (hown3.alloc _) ⟨_, 0, none⟩ 1 1 [.int .u8 c'] rfl rfl ?c1 ?c2 ?c3 ?c4 ?c5 ?_) | go_in)
                    case c1 => exact one_new rfl
                    case c2 => exact one_cell
                    case c3 => unfold maxLen; omega
                    case c4 => omega
                    case c5 => rw [size_alloc']; have := hbel3.size; omega
                    intro v' w4 own4 hg4 hnn
                    clear hnn
                    obtain ⟨ao5, cap5, hv5⟩ := slen_of own4
                    rw [hv5] at own4 ⊢
                    clear hv5 v'
                    have e4 : bytesV (Pu.copyN y k o) ++ [Value.int .u8 (c' : Int)] = bytesV (Pu.copyN y (k + 1) o) := by rw [HN.out, bytesV_append, Hc'.out]; rfl
                    rw [e4] at own4
                    have hbel4 : Below w'.heap.size w' w4 := below_append hbel3 (Nat.le_refl _) hg4 (fun k e => (hown3.lt k e).1)
                    have Hown4 : Hid (w4.ownsRow w'.heap.size 5 1 (.slice ao5 (o.length + k + 1) cap5) (o.length + k + 1) (bytesV (Pu.copyN y (k + 1) o))) := own4
                    clear own4 e4 hg4 hown3 hc HN
                    go_wp2
                    go_roundw
                    case rel => exact ⟨k + 1, ao5, cap5, by omega, by go_num, rfl, Hown4.out, hbel4⟩
                    case measure => simp [intOf]; omega
                  · obtain rfl : k = z := by omega
                    have hlc : (Pu.copyN y k o).length = o.length + k := Pu.length_copyN y k o
                    have Hlc : Hid ((Pu.copyN y k o).length = o.length + k) := hlc
                    have Hown5 : Hid (wr.ownsRow w'.heap.size 5 1 (.slice ao' (o.length + k) cap') (Pu.copyN y k o).length (bytesV (Pu.copyN y k o))) := by rw [Hid, hlc]; exact hown3
                    clear hlc hown3
                    go_wp2
                    go_roundw
                    case rel => exact ⟨q, f - 1, Pu.copyN y k o, by omega, by rw [Hlc.out]; omega, by omega, by go_num, Hown5.out, Hun.out.trans (Pu.un_yes hltL.out hfL.out Hyes.out), hbel3⟩
                    case measure => simp [intOf]; omega
      · have h4 : (b : Int) % 4 = 3 := by omega
        have Hk : Hid (b % 4 = 3) := hk
        clear hk
        obtain ⟨q0, hq0⟩ : ∃ q0, q0 = a + 1 := ⟨_, rfl⟩
        have Hq0 : Hid (q0 = a + 1) := hq0
        have hq01 : (a : Int) + 1 = (q0 : Int) := by omega
        have hq02 : q0 ≤ s.size := by omega
        clear hq0
        have hmo : Pu.mo b = 4 := mo_3 Hk.out
        cases hl : Pu.lo s.data.toList (a + 1) 4 with
        | none =>
          have HL : Hid (Pu.lo s.data.toList (q0 : Int).toNat (4 : Int).toNat = none) := by
            rw [Hid, Int.toNat_natCast, Hq0.out]; exact hl
          have Hno : Hid (Pu.el s.data.toList n a o = none) := el_none HB.out (by rw [hmo]; exact hl)
          clear hl hmo
          go_wp2_with fail
          refine (lowI_no s (q0 : Int) 4 _ hs (by omega) (by omega) (by omega) (by omega) HL.out).mono ?_
          rintro e w2 ⟨rfl, rfl⟩
          go_wp2
          go_ret2
          refine ⟨?_, hbel⟩
          rw [Hun.out, Pu.un_no hltL.out Hno.out]
          rfl
        | some x =>
          have HL : Hid (Pu.lo s.data.toList (q0 : Int).toNat (4 : Int).toNat = some x) := by
            rw [Hid, Int.toNat_natCast, Hq0.out]; exact hl
          have hx : x ≤ 4294967295 ∧ a + 1 + 4 ≤ s.size := by
            unfold Pu.lo at hl
            split at hl
            · rename_i hc
              rw [Hlen.out] at hc
              simp only [Option.some.injEq] at hl
              have h1 := Pu.le_lt (Pu.piece s.data.toList (a + 1) 4)
              rw [hl, Pu.length_piece _ _ _ (by rw [Hlen.out]; omega)] at h1
              omega
            · cases hl
          obtain ⟨hx1, hx2⟩ := hx
          obtain ⟨q, hq⟩ : ∃ q, q = q0 + 4 := ⟨_, rfl⟩
          have hq1 : (q0 : Int) + 4 = (q : Int) := by omega
          have hq2 : q ≤ s.size := by have := Hq0.out; omega
          have hq3 : a < q := by have := Hq0.out; omega
          obtain ⟨z, hz⟩ : ∃ z, z = m + 1 := ⟨_, rfl⟩
          have hz1 : (m : Int) + 1 = (z : Int) := by omega
          have hz2 : 1 ≤ z := by omega
          have hz3 : z ≤ 64 := by omega
          obtain ⟨y, hy⟩ : ∃ y, y = x := ⟨_, rfl⟩
          have hy3 : y ≤ 4294967295 + 4096 := by omega
          have Hel : Hid (∀ n o, Pu.el s.data.toList n a o = Pu.cp n q z y o) := by
            intro n o
            rw [el_cp2 HB.out (by rw [hmo]; exact hl) (Or.inr Hk.out), hmo, hq, Hq0.out, hz, hy, Hm.out]
          clear hl hmo hq hz
          subst hy
          by_cases hy0 : y = 0
          · have hyb : ((y : Int) == 0) = true := by simp; omega
            have Hno : Hid (Pu.el s.data.toList n a o = none) := by rw [Hid, Hel.out]; unfold Pu.cp; rw [if_pos (Or.inl hy0)]
            go_wp2_with fail
            refine (lowI_yes s (q0 : Int) 4 y _ hs (by omega) (by omega) (by omega) (by omega) HL.out).mono ?_
            rintro e w2 ⟨rfl, rfl⟩
            go_wp2
            go_ret2
            refine ⟨?_, hbel⟩
            rw [Hun.out, Pu.un_no hltL.out Hno.out]
            rfl
          · have hyb : ((y : Int) == 0) = false := by simp; omega
            by_cases hy4 : o.length < y
            · have Hno : Hid (Pu.el s.data.toList n a o = none) := by rw [Hid, Hel.out]; unfold Pu.cp; rw [if_pos (Or.inr (Or.inl hy4))]
              go_wp2_with fail
              refine (lowI_yes s (q0 : Int) 4 y _ hs (by omega) (by omega) (by omega) (by omega) HL.out).mono ?_
              rintro e w2 ⟨rfl, rfl⟩
              go_wp2
              go_ret2
              refine ⟨?_, hbel⟩
              rw [Hun.out, Pu.un_no hltL.out Hno.out]
              rfl
            · by_cases hz4 : n - o.length < z
              · have Hno : Hid (Pu.el s.data.toList n a o = none) := by rw [Hid, Hel.out]; unfold Pu.cp; rw [if_pos (Or.inr (Or.inr hz4))]
                go_wp2_with fail
                refine (lowI_yes s (q0 : Int) 4 y _ hs (by omega) (by omega) (by omega) (by omega) HL.out).mono ?_
                rintro e w2 ⟨rfl, rfl⟩
                go_wp2
                go_ret2
                refine ⟨?_, hbel⟩
                rw [Hun.out, Pu.un_no hltL.out Hno.out]
                rfl
              · have Hyes : Hid (Pu.el s.data.toList n a o = some (q, Pu.copyN y z o)) := by rw [Hid, Hel.out]; unfold Pu.cp; rw [if_neg (by omega)]
                have hown0 := hown
                clear hown
                go_wp2_with fail
                refine (lowI_yes s (q0 : Int) 4 y _ hs (by omega) (by omega) (by omega) (by omega) HL.out).mono ?_
                rintro e w2 ⟨rfl, rfl⟩
                go_wp2
                clear h4
                go_loopw [9, 17] (fun v i w3 => ∃ (k : Nat) (ao' : Option Addr) (cap' : Nat), k ≤ z ∧ i = .int .i64 k ∧ v = .slice ao' (o.length + k) cap' ∧ w3.ownsRow w'.heap.size 5 1 (.slice ao' (o.length + k) cap') (o.length + k) (bytesV (Pu.copyN y k o)) ∧ Below w'.heap.size w' w3) (fun _ i _ => z - (intOf i).toNat)
                case atStart => exact ⟨0, ao, cap, Nat.zero_le _, rfl, rfl, hown0, hbel⟩
                case round =>
                  obtain ⟨k, ao', cap', hk, rfl, rfl, hown3, hbel3⟩ := hrel
                  by_cases hk2 : k < z
                  · obtain ⟨g, cp', hform, _, _⟩ := hown3.form (by omega)
                    simp only [Value.slice.injEq, true_and] at hform
                    obtain ⟨rfl, rfl⟩ := hform
                    have hc := bytesV_cell (i := o.length + k - y) hown3 (by omega)
                    have HN : Hid (Pu.copyN y (k + 1) o = Pu.copyN y k o ++ [Pu.nth (Pu.copyN y k o) (o.length + k - y)]) := by
                      rw [Hid, Pu.copyN_snoc, Pu.length_copyN]
                    generalize Pu.nth (Pu.copyN y k o) (o.length + k - y) = c at *
                    have hcl := c.toNat_lt
                    obtain ⟨c', hc'⟩ : ∃ c', c' = c.toNat := ⟨_, rfl⟩
                    have Hc' : Hid (c' = c.toNat) := hc'
                    rw [← hc'] at hc hcl
                    clear hc'
                    obtain ⟨i0, hi, hz0, hz1', hz2'⟩ := info_parts Tryz.info5
                    go_wp2_with (first | (at_builtin; refine wpList_append_own _ rfl (.tmp 148) (.tmp 150) 25 rfl w'.heap.size 5 i0 (.int .u8 0) 1 1 Tryz.underlying25 hi hz0 hz1' hz2' rfl (by decide) _ _ _ rfl (hown3.alloc _) ⟨_, 0, none⟩ 1 1 [.int .u8 c'] rfl rfl ?c1 ?c2 ?c3 ?c4 ?c5 ?_) | go_in)
                    case c1 => exact one_new rfl
                    case c2 => exact one_cell
                    case c3 => unfold maxLen; omega
                    case c4 => omega
                    case c5 => rw [size_alloc']; have := hbel3.size; omega
                    intro v' w4 own4 hg4 hnn
                    clear hnn
                    obtain ⟨ao5, cap5, hv5⟩ := slen_of own4
                    rw [hv5] at own4 ⊢
                    clear hv5 v'
                    have e4 : bytesV (Pu.copyN y k o) ++ [Value.int .u8 (c' : Int)] = bytesV (Pu.copyN y (k + 1) o) := by rw [HN.out, bytesV_append, Hc'.out]; rfl
                    rw [e4] at own4
                    have hbel4 : Below w'.heap.size w' w4 := below_append hbel3 (Nat.le_refl _) hg4 (fun k e => (hown3.lt k e).1)
                    have Hown4 : Hid (w4.ownsRow w'.heap.size 5 1 (.slice ao5 (o.length + k + 1) cap5) (o.length + k + 1) (bytesV (Pu.copyN y (k + 1) o))) := own4
                    clear own4 e4 hg4 hown3 hc HN
                    go_wp2
                    go_roundw
                    case rel => exact ⟨k + 1, ao5, cap5, by omega, by go_num, rfl, Hown4.out, hbel4⟩
                    case measure => simp [intOf]; omega
                  · obtain rfl : k = z := by omega
                    have hlc : (Pu.copyN y k o).length = o.length + k := Pu.length_copyN y k o
                    have Hlc : Hid ((Pu.copyN y k o).length = o.length + k) := hlc
                    have Hown5 : Hid (wr.ownsRow w'.heap.size 5 1 (.slice ao' (o.length + k) cap') (Pu.copyN y k o).length (bytesV (Pu.copyN y k o))) := by rw [Hid, hlc]; exact hown3
                    clear hlc hown3
                    go_wp2
                    go_roundw
                    case rel => exact ⟨q, f - 1, Pu.copyN y k o, by omega, by rw [Hlc.out]; omega, by omega, by go_num, Hown5.out, Hun.out.trans (Pu.un_yes hltL.out hfL.out Hyes.out), hbel3⟩
                    case measure => simp [intOf]; omega
    · have Hd : Hid (Pu.un s.data.toList n f a o = if o.length = n then some o else none) := Pu.un_done (by rw [Hlen.out]; exact hlt)
      have hcv := conv_own hown
      by_cases hfin : o.length = n
      · have hne : ((o.length : Int) != (n : Int)) = false := by simp [hfin]
        have Hfin : Hid (o.length = n) := hfin
        clear hfin
        go_wp2
        go_ret2
        refine ⟨?_, hbel⟩
        rw [Hun.out, Hd.out, if_pos Hfin.out]
        rfl
      · have hne : ((o.length : Int) != (n : Int)) = true := by simp; omega
        go_wp2
        go_ret2
        refine ⟨?_, hbel⟩
        rw [Hun.out, Hd.out, if_neg hfin]
        rfl
end Go.Proofs.YtjobhlncllfdmaaGreat
