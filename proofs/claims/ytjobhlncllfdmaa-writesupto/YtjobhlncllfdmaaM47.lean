/- The reference's Write: its walk, over what holds. -/
import Derived.Test.YtjobhlncllfdmaaM37
import Derived.Deep.RegionHeld3
import Derived.Deep.DeepCutAuto
import Derived.BigQuiet
namespace Go.Proofs.Ytjobhlncllfdmaa
open Go.RowKit Go.Maps

set_option maxHeartbeats 16000000 in
set_option maxRecDepth 100000 in
theorem refWrite_walk (rows n N G S lbc oc cc lbt ot ct : Nat) (w W1 : World) (th tg t0 FILE : ByteArray) (P : Nat → Nat → Nat → ByteArray) (Q : Nat → Nat → Nat → Nat) (WO : World → Prop) (OI : Nat → ByteArray → ByteArray → Prop) (II : Nat → Nat → Nat → ByteArray → ByteArray → Prop)
    (hrows1 : 1 ≤ rows) (hrows2 : rows ≤ 1000) (hn5 : n ≤ 5000) (hN1 : 1 ≤ N) (hN20 : N ≤ 20) (hths : th.size ≤ 1000) (htgs : tg.size ≤ 7) (ht0 : t0 = ⟨#[83, 84, 82, 65]⟩)
    (hsz : w.heap.size = S) (hW1' : w.alloc (.cells #[.slice (some ⟨lbc, oc, none⟩) N cc, .slice (some ⟨lbt, ot, none⟩) N ct] 50) = W1) (q0 : W1.cell? ⟨S, 0, none⟩ = some (.slice (some ⟨lbc, oc, none⟩) N cc)) (q1 : W1.cell? ⟨S, 1, none⟩ = some (.slice (some ⟨lbt, ot, none⟩) N ct))
    (WOb : Hid (∀ W, WO W → W.cell? ⟨S, 0, none⟩ = some (.slice (some ⟨lbc, oc, none⟩) N cc) ∧ W.cell? ⟨S, 1, none⟩ = some (.slice (some ⟨lbt, ot, none⟩) N ct)))
    (WOB : Hid (∀ W, WO W → Below S w W))
    (WOl : Hid (∀ W, WO W → ∃ a0 c0, W.cell? ⟨lbt, ot, none⟩ = some (.slice a0 n c0)))
    (C30 : Hid (Calls Try.prog 30 #[.agg #[.slice (some ⟨lbc, oc, none⟩) N cc, .slice (some ⟨lbt, ot, none⟩) N ct], .int .i64 rows] W1 fun e w' => e = .returned (.bool true) ∧ WO w'))
    (C31 : Hid (∀ W, WO W → Calls Try.prog 31 #[.slice (some ⟨lbc, oc, none⟩) N cc] W fun e w' => e = .returned (.string th) ∧ WO w'))
    (C33 : Hid (∀ W, Calls Try.prog 33 #[.int .i64 (n : Int), .int .i64 (rows : Int)] W fun e w' => e = .returned (.int .i64 (G : Int)) ∧ w' = W))
    (CG : Hid (∀ W, WO W → Calls Try.prog 32 #[.int .i64 (G : Int)] W fun e w' => e = .returned (.string tg) ∧ WO w'))
    (C32 : Hid (∀ (q : Nat) (W : World), q ≤ 140737488355328 → WO W → Calls Try.prog 32 #[.int .i64 (q : Int)] W fun e w' => e = .returned (.string ⟨(vb q).toArray⟩) ∧ WO w'))
    (HO0 : Hid (OI 0 t0 (th ++ tg)))
    (HOs : Hid (∀ fr s ft, OI fr s ft → fr ≤ 6000 → s.size ≤ 60000000001000 ∧ ft.size ≤ 6002000))
    (HOI : Hid (∀ fr te s ft, OI fr s ft → fr < n → fr ≤ 6000 → te ≤ 6000 → II fr te 0 s (ft ++ ⟨(vb (te - fr)).toArray⟩)))
    (HIs : Hid (∀ fr te j s ft, II fr te j s ft → fr ≤ 6000 → j ≤ 20 → s.size ≤ 60000000001000 + 500000000 * j ∧ ft.size ≤ 6002000 + 7 + 14 * j))
    (HIn : Hid (∀ (fr te j : Nat) (s ft : ByteArray), j < N → II fr te j s ft → fr ≤ te → te ≤ n → fr ≤ 6000 → II fr te (j + 1) (s ++ P fr te j) (ft ++ ⟨(vb s.size).toArray⟩ ++ ⟨(vb (Q fr te j)).toArray⟩)))
    (HIO : Hid (∀ fr s ft, II fr (min (fr + rows) n) N s ft → fr < n → OI (fr + rows) s ft))
    (HOF : Hid (∀ fr s ft, OI fr s ft → ¬ fr < n → s ++ ⟨(endL ft.data.toList).toArray⟩ = FILE))
    (C34 : Hid (∀ (W : World) (fr te j : Nat), j < N → WO W → fr < te → te ≤ n → ∃ (nm : ByteArray) (lbi oi ci kind : Nat) (opt : Bool), W.cell? ⟨lbc, oc + j * 3, none⟩ = some (.string nm) ∧ W.cell? ⟨lbc, oc + j * 3 + 1, none⟩ = some (.int .i64 (kind : Int)) ∧ W.cell? ⟨lbc, oc + j * 3 + 2, none⟩ = some (.bool opt) ∧ W.cell? ⟨lbt, ot + j, none⟩ = some (.slice (some ⟨lbi, oi, none⟩) n ci) ∧ n ≤ ci ∧ ci ≤ 9223372036854775807 ∧
      ∀ W', Below W.heap.size W W' → Calls Try.prog 34 #[.agg #[.string nm, .int .i64 (kind : Int), .bool opt], .slice (some ⟨lbi, oi + fr * 3, none⟩) (te - fr) (ci - fr)] W' fun e w' => e = .returned (.tuple #[.string (P fr te j), .int .i64 (Q fr te j : Int)]) ∧ WO w' ∧ Below W'.heap.size W' w'))
    (HPs : Hid (∀ fr te j, j < N → fr ≤ te → te ≤ n → (P fr te j).size ≤ 500000000 ∧ Q fr te j ≤ 2))
    (CE : Hid (∀ (ft : ByteArray) (W : World), ft.size ≤ 6002000 → WO W → Calls Try.prog 12 #[.string ft] W fun e w' => e = .returned (.string ⟨(endL ft.data.toList).toArray⟩) ∧ WO w'))
    (HEN : Hid (∀ ft : ByteArray, (endL ft.data.toList).length = ft.size + 12)) :
    Calls Try.prog 13 #[.agg #[.slice (some ⟨lbc, oc, none⟩) N cc, .slice (some ⟨lbt, ot, none⟩) N ct], .int .i64 rows] w fun e w' => e = .returned (.tuple #[.string FILE, .int .i64 0]) ∧ Below S w w' := by
  have d1 : decide ((rows : Int) < 1) = false := by simp; omega
  have d2 : decide (1000 < (rows : Int)) = false := by simp; omega
  have hz0 : ¬ (9223372036854775807 < th.size + tg.size) := by omega
  go_enter Try.func13, Try.ntmps13
  go_wp2_with fail
  refine C30.out.mono ?_
  rintro e w2 ⟨rfl, hw2⟩
  obtain ⟨p0, p1⟩ := WOb.out w2 hw2
  obtain ⟨a0, c0, pl⟩ := WOl.out w2 hw2
  have C31' := hid (C31.out w2 hw2)
  clear C30 C31 hw2 q0 q1
  go_wp2_with fail
  refine C31'.out.mono ?_
  rintro e w3 ⟨rfl, hw3⟩
  have HW3 := hid hw3
  clear hw3 C31' p0 p1 pl
  go_wp2_with fail
  refine (C33.out _).mono ?_
  rintro e w' ⟨rfl, hw'⟩
  subst w'
  go_wp2_with fail
  refine (CG.out _ HW3.out).mono ?_
  rintro e w4 ⟨rfl, hw4⟩
  have HW4 := hid hw4
  clear hw4 HW3 CG
  go_wp2
  go_loopw [8, 9, 10] (fun s8 s9 i wr => ∃ (fr : Nat) (s ft : ByteArray), fr ≤ 6000 ∧ i = .int .i64 fr ∧ s8 = .string s ∧ s9 = .string ft ∧ Hid (OI fr s ft) ∧ Hid (WO wr)) (fun _ _ i _ => n - (intOf i).toNat)
  case atStart => exact ⟨0, t0, th ++ tg, Nat.zero_le _, rfl, by rw [ht0], rfl, HO0, HW4⟩
  case round =>
    clear HO0 HW4 WOl C33
    obtain ⟨fr, s, ft, hfr, rfl, rfl, rfl, HO, HW⟩ := hrel
    obtain ⟨hss, hfs⟩ := HOs.out fr s ft HO.out hfr
    by_cases hk2 : fr < n
    case neg =>
      have CE' := hid (CE.out ft wr hfs HW.out)
      have HF := hid (HOF.out fr s ft HO.out hk2)
      obtain ⟨te, hte⟩ : ∃ te : ByteArray, te = ⟨(endL ft.data.toList).toArray⟩ := ⟨_, rfl⟩
      have htes : te.size = ft.size + 12 := by rw [hte, ← len_data]; exact HEN.out ft
      rw [← hte] at CE' HF
      have hz : ¬ (9223372036854775807 < s.size + te.size) := by omega
      clear hte htes HO HW
      go_wp2_with fail
      refine CE'.out.mono ?_
      rintro e w5 ⟨rfl, hw5⟩
      have HB := hid (WOB.out w5 hw5)
      clear hw5 CE'
      go_wp2
      go_ret2
      exact ⟨by rw [HF.out]; rfl, HB.out⟩
    obtain ⟨m, hm⟩ : ∃ m, m = fr + rows := ⟨_, rfl⟩
    by_cases hle : n < m
    · have d3 : decide (n < m) = true := decide_eq_true hle
      have hmin : min (fr + rows) n = n := by omega
      have HPm := hid hm
      have h1 : fr < n := by omega
      have h2 : n ≤ n := by omega
      have hm2 : m ≤ 7000 := by omega
      obtain ⟨q, hq⟩ : ∃ q, q = n - fr := ⟨_, rfl⟩
      have em : (fr : Int) + (rows : Int) = (m : Int) := by omega
      have er : (n : Int) - (fr : Int) = (q : Int) := by omega
      obtain ⟨tq, htq⟩ : ∃ tq : ByteArray, tq = ⟨(vb q).toArray⟩ := ⟨_, rfl⟩
      have htqs : tq.size ≤ 7 := by rw [htq, ← len_data]; simpa using length_vb8 (n := q) (by omega)
      have C1 := hid (fun W h => C32.out q W (by omega) h)
      have HI0 := hid (HOI.out fr n s ft HO.out hk2 hfr (by omega))
      rw [← hq, ← htq] at HI0
      rw [← htq] at C1
      have HNX : Hid (∀ s ft, II fr n N s ft → OI m s ft) := fun s ft h => by rw [hm]; exact HIO.out fr s ft (by rw [hmin]; exact h) hk2
      have hz1 : ¬ (9223372036854775807 < ft.size + tq.size) := by omega
      have hm3 : fr < m := by omega
      clear htq HO HOI HIO hq hmin HPm hm
      go_wp2_with fail
      refine (C1.out _ HW.out).mono ?_
      rintro e w5 ⟨rfl, hw5⟩
      have HW5 := hid hw5
      clear hw5 C1 HW
      go_wp2
      go_loopw [8, 9, 12] (fun s8 s9 i wr => ∃ (j : Nat) (s ft : ByteArray), j ≤ N ∧ i = .int .i64 j ∧ s8 = .string s ∧ s9 = .string ft ∧ Hid (II fr n j s ft) ∧ Hid (WO wr)) (fun _ _ i _ => N - (intOf i).toNat)
      case atStart => exact ⟨0, s, ft ++ tq, Nat.zero_le _, rfl, rfl, rfl, HI0, HW5⟩
      case round =>
        clear HI0 HW5 hss hfs hz1
        obtain ⟨j, s, ft, hj, rfl, rfl, rfl, HI, HW⟩ := hrel
        obtain ⟨b0, b1⟩ := WOb.out wr HW.out
        by_cases hj2 : j < N
        case neg =>
          obtain rfl : j = N := by omega
          have HN := hid (HNX.out s ft HI.out)
          go_wp2
          go_roundw
          case rel => exact ⟨m, s, ft, by omega, by go_num, rfl, rfl, HN, HW⟩
          case measure => simp [intOf]; omega
        obtain ⟨hss, hfs⟩ := HIs.out fr n j s ft HI.out hfr (by omega)
        obtain ⟨hps, hqs⟩ := HPs.out fr n j hj2 (by omega) h2
        obtain ⟨nm, lbi, oi, ci, kind, opt, x0, x1, x2, x3, hci, hci2, hcall⟩ := C34.out wr fr n j hj2 HW.out h1 h2
        have hnx := HIn.out fr n j s ft hj2 HI.out (by omega) h2 hfr
        obtain ⟨p, hp⟩ : ∃ p, p = P fr n j := ⟨_, rfl⟩
        obtain ⟨k, hk⟩ : ∃ k, k = Q fr n j := ⟨_, rfl⟩
        rw [← hp, ← hk] at hcall hnx
        rw [← hp] at hps
        rw [← hk] at hqs
        obtain ⟨tv, htv⟩ : ∃ tv : ByteArray, tv = ⟨(vb s.size).toArray⟩ := ⟨_, rfl⟩
        obtain ⟨tk, htk⟩ : ∃ tk : ByteArray, tk = ⟨(vb k).toArray⟩ := ⟨_, rfl⟩
        have htvs : tv.size ≤ 7 := by rw [htv, ← len_data]; simpa using length_vb8 (n := s.size) (by omega)
        have htks : tk.size ≤ 7 := by rw [htk, ← len_data]; simpa using length_vb8 (n := k) (by omega)
        have CA := hid (fun W h => C32.out s.size W (by omega) h)
        have CB := hid (fun W h => C32.out k W (by omega) h)
        rw [← htv] at CA hnx
        rw [← htk] at CB hnx
        have HN := hid hnx
        have CP := hid hcall
        have SS : Hid (∀ W : World, Below wr.heap.size wr W → W.cell? ⟨S, 0, none⟩ = some (.slice (some ⟨lbc, oc, none⟩) N cc) ∧ W.cell? ⟨S, 1, none⟩ = some (.slice (some ⟨lbt, ot, none⟩) N ct) ∧ W.cell? ⟨lbc, oc + j * 3, none⟩ = some (.string nm) ∧ W.cell? ⟨lbc, oc + j * 3 + 1, none⟩ = some (.int .i64 (kind : Int)) ∧ W.cell? ⟨lbc, oc + j * 3 + 2, none⟩ = some (.bool opt) ∧ W.cell? ⟨lbt, ot + j, none⟩ = some (.slice (some ⟨lbi, oi, none⟩) n ci)) := fun W hW => by
          have cc : ∀ (b q : Nat) (v : Value), wr.cell? ⟨b, q, none⟩ = some v → W.cell? ⟨b, q, none⟩ = some v := fun b q v h => by
            rw [World.cell?_of_block (w := wr) (a := ⟨b, q, none⟩) (hW.block b (World.block_lt_of_cell? wr ⟨b, q, none⟩ h))]; exact h
          exact ⟨cc _ _ _ b0, cc _ _ _ b1, cc _ _ _ x0, cc _ _ _ x1, cc _ _ _ x2, cc _ _ _ x3⟩
        have hcte : n ≤ ci := by omega
        have hfte : fr ≤ n := by omega
        have hne : ¬ ci = fr := by omega
        have hfci : fr ≤ ci := by omega
        have hz2 : ¬ (9223372036854775807 < ft.size + tv.size) := by omega
        have hz3 : ¬ (9223372036854775807 < ft.size + tv.size + tk.size) := by omega
        have hz4 : ¬ (9223372036854775807 < s.size + p.size) := by omega
        clear hp hk htv htk hnx hcall HI C34 HIn HPs HIs HNX
        go_wp2
        go_region_held3 (fun W => W.cell? ⟨S, 0, none⟩ = some (.slice (some ⟨lbc, oc, none⟩) N cc) ∧ W.cell? ⟨S, 1, none⟩ = some (.slice (some ⟨lbt, ot, none⟩) N ct) ∧ W.cell? ⟨lbc, oc + j * 3, none⟩ = some (.string nm) ∧ W.cell? ⟨lbc, oc + j * 3 + 1, none⟩ = some (.int .i64 (kind : Int)) ∧ W.cell? ⟨lbc, oc + j * 3 + 2, none⟩ = some (.bool opt) ∧ W.cell? ⟨lbt, ot + j, none⟩ = some (.slice (some ⟨lbi, oi, none⟩) n ci))
          ((with_reducible refine SS.out _ ?_; repeat (first | with_reducible exact Below.refl _ _ | with_reducible refine bself ?_ hb2 | with_reducible refine Below.drew ?_)))
          ((go_at_call 34; refine (CP.out _ (by repeat (first | with_reducible exact Below.refl _ _ | with_reducible refine Below.drew ?_))).mono ?_; rintro e w2 ⟨rfl, hw2, hb2⟩))
        all_goals
          have HW2 := hid hw2
          clear hw2 hb2 SS CP
          go_wp2_with fail
          refine (CA.out _ HW2.out).mono ?_
          rintro e w6 ⟨rfl, hw6⟩
          have HW6 := hid hw6
          clear hw6 HW2 CA
          go_wp2_with fail
          refine (CB.out _ HW6.out).mono ?_
          rintro e w7 ⟨rfl, hw7⟩
          have HW7 := hid hw7
          clear hw7 HW6 CB
          go_wp2
          go_roundw
          case rel => exact ⟨j + 1, s ++ p, ft ++ tv ++ tk, by omega, by go_num, rfl, rfl, HN, HW7⟩
          case measure => simp [intOf]; omega
    · have d3 : decide (n < m) = false := decide_eq_false hle
      have hmin : min (fr + rows) n = m := by omega
      have HPm := hid hm
      have h1 : fr < m := by omega
      have h2 : m ≤ n := by omega
      have hm2 : m ≤ 7000 := by omega
      obtain ⟨q, hq⟩ : ∃ q, q = m - fr := ⟨_, rfl⟩
      have em : (fr : Int) + (rows : Int) = (m : Int) := by omega
      have er : (m : Int) - (fr : Int) = (q : Int) := by omega
      obtain ⟨tq, htq⟩ : ∃ tq : ByteArray, tq = ⟨(vb q).toArray⟩ := ⟨_, rfl⟩
      have htqs : tq.size ≤ 7 := by rw [htq, ← len_data]; simpa using length_vb8 (n := q) (by omega)
      have C1 := hid (fun W h => C32.out q W (by omega) h)
      have HI0 := hid (HOI.out fr m s ft HO.out hk2 hfr (by omega))
      rw [← hq, ← htq] at HI0
      rw [← htq] at C1
      have HNX : Hid (∀ s ft, II fr m N s ft → OI m s ft) := fun s ft h => by rw [hm]; exact HIO.out fr s ft (by rw [hmin]; exact h) hk2
      have hz1 : ¬ (9223372036854775807 < ft.size + tq.size) := by omega
      have hm3 : fr < m := by omega
      clear htq HO HOI HIO hq hmin HPm hm
      go_wp2_with fail
      refine (C1.out _ HW.out).mono ?_
      rintro e w5 ⟨rfl, hw5⟩
      have HW5 := hid hw5
      clear hw5 C1 HW
      go_wp2
      go_loopw [8, 9, 12] (fun s8 s9 i wr => ∃ (j : Nat) (s ft : ByteArray), j ≤ N ∧ i = .int .i64 j ∧ s8 = .string s ∧ s9 = .string ft ∧ Hid (II fr m j s ft) ∧ Hid (WO wr)) (fun _ _ i _ => N - (intOf i).toNat)
      case atStart => exact ⟨0, s, ft ++ tq, Nat.zero_le _, rfl, rfl, rfl, HI0, HW5⟩
      case round =>
        clear HI0 HW5 hss hfs hz1
        obtain ⟨j, s, ft, hj, rfl, rfl, rfl, HI, HW⟩ := hrel
        obtain ⟨b0, b1⟩ := WOb.out wr HW.out
        by_cases hj2 : j < N
        case neg =>
          obtain rfl : j = N := by omega
          have HN := hid (HNX.out s ft HI.out)
          go_wp2
          go_roundw
          case rel => exact ⟨m, s, ft, by omega, by go_num, rfl, rfl, HN, HW⟩
          case measure => simp [intOf]; omega
        obtain ⟨hss, hfs⟩ := HIs.out fr m j s ft HI.out hfr (by omega)
        obtain ⟨hps, hqs⟩ := HPs.out fr m j hj2 (by omega) h2
        obtain ⟨nm, lbi, oi, ci, kind, opt, x0, x1, x2, x3, hci, hci2, hcall⟩ := C34.out wr fr m j hj2 HW.out h1 h2
        have hnx := HIn.out fr m j s ft hj2 HI.out (by omega) h2 hfr
        obtain ⟨p, hp⟩ : ∃ p, p = P fr m j := ⟨_, rfl⟩
        obtain ⟨k, hk⟩ : ∃ k, k = Q fr m j := ⟨_, rfl⟩
        rw [← hp, ← hk] at hcall hnx
        rw [← hp] at hps
        rw [← hk] at hqs
        obtain ⟨tv, htv⟩ : ∃ tv : ByteArray, tv = ⟨(vb s.size).toArray⟩ := ⟨_, rfl⟩
        obtain ⟨tk, htk⟩ : ∃ tk : ByteArray, tk = ⟨(vb k).toArray⟩ := ⟨_, rfl⟩
        have htvs : tv.size ≤ 7 := by rw [htv, ← len_data]; simpa using length_vb8 (n := s.size) (by omega)
        have htks : tk.size ≤ 7 := by rw [htk, ← len_data]; simpa using length_vb8 (n := k) (by omega)
        have CA := hid (fun W h => C32.out s.size W (by omega) h)
        have CB := hid (fun W h => C32.out k W (by omega) h)
        rw [← htv] at CA hnx
        rw [← htk] at CB hnx
        have HN := hid hnx
        have CP := hid hcall
        have SS : Hid (∀ W : World, Below wr.heap.size wr W → W.cell? ⟨S, 0, none⟩ = some (.slice (some ⟨lbc, oc, none⟩) N cc) ∧ W.cell? ⟨S, 1, none⟩ = some (.slice (some ⟨lbt, ot, none⟩) N ct) ∧ W.cell? ⟨lbc, oc + j * 3, none⟩ = some (.string nm) ∧ W.cell? ⟨lbc, oc + j * 3 + 1, none⟩ = some (.int .i64 (kind : Int)) ∧ W.cell? ⟨lbc, oc + j * 3 + 2, none⟩ = some (.bool opt) ∧ W.cell? ⟨lbt, ot + j, none⟩ = some (.slice (some ⟨lbi, oi, none⟩) n ci)) := fun W hW => by
          have cc : ∀ (b q : Nat) (v : Value), wr.cell? ⟨b, q, none⟩ = some v → W.cell? ⟨b, q, none⟩ = some v := fun b q v h => by
            rw [World.cell?_of_block (w := wr) (a := ⟨b, q, none⟩) (hW.block b (World.block_lt_of_cell? wr ⟨b, q, none⟩ h))]; exact h
          exact ⟨cc _ _ _ b0, cc _ _ _ b1, cc _ _ _ x0, cc _ _ _ x1, cc _ _ _ x2, cc _ _ _ x3⟩
        have hcte : m ≤ ci := by omega
        have hfte : fr ≤ m := by omega
        have hne : ¬ ci = fr := by omega
        have hfci : fr ≤ ci := by omega
        have hz2 : ¬ (9223372036854775807 < ft.size + tv.size) := by omega
        have hz3 : ¬ (9223372036854775807 < ft.size + tv.size + tk.size) := by omega
        have hz4 : ¬ (9223372036854775807 < s.size + p.size) := by omega
        clear hp hk htv htk hnx hcall HI C34 HIn HPs HIs HNX
        go_wp2
        go_region_held3 (fun W => W.cell? ⟨S, 0, none⟩ = some (.slice (some ⟨lbc, oc, none⟩) N cc) ∧ W.cell? ⟨S, 1, none⟩ = some (.slice (some ⟨lbt, ot, none⟩) N ct) ∧ W.cell? ⟨lbc, oc + j * 3, none⟩ = some (.string nm) ∧ W.cell? ⟨lbc, oc + j * 3 + 1, none⟩ = some (.int .i64 (kind : Int)) ∧ W.cell? ⟨lbc, oc + j * 3 + 2, none⟩ = some (.bool opt) ∧ W.cell? ⟨lbt, ot + j, none⟩ = some (.slice (some ⟨lbi, oi, none⟩) n ci))
          ((with_reducible refine SS.out _ ?_; repeat (first | with_reducible exact Below.refl _ _ | with_reducible refine bself ?_ hb2 | with_reducible refine Below.drew ?_)))
          ((go_at_call 34; refine (CP.out _ (by repeat (first | with_reducible exact Below.refl _ _ | with_reducible refine Below.drew ?_))).mono ?_; rintro e w2 ⟨rfl, hw2, hb2⟩))
        all_goals
          have HW2 := hid hw2
          clear hw2 hb2 SS CP
          go_wp2_with fail
          refine (CA.out _ HW2.out).mono ?_
          rintro e w6 ⟨rfl, hw6⟩
          have HW6 := hid hw6
          clear hw6 HW2 CA
          go_wp2_with fail
          refine (CB.out _ HW6.out).mono ?_
          rintro e w7 ⟨rfl, hw7⟩
          have HW7 := hid hw7
          clear hw7 HW6 CB
          go_wp2
          go_roundw
          case rel => exact ⟨j + 1, s ++ p, ft ++ tv ++ tk, by omega, by go_num, rfl, rfl, HN, HW7⟩
          case measure => simp [intOf]; omega
end Go.Proofs.Ytjobhlncllfdmaa
