/- The book's backTable: its walk, over what holds. -/
import Derived.Test.YtjobhlncllfdmaaM32
import Derived.Deep.DeepCutAuto
import Derived.BigQuiet
import Derived.WalkSpells
namespace Go.Proofs.Ytjobhlncllfdmaa
open Go.RowKit Go.Maps

set_option maxHeartbeats 16000000 in
set_option maxRecDepth 100000 in
theorem backTable_walk (b N T S gc cu gt cv : Nat) (aw : Option Addr) (cw : Nat) (ac : Option Addr) (cc : Nat) (at' : Option Addr) (ct : Nat) (w W1 W2 : World) (N2 T1 T2 : Nat) (V : World → Nat → Prop) (M Fin : World → Prop)
    (hN7 : N ≤ 10000000) (hT7 : T ≤ 10000000) (hN2a : N2 ≤ N + 2) (hN2b : N + 2 ≤ N2) (hT2a : T2 ≤ T + 2) (hT2b : T + 2 ≤ T2) (hT1a : T1 ≤ T + 1) (hT1b : T + 1 ≤ T1) (hcu : N2 ≤ cu) (hcu2 : cu ≤ 9223372036854775807) (hcv : T2 ≤ cv) (_hcv2 : cv ≤ 9223372036854775807)
    (hsz : w.heap.size = S) (s1 : W1.heap.size = S + 1) (e1 : w.alloc (.cells #[.slice (some ⟨gc, 0, none⟩) N cu, .slice (some ⟨gt, 0, none⟩) T cv] 50) = W1) (e2 : W1.alloc (.cells #[.slice ac N cc, .slice at' T ct] 50) = W2)
    (H0 : Hid (V W2 0))
    (Vb : Hid (∀ W k, V W k → W.cell? ⟨S, 0, none⟩ = some (.slice (some ⟨gc, 0, none⟩) N cu) ∧ W.cell? ⟨S, 1, none⟩ = some (.slice (some ⟨gt, 0, none⟩) T cv) ∧ W.cell? ⟨S + 1, 0, none⟩ = some (.slice ac N cc) ∧ W.cell? ⟨S + 1, 1, none⟩ = some (.slice at' T ct)))
    (Vn : Hid (∀ W, V W 0 → W.cell? ⟨gt, T, none⟩ = some (.slice none 0 0) ∧ W.cell? ⟨gt, T1, none⟩ = some (.slice none 0 0)))
    (VB : Hid (∀ W W' k, V W k → Below W.heap.size W W' → V W' k))
    (Vc : Hid (∀ W i, V W 0 → i < N → ∃ (lbc oc : Nat) (u : ByteArray) (kd : Int) (op : Bool), ac = some ⟨lbc, oc, none⟩ ∧ W.cell? ⟨lbc, oc + i * 3, none⟩ = some (.string u) ∧ W.cell? ⟨lbc, oc + i * 3 + 1, none⟩ = some (.int .i64 kd) ∧ W.cell? ⟨lbc, oc + i * 3 + 2, none⟩ = some (.bool op) ∧ W.cell? ⟨gc, i * 3, none⟩ = some (.string u) ∧ W.cell? ⟨gc, i * 3 + 1, none⟩ = some (.int .i64 kd) ∧ W.cell? ⟨gc, i * 3 + 2, none⟩ = some (.bool op) ∧ lbc < W.heap.size ∧ gc < W.heap.size))
    (Vd : Hid (∀ W i, V W 0 → N ≤ i → i < N2 → W.cell? ⟨gc, i * 3, none⟩ = some (.string ⟨#[98, 101, 104, 105, 110, 100]⟩) ∧ W.cell? ⟨gc, i * 3 + 1, none⟩ = some (.int .i64 0) ∧ W.cell? ⟨gc, i * 3 + 2, none⟩ = some (.bool false) ∧ gc < W.heap.size))
    (Vl : Hid (∀ W k, V W k → k < T → ∃ (lbt ot n ci g c gw : Nat) (ai : Option Addr), at' = some ⟨lbt, ot, none⟩ ∧ aw = some ⟨gw, 0, none⟩ ∧ n ≤ 10000000 ∧ n + 2 ≤ c ∧ c ≤ 9223372036854775807 ∧
      (∀ W', V W' k → W'.cell? ⟨lbt, ot + k, none⟩ = some (.slice ai n ci) ∧ W'.cell? ⟨gt, k, none⟩ = some (.slice (some ⟨g, 0, none⟩) n c) ∧ W'.frozen? ⟨gt, k, none⟩ = false ∧ W'.cell? ⟨gw, k, none⟩ = some (.slice (some ⟨g, 0, none⟩) (n + 2) c) ∧ V (W'.setCell ⟨gt, k, none⟩ (.slice (some ⟨g, 0, none⟩) (n + 2) c)) (k + 1)) ∧
      (∀ W' j, V W' k → j < n → ∃ (lbi oi : Nat) (nu : Bool) (nn : Int) (t : ByteArray), ai = some ⟨lbi, oi, none⟩ ∧ W'.cell? ⟨lbi, oi + j * 3, none⟩ = some (.bool nu) ∧ W'.cell? ⟨lbi, oi + j * 3 + 1, none⟩ = some (.int .i64 nn) ∧ W'.cell? ⟨lbi, oi + j * 3 + 2, none⟩ = some (.string t) ∧ W'.cell? ⟨g, j * 3, none⟩ = some (.bool nu) ∧ W'.cell? ⟨g, j * 3 + 1, none⟩ = some (.int .i64 nn) ∧ W'.cell? ⟨g, j * 3 + 2, none⟩ = some (.string t)) ∧
      (∀ W' j, V W' k → n ≤ j → j < n + 2 → W'.cell? ⟨g, j * 3, none⟩ = some (.bool false) ∧ W'.cell? ⟨g, j * 3 + 1, none⟩ = some (.int .i64 77) ∧ W'.cell? ⟨g, j * 3 + 2, none⟩ = some (.string ⟨#[]⟩))))
    (C27 : Hid (∀ W, V W T → Calls Try.prog 27 #[.pointer (some ⟨b, 0, none⟩), .slice (some ⟨gc, 0, none⟩) N2 cu] W fun e w' => e = .returned (.tuple #[]) ∧ M w'))
    (C61 : Hid (∀ W, M W → Calls Try.prog 61 #[.pointer (some ⟨b, 0, none⟩), .slice (some ⟨gt, 0, none⟩) T2 cv] W fun e w' => e = .returned (.tuple #[]) ∧ Fin w')) :
    Calls Try.prog 37 #[.pointer (some ⟨b, 0, none⟩), .agg #[.slice (some ⟨gc, 0, none⟩) N cu, .slice (some ⟨gt, 0, none⟩) T cv], .slice aw T cw, .agg #[.slice ac N cc, .slice at' T ct]] w fun e w' => e = .returned (.bool true) ∧ Fin w' := by
  have eN : (N : Int) + 2 = (N2 : Int) := by omega
  have eT : (T : Int) + 2 = (T2 : Int) := by omega
  have eT1 : (T : Int) + 1 = (T1 : Int) := by omega
  have hT1l : T1 < T2 := by omega
  have hTl : T < T2 := by omega
  obtain ⟨q0, q1, q2, q3⟩ := Vb.out W2 0 H0.out
  obtain ⟨q4, q5⟩ := Vn.out W2 H0.out
  -- a cell of a world stays
  have CK : Hid (∀ (W W' : World) (bl q : Nat) (v : Value), Below W.heap.size W W' → W.cell? ⟨bl, q, none⟩ = some v → W'.cell? ⟨bl, q, none⟩ = some v) := fun W W' bl q v hb h => by
    rw [World.cell?_of_block (w := W) (a := ⟨bl, q, none⟩) (hb.block bl (World.block_lt_of_cell? W ⟨bl, q, none⟩ h))]; exact h
  have hnil : ∀ W : World, (binOp .eql 64 (.slice none 0 0) (.slice none 0 0)).run Try.prog W = .ok (.bool true) W := fun W => by
    first
      | exact run_eql_nil_slice W 64 66 none 0 0 0 0 Try.underlying64
      | exact Go.run_eql_nil_slice W 64 66 none 0 0 0 0 Try.underlying64
  go_enter Try.func37, Try.ntmps37
  go_wp2
  go_loopw [11, 12] (fun s11 i wr => ∃ k : Nat, k ≤ N2 ∧ i = .int .i64 k ∧ s11 = .bool true ∧ Hid (V wr 0)) (fun _ i _ => N2 - (intOf i).toNat)
  case atStart => exact ⟨0, Nat.zero_le _, rfl, rfl, H0⟩
  case round =>
    clear H0 q0 q1 q2 q3 q4 q5 Vn
    obtain ⟨k, hk, rfl, rfl, HV⟩ := hrel
    obtain ⟨q0, q1, q2, q3⟩ := Vb.out wr 0 HV.out
    by_cases hk2 : k < N2
    case neg =>
      obtain rfl : k = N2 := by omega
      go_wp2
      go_loopw [11, 14] (fun s11 i wr => ∃ k : Nat, k ≤ T ∧ i = .int .i64 k ∧ s11 = .bool true ∧ Hid (V wr k)) (fun _ i _ => T - (intOf i).toNat)
      case atStart => exact ⟨0, Nat.zero_le _, rfl, rfl, HV⟩
      case round =>
        clear HV q0 q1 q2 q3 Vc Vd
        obtain ⟨k, hk, rfl, rfl, HV⟩ := hrel
        obtain ⟨q0, q1, q2, q3⟩ := Vb.out wr k HV.out
        by_cases hk2 : k < T
        case neg =>
          obtain rfl : k = T := by omega
          have C1 := hid (C27.out wr HV.out)
          clear HV Vb VB Vl C27
          go_wp2_with fail
          refine C1.out.mono ?_
          rintro e w3 ⟨rfl, h3⟩
          have C2 := hid (C61.out w3 h3)
          clear h3 C1 C61 q0 q1 q2 q3
          go_wp2_with fail
          refine C2.out.mono ?_
          rintro e w4 ⟨rfl, h4⟩
          have HF := hid h4
          clear h4 C2
          go_wp2
          go_ret
          exact ⟨rfl, HF.out⟩
        obtain ⟨lbt, ot, n, ci, g, c, gw, ai, rfl, rfl, hn7, hnc, hc2, hcells, hrows, h77⟩ := Vl.out wr k HV.out hk2
        have HC := hid hcells
        have HR := hid hrows
        have H7 := hid h77
        obtain ⟨x0, x1, x2, x3, _⟩ := hcells wr HV.out
        obtain ⟨m2, hm2⟩ : ∃ m2, m2 = n + 2 := ⟨_, rfl⟩
        have em : (n : Int) + 2 = (m2 : Int) := by omega
        have hm2a : m2 ≤ n + 2 := by omega
        have hm2b : n + 2 ≤ m2 := by omega
        rw [← hm2] at HC x3
        have hnn : ((n : Int) == (n : Int)) = true := by simp
        clear hcells hrows h77 hm2 Vl C27 C61
        go_wp2
        go_loopw [11, 16] (fun s11 i wr => ∃ j : Nat, j ≤ n ∧ i = .int .i64 j ∧ s11 = .bool true ∧ Hid (V wr k)) (fun _ i _ => n - (intOf i).toNat)
        case atStart => exact ⟨0, Nat.zero_le _, rfl, rfl, HV⟩
        case round =>
          clear HV q0 q1 q2 q3 x0 x1 x2 x3
          obtain ⟨j, hj, rfl, rfl, HV⟩ := hrel
          obtain ⟨q0, q1, q2, q3⟩ := Vb.out wr k HV.out
          obtain ⟨x0, x1, x2, x3, x4⟩ := HC.out wr HV.out
          by_cases hj2 : j < n
          · obtain ⟨lbi, oi, nu, nn, t, rfl, y0, y1, y2, z0, z1, z2⟩ := HR.out wr j HV.out hj2
            have hjc : j < c := by omega
            have HVn : Hid (∀ q : Nat, V (wr.drewN q) k) := fun q => VB.out wr _ k HV.out (below_drewN (Below.refl _ _) q)
            clear x4 HV
            go_wp2
            go_quiet (fail)
            go_wp2
            go_roundw
            case rel => exact ⟨j + 1, by omega, by go_num, rfl, HVn.out _⟩
            case measure => simp [intOf]; omega
          · obtain rfl : j = n := by omega
            clear x4
            go_wp2
            go_loopw [11, 17] (fun s11 i wr => ∃ i' : Nat, i' ≤ m2 ∧ i = .int .i64 i' ∧ s11 = .bool true ∧ Hid (V wr k)) (fun _ i _ => m2 - (intOf i).toNat)
            case atStart => exact ⟨0, Nat.zero_le _, rfl, rfl, HV⟩
            case round =>
              clear HV q0 q1 q2 q3 x0 x1 x2 x3
              obtain ⟨i, hi, rfl, rfl, HV⟩ := hrel
              obtain ⟨q0, q1, q2, q3⟩ := Vb.out wr k HV.out
              obtain ⟨x0, x1, x2, x3, x4⟩ := HC.out wr HV.out
              by_cases hi2 : i < m2
              case neg =>
                obtain rfl : i = m2 := by omega
                have HVn := hid x4
                clear x4 HV
                go_wp2
                go_roundw
                case rel => exact ⟨k + 1, by omega, by go_num, rfl, HVn⟩
                case measure => simp [intOf]; omega
              obtain ⟨G, hG⟩ : ∃ G, G = wr.heap.size := ⟨_, rfl⟩
              obtain ⟨Wb, hWb⟩ : ∃ Wb, Wb = wr.alloc (.cells #[.bool false, .int .i64 77, .string ⟨#[]⟩] 66) := ⟨_, rfl⟩
              have rb : Wb.heap[G]? = some (.cells #[.bool false, .int .i64 77, .string ⟨#[]⟩] 66 (0, 0)) := by rw [hWb, hG]; exact heap_alloc_new wr _
              have bb : Below wr.heap.size wr Wb := by rw [hWb]; exact bbox wr _
              have v0 : Wb.cell? ⟨G, 0, none⟩ = some (.bool false) := by rw [cell_of_row _ _ 0 _ _ _ rb]; rfl
              have v1 : Wb.cell? ⟨G, 1, none⟩ = some (.int .i64 77) := by rw [cell_of_row _ _ 1 _ _ _ rb]; rfl
              have v2 : Wb.cell? ⟨G, 2, none⟩ = some (.string ⟨#[]⟩) := by rw [cell_of_row _ _ 2 _ _ _ rb]; rfl
              have r3 : ∀ o, (wr.alloc o).cell? _ = _ := fun o => CK.out wr (wr.alloc o) _ _ _ (bbox wr o) q3
              have r0 : ∀ o, (wr.alloc o).cell? _ = _ := fun o => CK.out wr (wr.alloc o) _ _ _ (bbox wr o) x0
              have r4 : ∀ o, (wr.alloc o).cell? _ = _ := fun o => CK.out wr (wr.alloc o) _ _ _ (bbox wr o) x3
              have hG' : wr.heap.size = G := hG.symm
              have hic : i < c := by omega
              by_cases hi3 : i < j
              · obtain ⟨lbi, oi, nu, nn, t, rfl, y0, y1, y2, z0, z1, z2⟩ := HR.out wr i HV.out hi3
                have f0 := frozen_of_row _ _ 0 _ _ rb
                have f1 := frozen_of_row _ _ 1 _ _ rb
                have f2 := frozen_of_row _ _ 2 _ _ rb
                obtain ⟨Wf, hWf⟩ : ∃ Wf, Wf = wr.alloc (.cells #[.bool nu, .int .i64 nn, .string t] 66) := ⟨_, rfl⟩
                have g2 : Wf.heap[G]? = some (.cells #[.bool nu, .int .i64 nn, .string t] 66 (0, 0)) := by rw [hWf, hG]; exact heap_alloc_new wr _
                have bf : Below wr.heap.size wr Wf := by rw [hWf]; exact bbox wr _
                have u0 : Wf.cell? ⟨G, 0, none⟩ = some (.bool nu) := by rw [cell_of_row _ _ 0 _ _ _ g2]; rfl
                have u1 : Wf.cell? ⟨G, 1, none⟩ = some (.int .i64 nn) := by rw [cell_of_row _ _ 1 _ _ _ g2]; rfl
                have u2 : Wf.cell? ⟨G, 2, none⟩ = some (.string t) := by rw [cell_of_row _ _ 2 _ _ _ g2]; rfl
                have k3 := CK.out wr Wf _ _ _ bf x3
                have k4 := CK.out wr Wf _ _ _ bf z0
                have k5 := CK.out wr Wf _ _ _ bf z1
                have k6 := CK.out wr Wf _ _ _ bf z2
                have y0' : ∀ o, (wr.alloc o).cell? _ = _ := fun o => CK.out wr (wr.alloc o) _ _ _ (bbox wr o) y0
                have y1' : ∀ o, (wr.alloc o).cell? _ = _ := fun o => CK.out wr (wr.alloc o) _ _ _ (bbox wr o) y1
                have y2' : ∀ o, (wr.alloc o).cell? _ = _ := fun o => CK.out wr (wr.alloc o) _ _ _ (bbox wr o) y2
                have hWf' : wr.alloc (.cells #[.bool nu, .int .i64 nn, .string t] 66) = Wf := hWf.symm
                have HVn : Hid (∀ q : Nat, V (Wf.drewN q) k) := fun q => VB.out Wf _ k (VB.out wr Wf k HV.out bf) (below_drewN (Below.refl _ _) q)
                subst hWb
                clear x4 HV hG rb bb hWf g2 bf
                go_wp2
                go_quiet (fail)
                go_wp2
                go_roundw
                case rel => exact ⟨i + 1, by omega, by go_num, rfl, HVn.out _⟩
                case measure => simp [intOf]; omega
              · obtain ⟨z0, z1, z2⟩ := H7.out wr i HV.out (by omega) (by omega)
                have k4 : ∀ o, (wr.alloc o).cell? _ = _ := fun o => CK.out wr (wr.alloc o) _ _ _ (bbox wr o) z0
                have k5 : ∀ o, (wr.alloc o).cell? _ = _ := fun o => CK.out wr (wr.alloc o) _ _ _ (bbox wr o) z1
                have k6 : ∀ o, (wr.alloc o).cell? _ = _ := fun o => CK.out wr (wr.alloc o) _ _ _ (bbox wr o) z2
                have HVn : Hid (∀ q : Nat, V (Wb.drewN q) k) := fun q => VB.out Wb _ k (VB.out wr Wb k HV.out bb) (below_drewN (Below.refl _ _) q)
                subst hWb
                clear x4 HV hG rb bb
                go_wp2
                go_quiet (fail)
                go_wp2
                go_roundw
                case rel => exact ⟨i + 1, by omega, by go_num, rfl, HVn.out _⟩
                case measure => simp [intOf]; omega
    obtain ⟨G, hG⟩ : ∃ G, G = wr.heap.size := ⟨_, rfl⟩
    obtain ⟨Wb, hWb⟩ : ∃ Wb, Wb = wr.alloc (.cells #[.string ⟨#[98, 101, 104, 105, 110, 100]⟩, .int .i64 0, .bool false] 45) := ⟨_, rfl⟩
    have rb : Wb.heap[G]? = some (.cells #[.string ⟨#[98, 101, 104, 105, 110, 100]⟩, .int .i64 0, .bool false] 45 (0, 0)) := by rw [hWb, hG]; exact heap_alloc_new wr _
    have bb : Below wr.heap.size wr Wb := by rw [hWb]; exact bbox wr _
    have v0 : Wb.cell? ⟨G, 0, none⟩ = some (.string ⟨#[98, 101, 104, 105, 110, 100]⟩) := by rw [cell_of_row _ _ 0 _ _ _ rb]; rfl
    have v1 : Wb.cell? ⟨G, 1, none⟩ = some (.int .i64 0) := by rw [cell_of_row _ _ 1 _ _ _ rb]; rfl
    have v2 : Wb.cell? ⟨G, 2, none⟩ = some (.bool false) := by rw [cell_of_row _ _ 2 _ _ _ rb]; rfl
    have r2 : ∀ o, (wr.alloc o).cell? _ = _ := fun o => CK.out wr (wr.alloc o) _ _ _ (bbox wr o) q2
    have hG' : wr.heap.size = G := hG.symm
    have hkc : k < cu := by omega
    by_cases hk3 : k < N
    · obtain ⟨lbc, oc, u, kd, op, rfl, y0, y1, y2, z0, z1, z2, _, _⟩ := Vc.out wr k HV.out hk3
      have f0 := frozen_of_row _ _ 0 _ _ rb
      have f1 := frozen_of_row _ _ 1 _ _ rb
      have f2 := frozen_of_row _ _ 2 _ _ rb
      obtain ⟨Wf, hWf⟩ : ∃ Wf, Wf = wr.alloc (.cells #[.string u, .int .i64 kd, .bool op] 45) := ⟨_, rfl⟩
      have g2 : Wf.heap[G]? = some (.cells #[.string u, .int .i64 kd, .bool op] 45 (0, 0)) := by rw [hWf, hG]; exact heap_alloc_new wr _
      have bf : Below wr.heap.size wr Wf := by rw [hWf]; exact bbox wr _
      have u0 : Wf.cell? ⟨G, 0, none⟩ = some (.string u) := by rw [cell_of_row _ _ 0 _ _ _ g2]; rfl
      have u1 : Wf.cell? ⟨G, 1, none⟩ = some (.int .i64 kd) := by rw [cell_of_row _ _ 1 _ _ _ g2]; rfl
      have u2 : Wf.cell? ⟨G, 2, none⟩ = some (.bool op) := by rw [cell_of_row _ _ 2 _ _ _ g2]; rfl
      have k4 := CK.out wr Wf _ _ _ bf z0
      have k5 := CK.out wr Wf _ _ _ bf z1
      have k6 := CK.out wr Wf _ _ _ bf z2
      have y0' : ∀ o, (wr.alloc o).cell? _ = _ := fun o => CK.out wr (wr.alloc o) _ _ _ (bbox wr o) y0
      have y1' : ∀ o, (wr.alloc o).cell? _ = _ := fun o => CK.out wr (wr.alloc o) _ _ _ (bbox wr o) y1
      have y2' : ∀ o, (wr.alloc o).cell? _ = _ := fun o => CK.out wr (wr.alloc o) _ _ _ (bbox wr o) y2
      have hWf' : wr.alloc (.cells #[.string u, .int .i64 kd, .bool op] 45) = Wf := hWf.symm
      have HVn : Hid (∀ q : Nat, V (Wf.drewN q) 0) := fun q => VB.out Wf _ 0 (VB.out wr Wf 0 HV.out bf) (below_drewN (Below.refl _ _) q)
      subst hWb
      clear HV hG rb bb hWf g2 bf
      go_wp2
      go_quiet (fail)
      go_wp2
      go_roundw
      case rel => exact ⟨k + 1, by omega, by go_num, rfl, HVn.out _⟩
      case measure => simp [intOf]; omega
    · obtain ⟨z0, z1, z2, _⟩ := Vd.out wr k HV.out (by omega) hk2
      have k4 : ∀ o, (wr.alloc o).cell? _ = _ := fun o => CK.out wr (wr.alloc o) _ _ _ (bbox wr o) z0
      have k5 : ∀ o, (wr.alloc o).cell? _ = _ := fun o => CK.out wr (wr.alloc o) _ _ _ (bbox wr o) z1
      have k6 : ∀ o, (wr.alloc o).cell? _ = _ := fun o => CK.out wr (wr.alloc o) _ _ _ (bbox wr o) z2
      have HVn : Hid (∀ q : Nat, V (Wb.drewN q) 0) := fun q => VB.out Wb _ 0 (VB.out wr Wb 0 HV.out bb) (below_drewN (Below.refl _ _) q)
      subst hWb
      clear HV hG rb bb
      go_wp2
      go_quiet (fail)
      go_wp2
      go_roundw
      case rel => exact ⟨k + 1, by omega, by go_num, rfl, HVn.out _⟩
      case measure => simp [intOf]; omega
end Go.Proofs.Ytjobhlncllfdmaa
