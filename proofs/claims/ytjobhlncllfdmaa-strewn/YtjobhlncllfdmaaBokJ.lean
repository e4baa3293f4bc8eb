/- looks: its contract. -/
import Derived.Test.YtjobhlncllfdmaaBokD
namespace Go.Proofs.Ytjobhlncllfdmaa
open Go.RowKit

/-- what a lane shows at place i -/
theorem Lane.at {w : World} {B : Nat} {U : Nat → Prop} {E e : TypeId} {kd : IntKind} {a1 a2 : Option Addr} {n1 n2 c1 c2 : Nat} {ps : List (Value × Int)} (h : Lane w B U E e kd (.slice a1 n1 c1) (.slice a2 n2 c2) (lists ps) (marks kd ps) ps) :
    n1 = ps.length ∧ n2 = ps.length ∧ ∀ i, i < ps.length → ∃ gr gm ao n cap m, a1 = some ⟨gr, 0, none⟩ ∧ a2 = some ⟨gm, 0, none⟩ ∧ w.cell? ⟨gr, i, none⟩ = some (.slice ao n cap) ∧ w.cell? ⟨gm, i, none⟩ = some (.int kd m) ∧ n ≤ maxLen ∧
      ∀ k, k < n → ∃ g, ao = some ⟨g, 0, none⟩ ∧ w.cell? ⟨g, k, none⟩ = some (.int kd m) := by
  obtain ⟨h1, h2, h3, _, _⟩ := h
  have hl1 : (lists ps).length = ps.length := by simp [lists]
  have hl2 : (marks kd ps).length = ps.length := by simp [marks]
  obtain ⟨_, _, e1⟩ := slen_of h1
  obtain ⟨_, _, e2⟩ := slen_of h2
  simp only [Value.slice.injEq] at e1 e2
  refine ⟨by omega, by omega, fun i hi => ?_⟩
  rw [e1.2.1] at h1
  rw [e2.2.1] at h2
  obtain ⟨gr, cr, f1, _, _⟩ := h1.form (by omega)
  obtain ⟨gm, cm, f2, _, _⟩ := h2.form (by omega)
  simp only [Value.slice.injEq, true_and] at f1 f2
  obtain ⟨rfl, rfl⟩ := f1
  obtain ⟨rfl, rfl⟩ := f2
  obtain ⟨ao, n, cap, hv, hm, hf⟩ := h3 ps[i] (List.getElem_mem hi)
  refine ⟨gr, gm, ao, n, cap, ps[i].2, rfl, rfl, ?_, ?_, hm, fun k hk => ?_⟩
  · rw [h1.cellAt i (by omega)]
    simp [lists, List.getElem?_eq_getElem hi, hv]
  · rw [h2.cellAt i (by omega)]
    simp [marks, List.getElem?_eq_getElem hi]
  · rcases hf with hf | ⟨g, cur, rfl, _, _, hg, hc⟩
    · omega
    · exact ⟨g, rfl, by rw [cell_of_row w g k _ _ _ hg]; exact hc k hk⟩

theorem BBlk.cj {w : World} {b : Nat} {mk : Int} {vb vbm vi vim : Value} (h : BBlk w b mk vb vbm vi vim) (j : Nat) (h1 : 5 ≤ j) (h2 : j ≤ 10) : w.cell? ⟨b, j, none⟩ = some (.slice none 0 0) := by
  rw [cell_of_row w b j _ _ _ h]
  match j, h1, h2 with
  | 5, _, _ => rfl
  | 6, _, _ => rfl
  | 7, _, _ => rfl
  | 8, _, _ => rfl
  | 9, _, _ => rfl
  | 10, _, _ => rfl

set_option maxHeartbeats 2000000 in
set_option maxRecDepth 100000 in
theorem looks_any (B b : Nat) (U : Nat → Prop) (bs is : List (Value × Int)) (w : World) (hBk : Book w B b U bs is) (h1 : bs.length ≤ 1000000) (h2 : is.length ≤ 1000000) :
    Calls Try.prog 8 #[.pointer (some ⟨b, 0, none⟩)] w fun e w' => e = .returned (.bool true) ∧ ∃ n, w' = w.drewN n := by
  obtain ⟨mk, vb, vbm, vi, vim, hbb, hLb, hLi, hUb, hUr⟩ := hBk
  obtain ⟨a1, c1, rfl⟩ := slen_of hLb.1
  obtain ⟨a2, c2, rfl⟩ := slen_of hLb.2.1
  obtain ⟨a3, c3, rfl⟩ := slen_of hLi.1
  obtain ⟨a4, c4, rfl⟩ := slen_of hLi.2.1
  obtain ⟨e1, e2, LB⟩ := hLb.at
  obtain ⟨e3, e4, LI⟩ := hLi.at
  have k1 := hbb.c1
  have k2 := hbb.c2
  have k3 := hbb.c3
  have k4 := hbb.c4
  rw [e1] at k1
  rw [e2] at k2
  rw [e3] at k3
  rw [e4] at k4
  have k5 := hbb.cj 5 (by omega) (by omega)
  have k7 := hbb.cj 7 (by omega) (by omega)
  have k9 := hbb.cj 9 (by omega) (by omega)
  have HB : Hid _ := LB
  have HI : Hid _ := LI
  clear LB LI hLb hLi hbb hUr e1 e2 e3 e4
  go_enter Try.func8, Try.ntmps8
  go_wp2
  go_loopw [3] (fun i wr => ∃ j q : Nat, j ≤ bs.length ∧ i = .int .i64 j ∧ wr = w.drewN q) (fun i _ => bs.length - (intOf i).toNat)
  case atStart => exact ⟨0, 0, Nat.zero_le _, rfl, rfl⟩
  case round =>
    obtain ⟨j, q, hj, rfl, rfl⟩ := hrel
    by_cases hj2 : j < bs.length
    · obtain ⟨gr, gm, ao, n, cap, m, rfl, rfl, d1, d2, hnm, hrow⟩ := HB.out j hj2
      have Hrow : Hid _ := hrow
      have hjd : decide ((j : Int) < (bs.length : Int)) = true := by simp; omega
      clear hrow
      unfold maxLen at hnm
      go_wp2
      go_loopw [4] (fun i wr => ∃ k q : Nat, k ≤ n ∧ i = .int .i64 k ∧ wr = w.drewN q) (fun i _ => n - (intOf i).toNat)
      case atStart => exact ⟨0, q, Nat.zero_le _, rfl, rfl⟩
      case round =>
        obtain ⟨k, q2, hk, rfl, rfl⟩ := hrel
        by_cases hk2 : k < n
        · obtain ⟨g, rfl, d3⟩ := Hrow.out k hk2
          go_wp2
          go_quiet (fail)
          go_wp2
          go_roundw
          case rel => exact ⟨k + 1, _, by omega, by go_num, rfl⟩
          case measure => simp [intOf]; omega
        · go_wp2
          go_roundw
          case rel => exact ⟨j + 1, _, by omega, by go_num, rfl⟩
          case measure => simp [intOf]; omega
    · have hj2' : bs.length ≤ j := by omega
      go_wp2
      go_loopw [5] (fun i wr => ∃ j q : Nat, j ≤ is.length ∧ i = .int .i64 j ∧ wr = w.drewN q) (fun i _ => is.length - (intOf i).toNat)
      case atStart => exact ⟨0, q, Nat.zero_le _, rfl, rfl⟩
      case round =>
        obtain ⟨j3, q3, hj3, rfl, rfl⟩ := hrel
        by_cases hj4 : j3 < is.length
        · obtain ⟨gr, gm, ao, n, cap, m, rfl, rfl, d1, d2, hnm, hrow⟩ := HI.out j3 hj4
          have Hrow : Hid _ := hrow
          have hjd : decide ((j3 : Int) < (is.length : Int)) = true := by simp; omega
          clear hrow
          unfold maxLen at hnm
          go_wp2
          go_loopw [6] (fun i wr => ∃ k q : Nat, k ≤ n ∧ i = .int .i64 k ∧ wr = w.drewN q) (fun i _ => n - (intOf i).toNat)
          case atStart => exact ⟨0, q3, Nat.zero_le _, rfl, rfl⟩
          case round =>
            obtain ⟨k, q2, hk, rfl, rfl⟩ := hrel
            by_cases hk2 : k < n
            · obtain ⟨g, rfl, d3⟩ := Hrow.out k hk2
              go_wp2
              go_quiet (fail)
              go_wp2
              go_roundw
              case rel => exact ⟨k + 1, _, by omega, by go_num, rfl⟩
              case measure => simp [intOf]; omega
            · go_wp2
              go_roundw
              case rel => exact ⟨j3 + 1, _, by omega, by go_num, rfl⟩
              case measure => simp [intOf]; omega
        · have hj4' : is.length ≤ j3 := by omega
          go_wp2
          go_loopw [7] (fun i wr => i = .int .i64 0 ∧ wr = w.drewN q3) (fun _ _ => 0)
          case atStart => exact ⟨rfl, rfl⟩
          case round =>
            obtain ⟨rfl, rfl⟩ := hrel
            go_wp2
            go_loopw [9] (fun i wr => i = .int .i64 0 ∧ wr = w.drewN q3) (fun _ _ => 0)
            case atStart => exact ⟨rfl, rfl⟩
            case round =>
              obtain ⟨rfl, rfl⟩ := hrel
              go_wp2
              go_loopw [11] (fun i wr => i = .int .i64 0 ∧ wr = w.drewN q3) (fun _ _ => 0)
              case atStart => exact ⟨rfl, rfl⟩
              case round =>
                obtain ⟨rfl, rfl⟩ := hrel
                go_wp2
                go_ret
                exact ⟨rfl, q3, rfl⟩
end Go.Proofs.Ytjobhlncllfdmaa
