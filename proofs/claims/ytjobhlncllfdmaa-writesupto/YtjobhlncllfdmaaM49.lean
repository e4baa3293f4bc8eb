/- looks: its contract, over the five lanes. -/
import Derived.Test.YtjobhlncllfdmaaM10
namespace Go.Proofs.Ytjobhlncllfdmaa
open Go.RowKit

/-- what a lane shows at place i -/
theorem LaneG.at {P : LP} {w : World} {B : Nat} {U : Nat → Prop} {a1 a2 : Option Addr} {n1 n2 c1 c2 : Nat} {ps : List (Value × Int)} (h : LaneG P w B U (.slice a1 n1 c1) (.slice a2 n2 c2) (lists ps) (marks P.kd ps) ps) :
    n1 = ps.length ∧ n2 = ps.length ∧ ∀ i, i < ps.length → ∃ gr gm ao n cap m, a1 = some ⟨gr, 0, none⟩ ∧ a2 = some ⟨gm, 0, none⟩ ∧ w.cell? ⟨gr, i, none⟩ = some (.slice ao n cap) ∧ w.cell? ⟨gm, i, none⟩ = some (.int P.kd m) ∧ n ≤ maxLen ∧
      ∀ k, k < n → ∃ g cur, ao = some ⟨g, 0, none⟩ ∧ w.heap[g]? = some (.cells cur P.e (0, 0)) ∧ P.el w U m ((cur.toList.drop (k * P.sz)).take P.sz) := by
  obtain ⟨h1, h2, h3, _, _⟩ := h
  have hl1 : (lists ps).length = ps.length := by simp [lists]
  have hl2 : (marks P.kd ps).length = ps.length := by simp [marks]
  obtain ⟨_, _, e1⟩ := slen_of h1
  obtain ⟨_, _, e2⟩ := slen_of h2
  simp only [Value.slice.injEq] at e1 e2
  refine ⟨by omega, by omega, fun i hi => ?_⟩
  rw [e1.2.1] at h1
  rw [e2.2.1] at h2
  obtain ⟨gr, cr, f1, _, _⟩ := h1.form (by omega)
  obtain ⟨gm, cm, f2, _, _⟩ := h2.form (by omega)
  simp only [Value.slice.injEq, true_and] at f1 f2
  obtain ⟨rfl, rfl⟩ := f1
  obtain ⟨rfl, rfl⟩ := f2
  obtain ⟨ao, n, cap, hv, hm, hf⟩ := h3 ps[i] (List.getElem_mem hi)
  refine ⟨gr, gm, ao, n, cap, ps[i].2, rfl, rfl, ?_, ?_, hm, fun k hk => ?_⟩
  · rw [h1.cellAt i (by omega)]
    simp [lists, List.getElem?_eq_getElem hi, hv]
  · rw [h2.cellAt i (by omega)]
    simp [marks, List.getElem?_eq_getElem hi]
  · rcases hf with hf | ⟨g, cur, rfl, _, _, hg, hc⟩
    · omega
    · exact ⟨g, cur, rfl, hg, hc k hk⟩

theorem take1_at {L : List Value} {k : Nat} {x : Value} (h : (L.drop (k * 1)).take 1 = [x]) : L[k]? = some x := by
  have := congrArg (fun l : List Value => l[0]?) h
  simpa using this
theorem take3_at {L : List Value} {k : Nat} {x y z : Value} (h : (L.drop (k * 3)).take 3 = [x, y, z]) : L[k * 3]? = some x ∧ L[k * 3 + 1]? = some y ∧ L[k * 3 + 2]? = some z := by
  refine ⟨?_, ?_, ?_⟩
  · have := congrArg (fun l : List Value => l[0]?) h; simpa using this
  · have := congrArg (fun l : List Value => l[1]?) h; simpa using this
  · have := congrArg (fun l : List Value => l[2]?) h; simpa using this
theorem cellL {w : World} {g j : Nat} {cur : Array Value} {e : TypeId} {x : Value} (hg : w.heap[g]? = some (.cells cur e (0, 0))) (h : cur.toList[j]? = some x) : w.cell? ⟨g, j, none⟩ = some x := by
  rw [cell_of_row w g j _ _ _ hg]; simpa using h

/-- what looks reads in a lane -/
def Seen1 (w : World) (kd : IntKind) (a1 a2 : Option Addr) (N : Nat) : Prop :=
  ∀ i, i < N → ∃ gr gm ao n cap m, a1 = some ⟨gr, 0, none⟩ ∧ a2 = some ⟨gm, 0, none⟩ ∧ w.cell? ⟨gr, i, none⟩ = some (.slice ao n cap) ∧ w.cell? ⟨gm, i, none⟩ = some (.int kd m) ∧ n ≤ maxLen ∧ ∀ k, k < n → ∃ g, ao = some ⟨g, 0, none⟩ ∧ w.cell? ⟨g, k, none⟩ = some (.int kd m)
def Seen3 (w : World) (M : Int → List Value) (a1 a2 : Option Addr) (N : Nat) : Prop :=
  ∀ i, i < N → ∃ gr gm ao n cap m, a1 = some ⟨gr, 0, none⟩ ∧ a2 = some ⟨gm, 0, none⟩ ∧ w.cell? ⟨gr, i, none⟩ = some (.slice ao n cap) ∧ w.cell? ⟨gm, i, none⟩ = some (.int .i64 m) ∧ n ≤ maxLen ∧
    ∀ k, k < n → ∃ g, ao = some ⟨g, 0, none⟩ ∧ (some [w.cell? ⟨g, k * 3, none⟩, w.cell? ⟨g, k * 3 + 1, none⟩, w.cell? ⟨g, k * 3 + 2, none⟩] = some ((M m).map some))
def SeenL (w : World) (a1 a2 : Option Addr) (N : Nat) : Prop :=
  ∀ i, i < N → ∃ gr gm ao n cap m, a1 = some ⟨gr, 0, none⟩ ∧ a2 = some ⟨gm, 0, none⟩ ∧ w.cell? ⟨gr, i, none⟩ = some (.slice ao n cap) ∧ w.cell? ⟨gm, i, none⟩ = some (.int .i64 m) ∧ n ≤ maxLen ∧
    ∀ k, k < n → ∃ g h c, ao = some ⟨g, 0, none⟩ ∧ w.cell? ⟨g, k, none⟩ = some (.slice (some ⟨h, 0, none⟩) 1 c) ∧ w.cell? ⟨h, 0, none⟩ = some (.bool false) ∧ w.cell? ⟨h, 1, none⟩ = some (.int .i64 m) ∧ w.cell? ⟨h, 2, none⟩ = some (.string ⟨#[]⟩)

theorem seen0 {w : World} {B : Nat} {U : Nat → Prop} {a1 a2 : Option Addr} {n1 n2 c1 c2 : Nat} {ps : List (Value × Int)} (h : LaneG (LN 0) w B U (.slice a1 n1 c1) (.slice a2 n2 c2) (lists ps) (marks .u8 ps) ps) : n1 = ps.length ∧ n2 = ps.length ∧ Seen1 w .u8 a1 a2 ps.length := by
  obtain ⟨e1, e2, h⟩ := LaneG.at h
  refine ⟨e1, e2, fun i hi => ?_⟩
  obtain ⟨gr, gm, ao, n, cap, m, h1, h2, h3, h4, h5, h6⟩ := h i hi
  refine ⟨gr, gm, ao, n, cap, m, h1, h2, h3, h4, h5, fun k hk => ?_⟩
  obtain ⟨g, cur, q1, q2, q3⟩ := h6 k hk
  exact ⟨g, q1, cellL q2 (take1_at q3)⟩
theorem seen1 {w : World} {B : Nat} {U : Nat → Prop} {a1 a2 : Option Addr} {n1 n2 c1 c2 : Nat} {ps : List (Value × Int)} (h : LaneG (LN 1) w B U (.slice a1 n1 c1) (.slice a2 n2 c2) (lists ps) (marks .i64 ps) ps) : n1 = ps.length ∧ n2 = ps.length ∧ Seen1 w .i64 a1 a2 ps.length := by
  obtain ⟨e1, e2, h⟩ := LaneG.at h
  refine ⟨e1, e2, fun i hi => ?_⟩
  obtain ⟨gr, gm, ao, n, cap, m, h1, h2, h3, h4, h5, h6⟩ := h i hi
  refine ⟨gr, gm, ao, n, cap, m, h1, h2, h3, h4, h5, fun k hk => ?_⟩
  obtain ⟨g, cur, q1, q2, q3⟩ := h6 k hk
  exact ⟨g, q1, cellL q2 (take1_at q3)⟩
theorem seen2 {w : World} {B : Nat} {U : Nat → Prop} {a1 a2 : Option Addr} {n1 n2 c1 c2 : Nat} {ps : List (Value × Int)} (h : LaneG (LN 2) w B U (.slice a1 n1 c1) (.slice a2 n2 c2) (lists ps) (marks .i64 ps) ps) : n1 = ps.length ∧ n2 = ps.length ∧ Seen3 w colM a1 a2 ps.length := by
  obtain ⟨e1, e2, h⟩ := LaneG.at h
  refine ⟨e1, e2, fun i hi => ?_⟩
  obtain ⟨gr, gm, ao, n, cap, m, h1, h2, h3, h4, h5, h6⟩ := h i hi
  refine ⟨gr, gm, ao, n, cap, m, h1, h2, h3, h4, h5, fun k hk => ?_⟩
  obtain ⟨g, cur, q1, q2, q3⟩ := h6 k hk
  obtain ⟨x, y, z⟩ := take3_at q3
  exact ⟨g, q1, by rw [cellL q2 x, cellL q2 y, cellL q2 z]; rfl⟩
theorem seen3 {w : World} {B : Nat} {U : Nat → Prop} {a1 a2 : Option Addr} {n1 n2 c1 c2 : Nat} {ps : List (Value × Int)} (h : LaneG (LN 3) w B U (.slice a1 n1 c1) (.slice a2 n2 c2) (lists ps) (marks .i64 ps) ps) : n1 = ps.length ∧ n2 = ps.length ∧ Seen3 w cellM a1 a2 ps.length := by
  obtain ⟨e1, e2, h⟩ := LaneG.at h
  refine ⟨e1, e2, fun i hi => ?_⟩
  obtain ⟨gr, gm, ao, n, cap, m, h1, h2, h3, h4, h5, h6⟩ := h i hi
  refine ⟨gr, gm, ao, n, cap, m, h1, h2, h3, h4, h5, fun k hk => ?_⟩
  obtain ⟨g, cur, q1, q2, q3⟩ := h6 k hk
  obtain ⟨x, y, z⟩ := take3_at q3
  exact ⟨g, q1, by rw [cellL q2 x, cellL q2 y, cellL q2 z]; rfl⟩
theorem seen4 {w : World} {B : Nat} {U : Nat → Prop} {a1 a2 : Option Addr} {n1 n2 c1 c2 : Nat} {ps : List (Value × Int)} (h : LaneG (LN 4) w B U (.slice a1 n1 c1) (.slice a2 n2 c2) (lists ps) (marks .i64 ps) ps) : n1 = ps.length ∧ n2 = ps.length ∧ SeenL w a1 a2 ps.length := by
  obtain ⟨e1, e2, h⟩ := LaneG.at h
  refine ⟨e1, e2, fun i hi => ?_⟩
  obtain ⟨gr, gm, ao, n, cap, m, h1, h2, h3, h4, h5, h6⟩ := h i hi
  refine ⟨gr, gm, ao, n, cap, m, h1, h2, h3, h4, h5, fun k hk => ?_⟩
  obtain ⟨g, cur, q1, q2, g', c, cur', q3, _, q4, q5⟩ := h6 k hk
  have hh : ∀ i x, (cellM m)[i]? = some x → i < 3 → w.cell? ⟨g', i, none⟩ = some x := fun i x hx hi => by
    refine cellL q4 ?_
    rw [← q5, List.getElem?_take, if_pos hi] at hx
    exact hx
  exact ⟨g, g', c, q1, cellL q2 (take1_at q3), hh 0 _ rfl (by omega), hh 1 _ rfl (by omega), hh 2 _ rfl (by omega)⟩

set_option maxHeartbeats 8000000 in
set_option maxRecDepth 100000 in
theorem looksW (b : Nat) (w : World) (N0 N1 N2 N3 N4 : Nat) (a0 a0' a1 a1' a2 a2' a3 a3' a4 a4' : Option Addr) (c0 c0' c1 c1' c2 c2' c3 c3' c4 c4' : Nat) (h0 : N0 ≤ 100000000) (h1 : N1 ≤ 100000000) (h2 : N2 ≤ 100000000) (h3 : N3 ≤ 100000000) (h4 : N4 ≤ 100000000)
    (k1 : w.cell? ⟨b, 1, none⟩ = some (.slice a0 N0 c0)) (k2 : w.cell? ⟨b, 2, none⟩ = some (.slice a0' N0 c0')) (k3 : w.cell? ⟨b, 3, none⟩ = some (.slice a1 N1 c1)) (k4 : w.cell? ⟨b, 4, none⟩ = some (.slice a1' N1 c1')) (k5 : w.cell? ⟨b, 5, none⟩ = some (.slice a2 N2 c2)) (k6 : w.cell? ⟨b, 6, none⟩ = some (.slice a2' N2 c2'))
    (k7 : w.cell? ⟨b, 7, none⟩ = some (.slice a3 N3 c3)) (k8 : w.cell? ⟨b, 8, none⟩ = some (.slice a3' N3 c3')) (k9 : w.cell? ⟨b, 9, none⟩ = some (.slice a4 N4 c4)) (k10 : w.cell? ⟨b, 10, none⟩ = some (.slice a4' N4 c4'))
    (L0 : Hid (Seen1 w .u8 a0 a0' N0)) (L1 : Hid (Seen1 w .i64 a1 a1' N1)) (L2 : Hid (Seen3 w colM a2 a2' N2)) (L3 : Hid (Seen3 w cellM a3 a3' N3)) (L4 : Hid (SeenL w a4 a4' N4)) :
    Calls Try.prog 8 #[.pointer (some ⟨b, 0, none⟩)] w fun e w' => e = .returned (.bool true) ∧ ∃ n, w' = w.drewN n := by
  go_enter Try.func8, Try.ntmps8
  go_wp2
  go_loopw [3] (fun i wr => ∃ j q : Nat, j ≤ N0 ∧ i = .int .i64 j ∧ wr = w.drewN q) (fun i _ => N0 - (intOf i).toNat)
  case atStart => exact ⟨0, 0, Nat.zero_le _, rfl, rfl⟩
  case round =>
    obtain ⟨j0, q0, hj0, rfl, rfl⟩ := hrel
    by_cases hlt0 : j0 < N0
    · obtain ⟨gr, gm, ao, n, cap, m, rfl, rfl, d1, d2, hnm, hrow⟩ := L0.out j0 hlt0
      have Hrow : Hid _ := hrow
      have hjd : decide ((j0 : Int) < (N0 : Int)) = true := by simp; omega
      clear hrow
      unfold maxLen at hnm
      go_wp2
      go_loopw [4] (fun i wr => ∃ k q : Nat, k ≤ n ∧ i = .int .i64 k ∧ wr = w.drewN q) (fun i _ => n - (intOf i).toNat)
      case atStart => exact ⟨0, q0, Nat.zero_le _, rfl, rfl⟩
      case round =>
        obtain ⟨k, r0, hk, rfl, rfl⟩ := hrel
        by_cases hk2 : k < n
        · obtain ⟨g, rfl, d3⟩ := Hrow.out k hk2
          go_wp2
          go_quiet (fail)
          go_wp2
          go_roundw
          case rel => exact ⟨k + 1, _, by omega, by go_num, rfl⟩
          case measure => simp [intOf]; omega
        · go_wp2
          go_roundw
          case rel => exact ⟨j0 + 1, _, by omega, by go_num, rfl⟩
          case measure => simp [intOf]; omega
    · have hge0 : N0 ≤ j0 := by omega
      go_wp2
      go_loopw [5] (fun i wr => ∃ j q : Nat, j ≤ N1 ∧ i = .int .i64 j ∧ wr = w.drewN q) (fun i _ => N1 - (intOf i).toNat)
      case atStart => exact ⟨0, q0, Nat.zero_le _, rfl, rfl⟩
      case round =>
        obtain ⟨j1, q1, hj1, rfl, rfl⟩ := hrel
        by_cases hlt1 : j1 < N1
        · obtain ⟨gr, gm, ao, n, cap, m, rfl, rfl, d1, d2, hnm, hrow⟩ := L1.out j1 hlt1
          have Hrow : Hid _ := hrow
          have hjd : decide ((j1 : Int) < (N1 : Int)) = true := by simp; omega
          clear hrow
          unfold maxLen at hnm
          go_wp2
          go_loopw [6] (fun i wr => ∃ k q : Nat, k ≤ n ∧ i = .int .i64 k ∧ wr = w.drewN q) (fun i _ => n - (intOf i).toNat)
          case atStart => exact ⟨0, q1, Nat.zero_le _, rfl, rfl⟩
          case round =>
            obtain ⟨k, r1, hk, rfl, rfl⟩ := hrel
            by_cases hk2 : k < n
            · obtain ⟨g, rfl, d3⟩ := Hrow.out k hk2
              go_wp2
              go_quiet (fail)
              go_wp2
              go_roundw
              case rel => exact ⟨k + 1, _, by omega, by go_num, rfl⟩
              case measure => simp [intOf]; omega
            · go_wp2
              go_roundw
              case rel => exact ⟨j1 + 1, _, by omega, by go_num, rfl⟩
              case measure => simp [intOf]; omega
        · have hge1 : N1 ≤ j1 := by omega
          go_wp2
          go_loopw [7] (fun i wr => ∃ j q : Nat, j ≤ N2 ∧ i = .int .i64 j ∧ wr = w.drewN q) (fun i _ => N2 - (intOf i).toNat)
          case atStart => exact ⟨0, q1, Nat.zero_le _, rfl, rfl⟩
          case round =>
            obtain ⟨j2, q2, hj2, rfl, rfl⟩ := hrel
            by_cases hlt2 : j2 < N2
            · obtain ⟨gr, gm, ao, n, cap, m, rfl, rfl, d1, d2, hnm, hrow⟩ := L2.out j2 hlt2
              have Hrow : Hid _ := hrow
              have hjd : decide ((j2 : Int) < (N2 : Int)) = true := by simp; omega
              clear hrow
              unfold maxLen at hnm
              go_wp2
              go_loopw [8] (fun i wr => ∃ k q : Nat, k ≤ n ∧ i = .int .i64 k ∧ wr = w.drewN q) (fun i _ => n - (intOf i).toNat)
              case atStart => exact ⟨0, q2, Nat.zero_le _, rfl, rfl⟩
              case round =>
                obtain ⟨k, r2, hk, rfl, rfl⟩ := hrel
                by_cases hk2 : k < n
                · obtain ⟨g, rfl, dd⟩ := Hrow.out k hk2
                  simp only [colM, List.map_cons, List.map_nil, Option.some.injEq, List.cons.injEq, and_true] at dd
                  obtain ⟨d3, d4, d5⟩ := dd
                  go_wp2
                  go_quiet (fail)
                  go_wp2
                  go_roundw
                  case rel => exact ⟨k + 1, _, by omega, by go_num, rfl⟩
                  case measure => simp [intOf]; omega
                · go_wp2
                  go_roundw
                  case rel => exact ⟨j2 + 1, _, by omega, by go_num, rfl⟩
                  case measure => simp [intOf]; omega
            · have hge2 : N2 ≤ j2 := by omega
              go_wp2
              go_loopw [9] (fun i wr => ∃ j q : Nat, j ≤ N3 ∧ i = .int .i64 j ∧ wr = w.drewN q) (fun i _ => N3 - (intOf i).toNat)
              case atStart => exact ⟨0, q2, Nat.zero_le _, rfl, rfl⟩
              case round =>
                obtain ⟨j3, q3, hj3, rfl, rfl⟩ := hrel
                by_cases hlt3 : j3 < N3
                · obtain ⟨gr, gm, ao, n, cap, m, rfl, rfl, d1, d2, hnm, hrow⟩ := L3.out j3 hlt3
                  have Hrow : Hid _ := hrow
                  have hjd : decide ((j3 : Int) < (N3 : Int)) = true := by simp; omega
                  clear hrow
                  unfold maxLen at hnm
                  go_wp2
                  go_loopw [10] (fun i wr => ∃ k q : Nat, k ≤ n ∧ i = .int .i64 k ∧ wr = w.drewN q) (fun i _ => n - (intOf i).toNat)
                  case atStart => exact ⟨0, q3, Nat.zero_le _, rfl, rfl⟩
                  case round =>
                    obtain ⟨k, r3, hk, rfl, rfl⟩ := hrel
                    by_cases hk2 : k < n
                    · obtain ⟨g, rfl, dd⟩ := Hrow.out k hk2
                      simp only [cellM, List.map_cons, List.map_nil, Option.some.injEq, List.cons.injEq, and_true] at dd
                      obtain ⟨d3, d4, d5⟩ := dd
                      go_wp2
                      go_quiet (fail)
                      go_wp2
                      go_roundw
                      case rel => exact ⟨k + 1, _, by omega, by go_num, rfl⟩
                      case measure => simp [intOf]; omega
                    · go_wp2
                      go_roundw
                      case rel => exact ⟨j3 + 1, _, by omega, by go_num, rfl⟩
                      case measure => simp [intOf]; omega
                · have hge3 : N3 ≤ j3 := by omega
                  go_wp2
                  go_loopw [11] (fun i wr => ∃ j q : Nat, j ≤ N4 ∧ i = .int .i64 j ∧ wr = w.drewN q) (fun i _ => N4 - (intOf i).toNat)
                  case atStart => exact ⟨0, q3, Nat.zero_le _, rfl, rfl⟩
                  case round =>
                    obtain ⟨j4, q4, hj4, rfl, rfl⟩ := hrel
                    by_cases hlt4 : j4 < N4
                    · obtain ⟨gr, gm, ao, n, cap, m, rfl, rfl, d1, d2, hnm, hrow⟩ := L4.out j4 hlt4
                      have Hrow : Hid _ := hrow
                      have hjd : decide ((j4 : Int) < (N4 : Int)) = true := by simp; omega
                      clear hrow
                      unfold maxLen at hnm
                      go_wp2
                      go_loopw [12] (fun i wr => ∃ k q : Nat, k ≤ n ∧ i = .int .i64 k ∧ wr = w.drewN q) (fun i _ => n - (intOf i).toNat)
                      case atStart => exact ⟨0, q4, Nat.zero_le _, rfl, rfl⟩
                      case round =>
                        obtain ⟨k, r4, hk, rfl, rfl⟩ := hrel
                        by_cases hk2 : k < n
                        · obtain ⟨g, h, c, rfl, d3, d4, d5, d6⟩ := Hrow.out k hk2
                          go_wp2
                          go_quiet (fail)
                          go_wp2
                          go_roundw
                          case rel => exact ⟨k + 1, _, by omega, by go_num, rfl⟩
                          case measure => simp [intOf]; omega
                        · go_wp2
                          go_roundw
                          case rel => exact ⟨j4 + 1, _, by omega, by go_num, rfl⟩
                          case measure => simp [intOf]; omega
                    · have hge4 : N4 ≤ j4 := by omega
                      go_wp2
                      go_ret
                      exact ⟨rfl, q4, rfl⟩

theorem looks5 (B b : Nat) (A : Nat → Prop) (n : Nat) (w : World) (hBk : Book5 w B b A n) (hn : n ≤ 100000000) :
    Calls Try.prog 8 #[.pointer (some ⟨b, 0, none⟩)] w fun e w' => e = .returned (.bool true) ∧ ∃ n, w' = w.drewN n := by
  obtain ⟨U, ps, ⟨C, h1, h2, h3, h4, h5, h6, h7⟩, hA, hl⟩ := hBk
  obtain ⟨vr0, vm0, e0, f0, L0⟩ := h5 0 (by omega)
  obtain ⟨vr1, vm1, e1, f1, L1⟩ := h5 1 (by omega)
  obtain ⟨vr2, vm2, e2, f2, L2⟩ := h5 2 (by omega)
  obtain ⟨vr3, vm3, e3, f3, L3⟩ := h5 3 (by omega)
  obtain ⟨vr4, vm4, e4, f4, L4⟩ := h5 4 (by omega)
  obtain ⟨a0, c0, rfl⟩ := slen_of L0.1
  obtain ⟨a0', c0', rfl⟩ := slen_of L0.2.1
  obtain ⟨a1, c1, rfl⟩ := slen_of L1.1
  obtain ⟨a1', c1', rfl⟩ := slen_of L1.2.1
  obtain ⟨a2, c2, rfl⟩ := slen_of L2.1
  obtain ⟨a2', c2', rfl⟩ := slen_of L2.2.1
  obtain ⟨a3, c3, rfl⟩ := slen_of L3.1
  obtain ⟨a3', c3', rfl⟩ := slen_of L3.2.1
  obtain ⟨a4, c4, rfl⟩ := slen_of L4.1
  obtain ⟨a4', c4', rfl⟩ := slen_of L4.2.1
  obtain ⟨x0, y0, S0⟩ := seen0 L0
  obtain ⟨x1, y1, S1⟩ := seen1 L1
  obtain ⟨x2, y2, S2⟩ := seen2 L2
  obtain ⟨x3, y3, S3⟩ := seen3 L3
  obtain ⟨x4, y4, S4⟩ := seen4 L4
  rw [x0] at e0; rw [y0] at f0; rw [x1] at e1; rw [y1] at f1; rw [x2] at e2; rw [y2] at f2; rw [x3] at e3; rw [y3] at f3; rw [x4] at e4; rw [y4] at f4
  have hb : ∀ i, i < 5 → (ps i).length ≤ 100000000 := fun i hi => Nat.le_trans (hl i hi) hn
  exact looksW b w _ _ _ _ _ a0 a0' a1 a1' a2 a2' a3 a3' a4 a4' c0 c0' c1 c1' c2 c2' c3 c3' c4 c4' (hb 0 (by omega)) (hb 1 (by omega)) (hb 2 (by omega)) (hb 3 (by omega)) (hb 4 (by omega))
    ((h1.cell 1).trans e0) ((h1.cell 2).trans f0) ((h1.cell 3).trans e1) ((h1.cell 4).trans f1) ((h1.cell 5).trans e2) ((h1.cell 6).trans f2) ((h1.cell 7).trans e3) ((h1.cell 8).trans f3) ((h1.cell 9).trans e4) ((h1.cell 10).trans f4) S0 S1 S2 S3 S4

end Go.Proofs.Ytjobhlncllfdmaa
