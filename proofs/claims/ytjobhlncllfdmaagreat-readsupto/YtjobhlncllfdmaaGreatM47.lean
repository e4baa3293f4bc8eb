/- keepBytes5: its contract. -/
import Derived.Test.YtjobhlncllfdmaaGreatM09
import Derived.Test.YtjobhlncllfdmaaGreatM08
namespace Go.Proofs.YtjobhlncllfdmaaGreat
open Go.RowKit

theorem KS.round0 {w0 wr : World} {B b : Nat} {C : Array Value} {U0 U : Nat → Prop} {l0 : Option Nat} {N : Nat} {m : Int} {ps : List (Value × Int)} {ao : Option Addr} {cap : Nat}
    (hC : C.size = 11) (h : KS (LN 0) 1 2 w0 B b C U0 l0 N m ps (lists ps) (marks .u8 ps) U wr (.slice ao N cap)) (hps : ps.length ≤ 1000000) (hN : (N + 1) * 1 ≤ 140737488355328) :
    ∃ a1 c1 a2 c2 g1 p1 w1 g2 p2 w2 g3 p3 w3 U',
      wr.cell? ⟨b, 1, none⟩ = some (.slice a1 ps.length c1) ∧
      (Builtin.append_ #[24, 24] 24 #[.slice a1 ps.length c1, .slice (some ⟨wr.heap.size, 0, none⟩) 1 1]).run Tryz.prog (wr.alloc (.cells #[.slice ao N cap] 25)) = .ok (.slice (some ⟨g1, 0, none⟩) (ps.length + 1) p1) w1 ∧
      w1.cell? ⟨b, 1, none⟩ = some (.slice a1 ps.length c1) ∧ w1.frozen? ⟨b, 1, none⟩ = false ∧
      (w1.setCell ⟨b, 1, none⟩ (.slice (some ⟨g1, 0, none⟩) (ps.length + 1) p1)).cell? ⟨b, 2, none⟩ = some (.slice a2 ps.length c2) ∧
      (Builtin.append_ #[25, 25] 25 #[.slice a2 ps.length c2, .slice (some ⟨w1.heap.size, 0, none⟩) 1 1]).run Tryz.prog ((w1.setCell ⟨b, 1, none⟩ (.slice (some ⟨g1, 0, none⟩) (ps.length + 1) p1)).alloc (.cells #[.int .u8 m] 5)) = .ok (.slice (some ⟨g2, 0, none⟩) (ps.length + 1) p2) w2 ∧
      w2.cell? ⟨b, 2, none⟩ = some (.slice a2 ps.length c2) ∧ w2.frozen? ⟨b, 2, none⟩ = false ∧
      (Builtin.append_ #[25, 25] 25 #[.slice ao N cap, .slice (some ⟨w2.heap.size, 0, none⟩) 1 1]).run Tryz.prog ((w2.setCell ⟨b, 2, none⟩ (.slice (some ⟨g2, 0, none⟩) (ps.length + 1) p2)).alloc (.cells #[.int .u8 m] 5)) = .ok (.slice (some ⟨g3, 0, none⟩) (N + 1) p3) w3 ∧
      KS (LN 0) 1 2 w0 B b C U0 l0 (N + 1) m (ps ++ [(.slice ao N cap, m)]) (lists (ps ++ [(.slice ao N cap, m)])) (marks .u8 (ps ++ [(.slice ao N cap, m)])) U' w3 (.slice (some ⟨g3, 0, none⟩) (N + 1) p3) := by
  have hN2 : N + 1 ≤ maxLen := by unfold maxLen; omega
  have r := KS.round (jr := 1) (jm := 2) (news := [.int .u8 m]) (LN_ok 0) LN0_run (by decide) (by omega) (by omega) (fun _ _ => rfl) one_cell h hps hN hN2
  exact r

set_option maxHeartbeats 2000000 in
set_option maxRecDepth 100000 in
theorem keepBytes5 (B b n : Nat) (A : Nat → Prop) (nb : Nat) (ao : Option Addr) (cap : Nat) (xs : List Value) (w : World) (hBk : Book5 w B b A nb) (hl : w.ownsRow B 5 1 (.slice ao n cap) n xs) (hlA : ∀ k, (Value.slice ao n cap).ownBlock = some k → ¬ A k)
    (hn : (n + 4) * 1 ≤ 140737488355328) (hnb : nb ≤ 900000) :
    Calls Tryz.prog 37 #[.pointer (some ⟨b, 0, none⟩), .slice ao n cap] w fun e w' => e = .returned (.tuple #[]) ∧ Kept w B b A nb (Value.slice ao n cap).ownBlock w' := by
  obtain ⟨C, U0, ps, vr, vm, hBB, hCs, ⟨mk, hC0⟩, hvr, hvm, hL, hps, hUA, hUr, hBb, hclose⟩ := hBk.openL 0 (by omega)
  have N1 : Hid (Calls Tryz.prog 42 #[.pointer (some ⟨b, 0, none⟩)] w fun e w' => ∃ k k' : Int, e = .returned (.int .i64 k) ∧ w' = w.setCell ⟨b, 0, none⟩ (.int .i64 k')) := next_any b mk w (by rw [hBB.cell 0]; exact hC0) (hBB.fz 0)
  have hlb : (Value.slice ao n cap).ownBlock ≠ some b := fun e' => hlA b e' hBk.hasB
  have Hlb : Hid ((Value.slice ao n cap).ownBlock ≠ some b) := hlb
  have hln : xs.length = n := (by have := hl.1; omega)
  have HST : Hid (∀ (k1 m : Int) (wr : World) (ys : List Value), Fr (fun k => (Value.slice ao n cap).ownBlock = some k) (w.setCell ⟨b, 0, none⟩ (.int .i64 k1)) wr → wr.ownsRow B 5 1 (.slice ao n cap) n ys → AllEl (LN 0) wr U0 m n ys →
      KS (LN 0) 1 2 w B b (C.setIfInBounds 0 (.int .i64 k1)) U0 (Value.slice ao n cap).ownBlock n m ps (lists ps) (marks .u8 ps) U0 wr (.slice ao n cap)) := fun k1 m wr ys hf ho he =>
    KS.start (LN_ok 0) hL hBB hvr hvm (by decide) (by decide) hUr hBb _ rfl hf (fun k hk hu => hlA k hk (hUA k hu)) hlb ho (fun _ h => h) (fun _ h => .inl h) (fun k hk => (hl.lt k hk).2) he
  have HFI : Hid (∀ (k1 m : Int) (ps' : List (Value × Int)) (U' : Nat → Prop) (N : Nat) (wr : World) (vl : Value), KS (LN 0) 1 2 w B b (C.setIfInBounds 0 (.int .i64 k1)) U0 (Value.slice ao n cap).ownBlock N m ps' (lists ps') (marks .u8 ps') U' wr vl → ps'.length = ps.length + 4 → Kept w B b A nb (Value.slice ao n cap).ownBlock wr) := fun k1 m ps' U' N wr vl hK hp => by
    obtain ⟨vr', vm', f1, f2, f3, f4, f5⟩ := hK.finish
    exact hclose wr _ U' ps' vr' vm' k1 f1 f2 (by omega) f3 f4 hlA f5
  clear hBB hL hclose hUr hlA hBk hvr hvm hUA hlb
  go_enter Tryz.func37, Tryz.ntmps37
  go_wp2_with fail
  refine N1.out.mono ?_
  rintro e w1 ⟨k0, k1, rfl, hw1⟩
  have hl1 : w1.ownsRow B 5 1 (.slice ao n cap) n xs := by rw [hw1]; exact ownsRow_set_other' hl Hlb.out
  have Hw1 : Hid (w1 = w.setCell ⟨b, 0, none⟩ (.int .i64 k1)) := hw1
  clear hw1
  go_wp2
  generalize k0 % 256 = m
  go_loopw [5] (fun i wr => ∃ (k : Nat) (ys : List Value), k ≤ n ∧ i = .int .i64 k ∧ wr.ownsRow B 5 1 (.slice ao n cap) n ys ∧ Hid (AllEl (LN 0) wr U0 m k ys) ∧ Hid (Fr (fun k => (Value.slice ao n cap).ownBlock = some k) w1 wr)) (fun i _ => n - (intOf i).toNat)
  case atStart => exact ⟨0, xs, Nat.zero_le _, rfl, hl1, fun j hj => by omega, Fr.refl _ _⟩
  case round =>
    obtain ⟨k, ys, hk, rfl, ho, Hy, Hf⟩ := hrel
    have hyl : ys.length = n := by have := ho.1; omega
    by_cases hk2 : k < n
    · obtain ⟨g, cp, hform, _, _⟩ := ho.form (by omega)
      simp only [Value.slice.injEq, true_and] at hform
      obtain ⟨rfl, rfl⟩ := hform
      have hst := ho.stored k (.int .u8 m)
      have hc : wr.cell? ⟨g, k, none⟩ = some ys[k] := by rw [ho.cellAt k (by omega), List.getElem?_eq_getElem (by omega)]
      have hf := ho.frozenAt k
      have Hy2 : Hid (∀ W, AllEl (LN 0) W U0 m (k + 1) (ys.set k (.int .u8 m))) := fun W => el_set1 rfl (fun _ _ => rfl) (by omega) Hy.out (fun _ h => h)
      have Hf2 : Hid (Fr (fun k => (Value.slice (some ⟨g, 0, none⟩) n cap).ownBlock = some k) w1 (wr.setCell ⟨g, k, none⟩ (.int .u8 m))) := Hf.out.trans Fr.set (fun j _ e' => by rw [e']; rfl)
      have Ho2 : Hid ((wr.setCell ⟨g, k, none⟩ (.int .u8 m)).ownsRow B 5 1 (.slice (some ⟨g, 0, none⟩) n cap) n (ys.set k (.int .u8 m))) := hst.1
      generalize ys[k] = y at hc
      clear hst Hy ho hyl
      go_wp2
      go_roundw
      case rel => exact ⟨k + 1, _, by omega, by go_num, Ho2.out, Hy2.out _, Hf2⟩
      case measure => simp [intOf]; omega
    · obtain rfl : k = n := by omega
      have HS : Hid (KS (LN 0) 1 2 w B b (C.setIfInBounds 0 (.int .i64 k1)) U0 (Value.slice ao k cap).ownBlock k m ps (lists ps) (marks .u8 ps) U0 wr (.slice ao k cap)) := HST.out k1 m wr ys (by rw [← Hw1.out]; exact Hf.out) ho Hy.out
      clear ho hyl Hy Hf hl1 hl N1
      have hcz : (C.setIfInBounds 0 (Value.int .i64 k1)).size = 11 := by simp [hCs]
      go_wp2
      go_loopw [1, 6] (fun l i wr => ∃ (j : Nat) (ao' : Option Addr) (cap' : Nat), j ≤ 4 ∧ i = .int .i64 j ∧ l = .slice ao' (k + j) cap' ∧ Hid (∃ ps' U', ps'.length = ps.length + j ∧ KS (LN 0) 1 2 w B b (C.setIfInBounds 0 (.int .i64 k1)) U0 (Value.slice ao k cap).ownBlock (k + j) m ps' (lists ps') (marks .u8 ps') U' wr (.slice ao' (k + j) cap'))) (fun _ i _ => 4 - (intOf i).toNat)
      case atStart => exact ⟨0, ao, cap, by omega, rfl, rfl, ps, U0, rfl, HS.out⟩
      case round =>
        obtain ⟨j, ao', cap', hj, rfl, rfl, HK⟩ := hrel
        by_cases hj4 : j < 4
        · obtain ⟨ps', U', hp', hK⟩ := HK.out
          obtain ⟨a1, c1, a2, c2, g1, p1, w1', g2, p2, w2, g3, p3, w3, U'', hc1, run1, hc1', hf1', hc2, run2, hc2', hf2', run3, hK⟩ := hK.round0 hcz (len_step hp' hps hnb hj4) (bound_step hn hj4)
          have HK3 : Hid (∃ ps' U', ps'.length = ps.length + (j + 1) ∧ KS (LN 0) 1 2 w B b (C.setIfInBounds 0 (.int .i64 k1)) U0 (Value.slice ao k cap).ownBlock (k + (j + 1)) m ps' (lists ps') (marks .u8 ps') U' w3 (.slice (some ⟨g3, 0, none⟩) (k + (j + 1)) p3)) := ⟨_, _, len_snoc hp', hK⟩
          have R1 : Hid ((Builtin.append_ #[24, 24] 24 #[.slice a1 ps'.length c1, .slice (some ⟨wr.heap.size, 0, none⟩) 1 1]).run Tryz.prog (wr.alloc (.cells #[.slice ao' (k + j) cap'] 25)) = .ok (.slice (some ⟨g1, 0, none⟩) (ps'.length + 1) p1) w1') := run1
          have R2 : Hid ((Builtin.append_ #[25, 25] 25 #[.slice a2 ps'.length c2, .slice (some ⟨w1'.heap.size, 0, none⟩) 1 1]).run Tryz.prog ((w1'.setCell ⟨b, 1, none⟩ (.slice (some ⟨g1, 0, none⟩) (ps'.length + 1) p1)).alloc (.cells #[.int .u8 m] 5)) = .ok (.slice (some ⟨g2, 0, none⟩) (ps'.length + 1) p2) w2) := run2
          have R3 : Hid ((Builtin.append_ #[25, 25] 25 #[.slice ao' (k + j) cap', .slice (some ⟨w2.heap.size, 0, none⟩) 1 1]).run Tryz.prog ((w2.setCell ⟨b, 2, none⟩ (.slice (some ⟨g2, 0, none⟩) (ps'.length + 1) p2)).alloc (.cells #[.int .u8 m] 5)) = .ok (.slice (some ⟨g3, 0, none⟩) (k + j + 1) p3) w3) := run3
          clear hK run1 run2 run3 HK HS hp'
          go_wp2_with (first | (at_builtin; refine wpList_append_run rfl (.tmp 29) (.tmp 31) 24 24 rfl _ _ _ rfl rfl R1.out ?_) | (at_builtin; refine wpList_append_run rfl (.tmp 39) (.tmp 41) 25 25 rfl _ _ _ rfl rfl R2.out ?_) | (at_builtin; refine wpList_append_run rfl (.tmp 45) (.tmp 47) 25 25 rfl _ _ _ rfl rfl R3.out ?_) | go_in)
          go_roundw
          case rel => exact ⟨j + 1, some ⟨g3, 0, none⟩, p3, by omega, by go_num, rfl, HK3⟩
          case measure => simp [intOf]; omega
        · obtain rfl : j = 4 := by omega
          have HF : Kept w B b A nb (Value.slice ao k cap).ownBlock wr := by
            obtain ⟨ps', U', hp', hK⟩ := HK.out
            exact HFI.out k1 m ps' U' _ wr _ hK hp'
          go_wp2
          go_end0
          exact ⟨rfl, HF⟩
end Go.Proofs.YtjobhlncllfdmaaGreat

/- looks: its contract, over the five lanes. -/
namespace Go.Proofs.YtjobhlncllfdmaaGreat
open Go.RowKit

/-- what a lane shows at place i -/
theorem LaneG.at {P : LP} {w : World} {B : Nat} {U : Nat → Prop} {a1 a2 : Option Addr} {n1 n2 c1 c2 : Nat} {ps : List (Value × Int)} (h : LaneG P w B U (.slice a1 n1 c1) (.slice a2 n2 c2) (lists ps) (marks P.kd ps) ps) :
    n1 = ps.length ∧ n2 = ps.length ∧ ∀ i, i < ps.length → ∃ gr gm ao n cap m, a1 = some ⟨gr, 0, none⟩ ∧ a2 = some ⟨gm, 0, none⟩ ∧ w.cell? ⟨gr, i, none⟩ = some (.slice ao n cap) ∧ w.cell? ⟨gm, i, none⟩ = some (.int P.kd m) ∧ n ≤ maxLen ∧
      ∀ k, k < n → ∃ g cur, ao = some ⟨g, 0, none⟩ ∧ w.heap[g]? = some (.cells cur P.e (0, 0)) ∧ P.el w U m ((cur.toList.drop (k * P.sz)).take P.sz) := by
  obtain ⟨h1, h2, h3, _, _⟩ := h
  have hl1 : (lists ps).length = ps.length := by simp [lists]
  have hl2 : (marks P.kd ps).length = ps.length := by simp [marks]
  obtain ⟨_, _, e1⟩ := slen_of h1
  obtain ⟨_, _, e2⟩ := slen_of h2
  simp only [Value.slice.injEq] at e1 e2
  refine ⟨by omega, by omega, fun i hi => ?_⟩
  rw [e1.2.1] at h1
  rw [e2.2.1] at h2
  obtain ⟨gr, cr, f1, _, _⟩ := h1.form (by omega)
  obtain ⟨gm, cm, f2, _, _⟩ := h2.form (by omega)
  simp only [Value.slice.injEq, true_and] at f1 f2
  obtain ⟨rfl, rfl⟩ := f1
  obtain ⟨rfl, rfl⟩ := f2
  obtain ⟨ao, n, cap, hv, hm, hf⟩ := h3 ps[i] (List.getElem_mem hi)
  refine ⟨gr, gm, ao, n, cap, ps[i].2, rfl, rfl, ?_, ?_, hm, fun k hk => ?_⟩
  · rw [h1.cellAt i (by omega)]
    simp [lists, List.getElem?_eq_getElem hi, hv]
  · rw [h2.cellAt i (by omega)]
    simp [marks, List.getElem?_eq_getElem hi]
  · rcases hf with hf | ⟨g, cur, rfl, _, _, hg, hc⟩
    · omega
    · exact ⟨g, cur, rfl, hg, hc k hk⟩

theorem take1_at {L : List Value} {k : Nat} {x : Value} (h : (L.drop (k * 1)).take 1 = [x]) : L[k]? = some x := by
  have := congrArg (fun l : List Value => l[0]?) h
  simpa using this
theorem take3_at {L : List Value} {k : Nat} {x y z : Value} (h : (L.drop (k * 3)).take 3 = [x, y, z]) : L[k * 3]? = some x ∧ L[k * 3 + 1]? = some y ∧ L[k * 3 + 2]? = some z := by
  refine ⟨?_, ?_, ?_⟩
  · have := congrArg (fun l : List Value => l[0]?) h; simpa using this
  · have := congrArg (fun l : List Value => l[1]?) h; simpa using this
  · have := congrArg (fun l : List Value => l[2]?) h; simpa using this
theorem cellL {w : World} {g j : Nat} {cur : Array Value} {e : TypeId} {x : Value} (hg : w.heap[g]? = some (.cells cur e (0, 0))) (h : cur.toList[j]? = some x) : w.cell? ⟨g, j, none⟩ = some x := by
  rw [cell_of_row w g j _ _ _ hg]; simpa using h

/-- what looks reads in a lane -/
def Seen1 (w : World) (kd : IntKind) (a1 a2 : Option Addr) (N : Nat) : Prop :=
  ∀ i, i < N → ∃ gr gm ao n cap m, a1 = some ⟨gr, 0, none⟩ ∧ a2 = some ⟨gm, 0, none⟩ ∧ w.cell? ⟨gr, i, none⟩ = some (.slice ao n cap) ∧ w.cell? ⟨gm, i, none⟩ = some (.int kd m) ∧ n ≤ maxLen ∧ ∀ k, k < n → ∃ g, ao = some ⟨g, 0, none⟩ ∧ w.cell? ⟨g, k, none⟩ = some (.int kd m)
def Seen3 (w : World) (M : Int → List Value) (a1 a2 : Option Addr) (N : Nat) : Prop :=
  ∀ i, i < N → ∃ gr gm ao n cap m, a1 = some ⟨gr, 0, none⟩ ∧ a2 = some ⟨gm, 0, none⟩ ∧ w.cell? ⟨gr, i, none⟩ = some (.slice ao n cap) ∧ w.cell? ⟨gm, i, none⟩ = some (.int .i64 m) ∧ n ≤ maxLen ∧
    ∀ k, k < n → ∃ g, ao = some ⟨g, 0, none⟩ ∧ (some [w.cell? ⟨g, k * 3, none⟩, w.cell? ⟨g, k * 3 + 1, none⟩, w.cell? ⟨g, k * 3 + 2, none⟩] = some ((M m).map some))
def SeenL (w : World) (a1 a2 : Option Addr) (N : Nat) : Prop :=
  ∀ i, i < N → ∃ gr gm ao n cap m, a1 = some ⟨gr, 0, none⟩ ∧ a2 = some ⟨gm, 0, none⟩ ∧ w.cell? ⟨gr, i, none⟩ = some (.slice ao n cap) ∧ w.cell? ⟨gm, i, none⟩ = some (.int .i64 m) ∧ n ≤ maxLen ∧
    ∀ k, k < n → ∃ g h c, ao = some ⟨g, 0, none⟩ ∧ w.cell? ⟨g, k, none⟩ = some (.slice (some ⟨h, 0, none⟩) 1 c) ∧ w.cell? ⟨h, 0, none⟩ = some (.bool false) ∧ w.cell? ⟨h, 1, none⟩ = some (.int .i64 m) ∧ w.cell? ⟨h, 2, none⟩ = some (.string ⟨#[]⟩)

theorem seen0 {w : World} {B : Nat} {U : Nat → Prop} {a1 a2 : Option Addr} {n1 n2 c1 c2 : Nat} {ps : List (Value × Int)} (h : LaneG (LN 0) w B U (.slice a1 n1 c1) (.slice a2 n2 c2) (lists ps) (marks .u8 ps) ps) : n1 = ps.length ∧ n2 = ps.length ∧ Seen1 w .u8 a1 a2 ps.length := by
  obtain ⟨e1, e2, h⟩ := LaneG.at h
  refine ⟨e1, e2, fun i hi => ?_⟩
  obtain ⟨gr, gm, ao, n, cap, m, h1, h2, h3, h4, h5, h6⟩ := h i hi
  refine ⟨gr, gm, ao, n, cap, m, h1, h2, h3, h4, h5, fun k hk => ?_⟩
  obtain ⟨g, cur, q1, q2, q3⟩ := h6 k hk
  exact ⟨g, q1, cellL q2 (take1_at q3)⟩
theorem seen1 {w : World} {B : Nat} {U : Nat → Prop} {a1 a2 : Option Addr} {n1 n2 c1 c2 : Nat} {ps : List (Value × Int)} (h : LaneG (LN 1) w B U (.slice a1 n1 c1) (.slice a2 n2 c2) (lists ps) (marks .i64 ps) ps) : n1 = ps.length ∧ n2 = ps.length ∧ Seen1 w .i64 a1 a2 ps.length := by
  obtain ⟨e1, e2, h⟩ := LaneG.at h
  refine ⟨e1, e2, fun i hi => ?_⟩
  obtain ⟨gr, gm, ao, n, cap, m, h1, h2, h3, h4, h5, h6⟩ := h i hi
  refine ⟨gr, gm, ao, n, cap, m, h1, h2, h3, h4, h5, fun k hk => ?_⟩
  obtain ⟨g, cur, q1, q2, q3⟩ := h6 k hk
  exact ⟨g, q1, cellL q2 (take1_at q3)⟩
theorem seen2 {w : World} {B : Nat} {U : Nat → Prop} {a1 a2 : Option Addr} {n1 n2 c1 c2 : Nat} {ps : List (Value × Int)} (h : LaneG (LN 2) w B U (.slice a1 n1 c1) (.slice a2 n2 c2) (lists ps) (marks .i64 ps) ps) : n1 = ps.length ∧ n2 = ps.length ∧ Seen3 w colM a1 a2 ps.length := by
  obtain ⟨e1, e2, h⟩ := LaneG.at h
  refine ⟨e1, e2, fun i hi => ?_⟩
  obtain ⟨gr, gm, ao, n, cap, m, h1, h2, h3, h4, h5, h6⟩ := h i hi
  refine ⟨gr, gm, ao, n, cap, m, h1, h2, h3, h4, h5, fun k hk => ?_⟩
  obtain ⟨g, cur, q1, q2, q3⟩ := h6 k hk
  obtain ⟨x, y, z⟩ := take3_at q3
  exact ⟨g, q1, by rw [cellL q2 x, cellL q2 y, cellL q2 z]; rfl⟩
theorem seen3 {w : World} {B : Nat} {U : Nat → Prop} {a1 a2 : Option Addr} {n1 n2 c1 c2 : Nat} {ps : List (Value × Int)} (h : LaneG (LN 3) w B U (.slice a1 n1 c1) (.slice a2 n2 c2) (lists ps) (marks .i64 ps) ps) : n1 = ps.length ∧ n2 = ps.length ∧ Seen3 w cellM a1 a2 ps.length := by
  obtain ⟨e1, e2, h⟩ := LaneG.at h
  refine ⟨e1, e2, fun i hi => ?_⟩
  obtain ⟨gr, gm, ao, n, cap, m, h1, h2, h3, h4, h5, h6⟩ := h i hi
  refine ⟨gr, gm, ao, n, cap, m, h1, h2, h3, h4, h5, fun k hk => ?_⟩
  obtain ⟨g, cur, q1, q2, q3⟩ := h6 k hk
  obtain ⟨x, y, z⟩ := take3_at q3
  exact ⟨g, q1, by rw [cellL q2 x, cellL q2 y, cellL q2 z]; rfl⟩
theorem seen4 {w : World} {B : Nat} {U : Nat → Prop} {a1 a2 : Option Addr} {n1 n2 c1 c2 : Nat} {ps : List (Value × Int)} (h : LaneG (LN 4) w B U (.slice a1 n1 c1) (.slice a2 n2 c2) (lists ps) (marks .i64 ps) ps) : n1 = ps.length ∧ n2 = ps.length ∧ SeenL w a1 a2 ps.length := by
  obtain ⟨e1, e2, h⟩ := LaneG.at h
  refine ⟨e1, e2, fun i hi => ?_⟩
  obtain ⟨gr, gm, ao, n, cap, m, h1, h2, h3, h4, h5, h6⟩ := h i hi
  refine ⟨gr, gm, ao, n, cap, m, h1, h2, h3, h4, h5, fun k hk => ?_⟩
  obtain ⟨g, cur, q1, q2, g', c, cur', q3, _, q4, q5⟩ := h6 k hk
  have hh : ∀ i x, (cellM m)[i]? = some x → i < 3 → w.cell? ⟨g', i, none⟩ = some x := fun i x hx hi => by
    refine cellL q4 ?_
    rw [← q5, List.getElem?_take, if_pos hi] at hx
    exact hx
  exact ⟨g, g', c, q1, cellL q2 (take1_at q3), hh 0 _ rfl (by omega), hh 1 _ rfl (by omega), hh 2 _ rfl (by omega)⟩

set_option maxHeartbeats 8000000 in
set_option maxRecDepth 100000 in
theorem looksW (b : Nat) (w : World) (N0 N1 N2 N3 N4 : Nat) (a0 a0' a1 a1' a2 a2' a3 a3' a4 a4' : Option Addr) (c0 c0' c1 c1' c2 c2' c3 c3' c4 c4' : Nat) (h0 : N0 ≤ 1000000) (h1 : N1 ≤ 1000000) (h2 : N2 ≤ 1000000) (h3 : N3 ≤ 1000000) (h4 : N4 ≤ 1000000)
    (k1 : w.cell? ⟨b, 1, none⟩ = some (.slice a0 N0 c0)) (k2 : w.cell? ⟨b, 2, none⟩ = some (.slice a0' N0 c0')) (k3 : w.cell? ⟨b, 3, none⟩ = some (.slice a1 N1 c1)) (k4 : w.cell? ⟨b, 4, none⟩ = some (.slice a1' N1 c1')) (k5 : w.cell? ⟨b, 5, none⟩ = some (.slice a2 N2 c2)) (k6 : w.cell? ⟨b, 6, none⟩ = some (.slice a2' N2 c2'))
    (k7 : w.cell? ⟨b, 7, none⟩ = some (.slice a3 N3 c3)) (k8 : w.cell? ⟨b, 8, none⟩ = some (.slice a3' N3 c3')) (k9 : w.cell? ⟨b, 9, none⟩ = some (.slice a4 N4 c4)) (k10 : w.cell? ⟨b, 10, none⟩ = some (.slice a4' N4 c4'))
    (L0 : Hid (Seen1 w .u8 a0 a0' N0)) (L1 : Hid (Seen1 w .i64 a1 a1' N1)) (L2 : Hid (Seen3 w colM a2 a2' N2)) (L3 : Hid (Seen3 w cellM a3 a3' N3)) (L4 : Hid (SeenL w a4 a4' N4)) :
    Calls Tryz.prog 9 #[.pointer (some ⟨b, 0, none⟩)] w fun e w' => e = .returned (.bool true) ∧ ∃ n, w' = w.drewN n := by
  go_enter Tryz.func9, Tryz.ntmps9
  go_wp2
  go_loopw [3] (fun i wr => ∃ j q : Nat, j ≤ N0 ∧ i = .int .i64 j ∧ wr = w.drewN q) (fun i _ => N0 - (intOf i).toNat)
  case atStart => exact ⟨0, 0, Nat.zero_le _, rfl, rfl⟩
  case round =>
    obtain ⟨j0, q0, hj0, rfl, rfl⟩ := hrel
    by_cases hlt0 : j0 < N0
    · obtain ⟨gr, gm, ao, n, cap, m, rfl, rfl, d1, d2, hnm, hrow⟩ := L0.out j0 hlt0
      have Hrow : Hid _ := hrow
      have hjd : decide ((j0 : Int) < (N0 : Int)) = true := by simp; omega
      clear hrow
      unfold maxLen at hnm
      go_wp2
      go_loopw [4] (fun i wr => ∃ k q : Nat, k ≤ n ∧ i = .int .i64 k ∧ wr = w.drewN q) (fun i _ => n - (intOf i).toNat)
      case atStart => exact ⟨0, q0, Nat.zero_le _, rfl, rfl⟩
      case round =>
        obtain ⟨k, r0, hk, rfl, rfl⟩ := hrel
        by_cases hk2 : k < n
        · obtain ⟨g, rfl, d3⟩ := Hrow.out k hk2
          go_wp2
          go_quiet (fail)
          go_wp2
          go_roundw
          case rel => exact ⟨k + 1, _, by omega, by go_num, rfl⟩
          case measure => simp [intOf]; omega
        · go_wp2
          go_roundw
          case rel => exact ⟨j0 + 1, _, by omega, by go_num, rfl⟩
          case measure => simp [intOf]; omega
    · have hge0 : N0 ≤ j0 := by omega
      go_wp2
      go_loopw [5] (fun i wr => ∃ j q : Nat, j ≤ N1 ∧ i = .int .i64 j ∧ wr = w.drewN q) (fun i _ => N1 - (intOf i).toNat)
      case atStart => exact ⟨0, q0, Nat.zero_le _, rfl, rfl⟩
      case round =>
        obtain ⟨j1, q1, hj1, rfl, rfl⟩ := hrel
        by_cases hlt1 : j1 < N1
        · obtain ⟨gr, gm, ao, n, cap, m, rfl, rfl, d1, d2, hnm, hrow⟩ := L1.out j1 hlt1
          have Hrow : Hid _ := hrow
          have hjd : decide ((j1 : Int) < (N1 : Int)) = true := by simp; omega
          clear hrow
          unfold maxLen at hnm
          go_wp2
          go_loopw [6] (fun i wr => ∃ k q : Nat, k ≤ n ∧ i = .int .i64 k ∧ wr = w.drewN q) (fun i _ => n - (intOf i).toNat)
          case atStart => exact ⟨0, q1, Nat.zero_le _, rfl, rfl⟩
          case round =>
            obtain ⟨k, r1, hk, rfl, rfl⟩ := hrel
            by_cases hk2 : k < n
            · obtain ⟨g, rfl, d3⟩ := Hrow.out k hk2
              go_wp2
              go_quiet (fail)
              go_wp2
              go_roundw
              case rel => exact ⟨k + 1, _, by omega, by go_num, rfl⟩
              case measure => simp [intOf]; omega
            · go_wp2
              go_roundw
              case rel => exact ⟨j1 + 1, _, by omega, by go_num, rfl⟩
              case measure => simp [intOf]; omega
        · have hge1 : N1 ≤ j1 := by omega
          go_wp2
          go_loopw [7] (fun i wr => ∃ j q : Nat, j ≤ N2 ∧ i = .int .i64 j ∧ wr = w.drewN q) (fun i _ => N2 - (intOf i).toNat)
          case atStart => exact ⟨0, q1, Nat.zero_le _, rfl, rfl⟩
          case round =>
            obtain ⟨j2, q2, hj2, rfl, rfl⟩ := hrel
            by_cases hlt2 : j2 < N2
            · obtain ⟨gr, gm, ao, n, cap, m, rfl, rfl, d1, d2, hnm, hrow⟩ := L2.out j2 hlt2
              have Hrow : Hid _ := hrow
              have hjd : decide ((j2 : Int) < (N2 : Int)) = true := by simp; omega
              clear hrow
              unfold maxLen at hnm
              go_wp2
              go_loopw [8] (fun i wr => ∃ k q : Nat, k ≤ n ∧ i = .int .i64 k ∧ wr = w.drewN q) (fun i _ => n - (intOf i).toNat)
              case atStart => exact ⟨0, q2, Nat.zero_le _, rfl, rfl⟩
              case round =>
                obtain ⟨k, r2, hk, rfl, rfl⟩ := hrel
                by_cases hk2 : k < n
                · obtain ⟨g, rfl, dd⟩ := Hrow.out k hk2
                  simp only [colM, List.map_cons, List.map_nil, Option.some.injEq, List.cons.injEq, and_true] at dd
                  obtain ⟨d3, d4, d5⟩ := dd
                  go_wp2
                  go_quiet (fail)
                  go_wp2
                  go_roundw
                  case rel => exact ⟨k + 1, _, by omega, by go_num, rfl⟩
                  case measure => simp [intOf]; omega
                · go_wp2
                  go_roundw
                  case rel => exact ⟨j2 + 1, _, by omega, by go_num, rfl⟩
                  case measure => simp [intOf]; omega
            · have hge2 : N2 ≤ j2 := by omega
              go_wp2
              go_loopw [9] (fun i wr => ∃ j q : Nat, j ≤ N3 ∧ i = .int .i64 j ∧ wr = w.drewN q) (fun i _ => N3 - (intOf i).toNat)
              case atStart => exact ⟨0, q2, Nat.zero_le _, rfl, rfl⟩
              case round =>
                obtain ⟨j3, q3, hj3, rfl, rfl⟩ := hrel
                by_cases hlt3 : j3 < N3
                · obtain ⟨gr, gm, ao, n, cap, m, rfl, rfl, d1, d2, hnm, hrow⟩ := L3.out j3 hlt3
                  have Hrow : Hid _ := hrow
                  have hjd : decide ((j3 : Int) < (N3 : Int)) = true := by simp; omega
                  clear hrow
                  unfold maxLen at hnm
                  go_wp2
                  go_loopw [10] (fun i wr => ∃ k q : Nat, k ≤ n ∧ i = .int .i64 k ∧ wr = w.drewN q) (fun i _ => n - (intOf i).toNat)
                  case atStart => exact ⟨0, q3, Nat.zero_le _, rfl, rfl⟩
                  case round =>
                    obtain ⟨k, r3, hk, rfl, rfl⟩ := hrel
                    by_cases hk2 : k < n
                    · obtain ⟨g, rfl, dd⟩ := Hrow.out k hk2
                      simp only [cellM, List.map_cons, List.map_nil, Option.some.injEq, List.cons.injEq, and_true] at dd
                      obtain ⟨d3, d4, d5⟩ := dd
                      go_wp2
                      go_quiet (fail)
                      go_wp2
                      go_roundw
                      case rel => exact ⟨k + 1, _, by omega, by go_num, rfl⟩
                      case measure => simp [intOf]; omega
                    · go_wp2
                      go_roundw
                      case rel => exact ⟨j3 + 1, _, by omega, by go_num, rfl⟩
                      case measure => simp [intOf]; omega
                · have hge3 : N3 ≤ j3 := by omega
                  go_wp2
                  go_loopw [11] (fun i wr => ∃ j q : Nat, j ≤ N4 ∧ i = .int .i64 j ∧ wr = w.drewN q) (fun i _ => N4 - (intOf i).toNat)
                  case atStart => exact ⟨0, q3, Nat.zero_le _, rfl, rfl⟩
                  case round =>
                    obtain ⟨j4, q4, hj4, rfl, rfl⟩ := hrel
                    by_cases hlt4 : j4 < N4
                    · obtain ⟨gr, gm, ao, n, cap, m, rfl, rfl, d1, d2, hnm, hrow⟩ := L4.out j4 hlt4
                      have Hrow : Hid _ := hrow
                      have hjd : decide ((j4 : Int) < (N4 : Int)) = true := by simp; omega
                      clear hrow
                      unfold maxLen at hnm
                      go_wp2
                      go_loopw [12] (fun i wr => ∃ k q : Nat, k ≤ n ∧ i = .int .i64 k ∧ wr = w.drewN q) (fun i _ => n - (intOf i).toNat)
                      case atStart => exact ⟨0, q4, Nat.zero_le _, rfl, rfl⟩
                      case round =>
                        obtain ⟨k, r4, hk, rfl, rfl⟩ := hrel
                        by_cases hk2 : k < n
                        · obtain ⟨g, h, c, rfl, d3, d4, d5, d6⟩ := Hrow.out k hk2
                          go_wp2
                          go_quiet (fail)
                          go_wp2
                          go_roundw
                          case rel => exact ⟨k + 1, _, by omega, by go_num, rfl⟩
                          case measure => simp [intOf]; omega
                        · go_wp2
                          go_roundw
                          case rel => exact ⟨j4 + 1, _, by omega, by go_num, rfl⟩
                          case measure => simp [intOf]; omega
                    · have hge4 : N4 ≤ j4 := by omega
                      go_wp2
                      go_ret
                      exact ⟨rfl, q4, rfl⟩

theorem looks5 (B b : Nat) (A : Nat → Prop) (n : Nat) (w : World) (hBk : Book5 w B b A n) (hn : n ≤ 1000000) :
    Calls Tryz.prog 9 #[.pointer (some ⟨b, 0, none⟩)] w fun e w' => e = .returned (.bool true) ∧ ∃ n, w' = w.drewN n := by
  obtain ⟨U, ps, ⟨C, h1, h2, h3, h4, h5, h6, h7⟩, hA, hl⟩ := hBk
  obtain ⟨vr0, vm0, e0, f0, L0⟩ := h5 0 (by omega)
  obtain ⟨vr1, vm1, e1, f1, L1⟩ := h5 1 (by omega)
  obtain ⟨vr2, vm2, e2, f2, L2⟩ := h5 2 (by omega)
  obtain ⟨vr3, vm3, e3, f3, L3⟩ := h5 3 (by omega)
  obtain ⟨vr4, vm4, e4, f4, L4⟩ := h5 4 (by omega)
  obtain ⟨a0, c0, rfl⟩ := slen_of L0.1
  obtain ⟨a0', c0', rfl⟩ := slen_of L0.2.1
  obtain ⟨a1, c1, rfl⟩ := slen_of L1.1
  obtain ⟨a1', c1', rfl⟩ := slen_of L1.2.1
  obtain ⟨a2, c2, rfl⟩ := slen_of L2.1
  obtain ⟨a2', c2', rfl⟩ := slen_of L2.2.1
  obtain ⟨a3, c3, rfl⟩ := slen_of L3.1
  obtain ⟨a3', c3', rfl⟩ := slen_of L3.2.1
  obtain ⟨a4, c4, rfl⟩ := slen_of L4.1
  obtain ⟨a4', c4', rfl⟩ := slen_of L4.2.1
  obtain ⟨x0, y0, S0⟩ := seen0 L0
  obtain ⟨x1, y1, S1⟩ := seen1 L1
  obtain ⟨x2, y2, S2⟩ := seen2 L2
  obtain ⟨x3, y3, S3⟩ := seen3 L3
  obtain ⟨x4, y4, S4⟩ := seen4 L4
  rw [x0] at e0; rw [y0] at f0; rw [x1] at e1; rw [y1] at f1; rw [x2] at e2; rw [y2] at f2; rw [x3] at e3; rw [y3] at f3; rw [x4] at e4; rw [y4] at f4
  have hb : ∀ i, i < 5 → (ps i).length ≤ 1000000 := fun i hi => Nat.le_trans (hl i hi) hn
  exact looksW b w _ _ _ _ _ a0 a0' a1 a1' a2 a2' a3 a3' a4 a4' c0 c0' c1 c1' c2 c2' c3 c3' c4 c4' (hb 0 (by omega)) (hb 1 (by omega)) (hb 2 (by omega)) (hb 3 (by omega)) (hb 4 (by omega))
    ((h1.cell 1).trans e0) ((h1.cell 2).trans f0) ((h1.cell 3).trans e1) ((h1.cell 4).trans f1) ((h1.cell 5).trans e2) ((h1.cell 6).trans f2) ((h1.cell 7).trans e3) ((h1.cell 8).trans f3) ((h1.cell 9).trans e4) ((h1.cell 10).trans f4) S0 S1 S2 S3 S4

end Go.Proofs.YtjobhlncllfdmaaGreat
