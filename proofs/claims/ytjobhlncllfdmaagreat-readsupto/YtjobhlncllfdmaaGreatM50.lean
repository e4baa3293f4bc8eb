/- keepLists: its walk. -/
import Derived.Test.YtjobhlncllfdmaaGreatM10
import Derived.Test.YtjobhlncllfdmaaGreatM48
import Derived.Test.YtjobhlncllfdmaaGreatM49
namespace Go.Proofs.YtjobhlncllfdmaaGreat
open Go.RowKit

theorem nb_step {nb k n : Nat} (h : nb + 4 * n ≤ 800000) (hk : k ≤ n) : nb + 4 * k ≤ 900000 := by omega
theorem lists_step {n : Nat} (h : n ≤ 1000) : (n + 4) * 24 ≤ 140737488355328 := by omega
theorem cells_step {n : Nat} (h : n ≤ 1000000) : (n + 4) * 32 ≤ 140737488355328 := by omega

set_option maxHeartbeats 4000000 in
set_option maxRecDepth 100000 in
theorem keepLists5 (B b n : Nat) (A0 : Nat → Prop) (nb : Nat) (ao : Option Addr) (cap : Nat) (vs : List Value) (w : World) (hBk : Book5 w B b A0 nb) (hl : w.ownsRow B 47 1 (.slice ao n cap) n vs) (hlA : ∀ k, (Value.slice ao n cap).ownBlock = some k → ¬ A0 k)
    (hls : ∀ i, i < n → ∃ ai ni ci xs, vs[i]? = some (.slice ai ni ci) ∧ w.ownsRow B 57 3 (.slice ai ni ci) ni xs ∧ ni ≤ 1000000 ∧ ∀ k, (Value.slice ai ni ci).ownBlock = some k → ¬ A0 k)
    (hdis : ∀ i j v v' k, i < n → j < n → i ≠ j → vs[i]? = some v → vs[j]? = some v' → v.ownBlock = some k → v'.ownBlock ≠ some k) (hn : n ≤ 1000) (hnb : nb + 4 * n ≤ 800000) :
    Calls Tryz.prog 23 #[.pointer (some ⟨b, 0, none⟩), .slice ao n cap] w fun e w' => e = .returned (.tuple #[]) ∧ ∃ A', Book5 w' B b A' (nb + 4 * n + 4) ∧ (∀ x, A' x → A0 x ∨ Of vs n x ∨ (Value.slice ao n cap).ownBlock = some x ∨ w.heap.size ≤ x) ∧ Fr (fun x => A0 x ∨ Of vs n x ∨ (Value.slice ao n cap).ownBlock = some x) w w' := by
  have Hl : Hid (w.ownsRow B 47 1 (.slice ao n cap) n vs) := hl
  have hvl : vs.length = n := by have := hl.1; omega
  have HLL : Hid (∀ x, (Value.slice ao n cap).ownBlock = some x → x < w.heap.size ∧ ∀ k, ¬ Of vs k x) := fun x hx => ⟨(own_tyS hl hx).lt, fun k ⟨i, v, hi, hv, hvx⟩ => by
    have hin : i < n := by have := (List.getElem?_eq_some_iff.1 hv).1; omega
    obtain ⟨ai, ni, ci, xs, e1, e2, _⟩ := hls i hin
    rw [hv] at e1
    simp only [Option.some.injEq] at e1
    subst e1
    exact Ty.ne (own_tyS e2 hvx) (own_tyS hl hx) (by decide) rfl⟩
  have HlA : Hid (∀ k, (Value.slice ao n cap).ownBlock = some k → ¬ A0 k) := hlA
  have Hls : Hid (∀ i, i < n → ∃ ai ni ci xs, vs[i]? = some (.slice ai ni ci) ∧ w.ownsRow B 57 3 (.slice ai ni ci) ni xs ∧ ni ≤ 1000000 ∧ ∀ k, (Value.slice ai ni ci).ownBlock = some k → ¬ A0 k) := hls
  have Hdis : Hid (∀ i j v v' k, i < n → j < n → i ≠ j → vs[i]? = some v → vs[j]? = some v' → v.ownBlock = some k → v'.ownBlock ≠ some k) := hdis
  have HS0 : Hid (LSt w B b A0 nb (Value.slice ao n cap).ownBlock vs 0 w) := ⟨A0, hBk, fun x h => .inl h, Fr.refl _ _, hlA⟩
  -- the row of lists, later
  have HLat : Hid (∀ (k : Nat) (W : World), LSt w B b A0 nb (Value.slice ao n cap).ownBlock vs k W → W.ownsRow B 47 1 (.slice ao n cap) n vs) := fun k W h => by
    obtain ⟨A, _, _, hfr, _⟩ := h
    exact own_agreeS hl (fun x hx => hfr.block x (own_tyS hl hx).lt (fun t => by rcases t with t | t; exact hlA x hx t; exact (HLL.out x hx).2 k t))
  -- one list is kept
  have HRnd : Hid (∀ (k : Nat) (W : World), k < n → LSt w B b A0 nb (Value.slice ao n cap).ownBlock vs k W → ∃ ai ni ci g, ao = some ⟨g, 0, none⟩ ∧ W.cell? ⟨g, k, none⟩ = some (.slice ai ni ci) ∧ Calls Tryz.prog 43 #[.pointer (some ⟨b, 0, none⟩), .slice ai ni ci] W fun e w' => e = .returned (.tuple #[]) ∧ LSt w B b A0 nb (Value.slice ao n cap).ownBlock vs (k + 1) w') := fun k W hk h => by
    have hrow := HLat.out k W h
    obtain ⟨A, g1, g2, g3, g4⟩ := h
    obtain ⟨ai, ni, ci, xs, e1, e2, e3, e4⟩ := hls k hk
    obtain ⟨g, cp, hform, _, _⟩ := hrow.form (by omega)
    simp only [Value.slice.injEq, true_and] at hform
    obtain ⟨rfl, rfl⟩ := hform
    have hk1 : ∀ x, (Value.slice ai ni ci).ownBlock = some x → ¬ Of vs k x := fun x hx ⟨i, v, hi, hv, hvx⟩ => hdis i k v _ x (by omega) hk (by omega) hv e1 hvx hx
    have how : W.ownsRow B 57 3 (.slice ai ni ci) ni xs := own_agreeS e2 (fun x hx => g3.block x (own_tyS e2 hx).lt (fun t => by rcases t with t | t; exact e4 x hx t; exact hk1 x hx t))
    refine ⟨ai, ni, ci, g, rfl, by rw [hrow.cellAt k (by omega)]; exact e1, ?_⟩
    refine (keepCells5 B b ni A (nb + 4 * k) ai ci xs W g1 how (fun x hx hA => ?_) (cells_step e3) (nb_step hnb (Nat.le_of_lt hk))).mono ?_
    · rcases g2 x hA with t | t | t
      · exact e4 x hx t
      · exact hk1 x hx t
      · have := (own_tyS e2 hx).lt; omega
    · rintro e w' ⟨he, hK⟩
      exact ⟨he, LSt.step g1 g2 g3 g4 e1 hK (fun x hx => ⟨(HLL.out x hx).1, fun t => Ty.ne (own_tyS e2 t) (own_tyS hl hx) (by decide) rfl⟩)⟩
  clear hl hlA hls hdis hBk
  go_enter Tryz.func23, Tryz.ntmps23
  go_wp2
  go_loopw [4] (fun i wr => ∃ k : Nat, k ≤ n ∧ i = .int .i64 k ∧ Hid (LSt w B b A0 nb (Value.slice ao n cap).ownBlock vs k wr)) (fun i _ => n - (intOf i).toNat)
  case atStart => exact ⟨0, Nat.zero_le _, rfl, HS0⟩
  case round =>
    obtain ⟨k, hk, rfl, HL⟩ := hrel
    by_cases hk2 : k < n
    · obtain ⟨ai, ni, ci, g, rfl, hc, hcall⟩ := HRnd.out k wr hk2 HL.out
      have HC : Hid (Calls Tryz.prog 43 #[.pointer (some ⟨b, 0, none⟩), .slice ai ni ci] wr fun e w' => e = .returned (.tuple #[]) ∧ LSt w B b A0 nb (Value.slice (some ⟨g, 0, none⟩) n cap).ownBlock vs (k + 1) w') := hcall
      clear hcall
      go_wp2_with fail
      refine HC.out.mono ?_
      rintro e w2 ⟨rfl, hL2⟩
      have HL2 : Hid (LSt w B b A0 nb (Value.slice (some ⟨g, 0, none⟩) n cap).ownBlock vs (k + 1) w2) := hL2
      clear hL2 HC
      go_wp2
      go_roundw
      case rel => exact ⟨k + 1, by omega, by go_num, HL2⟩
      case measure => simp [intOf]; omega
    · obtain rfl : k = n := by omega
      obtain ⟨V, hVV⟩ : ∃ V, V = wr := ⟨_, rfl⟩
      subst hVV
      have hrow := HLat.out k V HL.out
      obtain ⟨A1, hB1, hA1, hF1, hl1A⟩ := HL.out
      obtain ⟨C, U0, ps, vr, vm, hBB, hCs, ⟨mk, hC0⟩, hvr, hvm, hL, hps, hUA, hUr, hBb, hclose⟩ := hB1.openL 4 (by omega)
      have N1 : Hid (Calls Tryz.prog 42 #[.pointer (some ⟨b, 0, none⟩)] V fun e w' => ∃ k k' : Int, e = .returned (.int .i64 k) ∧ w' = V.setCell ⟨b, 0, none⟩ (.int .i64 k')) := next_any b mk V (by rw [hBB.cell 0]; exact hC0) (hBB.fz 0)
      have hlb : (Value.slice ao k cap).ownBlock ≠ some b := fun e' => hl1A b e' hB1.hasB
      have Hlb : Hid ((Value.slice ao k cap).ownBlock ≠ some b) := hlb
      have HlU : Hid (∀ x, (Value.slice ao k cap).ownBlock = some x → ¬ U0 x) := fun x hx hu => hl1A x hx (hUA x hu)
      have Hlt : Hid (∀ x, (Value.slice ao k cap).ownBlock = some x → x < V.heap.size) := fun x hx => (hrow.lt x hx).2
      have HU0 : Hid (∀ x, U0 x → x < V.heap.size ∧ x ≠ b) := fun x hx => ⟨(hUr x hx).2.1, (hUr x hx).2.2⟩
      have HST : Hid (∀ (k1 m : Int) (W : World) (ys : List Value), Fr (fun x => (Value.slice ao k cap).ownBlock = some x) (V.setCell ⟨b, 0, none⟩ (.int .i64 k1)) W → W.ownsRow B 47 1 (.slice ao k cap) k ys → AllEl (LN 4) W (fun x => U0 x ∨ (V.heap.size ≤ x ∧ x < W.heap.size)) m k ys →
          KS (LN 4) 9 10 V B b (C.setIfInBounds 0 (.int .i64 k1)) U0 (Value.slice ao k cap).ownBlock k m ps (lists ps) (marks .i64 ps) (fun x => U0 x ∨ (V.heap.size ≤ x ∧ x < W.heap.size)) W (.slice ao k cap)) := fun k1 m W ys hf ho he =>
        KS.start (LN_ok 4) hL hBB hvr hvm (by decide) (by decide) hUr hBb _ rfl hf HlU.out hlb ho (fun _ h => .inl h) (fun _ h => h) (fun x hx => (hrow.lt x hx).2) he
      have HFI : Hid (∀ (k1 m : Int) (ps' : List (Value × Int)) (U' : Nat → Prop) (N : Nat) (W : World) (vl : Value), KS (LN 4) 9 10 V B b (C.setIfInBounds 0 (.int .i64 k1)) U0 (Value.slice ao k cap).ownBlock N m ps' (lists ps') (marks .i64 ps') U' W vl → ps'.length = ps.length + 4 →
          ∃ A', Book5 W B b A' (nb + 4 * k + 4) ∧ (∀ x, A' x → A0 x ∨ Of vs k x ∨ (Value.slice ao k cap).ownBlock = some x ∨ w.heap.size ≤ x) ∧ Fr (fun x => A0 x ∨ Of vs k x ∨ (Value.slice ao k cap).ownBlock = some x) w W) := fun k1 m ps' U' N W vl hK hp => by
        obtain ⟨vr', vm', f1, f2, f3, f4, f5⟩ := hK.finish
        obtain ⟨A', q1, q2, q3⟩ := hclose W _ U' ps' vr' vm' k1 f1 f2 (by omega) f3 f4 hl1A f5
        have hsz := hF1.size
        refine ⟨A', q1, fun x hx => ?_, (hF1.mono (fun x hx => by rcases hx with t | t; exact .inl t; exact .inr (.inl t))).trans q3 (fun x hx t => ?_)⟩
        · rcases q2 x hx with t | t | t
          · rcases hA1 x t with u | u | u
            · exact .inl u
            · exact .inr (.inl u)
            · exact .inr (.inr (.inr u))
          · exact .inr (.inr (.inl t))
          · exact .inr (.inr (.inr (by omega)))
        · rcases t with t | t
          · rcases hA1 x t with u | u | u
            · exact .inl u
            · exact .inr (.inl u)
            · omega
          · exact .inr (.inr t)
      have Hps : Hid (ps.length ≤ nb + 4 * k) := hps
      clear hB1 hA1 hF1 hl1A hBB hL hclose hUr hUA hvr hvm hlb HRnd HLat HL HS0 Hls Hdis HLL HlA Hl hps
      go_wp2_with fail
      refine N1.out.mono ?_
      rintro e w1 ⟨m, k1, rfl, hw1⟩
      have hl1 : w1.ownsRow B 47 1 (.slice ao k cap) k vs := by rw [hw1]; exact ownsRow_set_other' hrow Hlb.out
      have Hw1 : Hid (w1 = V.setCell ⟨b, 0, none⟩ (.int .i64 k1)) := hw1
      have Hs1 : Hid (w1.heap.size = V.heap.size) := by rw [Hid, hw1]; exact size_set _ _ _
      clear hw1 hrow N1
      go_wp2
      go_loopw [6] (fun i wr => ∃ (j : Nat) (ys : List Value), j ≤ k ∧ i = .int .i64 j ∧ wr.ownsRow B 47 1 (.slice ao k cap) k ys ∧ Hid (AllEl (LN 4) wr (fun x => U0 x ∨ (V.heap.size ≤ x ∧ x < wr.heap.size)) m j ys) ∧ Hid (Fr (fun x => (Value.slice ao k cap).ownBlock = some x) w1 wr)) (fun i _ => k - (intOf i).toNat)
      case atStart => exact ⟨0, vs, Nat.zero_le _, rfl, hl1, fun j hj => by omega, Fr.refl _ _⟩
      case round =>
        obtain ⟨j, ys, hj, rfl, ho, Hy, Hf⟩ := hrel
        have hyl : ys.length = k := by have := ho.1; omega
        by_cases hj2 : j < k
        · obtain ⟨g, cp, hform, _, _⟩ := ho.form (by omega)
          simp only [Value.slice.injEq, true_and] at hform
          obtain ⟨rfl, rfl⟩ := hform
          have hgw : g < wr.heap.size := (own_tyS ho rfl).lt
          have hst := ho.stored j (.slice (some ⟨wr.heap.size, 0, none⟩) 1 1)
          have hc : wr.cell? ⟨g, j, none⟩ = some ys[j] := by rw [ho.cellAt j (by omega), List.getElem?_eq_getElem (by omega)]
          have hf := ho.frozenAt j
          have HO : Hid (∀ W : World, W = wr → Calls Tryz.prog 44 #[.int .i64 m] W fun e w' => e = .returned (.slice (some ⟨wr.heap.size, 0, none⟩) 1 1) ∧ w' = wr.alloc (.cells #[.bool false, .int .i64 m, .string ⟨#[]⟩] 57)) := fun W hW => by subst hW; exact one_any m W
          have Hnx : Hid (((wr.setCell ⟨g, j, none⟩ (.slice (some ⟨wr.heap.size, 0, none⟩) 1 1)).alloc (.cells #[.bool false, .int .i64 m, .string ⟨#[]⟩] 57)).ownsRow B 47 1 (.slice (some ⟨g, 0, none⟩) k cap) k (ys.set j (.slice (some ⟨wr.heap.size, 0, none⟩) 1 1)) ∧
              AllEl (LN 4) ((wr.setCell ⟨g, j, none⟩ (.slice (some ⟨wr.heap.size, 0, none⟩) 1 1)).alloc (.cells #[.bool false, .int .i64 m, .string ⟨#[]⟩] 57)) (fun x => U0 x ∨ (V.heap.size ≤ x ∧ x < ((wr.setCell ⟨g, j, none⟩ (.slice (some ⟨wr.heap.size, 0, none⟩) 1 1)).alloc (.cells #[.bool false, .int .i64 m, .string ⟨#[]⟩] 57)).heap.size)) m (j + 1) (ys.set j (.slice (some ⟨wr.heap.size, 0, none⟩) 1 1)) ∧
              Fr (fun x => (Value.slice (some ⟨g, 0, none⟩) k cap).ownBlock = some x) w1 ((wr.setCell ⟨g, j, none⟩ (.slice (some ⟨wr.heap.size, 0, none⟩) 1 1)).alloc (.cells #[.bool false, .int .i64 m, .string ⟨#[]⟩] 57))) := by
            have hsz : w1.heap.size ≤ wr.heap.size := Hf.out.size
            have hV : V.heap.size ≤ wr.heap.size := by have := Hs1.out; omega
            have hS : ((wr.setCell ⟨g, j, none⟩ (.slice (some ⟨wr.heap.size, 0, none⟩) 1 1)).alloc (.cells #[.bool false, .int .i64 m, .string ⟨#[]⟩] 57)).heap.size = wr.heap.size + 1 := by rw [size_alloc', size_set]
            have hnew : ((wr.setCell ⟨g, j, none⟩ (.slice (some ⟨wr.heap.size, 0, none⟩) 1 1)).alloc (.cells #[.bool false, .int .i64 m, .string ⟨#[]⟩] 57)).heap[wr.heap.size]? = some (.cells #[.bool false, .int .i64 m, .string ⟨#[]⟩] 57 (0, 0)) := by
              have := heap_alloc_new (wr.setCell ⟨g, j, none⟩ (.slice (some ⟨wr.heap.size, 0, none⟩) 1 1)) (.cells #[.bool false, .int .i64 m, .string ⟨#[]⟩] 57)
              rw [size_set] at this
              exact this
            refine ⟨hst.1.alloc _, el_set1' rfl (el4 (.inr ⟨hV, by rw [hS]; omega⟩) hnew) (by omega) Hy.out (fun xs hx => ?_), (Hf.out.trans Fr.set (fun x _ e' => by rw [e']; rfl)).trans (Fr.of_below (fun _ => False) ((Below.refl _ _).alloc (Nat.le_refl _) _)) (fun _ _ h => h.elim)⟩
            refine (LN_ok 4).stab _ _ _ _ _ _ hx (fun x hx ht => ?_) (fun x hx => ?_)
            · rw [Below.heap_alloc _ _ _ (by rw [size_set]; exact ht.lt)]
              exact heap_setCell_other _ _ _ _ (show x ≠ g from Ty.ne ht (own_tyS ho rfl) (by decide))
            · rcases hx with hx | hx
              · exact .inl hx
              · exact .inr ⟨hx.1, by rw [hS]; omega⟩
          generalize ys[j] = y at hc
          clear hst Hy ho hyl
          go_wp2_with fail
          refine (HO.out _ rfl).mono ?_
          rintro e w' ⟨rfl, hw'⟩
          subst w'
          go_wp2
          go_roundw
          case rel => exact ⟨j + 1, _, by omega, by go_num, Hnx.out.1, Hnx.out.2.1, Hnx.out.2.2⟩
          case measure => simp [intOf]; omega
        · obtain rfl : j = k := by omega
          have HS : Hid (KS (LN 4) 9 10 V B b (C.setIfInBounds 0 (.int .i64 k1)) U0 (Value.slice ao j cap).ownBlock j m ps (lists ps) (marks .i64 ps) (fun x => U0 x ∨ (V.heap.size ≤ x ∧ x < wr.heap.size)) wr (.slice ao j cap)) := HST.out k1 m wr ys (by rw [← Hw1.out]; exact Hf.out) ho Hy.out
          have Hcz : Hid ((C.setIfInBounds 0 (Value.int .i64 k1)).size = 11) := by simp [Hid, hCs]
          clear ho hyl Hy Hf hl1 hCs
          go_wp2
          go_loopw [1, 7] (fun l i wr => ∃ (q : Nat) (ao' : Option Addr) (cap' : Nat), q ≤ 4 ∧ i = .int .i64 q ∧ l = .slice ao' (j + q) cap' ∧ Hid (∃ ps' U', ps'.length = ps.length + q ∧ KS (LN 4) 9 10 V B b (C.setIfInBounds 0 (.int .i64 k1)) U0 (Value.slice ao j cap).ownBlock (j + q) m ps' (lists ps') (marks .i64 ps') U' wr (.slice ao' (j + q) cap'))) (fun _ i _ => 4 - (intOf i).toNat)
          case atStart => exact ⟨0, ao, cap, by omega, rfl, rfl, ps, _, rfl, HS.out⟩
          case round =>
            obtain ⟨q, ao', cap', hq, rfl, rfl, HK⟩ := hrel
            by_cases hq4 : q < 4
            · obtain ⟨ps', U', hp', hK⟩ := HK.out
              obtain ⟨a1, c1, a2, c2, g1, p1, w1', g2, p2, w2, g3, p3, w3, U'', hc1, run1, hc1', hf1', hc2, run2, hc2', hf2', run3, hK⟩ := hK.round4 Hcz.out (len_step hp' Hps.out (nb_step hnb (Nat.le_refl _)) hq4) (bound_step (lists_step hn) hq4)
              have HK3 : Hid (∃ ps' U', ps'.length = ps.length + (q + 1) ∧ KS (LN 4) 9 10 V B b (C.setIfInBounds 0 (.int .i64 k1)) U0 (Value.slice ao j cap).ownBlock (j + (q + 1)) m ps' (lists ps') (marks .i64 ps') U' w3 (.slice (some ⟨g3, 0, none⟩) (j + (q + 1)) p3)) := ⟨_, _, len_snoc hp', hK⟩
              have R1 : Hid ((Builtin.append_ #[30, 30] 30 #[.slice a1 ps'.length c1, .slice (some ⟨wr.heap.size, 0, none⟩) 1 1]).run Tryz.prog (wr.alloc (.cells #[.slice ao' (j + q) cap'] 29)) = .ok (.slice (some ⟨g1, 0, none⟩) (ps'.length + 1) p1) w1') := run1
              have R2 : Hid ((Builtin.append_ #[27, 27] 27 #[.slice a2 ps'.length c2, .slice (some ⟨w1'.heap.size, 0, none⟩) 1 1]).run Tryz.prog ((w1'.setCell ⟨b, 9, none⟩ (.slice (some ⟨g1, 0, none⟩) (ps'.length + 1) p1)).alloc (.cells #[.int .i64 m] 3)) = .ok (.slice (some ⟨g2, 0, none⟩) (ps'.length + 1) p2) w2) := run2
              have R3 : Hid ((Builtin.append_ #[29, 29] 29 #[.slice ao' (j + q) cap', .slice (some ⟨w2.heap.size + 1, 0, none⟩) 1 1]).run Tryz.prog (((w2.setCell ⟨b, 10, none⟩ (.slice (some ⟨g2, 0, none⟩) (ps'.length + 1) p2)).alloc (.cells #[.bool false, .int .i64 m, .string ⟨#[]⟩] 57)).alloc (.cells #[.slice (some ⟨w2.heap.size, 0, none⟩) 1 1] 47)) = .ok (.slice (some ⟨g3, 0, none⟩) (j + q + 1) p3) w3) := run3
              clear hK run1 run2 run3 HK HS hp'
              go_wp2_with (first | (at_builtin; refine wpList_append_run rfl (.tmp 42) (.tmp 44) 30 30 rfl _ _ _ rfl rfl R1.out ?_) | (at_builtin; refine wpList_append_run rfl (.tmp 52) (.tmp 54) 27 27 rfl _ _ _ rfl rfl R2.out ?_) | (at_builtin; refine wpList_append_run rfl (.tmp 58) (.tmp 61) 29 29 rfl _ _ _ rfl rfl R3.out ?_) | go_in)
              go_roundw
              case rel => exact ⟨q + 1, some ⟨g3, 0, none⟩, p3, by omega, by go_num, rfl, HK3⟩
              case measure => simp [intOf]; omega
            · obtain rfl : q = 4 := by omega
              have HF : ∃ A', Book5 wr B b A' (nb + 4 * j + 4) ∧ (∀ x, A' x → A0 x ∨ Of vs j x ∨ (Value.slice ao j cap).ownBlock = some x ∨ w.heap.size ≤ x) ∧ Fr (fun x => A0 x ∨ Of vs j x ∨ (Value.slice ao j cap).ownBlock = some x) w wr := by
                obtain ⟨ps', U', hp', hK⟩ := HK.out
                exact HFI.out k1 m ps' U' _ wr _ hK hp'
              go_wp2
              go_end0
              exact ⟨rfl, HF⟩
end Go.Proofs.YtjobhlncllfdmaaGreat

/- (*Book).reads: its contract. -/
namespace Go.Proofs.YtjobhlncllfdmaaGreat
open Go.RowKit

abbrev RdR := Except Nat (List Pu.Col × List (List Pu.Cl) × Nat)
def unC (r : RdR) : List Pu.Col := match r with
  | .error _ => []
  | .ok (cs, _, _) => cs
def unT (r : RdR) : List (List Pu.Cl) := match r with
  | .error _ => []
  | .ok (_, ts, _) => ts
def unU (r : RdR) : Nat := match r with
  | .error _ => 0
  | .ok (_, _, u) => u
def unK (r : RdR) : Nat := match r with
  | .error k => k
  | .ok _ => 0

theorem TrAns.uni {w w' : World} {r : RdR} {e : Ending} (h : TrAns w r e w') : Below w.heap.size w w' ∧ ∃ av cv at' ct, e = .returned (.tuple #[.agg #[.slice av (unC r).length cv, .slice at' (unT r).length ct], .int .i64 (unU r : Int), .int .i64 (unK r : Int)]) ∧ w'.ownsRow w.heap.size 54 3 (.slice av (unC r).length cv) (unC r).length (colsV (unC r)) ∧ TabD w' w.heap.size (.slice at' (unT r).length ct) (unT r) ∧ (unC r).length ≤ 20 ∧ (unT r).length ≤ 20 ∧ ∀ x ∈ unT r, x.length ≤ 1000000 := by
  obtain ⟨h1, h2⟩ := h
  refine ⟨h1, ?_⟩
  cases r with
  | error k => exact ⟨none, 0, none, 0, h2, ⟨rfl, .inl ⟨rfl, rfl⟩⟩, ⟨[], ⟨rfl, .inl ⟨rfl, rfl⟩⟩, fun i hi => by simp [unT] at hi, fun i j x y k _ hx => by simp at hx⟩, by simp [unC], by simp [unT], by simp [unT]⟩
  | ok q =>
    obtain ⟨cs, ts, u⟩ := q
    obtain ⟨vc, vt, he, oc, ot, htl, hcl, hts⟩ := h2
    obtain ⟨av, cv, rfl⟩ := slen_of oc
    obtain ⟨vs, q1, q2, q3⟩ := ot
    obtain ⟨at', ct, rfl⟩ := slen_of q1
    exact ⟨av, cv, at', ct, he, oc, ⟨vs, q1, q2, q3⟩, hcl, by show ts.length ≤ 20; omega, hts⟩

/-- a table that is not the book's -/
def MTab (W : World) (A : Nat → Prop) (B : Nat) (vt : Value) (ts : List (List Pu.Cl)) : Prop := TabD W B vt ts ∧ ∀ vs, W.ownsRow B 47 1 vt ts.length vs → (∀ k, vt.ownBlock = some k → ¬ A k) ∧ ∀ (i : Nat) (v : Value) (k : Nat), i < ts.length → vs[i]? = some v → v.ownBlock = some k → ¬ A k

theorem row_same {W W' : World} {B : Nat} {e : TypeId} {v : Value} {n : Nat} {vs vs' : List Value} (h : W.ownsRow B e 1 v n vs) (h' : W'.ownsRow B e 1 v n vs') (hw : ∀ k, v.ownBlock = some k → W'.heap[k]? = W.heap[k]?) : vs' = vs := by
  obtain ⟨h1, h2⟩ := h
  obtain ⟨h1', h2'⟩ := h'
  rcases h2 with ⟨rfl, hn⟩ | ⟨g, cap, cur, rfl, _, hg, _, _, _, ht⟩
  · subst hn
    have e1 : vs = [] := List.length_eq_zero_iff.1 (by simpa using h1)
    have e2 : vs' = [] := List.length_eq_zero_iff.1 (by simpa using h1')
    rw [e1, e2]
  · rcases h2' with ⟨h, _⟩ | ⟨g', cap', cur', h, _, hg', _, _, _, ht'⟩
    · cases h
    · simp only [Value.slice.injEq, Option.some.injEq, Addr.mk.injEq, true_and, and_true] at h
      obtain ⟨rfl, rfl⟩ := h
      rw [hw g rfl, hg] at hg'
      simp only [Option.some.injEq, Obj.cells.injEq, and_true] at hg'
      obtain ⟨rfl, _⟩ := hg'
      rw [← ht, ← ht']

theorem MTab.new {W : World} {A : Nat → Prop} {B B0 : Nat} {vt : Value} {ts : List (List Pu.Cl)} (h : TabD W B0 vt ts) (hB : B ≤ B0) (hA : ∀ k, A k → k < B0) : MTab W A B vt ts := by
  refine ⟨?_, fun vs hvs => ⟨fun k hk ha => ?_, fun i v k hi hv hk ha => ?_⟩⟩
  · obtain ⟨vs, h1, h2, h3⟩ := h
    refine ⟨vs, h1.mono hB, fun i hi => ?_, h3⟩
    obtain ⟨ai, ci, g1, g2⟩ := h2 i hi
    exact ⟨ai, ci, g1, g2.mono hB⟩
  · obtain ⟨vs', h1, h2, h3⟩ := h
    have := (h1.lt k hk).1
    have := hA k ha
    omega
  · obtain ⟨vs', h1, h2, h3⟩ := h
    have := row_same (h1.mono hB) hvs (fun _ _ => rfl)
    subst this
    obtain ⟨ai, ci, g1, g2⟩ := h2 i hi
    rw [hv] at g1
    simp only [Option.some.injEq] at g1
    subst g1
    have := (g2.lt k hk).1
    have := hA k ha
    omega

theorem MTab.keep {W W' : World} {A A' : Nat → Prop} {B : Nat} {vt : Value} {ts : List (List Pu.Cl)} (h : MTab W A B vt ts) (hw : ∀ k, (Ty W k 47 ∨ Ty W k 57) → ¬ A k → W'.heap[k]? = W.heap[k]? ∧ ¬ A' k) : MTab W' A' B vt ts := by
  obtain ⟨⟨vs, h1, h2, h3⟩, hm⟩ := h
  obtain ⟨m1, m2⟩ := hm vs h1
  have o1 : ∀ k, vt.ownBlock = some k → W'.heap[k]? = W.heap[k]? ∧ ¬ A' k := fun k hk => hw k (.inl (own_tyS h1 hk)) (m1 k hk)
  have o2 : ∀ (i : Nat) (v : Value) (k : Nat), i < ts.length → vs[i]? = some v → v.ownBlock = some k → W'.heap[k]? = W.heap[k]? ∧ ¬ A' k := fun i v k hi hv hk => by
    obtain ⟨ai, ci, g1, g2⟩ := h2 i hi
    rw [hv] at g1
    simp only [Option.some.injEq] at g1
    subst g1
    exact hw k (.inr (own_tyS g2 hk)) (m2 i _ k hi hv hk)
  refine ⟨⟨vs, own_agreeS h1 (fun k hk => (o1 k hk).1), fun i hi => ?_, h3⟩, fun vs' hvs' => ?_⟩
  · obtain ⟨ai, ci, g1, g2⟩ := h2 i hi
    exact ⟨ai, ci, g1, own_agreeS g2 (fun k hk => (o2 i _ k hi g1 hk).1)⟩
  · have := row_same h1 hvs' (fun k hk => (o1 k hk).1)
    subst this
    exact ⟨fun k hk => (o1 k hk).2, fun i v k hi hv hk => (o2 i v k hi hv hk).2⟩

theorem MTab.below {W W' : World} {A : Nat → Prop} {B : Nat} {vt : Value} {ts : List (List Pu.Cl)} (h : MTab W A B vt ts) (hb : Below W.heap.size W W') : MTab W' A B vt ts :=
  h.keep (fun k hk ha => ⟨hb.block k (by rcases hk with hk | hk <;> exact hk.lt), ha⟩)

theorem MTab.after {W W' : World} {A A' : Nat → Prop} {B : Nat} {vt : Value} {ts : List (List Pu.Cl)} {l0 : Option Nat} (h : MTab W A B vt ts) (ha : After W A l0 A' W') (hl : ∀ k, l0 = some k → ∃ e, Ty W k e ∧ e ≠ 47 ∧ e ≠ 57) : MTab W' A' B vt ts := by
  refine h.keep (fun k hk hA => ?_)
  have hlt : k < W.heap.size := by rcases hk with hk | hk <;> exact hk.lt
  have hne : l0 ≠ some k := fun e => by
    obtain ⟨t, ht, h1, h2⟩ := hl k e
    rcases hk with hk | hk
    · exact Ty.ne ht hk h1 rfl
    · exact Ty.ne ht hk h2 rfl
  refine ⟨ha.2.1 k hlt hA hne, fun hA' => ?_⟩
  rcases ha.1 k hA' with t | t | t
  · exact hA t
  · exact hne t
  · omega

theorem keepTab5 (B b : Nat) (A : Nat → Prop) (nb : Nat) (ao : Option Addr) (cap : Nat) (ts : List (List Pu.Cl)) (w0 w : World) (hC : Chain w0 B b nb A w) (hM : MTab w A B (.slice ao ts.length cap) ts) (hn : ts.length ≤ 20) (hts : ∀ x ∈ ts, x.length ≤ 1000000) (hnb : nb ≤ 799000) :
    Calls Tryz.prog 23 #[.pointer (some ⟨b, 0, none⟩), .slice ao ts.length cap] w fun e w' => e = .returned (.tuple #[]) ∧ ∃ A', Chain w0 B b (nb + 84) A' w' := by
  obtain ⟨⟨vs, h1, h2, h3⟩, hm⟩ := hM
  obtain ⟨m1, m2⟩ := hm vs h1
  refine (keepLists5 B b ts.length A nb ao cap vs w hC.1 h1 m1 (fun i hi => ?_) (fun i j v v' k _ _ hij hv hv' hk => h3 i j v v' k hij hv hv' hk) (by omega) (by omega)).mono ?_
  · obtain ⟨ai, ci, g1, g2⟩ := h2 i hi
    exact ⟨ai, ts[i].length, ci, clsV ts[i], g1, g2, hts _ (List.getElem_mem hi), fun k hk => m2 i _ k hi g1 hk⟩
  · rintro e w' ⟨he, A', hB', _, hf⟩
    refine ⟨he, A', hB'.mono (by omega), hC.2.trans (hf.below hC.1.bsize (fun k hk => ?_))⟩
    rcases hk with hk | ⟨i, v, hi, hv, hk⟩ | hk
    · exact (hC.1.lt k hk).1
    · obtain ⟨ai, ci, g1, g2⟩ := h2 i hi
      rw [hv] at g1
      simp only [Option.some.injEq] at g1
      subst g1
      exact (g2.lt k hk).1
    · exact (h1.lt k hk).1

/-! errors are small -/
theorem part_err {D : List UInt8} {E b rows used k : Nat} {c : Pu.Col} {ch : Nat × Nat} (hE : E ≤ D.length) (h : Pu.part D E b c rows ch used = .error k) : k ≤ 13 := by
  unfold Pu.part at h
  cases hp : Pu.pages D E c.opt c.kind b ch.2 true ch.1 used ⟨rows, [], false, []⟩ with
  | error e =>
    simp only [hp, Except.error.injEq] at h
    have := (pages_err hE ch.2 0 ch.1 used _ e hp).2
    omega
  | ok q =>
    obtain ⟨u, st⟩ := q
    simp only [hp] at h
    split at h
    · simp only [Except.error.injEq] at h; omega
    · cases h
theorem colsR_err {D : List UInt8} {E b rows k : Nat} (hE : E ≤ D.length) : ∀ l i used ts, Pu.colsR D E b rows l i used ts = .error k → k ≤ 13 := by
  intro l
  induction l with
  | nil => intro i used ts h; cases h
  | cons x r ih =>
    obtain ⟨c, ch⟩ := x
    intro i used ts h
    unfold Pu.colsR at h
    cases hp : Pu.part D E b c rows ch used with
    | error e => simp only [hp, Except.error.injEq] at h; subst h; exact part_err hE hp
    | ok q => simp only [hp] at h; exact ih _ _ _ h
theorem grpsR_err {D : List UInt8} {E b k : Nat} {cs : List Pu.Col} (hE : E ≤ D.length) : ∀ gs used ts, Pu.grpsR D E b cs gs used ts = .error k → k ≤ 13 := by
  intro gs
  induction gs with
  | nil => intro used ts h; cases h
  | cons g r ih =>
    intro used ts h
    unfold Pu.grpsR at h
    cases hp : Pu.colsR D E b g.1 (cs.zip g.2) 0 used ts with
    | error e => simp only [hp, Except.error.injEq] at h; subst h; exact colsR_err hE _ _ _ _ hp
    | ok q => simp only [hp] at h; exact ih _ _ h
theorem unK_le (D : List UInt8) (bd : Int) : unK (Pu.read D bd) ≤ 13 := by
  cases h : Pu.read D bd with
  | ok q => exact Nat.zero_le _
  | error k =>
    show k ≤ 13
    by_cases hb : bd < 0 ∨ 1073741824 < bd
    · rw [read_arg hb] at h; simp only [Except.error.injEq] at h; omega
    · obtain ⟨b, rfl⟩ : ∃ b : Nat, bd = (b : Int) := ⟨bd.toNat, by omega⟩
      cases hl : Pu.look D with
      | bad k' =>
        rw [pread_bad (by omega) hl] at h
        simp only [Except.error.injEq] at h
        have := (look_bad_le hl).2
        omega
      | good E cs gs =>
        rw [read_fin (by omega) hl] at h
        unfold finR at h
        cases hg : Pu.grpsR D E b cs gs 0 (List.replicate cs.length []) with
        | error e => simp only [hg, Except.error.injEq] at h; subst h; exact grpsR_err (look_ok hl).1 _ _ _ hg
        | ok q => simp [hg] at h

theorem refRead_any (s : ByteArray) (bd : Int) (w : World) (hs : s.size ≤ 1073741824) :
    Calls Tryz.prog 20 #[.string s, .int .i64 bd] w fun e w' => TrAns w (Pu.read s.data.toList bd) e w' :=
  refRead_two s bd w hs (fun b E cs gs hb hl => refRead_good s b E cs gs w hs hb hl)

end Go.Proofs.YtjobhlncllfdmaaGreat
