/- The reference's pages. -/
import Derived.Test.YtjobhlncllfdmaaM41
namespace Go.Proofs.Ytjobhlncllfdmaa
open Go.RowKit Go.Maps

set_option maxHeartbeats 8000000 in
set_option maxRecDepth 100000 in
theorem pages_any (lb cap kind : Nat) (opt : Bool) (nm : ByteArray) (l : List Pu.Cl) (ao : Option Addr) (w : World) (hr : Rs w 3 lb ao l.length cap (clsV l)) (hlb : lb < w.heap.size) (hl : l.length ≤ 100000) (hkind : kind ≤ 2) (hok : CellsOk kind l) :
    Calls Try.prog 34 #[.agg #[.string nm, .int .i64 (kind : Int), .bool opt], .slice ao l.length cap] w fun e w' => e = .returned (.tuple #[.string ⟨(partL kind opt l).1.toArray⟩, .int .i64 ((partL kind opt l).2 : Int)]) ∧ Below w.heap.size w w' := by
  obtain ⟨S, hS⟩ : ∃ S, S = w.heap.size := ⟨_, rfl⟩
  obtain ⟨N, hN⟩ : ∃ N, N = l.length := ⟨_, rfl⟩
  obtain ⟨box, hbox⟩ : ∃ box : Obj, box = .cells #[.string nm, .int .i64 (kind : Int), .bool opt] 45 (0, 0) := ⟨_, rfl⟩
  obtain ⟨W1, hW1⟩ : ∃ W1, W1 = w.alloc (.cells #[.string nm, .int .i64 (kind : Int), .bool opt] 45) := ⟨_, rfl⟩
  have H0 : Hid (PS S w box (.slice none 0 0) 0 (lvL (l.take 0)) (.slice none 0 0) 0 (valsL (l.take 0)) (.slice none 0 0) 0 (dic (valsL (l.take 0))).1 (.slice none 0 0) 0 (dic (valsL (l.take 0))).2 W1) := by
    refine ⟨by rw [hW1, hbox, hS]; exact heap_alloc_new w _, World.ownsRow_nil _ _ _ _, World.ownsRow_nil _ _ _ _, World.ownsRow_nil _ _ _ _, World.ownsRow_nil _ _ _ _, ?_, ?_, ?_, ?_, ?_, ?_, by rw [hW1, hS]; exact bbox w _, by rw [hW1, size_alloc', hS]; omega, by omega⟩
    all_goals (intro k hk; simp [Value.ownBlock] at hk)
  have HC : Hid (∀ (W : World) (k : Nat), Below S w W → (hk : k < l.length) → ∃ o, ao = some ⟨lb, o, none⟩ ∧ W.cell? ⟨lb, o + k * 3, none⟩ = some (.bool l[k].null) ∧ W.cell? ⟨lb, o + k * 3 + 1, none⟩ = some (.int .i64 l[k].n) ∧ W.cell? ⟨lb, o + k * 3 + 2, none⟩ = some (strV l[k].s)) := fun W k hb hk =>
    (hr.kept (hb.block _ (by omega))).cl3 k hk
  have HOk := hid hok
  have HN : Hid (N = l.length) := hN
  have HS : Hid (S = w.heap.size) := hS
  have HBox := hid hbox
  have HLv : Hid (∀ k, (hk : k < l.length) → lvL (l.take (k + 1)) = lvL (l.take k) ++ [if l[k].null = true then 0 else 1]) := fun k hk => lvL_take l k hk
  have HVl : Hid (∀ k, (hk : k < l.length) → valsL (l.take (k + 1)) = if l[k].null = true then valsL (l.take k) else valsL (l.take k) ++ [l[k]]) := fun k hk => valsL_take l k hk
  obtain ⟨i3, hi3, hz3, hz3', hz3''⟩ := info_parts Try.info3
  obtain ⟨i66, hi66, hz66, hz66', hz66''⟩ := info_parts Try.info66
  have hW1' : w.alloc (.cells #[.string nm, .int .i64 (kind : Int), .bool opt] 45) = W1 := hW1.symm
  have hsz : w.heap.size = S := hS.symm
  rw [← hN] at hl ⊢
  rw [← hS]
  clear hr hN hS hok hbox hW1
  go_enter Try.func34, Try.ntmps34
  go_wp2
  go_loopw [6, 7, 8, 9, 10] (fun s6 s7 s8 s9 i wr => ∃ (k nv nd : Nat) (al av ad ai : Option Addr) (cl cv cd ci : Nat), k ≤ N ∧ s6 = .slice al k cl ∧ s7 = .slice av nv cv ∧ s8 = .slice ad nd cd ∧ s9 = .slice ai nv ci ∧ i = .int .i64 k ∧ nv ≤ k ∧ nd ≤ nv ∧ Hid (PS S w box (.slice al k cl) k (lvL (l.take k)) (.slice av nv cv) nv (valsL (l.take k)) (.slice ad nd cd) nd (dic (valsL (l.take k))).1 (.slice ai nv ci) nv (dic (valsL (l.take k))).2 wr))
    (fun _ _ _ _ i _ => N - (intOf i).toNat)
  case atStart => exact ⟨0, 0, 0, none, none, none, none, 0, 0, 0, 0, Nat.zero_le _, rfl, rfl, rfl, rfl, rfl, Nat.le_refl _, Nat.le_refl _, H0⟩
  case round =>
    clear H0
    obtain ⟨k, nv, nd, al, av, ad, ai, cl, cv, cd, ci, hk, rfl, rfl, rfl, rfl, rfl, hnv, hnd, HP⟩ := hrel
    by_cases hk2 : k < N
    · have hkl : k < l.length := by rw [← HN.out]; exact hk2
      have hlv := HLv.out k hkl
      have hvl := HVl.out k hkl
      obtain ⟨o, rfl, h0, h1, h2⟩ := HC.out wr k HP.out.below hkl
      have hCk : ∀ W, Below S w W → W.cell? ⟨lb, o + k * 3, none⟩ = some (.bool l[k].null) ∧ W.cell? ⟨lb, o + k * 3 + 1, none⟩ = some (.int .i64 l[k].n) ∧ W.cell? ⟨lb, o + k * 3 + 2, none⟩ = some (strV l[k].s) := fun W hW => by
        obtain ⟨o', ho', h⟩ := HC.out W k hW hkl
        simp only [Option.some.injEq, Addr.mk.injEq, true_and] at ho'
        rw [ho'.1]; exact h
      obtain ⟨c, hc⟩ : ∃ c, c = l[k] := ⟨_, rfl⟩
      rw [← hc] at hCk h0 h1 h2 hlv hvl
      obtain ⟨b, x, s⟩ := c
      simp only at hCk h0 h1 h2 hlv hvl
      obtain ⟨t, ht⟩ : ∃ t : ByteArray, t = ⟨s.toArray⟩ := ⟨_, rfl⟩
      have htd : t.data.toList = s := by rw [ht]
      have hst : strV s = .string t := by rw [ht]; rfl
      rw [hst] at hCk h2
      have hwsz : S + 1 ≤ wr.heap.size := HP.out.sz
      cases b
      · simp only [Bool.false_eq_true, if_false] at hlv hvl
        obtain ⟨L1, hL1⟩ : ∃ L1, L1 = lvL (l.take (k + 1)) := ⟨_, rfl⟩
        obtain ⟨V0, hV0⟩ : ∃ V0, V0 = valsL (l.take k) := ⟨_, rfl⟩
        obtain ⟨V1, hV1⟩ : ∃ V1, V1 = valsL (l.take (k + 1)) := ⟨_, rfl⟩
        obtain ⟨D0, hD0⟩ : ∃ D0, D0 = (dic V0).1 := ⟨_, rfl⟩
        obtain ⟨I0, hI0⟩ : ∃ I0, I0 = (dic V0).2 := ⟨_, rfl⟩
        have hp := HP.out
        rw [← hV0, ← hD0, ← hI0] at hp
        rw [← hL1] at hlv
        rw [← hV1, ← hV0] at hvl
        have hnd2 : nd = D0.length := by have h := hp.od.1; rw [length_clsV] at h; omega
        have hnv2 : nv = V0.length := by have h := hp.ov.1; rw [length_clsV] at h; omega
        obtain ⟨e, he⟩ : ∃ e, e = ix D0 s := ⟨_, rfl⟩
        have hend : e ≤ nd := by rw [he, hnd2]; exact ix_le D0 s
        have hdst : dic V1 = (if e < nd then D0 else D0 ++ [⟨false, x, s⟩], I0 ++ [e]) := by
          rw [hvl, dic_snoc]; unfold dicStep; rw [← hD0, ← hI0, ← he, ← hnd2]
        have HOL := hid hp.ol
        have HL := hid (fun (a1 : Option Addr) (c1 : Nat) (w1 : World) (own : w1.ownsRow (S + 1) 3 1 (.slice a1 (k + 1) c1) (k + 1) (ints (lvL (l.take k)) ++ [.int .i64 1])) (gr : wr.grownBy w1 (Value.slice al k cl).ownBlock) (lies : ∀ q, (Value.slice a1 (k + 1) c1).ownBlock = some q → (Value.slice al k cl).ownBlock = some q ∨ wr.heap.size ≤ q) =>
          (show PS S w box (.slice a1 (k + 1) c1) (k + 1) L1 (.slice av nv cv) nv V0 (.slice ad nd cd) nd D0 (.slice ai nv ci) nv I0 w1 from hp.pushL gr (by rw [hlv, ints, List.map_append]; exact own) lies))
        have HV := hid (fun (vl : Value) (w1 : World) (h1 : PS S w box vl (k + 1) L1 (.slice av nv cv) nv V0 (.slice ad nd cd) nd D0 (.slice ai nv ci) nv I0 w1) (a1 : Option Addr) (c1 : Nat) (w2 : World) (own : w2.ownsRow (S + 1) 66 3 (.slice a1 (nv + 1) c1) (nv + 1) (clsV V0 ++ [.bool false, .int .i64 x, .string t])) (gr : w1.grownBy w2 (Value.slice av nv cv).ownBlock) (lies : ∀ q, (Value.slice a1 (nv + 1) c1).ownBlock = some q → (Value.slice av nv cv).ownBlock = some q ∨ w1.heap.size ≤ q) =>
          (show PS S w box vl (k + 1) L1 (.slice a1 (nv + 1) c1) (nv + 1) V1 (.slice ad nd cd) nd D0 (.slice ai nv ci) nv I0 w2 from h1.pushV gr (by
            rw [hvl, ← clsV_snoc]
            have e2 : clV (⟨false, x, s⟩ : Pu.Cl) = [.bool false, .int .i64 x, .string t] := by rw [ht]; rfl
            rw [e2]; exact own) lies))
        have HDp := hid (fun (hen : e = nd) (vl vv : Value) (w1 : World) (h1 : PS S w box vl (k + 1) L1 vv (nv + 1) V1 (.slice ad nd cd) nd D0 (.slice ai nv ci) nv I0 w1) (a1 : Option Addr) (c1 : Nat) (w2 : World) (own : w2.ownsRow (S + 1) 66 3 (.slice a1 (nd + 1) c1) (nd + 1) (clsV D0 ++ [.bool false, .int .i64 x, .string t])) (gr : w1.grownBy w2 (Value.slice ad nd cd).ownBlock) (lies : ∀ q, (Value.slice a1 (nd + 1) c1).ownBlock = some q → (Value.slice ad nd cd).ownBlock = some q ∨ w1.heap.size ≤ q) =>
          (show PS S w box vl (k + 1) L1 vv (nv + 1) V1 (.slice a1 (nd + 1) c1) (nd + 1) (dic V1).1 (.slice ai nv ci) nv I0 w2 from h1.pushD gr (by
            rw [hdst, hen]
            show w2.ownsRow _ _ _ _ _ (clsV (if nd < nd then _ else _))
            rw [if_neg (by omega), ← clsV_snoc]
            have e2 : clV (⟨false, x, s⟩ : Pu.Cl) = [.bool false, .int .i64 x, .string t] := by rw [ht]; rfl
            rw [e2]; exact own) lies))
        have HIp := hid (fun (vl vv vd : Value) (n1 : Nat) (D1 : List Pu.Cl) (w1 : World) (h1 : PS S w box vl (k + 1) L1 vv (nv + 1) V1 vd n1 D1 (.slice ai nv ci) nv I0 w1) (hD1 : D1 = (dic V1).1) (a1 : Option Addr) (c1 : Nat) (w2 : World) (own : w2.ownsRow (S + 1) 3 1 (.slice a1 (nv + 1) c1) (nv + 1) (ints I0 ++ [.int .i64 (e : Int)])) (gr : w1.grownBy w2 (Value.slice ai nv ci).ownBlock) (lies : ∀ q, (Value.slice a1 (nv + 1) c1).ownBlock = some q → (Value.slice ai nv ci).ownBlock = some q ∨ w1.heap.size ≤ q) =>
          (show PS S w box vl (k + 1) (lvL (l.take (k + 1))) vv (nv + 1) (valsL (l.take (k + 1))) vd n1 (dic (valsL (l.take (k + 1)))).1 (.slice a1 (nv + 1) c1) (nv + 1) (dic (valsL (l.take (k + 1)))).2 w2 from by
            rw [← hV1, ← hL1, ← hD1]
            exact h1.pushI gr (by
              rw [hdst]
              show w2.ownsRow _ _ _ _ _ (ints (I0 ++ [e]))
              rw [ints, List.map_append]; exact own) lies))
        have HDold : Hid (e < nd → D0 = (dic V1).1) := fun h => by rw [hdst]; show D0 = (if e < nd then _ else _); rw [if_pos h]
        have HDj := hid (fun (vl vv : Value) (W : World) (h1 : PS S w box vl (k + 1) L1 vv (nv + 1) V1 (.slice ad nd cd) nd D0 (.slice ai nv ci) nv I0 W) (j : Nat) (hj : j < nd) =>
          (show ∃ (g : Nat) (u : ByteArray), ad = some ⟨g, 0, none⟩ ∧ W.cell? ⟨g, j * 3 + 2, none⟩ = some (.string u) ∧ (j < e → u ≠ t) ∧ (j = e → u = t) from by
            obtain ⟨g, cap', hv, _, _⟩ := h1.od.form (by omega)
            simp only [Value.slice.injEq] at hv
            obtain ⟨rfl, _, _⟩ := hv
            obtain ⟨lbd, hrd, hlbd⟩ := Rs.ofOwn h1.od
            have hgl := hlbd g rfl
            subst hgl
            have hjd : j < D0.length := by omega
            rw [hnd2] at hrd
            obtain ⟨o', ho', _, _, hs2⟩ := hrd.cl3 j hjd
            simp only [Option.some.injEq, Addr.mk.injEq, true_and, and_true] at ho'
            subst ho'
            rw [Nat.zero_add] at hs2
            refine ⟨g, ⟨D0[j].s.toArray⟩, rfl, hs2, fun hje he2 => ?_, fun hje => ?_⟩
            · refine ix_get D0 s j hjd (by omega) ?_
              have := congrArg (fun z : ByteArray => z.data.toList) he2
              simpa [htd] using this
            · have := ix_stop D0 s j hjd (by omega)
              rw [ht, this]))
        have HCk := hid hCk
        have hnk : nv ≤ 100000 := by omega
        have hndk : nd ≤ 100000 := by omega
        have HOsz := hid (fun (vl vv vd vi : Value) (n1 n2 n3 n4 : Nat) (a1 a4 : List Nat) (a2 a3 : List Pu.Cl) (W : World) (h1 : PS S w box vl n1 a1 vv n2 a2 vd n3 a3 vi n4 a4 W) => h1.sz)
        clear hlv hvl hc ht htd hst hCk HP hp hL1 hV0 hV1 hD0 hI0 hnd2 hnv2 he hdst
        go_wp2_with (first
          | (at_builtin; refine wpList_push rfl (.tmp 30) (.tmp 31) 26 rfl rfl Try.underlying26 hi3 hz3 hz3' hz3'' rfl HOL.out #[.int .i64 1] rfl (oneI _) (by unfold maxLen; omega) (by omega) hwsz rfl rfl ?_; intro a1 c1 w1 own1 gr1 lies1; have HP1 := hid (HL.out a1 c1 w1 own1 gr1 lies1); clear own1 gr1 lies1; obtain ⟨y0, y1, y2⟩ := HCk.out w1 HP1.out.below; have hsz1 := HP1.out.sz; have HOV := hid HP1.out.ov)
          | (at_builtin; refine wpList_push rfl (.tmp 33) (.tmp 38) 64 rfl rfl Try.underlying64 hi66 hz66 hz66' hz66'' rfl HOV.out #[.bool false, .int .i64 x, .string t] rfl (oneC _ _ _) (by unfold maxLen; omega) (by omega) hsz1 rfl rfl ?_; intro a2 c2 w2 own2 gr2 lies2; have HP2 := hid (HV.out _ w1 HP1.out a2 c2 w2 own2 gr2 lies2); clear own2 gr2 lies2)
          | go_in)
        go_loopw [11] (fun i wi => ∃ j : Nat, j ≤ e ∧ i = .int .i64 j ∧ Hid (PS S w box (.slice a1 (k + 1) c1) (k + 1) L1 (.slice a2 (nv + 1) c2) (nv + 1) V1 (.slice ad nd cd) nd D0 (.slice ai nv ci) nv I0 wi)) (fun i _ => e - (intOf i).toNat)
        case atStart => exact ⟨0, Nat.zero_le _, rfl, HP2⟩
        case round =>
          clear HP2 HP1 y0 y1 y2 h0 h1 h2 hsz1 HOV hwsz HOL HL HV
          obtain ⟨j, hj, rfl, HJ⟩ := hrel
          obtain ⟨y0, y1, y2⟩ := HCk.out wr HJ.out.below
          go_upto_region 13 with fail
          go_cut [56] (fun s56 wx => s56 = .bool (decide (j < e)) ∧ Hid (PS S w box (.slice a1 (k + 1) c1) (k + 1) L1 (.slice a2 (nv + 1) c2) (nv + 1) V1 (.slice ad nd cd) nd D0 (.slice ai nv ci) nv I0 wx))
          case first =>
            by_cases hjn : j < nd
            · obtain ⟨g, u, rfl, cu, hu1, hu2⟩ := HDj.out _ _ wr HJ.out j hjn
              have d1 : decide (j < nd) = true := by simp; omega
              by_cases hje : j < e
              · have hd : (u.toList == t.toList) = false := str_ne (hu1 hje)
                have hd' : (u.toList != t.toList) = true := by simp [bne, hd]
                have d2 : decide (j < e) = true := by simp; omega
                clear hu1 hu2
                go_quiet (fail)
                go_wp2
                go_meet
                exact ⟨by rw [d2], HJ.out.drewN _⟩
              · obtain rfl := hu2 (by omega)
                have d2 : decide (j < e) = false := by simp; omega
                clear hu1 hu2
                go_quiet (fail)
                go_wp2
                go_meet
                exact ⟨by rw [d2], HJ.out.drewN _⟩
            · have d1 : decide (j < nd) = false := by simp; omega
              have d2 : decide (j < e) = false := by simp; omega
              go_quiet (fail)
              go_wp2
              go_meet
              exact ⟨by rw [d2], HJ.out.drewN _⟩
          case rest =>
          obtain ⟨rfl, HJc⟩ := hcut
          clear HJ y0 y1 y2
          by_cases hje : j < e
          · have d2 : decide (j < e) = true := by simp; omega
            go_wp2
            go_roundw
            case rel => exact ⟨j + 1, by omega, by go_num, HJc⟩
            case measure => simp [intOf]; omega
          · obtain rfl : e = j := by omega
            have d2 : decide (e < e) = false := by simp
            obtain ⟨y0, y1, y2⟩ := HCk.out wc HJc.out.below
            have hszc := HJc.out.sz
            by_cases hen : e = nd
            · subst hen
              have HOD := hid HJc.out.od
              go_wp2_with (first
                | (at_builtin; refine wpList_push rfl (.tmp 63) (.tmp 68) 64 rfl rfl Try.underlying64 hi66 hz66 hz66' hz66'' rfl HOD.out #[.bool false, .int .i64 x, .string t] rfl (oneC _ _ _) (by unfold maxLen; omega) (by omega) hszc rfl rfl ?_; intro a3 c3 w3 own3 gr3 lies3; have HP3 := hid (HDp.out rfl _ _ wc HJc.out a3 c3 w3 own3 gr3 lies3); clear own3 gr3 lies3; have hsz3 := HP3.out.sz; have HOI := hid HP3.out.oi)
                | (at_builtin; refine wpList_push rfl (.tmp 70) (.tmp 72) 26 rfl rfl Try.underlying26 hi3 hz3 hz3' hz3'' rfl HOI.out #[.int .i64 (e : Int)] rfl (oneI _) (by unfold maxLen; omega) (by omega) hsz3 rfl rfl ?_; intro a4 c4 w4 own4 gr4 lies4; have HP4 := hid (HIp.out _ _ _ _ _ w3 HP3.out rfl a4 c4 w4 own4 gr4 lies4); clear own4 gr4 lies4)
                | go_in)
              go_roundw
              case rel => exact ⟨k + 1, nv + 1, e + 1, a1, a2, a3, a4, c1, c2, c3, c4, by omega, rfl, rfl, rfl, rfl, by go_num, by omega, by omega, HP4⟩
              case measure => simp [intOf]; omega
            · have d3 : ((e : Int) == (nd : Int)) = false := by simp; omega
              have HOI := hid HJc.out.oi
              have HDo := hid (HDold.out (by omega))
              go_wp2_with (first
                | (at_builtin; refine wpList_push rfl (.tmp 70) (.tmp 72) 26 rfl rfl Try.underlying26 hi3 hz3 hz3' hz3'' rfl HOI.out #[.int .i64 (e : Int)] rfl (oneI _) (by unfold maxLen; omega) (by omega) hszc rfl rfl ?_; intro a4 c4 w4 own4 gr4 lies4; have HP4 := hid (HIp.out _ _ _ _ _ wc HJc.out HDo.out a4 c4 w4 own4 gr4 lies4); clear own4 gr4 lies4)
                | go_in)
              go_roundw
              case rel => exact ⟨k + 1, nv + 1, nd, a1, a2, ad, a4, c1, c2, cd, c4, by omega, rfl, rfl, rfl, rfl, by go_num, by omega, by omega, HP4⟩
              case measure => simp [intOf]; omega
      · simp only [if_true] at hlv hvl
        have HOL := hid HP.out.ol
        have HNX := hid (fun (a1 : Option Addr) (c1 : Nat) (w1 : World) (own : w1.ownsRow (S + 1) 3 1 (.slice a1 (k + 1) c1) (k + 1) (ints (lvL (l.take k)) ++ [.int .i64 0])) (gr : wr.grownBy w1 (Value.slice al k cl).ownBlock) (lies : ∀ q, (Value.slice a1 (k + 1) c1).ownBlock = some q → (Value.slice al k cl).ownBlock = some q ∨ wr.heap.size ≤ q) =>
          (show PS S w box (.slice a1 (k + 1) c1) (k + 1) (lvL (l.take (k + 1))) (.slice av nv cv) nv (valsL (l.take (k + 1))) (.slice ad nd cd) nd (dic (valsL (l.take (k + 1)))).1 (.slice ai nv ci) nv (dic (valsL (l.take (k + 1)))).2 w1 from by
            rw [hvl]
            exact HP.out.pushL gr (by rw [hlv, ints, List.map_append]; exact own) lies))
        clear hlv hvl hc ht htd hst hCk HP h1 h2
        go_wp2_with (first
          | (at_builtin; refine wpList_push rfl (.tmp 27) (.tmp 28) 26 rfl rfl Try.underlying26 hi3 hz3 hz3' hz3'' rfl HOL.out #[.int .i64 0] rfl (oneI _) (by unfold maxLen; omega) (by omega) hwsz rfl rfl ?_; intro a1 c1 w1 own1 gr1 lies1; have HP1 := hid (HNX.out a1 c1 w1 own1 gr1 lies1); clear own1 gr1 lies1)
          | go_in)
        go_roundw
        case rel => exact ⟨k + 1, nv, nd, a1, av, ad, ai, c1, cv, cd, ci, by omega, rfl, rfl, rfl, rfl, by go_num, by omega, by omega, HP1⟩
        case measure => simp [intOf]; omega
    · obtain rfl : N = k := by omega
      have htk : l.take N = l := List.take_of_length_le (by rw [HN.out]; exact Nat.le_refl _)
      obtain ⟨V, hV⟩ : ∃ V, V = valsL l := ⟨_, rfl⟩
      obtain ⟨D, hD⟩ : ∃ D, D = (dic V).1 := ⟨_, rfl⟩
      obtain ⟨I, hI⟩ : ∃ I, I = (dic V).2 := ⟨_, rfl⟩
      have hp := HP.out
      rw [htk, ← hV, ← hD, ← hI] at hp
      have hnd2 : nd = D.length := by have h := hp.od.1; rw [length_clsV] at h; omega
      have hnv2 : nv = V.length := by have h := hp.ov.1; rw [length_clsV] at h; omega
      have hni2 : nv = I.length := by have h := hp.oi.1; simp [ints] at h; omega
      have hnl2 : N = (lvL l).length := by rw [length_lvL]; exact HN.out
      obtain ⟨PW, hPW⟩ : ∃ PW : World → Prop, PW = PS S w box (.slice al N cl) N (lvL l) (.slice av nv cv) nv V (.slice ad nd cd) nd D (.slice ai nv ci) nv I := ⟨_, rfl⟩
      have HPW0 : Hid (PW wr) := by rw [Hid, hPW]; exact hp
      have PWb : Hid (∀ W, PW W → Below S w W) := fun W h => by rw [hPW] at h; exact h.below
      have PWl : Hid (∀ W W', PW W → Below W.heap.size W W' → PW W') := fun W W' h hb => by rw [hPW] at h ⊢; exact h.later hb
      have PWc : Hid (∀ W, PW W → W.cell? ⟨S, 1, none⟩ = some (.int .i64 (kind : Int)) ∧ W.cell? ⟨S, 2, none⟩ = some (.bool opt)) := fun W h => by
        rw [hPW] at h
        have hb := h.bx
        rw [HBox.out] at hb
        exact ⟨by rw [cell_of_row _ _ 1 _ _ _ hb]; rfl, by rw [cell_of_row _ _ 2 _ _ _ hb]; rfl⟩
      have hVs : ∀ c ∈ V, c.s.length ≤ 1000 := fun c hc => by rw [hV] at hc; exact HOk.out.1 c (List.mem_filter.1 hc).1
      have hDV : ∀ c ∈ D, c ∈ V := fun c hc => by rw [hD] at hc; exact dic_sub' V c hc
      obtain ⟨tr, htr⟩ : ∃ tr : ByteArray, tr = ⟨(runsL 1 (lvL l)).toArray⟩ := ⟨_, rfl⟩
      have htrs : tr.size ≤ 3200000 := by
        have h1 := length_runsL (width := 1) (by omega) (l := lvL l) (by omega)
        rw [htr, ← len_data]
        show (runsL 1 (lvL l)).length ≤ _
        omega
      have C53l : Hid (∀ W, PW W → Calls Try.prog 53 #[.slice al N cl, .int .i64 1] W fun e w2 => e = .returned (.string tr) ∧ PW w2) := fun W hW => by
        have h := hW
        rw [hPW] at h
        obtain ⟨lb1, hr1, hl1⟩ := Rs.ofOwnLt h.ol (by have := h.sz; omega)
        have := runsOf_any lb1 1 cl (lvL l) al W (by rw [← hnl2]; exact hr1) hl1 (lvL_lt l) (by omega) (by omega)
        rw [← hnl2, ← htr] at this
        refine this.mono ?_
        rintro e w2 ⟨rfl, hb⟩
        exact ⟨rfl, PWl.out W w2 hW hb⟩
      obtain ⟨tv, htv⟩ : ∃ tv : ByteArray, tv = ⟨(vb tr.size).toArray⟩ := ⟨_, rfl⟩
      have htvs : tv.size ≤ 7 := by rw [htv, ← len_data]; simpa using length_vb8 (n := tr.size) (by omega)
      have C32 : Hid (∀ W, PW W → Calls Try.prog 32 #[.int .i64 (tr.size : Int)] W fun e w2 => e = .returned (.string tv) ∧ PW w2) := fun W hW => by
        refine (varintB_any tr.size W (by omega)).mono ?_
        rintro e w2 ⟨rfl, hb⟩
        exact ⟨by rw [htv], PWl.out W w2 hW hb⟩
      obtain ⟨tb, htb⟩ : ∃ tb : ByteArray, tb = ⟨(if opt = true then levelsL l else []).toArray⟩ := ⟨_, rfl⟩
      have HTB1 : Hid (opt = true → tv ++ tr = tb) := fun h => bytes_ext (by
        simp only [ByteArray.data_append, Array.toList_append]
        rw [htb, if_pos h, htv, htr]
        show vb (⟨(runsL 1 (lvL l)).toArray⟩ : ByteArray).size ++ runsL 1 (lvL l) = levelsL l
        rw [← len_data]; rfl)
      have HTB0 : Hid (opt = false → tb = ⟨#[]⟩) := fun h => by rw [htb, h]; rfl
      have htbs : tb.size ≤ 3200007 := by
        cases hopt : opt
        · rw [HTB0.out hopt]; show 0 ≤ _; omega
        · rw [← HTB1.out hopt, ByteArray.size_append]; omega
      obtain ⟨tq, htq⟩ : ∃ tq : ByteArray, tq = ⟨(valuesL kind V).toArray⟩ := ⟨_, rfl⟩
      have htqs : tq.size ≤ 100700001 := by
        have h1 := length_valuesL kind V hVs
        rw [htq, ← len_data]
        show (valuesL kind V).length ≤ _
        omega
      have C55v : Hid (∀ W, PW W → Calls Try.prog 55 #[.int .i64 (kind : Int), .slice av nv cv] W fun e w2 => e = .returned (.string tq) ∧ PW w2) := fun W hW => by
        have h := hW
        rw [hPW] at h
        obtain ⟨lb1, hr1, hl1⟩ := Rs.ofOwnLt h.ov (by have := h.sz; omega)
        have := values_any lb1 cv kind V av W (by rw [← hnv2]; exact hr1) hl1 (by omega) hkind (fun hk => by rw [hV]; exact HOk.out.2 hk) hVs
        rw [← hnv2, ← htq] at this
        refine this.mono ?_
        rintro e w2 ⟨rfl, hb⟩
        exact ⟨rfl, PWl.out W w2 hW hb⟩
      obtain ⟨td, htd⟩ : ∃ td : ByteArray, td = ⟨(valuesL 2 D).toArray⟩ := ⟨_, rfl⟩
      have htds : td.size ≤ 100700001 := by
        have h1 := length_valuesL 2 D (fun c hc => hVs c (hDV c hc))
        rw [htd, ← len_data]
        show (valuesL 2 D).length ≤ _
        omega
      have C55d : Hid (∀ W, PW W → Calls Try.prog 55 #[.int .i64 2, .slice ad nd cd] W fun e w2 => e = .returned (.string td) ∧ PW w2) := fun W hW => by
        have h := hW
        rw [hPW] at h
        obtain ⟨lb1, hr1, hl1⟩ := Rs.ofOwnLt h.od (by have := h.sz; omega)
        have := values_any lb1 cd 2 D ad W (by rw [← hnd2]; exact hr1) hl1 (by omega) (by omega) (fun hk => by omega) (fun c hc => hVs c (hDV c hc))
        rw [← hnd2, ← htd] at this
        refine this.mono ?_
        rintro e w2 ⟨rfl, hb⟩
        exact ⟨rfl, PWl.out W w2 hW hb⟩
      obtain ⟨wd, hwd⟩ : ∃ wd, wd = widL nd := ⟨_, rfl⟩
      have hwd17 : wd ≤ 17 := by rw [hwd]; exact widL_le (by omega)
      have HWd := hid (widL_spec (n := nd) (by omega))
      rw [← hwd] at HWd
      obtain ⟨ti, hti⟩ : ∃ ti : ByteArray, ti = ⟨(runsL wd I).toArray⟩ := ⟨_, rfl⟩
      have htis : ti.size ≤ 3200000 := by
        have h1 := length_runsL (width := wd) (by omega) (l := I) (by omega)
        rw [hti, ← len_data]
        show (runsL wd I).length ≤ _
        omega
      have hIlt : ∀ x ∈ I, x < 4294967296 := fun x hx => by
        have h2 := dic_lt V V.length (Nat.le_refl _) x (by rw [List.take_length, ← hI]; exact hx)
        omega
      have C53i : Hid (∀ W, PW W → Calls Try.prog 53 #[.slice ai nv ci, .int .i64 (wd : Int)] W fun e w2 => e = .returned (.string ti) ∧ Below W.heap.size W w2) := fun W hW => by
        have h := hW
        rw [hPW] at h
        obtain ⟨lb1, hr1, hl1⟩ := Rs.ofOwnLt h.oi (by have := h.sz; omega)
        have := runsOf_any lb1 wd ci I ai W (by rw [← hni2]; exact hr1) hl1 hIlt (by omega) (by omega)
        rw [← hni2, ← hti] at this
        exact this
      obtain ⟨T0, hT0⟩ : ∃ T0 : ByteArray, T0 = ⟨(pageL 0 N (tb ++ tq).data.toList).toArray⟩ := ⟨_, rfl⟩
      have C540 : Hid (∀ W, PW W → Calls Try.prog 54 #[.int .i64 0, .int .i64 (N : Int), .string (tb ++ tq)] W fun e w2 => e = .returned (.string T0) ∧ PW w2) := fun W hW => by
        refine (pageOf_any 0 N (tb ++ tq) W (by omega) (by omega) (by rw [ByteArray.size_append]; omega)).mono ?_
        rintro e w2 ⟨rfl, hb⟩
        exact ⟨by rw [hT0], PWl.out W w2 hW hb⟩
      obtain ⟨tf, htf⟩ : ∃ tf : ByteArray, tf = ⟨(pageL 1 nd td.data.toList).toArray⟩ := ⟨_, rfl⟩
      have htfs : tf.size ≤ 200000000 := by
        have h1 := length_pageL 1 nd td.data.toList (by omega) (by rw [len_data]; omega)
        rw [len_data] at h1
        rw [htf, ← len_data]
        show (pageL 1 nd td.data.toList).length ≤ _
        omega
      have C541 : Hid (∀ W, PW W → Calls Try.prog 54 #[.int .i64 1, .int .i64 (nd : Int), .string td] W fun e w2 => e = .returned (.string tf) ∧ PW w2) := fun W hW => by
        refine (pageOf_any 1 nd td W (by omega) (by omega) (by omega)).mono ?_
        rintro e w2 ⟨rfl, hb⟩
        exact ⟨by rw [htf], PWl.out W w2 hW hb⟩
      obtain ⟨t1, ht1⟩ : ∃ t1 : ByteArray, t1 = ⟨#[UInt8.ofNat wd]⟩ := ⟨_, rfl⟩
      have h1s : t1.size = 1 := by rw [ht1]; rfl
      obtain ⟨T2, hT2⟩ : ∃ T2 : ByteArray, T2 = ⟨(pageL 2 N (tb ++ t1 ++ ti).data.toList).toArray⟩ := ⟨_, rfl⟩
      have hT2s : T2.size ≤ 200000000 := by
        have hz : (tb ++ t1 ++ ti).data.toList.length ≤ 100000000 := by rw [len_data, ByteArray.size_append, ByteArray.size_append]; omega
        have h1 := length_pageL 2 N (tb ++ t1 ++ ti).data.toList (by omega) (by omega)
        rw [hT2, ← len_data]
        show (pageL 2 N (tb ++ t1 ++ ti).data.toList).length ≤ _
        omega
      have C542 : Hid (∀ W : World, Calls Try.prog 54 #[.int .i64 2, .int .i64 (N : Int), .string (tb ++ t1 ++ ti)] W fun e w2 => e = .returned (.string T2) ∧ Below W.heap.size W w2) := fun W => by
        rw [hT2]
        exact pageOf_any 2 N (tb ++ t1 ++ ti) W (by omega) (by omega) (by rw [ByteArray.size_append, ByteArray.size_append]; omega)
      have hIl : (dic V).2.length = nv := by rw [← hI]; omega
      have hDl : (dic V).1.length = nd := by rw [← hD]; omega
      have HOne : Hid (¬ (kind = 2 ∧ nd < nv) → partL kind opt l = (T0.data.toList, 1)) := fun h => by
        unfold partL
        rw [← hV, hIl, hDl, if_neg h, hT0, HN.out]
        unfold plainL
        rw [← hV]
        simp only [ByteArray.data_append, Array.toList_append]
        rw [htb, htq]
      have hDn : valsL D = D := List.filter_eq_self.2 (fun c hc => by
        have := hDV c hc
        rw [hV] at this
        exact (List.mem_filter.1 this).2)
      have HTwo : Hid ((kind = 2 ∧ nd < nv) → partL kind opt l = ((tf ++ T2).data.toList, 2)) := fun h => by
        unfold partL
        rw [← hV, hIl, hDl, if_pos h, ← hD, ← hI]
        unfold plainL indicesL
        rw [hDn, ← hnd2, ← hwd, ← HN.out]
        simp only [ByteArray.data_append, Array.toList_append]
        rw [htf, hT2]
        simp only [ByteArray.data_append, Array.toList_append]
        rw [htb, htd, ht1, hti]
        simp
      obtain ⟨one, hone⟩ : ∃ one : Bool, one = decide (¬ (kind = 2 ∧ nd < nv)) := ⟨_, rfl⟩
      have HOn := hid hone
      have hz1 : ¬ (9223372036854775807 < tv.size + tr.size) := by omega
      have hz2 : ¬ (9223372036854775807 < tb.size + tq.size) := by omega
      have hz3 : ¬ (9223372036854775807 < tb.size + t1.size) := by omega
      have hz4 : ¬ (9223372036854775807 < tb.size + t1.size + ti.size) := by omega
      have hz5 : ¬ (9223372036854775807 < tf.size + T2.size) := by omega
      have HT1 := hid ht1
      clear htk hp HP hV hD hI hnd2 hnv2 hni2 hnl2 hPW hVs hDV htr htv htb htq htd hwd hti hIlt hT0 htf ht1 hT2 hIl hDl hDn hone HC HLv HVl
      obtain ⟨cb1, cb2⟩ := PWc.out wr HPW0.out
      go_upto_if 75 with fail
      go_cut [12] (fun s12 wx => s12 = .string tb ∧ Hid (PW wx))
      case first =>
        cases opt
        · obtain rfl := HTB0.out rfl
          go_wp2
          go_meet
          exact ⟨rfl, HPW0⟩
        · have C1 := hid (C53l.out wr HPW0.out)
          have HTE := hid (HTB1.out rfl)
          clear HTB1
          go_wp2_with fail
          refine C1.out.mono ?_
          rintro ed w2 ⟨rfl, hq2⟩
          have C2 := hid (C32.out w2 hq2)
          clear C1 cb1 cb2
          go_wp2_with fail
          refine C2.out.mono ?_
          rintro ed w3 ⟨rfl, hq3⟩
          have HQ3 := hid hq3
          clear C2 hq3 hq2
          go_wp2
          go_meet
          exact ⟨by rw [HTE.out], HQ3⟩
      case rest =>
      obtain ⟨rfl, HPc⟩ := hcut
      clear HPW0 cb1 cb2 C53l C32
      obtain ⟨cb1, cb2⟩ := PWc.out wc HPc.out
      go_upto_region 22 with fail
      go_cut [92] (fun s92 wx => s92 = .bool one ∧ Hid (PW wx))
      case first =>
        by_cases hk2' : kind = 2
        · have d1 : ((kind : Int) == 2) = true := by simp; omega
          have d1' : ((kind : Int) != 2) = false := by simp [bne]; omega
          by_cases hnn : nd = nv
          · have hone : one = true := by rw [HOn.out]; exact decide_eq_true (by omega)
            subst hone
            have d2 : ((nd : Int) == (nv : Int)) = true := by simp; omega
            go_wp2
            go_meet
            exact ⟨rfl, HPc⟩
          · have hone : one = false := by rw [HOn.out]; exact decide_eq_false (by omega)
            subst hone
            have d2 : ((nd : Int) == (nv : Int)) = false := by simp; omega
            go_wp2
            go_meet
            exact ⟨rfl, HPc⟩
        · have hone : one = true := by rw [HOn.out]; exact decide_eq_true (by omega)
          subst hone
          have d1 : ((kind : Int) == 2) = false := by simp; omega
          have d1' : ((kind : Int) != 2) = true := by simp [bne]; omega
          go_wp2
          go_meet
          exact ⟨rfl, HPc⟩
      case rest =>
      obtain ⟨rfl, HPd⟩ := hcut
      clear HPc cb1 cb2
      obtain ⟨cb1, cb2⟩ := PWc.out wc HPd.out
      cases one
      · have hcase : kind = 2 ∧ nd < nv := by have := HOn.out; simp at this; omega
        have HPart := hid (HTwo.out hcase)
        have hwu : IntKind.u8.wrap (wd : Int) = (wd : Int) := by rw [IntKind.wrap_u8]; omega
        have hwu2 : (wd : Int) % 256 = (wd : Int) := by omega
        clear C55v C540 HOne HTwo hcase HOn
        go_wp2
        go_loopw [14] (fun i wi => ∃ k : Nat, k ≤ wd ∧ i = .int .i64 k ∧ Hid (PW wi)) (fun i _ => wd - (intOf i).toNat)
        case atStart => exact ⟨0, Nat.zero_le _, rfl, HPd⟩
        case round =>
          clear HPd cb1 cb2
          obtain ⟨k, hk, rfl, HPk⟩ := hrel
          obtain ⟨P, hP⟩ : ∃ P, P = pow2 k := ⟨_, rfl⟩
          have PWk := hid (power_nat k wr (by omega))
          rw [← hP] at PWk
          by_cases hkw : k < wd
          · have hPn : P < nd := by rw [hP]; exact HWd.out.2 k hkw
            clear hP
            go_wp2_with fail
            refine PWk.out.mono ?_
            rintro ed w' ⟨rfl, hw'⟩
            subst w'
            go_wp2
            go_roundw
            case rel => exact ⟨k + 1, by omega, by go_num, HPk⟩
            case measure => simp [intOf]; omega
          · obtain rfl : wd = k := by omega
            have hPn : ¬ P < nd := by rw [hP]; have := HWd.out.1; omega
            have C1 := hid (C55d.out wr HPk.out)
            clear hP HWd
            go_wp2_with fail
            refine PWk.out.mono ?_
            rintro ed w' ⟨rfl, hw'⟩
            subst w'
            go_wp2_with fail
            refine C1.out.mono ?_
            rintro ed w2 ⟨rfl, hq2⟩
            have C2 := hid (C541.out w2 hq2)
            clear C1 C55d C541 hq2 PWk HPk
            go_wp2_with fail
            refine C2.out.mono ?_
            rintro ed w3 ⟨rfl, hq3⟩
            have BA : Hid (∀ (X : World) (o : Obj), Below w3.heap.size w3 X → Below w3.heap.size w3 (X.alloc o)) := fun X o h => h.alloc h.size o
            have C53r : Hid (∀ W, Below w3.heap.size w3 W → Calls Try.prog 53 #[.slice ai nv ci, .int .i64 (wd : Int)] W fun e w2 => e = .returned (.string ti) ∧ Below W.heap.size W w2) := fun W hW => C53i.out W (PWl.out w3 W hq3 hW)
            have HBe : Hid (∀ W, Below w3.heap.size w3 W → Below S w W) := fun W hW => PWb.out W (PWl.out w3 W hq3 hW)
            have hcv2 : ∀ X : World, (convert 24 9 (.slice (some ⟨X.heap.size, 0, none⟩) 1 1)).run Try.prog (X.alloc (.cells #[.int .u8 (wd : Int)] 5)).drew = .ok (.string t1) (X.alloc (.cells #[.int .u8 (wd : Int)] 5)).drew := fun X => by rw [HT1.out]; exact text_one' (by omega) (heap_alloc_new X _)
            have hcv1 : ∀ X : World, (convert 24 9 (.slice (some ⟨X.heap.size, 0, none⟩) 1 1)).run Try.prog (X.alloc (.cells #[.int .u8 (wd : Int)] 5)) = .ok (.string t1) (X.alloc (.cells #[.int .u8 (wd : Int)] 5)) := fun X => by rw [HT1.out]; exact text_one X wd (by omega)
            have N5 : Hid (∀ (X W : World), Below (X.alloc (.cells #[.int .u8 (wd : Int)] 5)).drew.heap.size (X.alloc (.cells #[.int .u8 (wd : Int)] 5)).drew W → (convert 24 9 (.slice (some ⟨X.heap.size, 0, none⟩) 1 1)).run Try.prog W = .ok (.string t1) W) := fun X W hb => by rw [HT1.out]; exact text_one' (by omega) (by rw [hb.block _ (by show X.heap.size < (X.alloc _).heap.size; rw [size_alloc']; omega)]; exact heap_alloc_new X _)
            clear C2 C53i PWb PWl PWc hq3 HT1
            go_wp2
            refine wp_region_noPanic ?_
            go_region_with (first
              | (go_at_call 53; refine (C53r.out _ (by repeat (first | with_reducible exact Below.refl _ _ | with_reducible refine Below.drew ?_ | with_reducible refine BA.out _ _ ?_))).mono ?_; rintro ed w4 ⟨rfl, hbc⟩; first | (with_reducible have hcv3 := N5.out _ _ hbc) | skip)
              | (go_at_call 54; refine (C542.out _).mono ?_; rintro ed w5 ⟨rfl, hbd⟩))
            all_goals
              refine NoPanic.normal ?_
              go_wp2
              go_ret2
              refine ⟨by rw [HPart.out]; rfl, HBe.out _ ?_⟩
              first
                | exact bself (bself (BA.out _ _ (Below.refl _ _)).drew hbc) hbd
                | exact bself (BA.out _ _ (bself (Below.refl _ _).drew hbc)) hbd
      · have hcase : ¬ (kind = 2 ∧ nd < nv) := of_decide_eq_true HOn.out.symm
        have HPart := hid (HOne.out hcase)
        have C1 := hid (C55v.out wc HPd.out)
        clear C55d C53i C541 C542 HTwo HOne HWd
        go_wp2_with fail
        refine C1.out.mono ?_
        rintro ed w2 ⟨rfl, hq2⟩
        have C2 := hid (C540.out w2 hq2)
        clear C1 hq2
        go_wp2_with fail
        refine C2.out.mono ?_
        rintro ed w3 ⟨rfl, hq3⟩
        have HB3 := hid (PWb.out w3 hq3)
        clear C2 hq3
        go_wp2
        go_ret2
        exact ⟨by rw [HPart.out]; rfl, HB3.out⟩
end Go.Proofs.Ytjobhlncllfdmaa
