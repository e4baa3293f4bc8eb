/- The reference's Write. -/
import Derived.Test.YtjobhlncllfdmaaM42
import Derived.Test.YtjobhlncllfdmaaM43
import Derived.Test.YtjobhlncllfdmaaM46
import Derived.Test.YtjobhlncllfdmaaM47
namespace Go.Proofs.Ytjobhlncllfdmaa
open Go.RowKit Go.Maps

theorem grpN_len1 (cs : List Pu.Col) (ts : List (List Pu.Cl)) (fr te n : Nat) (L : List UInt8) (hcs : cs.length = ts.length) (hn : ∀ t ∈ ts, t.length = n) (hft : fr ≤ te) (htn : te ≤ n) (hn5 : n ≤ 100000) (hok : ∀ t ∈ ts, ∀ c ∈ t, c.s.length ≤ 1000) : ∀ k, k ≤ cs.length → (grpN cs ts fr te L k).1.length ≤ L.length + 500000000 * k := fun k => by
  induction k with
  | zero => intro _; exact Nat.le_refl _
  | succ k ih =>
    intro hk
    have ih := ih (by omega)
    rw [grpN_succ cs ts fr te L k (by omega) (by omega)]
    have hsl := length_segL fr te (ts[k]'(by omega)) (by rw [hn _ (List.getElem_mem _)]; exact htn) hft
    have hp := length_partL (cs[k]'(by omega)).kind (cs[k]'(by omega)).opt (segL fr te (ts[k]'(by omega))) (by omega) (fun c hc => hok _ (List.getElem_mem (by omega)) c (segL_sub _ _ _ c hc))
    show List.length (_ ++ _) ≤ _
    rw [List.length_append]
    simp only
    omega
theorem grpN_all (cs : List Pu.Col) (ts : List (List Pu.Cl)) (fr te : Nat) (L : List UInt8) (hcs : cs.length = ts.length) : grpN cs ts fr te L cs.length = grpW cs ts fr te L := by unfold grpN grpW; rw [List.take_of_length_le (by rw [List.length_zip]; omega)]

set_option maxHeartbeats 4000000 in
set_option maxRecDepth 100000 in
theorem refWrite_arg (ac : Option Addr) (N cc : Nat) (at' : Option Addr) (T ct : Nat) (rows : Int) (w : World) (h : rows < 1 ∨ 1000 < rows) :
    Calls Try.prog 13 #[.agg #[.slice ac N cc, .slice at' T ct], .int .i64 rows] w fun e w' => e = .returned (.tuple #[.string ⟨#[]⟩, .int .i64 1]) ∧ Below w.heap.size w w' := by
  have HB := hid (bbox w (.cells #[.slice ac N cc, .slice at' T ct] 50))
  by_cases h1 : rows < 1
  · have d1 : decide (rows < 1) = true := by simp; omega
    clear h
    go_enter Try.func13, Try.ntmps13
    go_wp2
    go_ret2
    exact ⟨rfl, HB.out⟩
  · have d1 : decide (rows < 1) = false := by simp; omega
    have d2 : decide (1000 < rows) = true := by simp; omega
    clear h
    go_enter Try.func13, Try.ntmps13
    go_wp2
    go_ret2
    exact ⟨rfl, HB.out⟩

set_option maxHeartbeats 4000000 in
set_option maxRecDepth 100000 in
theorem refWrite_bad (Bt rows : Nat) (ac : Option Addr) (cc : Nat) (at' : Option Addr) (ct : Nat) (rs : List RC) (ts : List (List Pu.Cl)) (lbc lbt : Nat) (vs : List Value) (w : World) (hT : TR w Bt ac cc at' ct rs ts lbc lbt vs) (hBt : Bt ≤ w.heap.size) (hrl : rs.length ≤ 10000000) (htl : ts.length ≤ 10000000) (h1 : 1 ≤ rows) (h2 : rows ≤ 1000) (hno : tabOk rs ts rows = false) :
    Calls Try.prog 13 #[.agg #[.slice ac rs.length cc, .slice at' ts.length ct], .int .i64 rows] w fun e w' => e = .returned (.tuple #[.string ⟨#[]⟩, .int .i64 14]) ∧ Below w.heap.size w w' := by
  obtain ⟨S, hS⟩ : ∃ S, S = w.heap.size := ⟨_, rfl⟩
  obtain ⟨N, hN⟩ : ∃ N, N = rs.length := ⟨_, rfl⟩
  obtain ⟨T, hTl⟩ : ∃ T, T = ts.length := ⟨_, rfl⟩
  obtain ⟨W1, hW1⟩ : ∃ W1, W1 = w.alloc (.cells #[.slice ac N cc, .slice at' T ct] 50) := ⟨_, rfl⟩
  have b1 : Below S w W1 := by rw [hS, hW1]; exact bbox w _
  have r1 : W1.heap[S]? = some (.cells #[.slice ac N cc, .slice at' T ct] 50 (0, 0)) := by rw [hW1, hS]; exact heap_alloc_new w _
  have q0 : W1.cell? ⟨S, 0, none⟩ = some (.slice ac N cc) := by rw [cell_of_row _ _ 0 _ _ _ r1]; rfl
  have q1 : W1.cell? ⟨S, 1, none⟩ = some (.slice at' T ct) := by rw [cell_of_row _ _ 1 _ _ _ r1]; rfl
  have C1 : Hid (Calls Try.prog 30 #[.agg #[.slice ac N cc, .slice at' T ct], .int .i64 rows] W1 fun e w' => e = .returned (.bool false) ∧ Below S w w') := by
    have := isTable_any Bt rows ac cc at' ct rs ts lbc lbt vs W1 (hT.kept (fun j hj => b1.block j (by omega))) (by have := b1.size; omega) hrl htl h1 h2
    rw [← hN, ← hTl, hno] at this
    refine this.mono ?_
    rintro e w' ⟨rfl, hb⟩
    exact ⟨rfl, b1.trans (hb.mono (by have := b1.size; omega))⟩
  have d1 : decide ((rows : Int) < 1) = false := by simp; omega
  have d2 : decide (1000 < (rows : Int)) = false := by simp; omega
  rw [← hN, ← hTl, ← hS]
  have hW1' : w.alloc (.cells #[.slice ac N cc, .slice at' T ct] 50) = W1 := hW1.symm
  have hsz : w.heap.size = S := hS.symm
  clear hT hN hTl hW1 hS b1 r1 hBt hrl htl hno
  go_enter Try.func13, Try.ntmps13
  go_wp2_with fail
  refine C1.out.mono ?_
  rintro e w' ⟨rfl, hb⟩
  have HB := hid hb
  clear C1 hb
  go_wp2
  go_ret2
  exact ⟨rfl, HB.out⟩

set_option maxHeartbeats 4000000 in
theorem refWrite_good (Bt rows : Nat) (ac : Option Addr) (cc : Nat) (at' : Option Addr) (ct : Nat) (rs : List RC) (ts : List (List Pu.Cl)) (lbc lbt : Nat) (vs : List Value) (w : World) (hT : TR w Bt ac cc at' ct rs ts lbc lbt vs) (hBt : Bt ≤ w.heap.size) (hrl : rs.length ≤ 10000000) (htl : ts.length ≤ 10000000) (hrows1 : 1 ≤ rows) (hrows2 : rows ≤ 1000) (hyes : tabOk rs ts rows = true) :
    Calls Try.prog 13 #[.agg #[.slice ac rs.length cc, .slice at' ts.length ct], .int .i64 rows] w fun e w' => e = .returned (.tuple #[.string ⟨(fileL (rs.map toCol) ts rows (nRows ts)).toArray⟩, .int .i64 0]) ∧ Below w.heap.size w w' := by
  obtain ⟨S, hS⟩ : ∃ S, S = w.heap.size := ⟨_, rfl⟩
  obtain ⟨N, hN⟩ : ∃ N, N = rs.length := ⟨_, rfl⟩
  obtain ⟨n, hn⟩ : ∃ n, n = nRows ts := ⟨_, rfl⟩
  have hyes' := hyes
  unfold tabOk at hyes'
  simp only [Bool.and_eq_true] at hyes'
  obtain ⟨⟨hsh, hco⟩, hce⟩ := hyes'
  obtain ⟨g1, g2, g3, g4, g5, g6⟩ := shapeOk_spec hsh
  have hcsp := colsOk_spec hco
  rw [← hn] at g4 g5 g6
  have hNt : ts.length = N := by omega
  obtain ⟨cs, hcs⟩ : ∃ cs, cs = rs.map toCol := ⟨_, rfl⟩
  have hcl : cs.length = N := by rw [hcs, List.length_map, hN]
  have htx : ∀ t ∈ ts, ∀ c ∈ t, c.s.length ≤ 1000 := fun t ht c hc => by
    obtain ⟨i, hi, rfl⟩ := List.getElem_of_mem ht
    exact (fits_ok (cellsOk_spec hce i (by omega) hi c hc)).1
  obtain ⟨W1, hW1⟩ : ∃ W1, W1 = w.alloc (.cells #[.slice ac N cc, .slice at' N ct] 50) := ⟨_, rfl⟩
  have b1 : Below S w W1 := by rw [hS, hW1]; exact bbox w _
  have r1 : W1.heap[S]? = some (.cells #[.slice ac N cc, .slice at' N ct] 50 (0, 0)) := by rw [hW1, hS]; exact heap_alloc_new w _
  have q0 : W1.cell? ⟨S, 0, none⟩ = some (.slice ac N cc) := by rw [cell_of_row _ _ 0 _ _ _ r1]; rfl
  have q1 : W1.cell? ⟨S, 1, none⟩ = some (.slice at' N ct) := by rw [cell_of_row _ _ 1 _ _ _ r1]; rfl
  have hs1 : S < W1.heap.size := by rw [hW1, size_alloc']; omega
  have kept : ∀ W, Below S w W → TR W Bt ac cc at' ct rs ts lbc lbt vs := fun W hW => hT.kept (fun j hj => hW.block j (by omega))
  obtain ⟨oc, hac, _⟩ := hT.cols.at (by omega)
  obtain ⟨ot, hat, _⟩ := hT.lists.at (by omega)
  -- what a world has in it
  obtain ⟨WO, hWO⟩ : ∃ WO : World → Prop, WO = fun W => Below S w W ∧ W.heap[S]? = W1.heap[S]? ∧ S < W.heap.size := ⟨_, rfl⟩
  have WOn : Hid (∀ W w2, WO W → Below W.heap.size W w2 → WO w2) := fun W w2 h hb => by
    rw [hWO] at h ⊢
    have := hb.size
    have h1 := h.1.size
    exact ⟨h.1.trans (hb.mono (by omega)), by rw [hb.block S h.2.2]; exact h.2.1, by omega⟩
  have WO1 : WO W1 := by rw [hWO]; exact ⟨b1, rfl, hs1⟩
  have WOb : Hid (∀ W, WO W → W.cell? ⟨S, 0, none⟩ = some (.slice ac N cc) ∧ W.cell? ⟨S, 1, none⟩ = some (.slice at' N ct)) := fun W h => by
    rw [hWO] at h
    have : W.heap[S]? = some (.cells #[.slice ac N cc, .slice at' N ct] 50 (0, 0)) := by rw [h.2.1]; exact r1
    exact ⟨by rw [cell_of_row _ _ 0 _ _ _ this]; rfl, by rw [cell_of_row _ _ 1 _ _ _ this]; rfl⟩
  have WOB : Hid (∀ W, WO W → Below S w W) := fun W h => by rw [hWO] at h; exact h.1
  -- the first list
  have WOl : Hid (∀ W, WO W → ∃ a0 c0, W.cell? ⟨lbt, ot, none⟩ = some (.slice a0 n c0)) := fun W h => by
    rw [hWO] at h
    have hTr := kept W h.1
    obtain ⟨ot2, hat2, hct⟩ := hTr.lists.at (by omega)
    have ee : ot2 = ot := by rw [hat] at hat2; simpa using hat2.symm
    subst ee
    obtain ⟨ai, ci, lbi, e1, e2, e3⟩ := hTr.each 0 (by omega)
    have hvl : 0 < vs.length := (List.getElem?_eq_some_iff.1 e1).1
    have h0 := hct 0 hvl
    rw [Nat.add_zero] at h0
    rw [List.getElem?_eq_getElem hvl, g4 _ (List.getElem_mem _)] at e1
    exact ⟨ai, ci, by rw [h0]; exact e1⟩
  -- Heads and the count of groups
  obtain ⟨th, hth⟩ : ∃ th : ByteArray, th = ⟨(heads (rs.map toRaw)).toArray⟩ := ⟨_, rfl⟩
  obtain ⟨G, hG⟩ : ∃ G, G = (n + rows - 1) / rows := ⟨_, rfl⟩
  have hG5 : G ≤ 6000 := by rw [hG]; exact Nat.le_trans (Nat.div_le_self _ _) (by omega)
  obtain ⟨tg, htg⟩ : ∃ tg : ByteArray, tg = ⟨(vb G).toArray⟩ := ⟨_, rfl⟩
  have hhl : (heads (rs.map toRaw)).length ≤ 1000 := by
    rw [heads_cols rs (fun c hc => ⟨(hcsp c hc).2.2.1, (hcsp c hc).2.2.2⟩), List.length_append]
    have h1 := length_rcols rs (fun c hc => (hcsp c hc).2.1)
    have h2 := length_vb8 (n := rs.length) (by omega)
    omega
  have hths : th.size ≤ 1000 := by rw [hth, ← len_data]; exact hhl
  have htgs : tg.size ≤ 7 := by rw [htg, ← len_data]; simpa using length_vb8 (n := G) (by omega)
  have C30 : Hid (Calls Try.prog 30 #[.agg #[.slice ac N cc, .slice at' N ct], .int .i64 rows] W1 fun e w' => e = .returned (.bool true) ∧ WO w') := by
    have := isTable_any Bt rows ac cc at' ct rs ts lbc lbt vs W1 (kept W1 b1) (by have := b1.size; omega) hrl htl hrows1 hrows2
    rw [← hN, hNt, hyes] at this
    refine this.mono ?_
    rintro e w' ⟨rfl, hb⟩
    exact ⟨rfl, WOn.out W1 w' WO1 hb⟩
  have C31 : Hid (∀ W, WO W → Calls Try.prog 31 #[.slice (some ⟨lbc, oc, none⟩) N cc] W fun e w' => e = .returned (.string th) ∧ WO w') := fun W h => by
    have h' := h
    rw [hWO] at h
    have hTr := kept W h.1
    have hc := hTr.cols
    rw [hac] at hc
    have := heads_any lbc oc cc (rs.map toRaw) W (raw_of_rs hc (by have := h.1.size; have := hT.lbc; omega)) (by rw [List.length_map]; omega) (by omega)
    rw [List.length_map, ← hN, ← hth] at this
    refine this.mono ?_
    rintro e w' ⟨rfl, hb⟩
    exact ⟨rfl, WOn.out W w' h' hb⟩
  have C33 : Hid (∀ W, Calls Try.prog 33 #[.int .i64 (n : Int), .int .i64 (rows : Int)] W fun e w' => e = .returned (.int .i64 (G : Int)) ∧ w' = W) := fun W => by rw [hG]; exact groups_any n rows W (by omega) hrows1 hrows2
  have C32 : Hid (∀ (q : Nat) (W : World), q ≤ 140737488355328 → WO W → Calls Try.prog 32 #[.int .i64 (q : Int)] W fun e w' => e = .returned (.string ⟨(vb q).toArray⟩) ∧ WO w') := fun q W hq h => by
    refine (varintB_any q W hq).mono ?_
    rintro e w' ⟨rfl, hb⟩
    exact ⟨rfl, WOn.out W w' h hb⟩
  -- the loops
  obtain ⟨FIN, hFIN⟩ : ∃ FIN, FIN = gsGo cs ts rows n n 0 stra [] := ⟨_, rfl⟩
  obtain ⟨H, hH⟩ : ∃ H, H = heads (rs.map toRaw) ++ vb G := ⟨_, rfl⟩
  have hHl : H.length ≤ 1007 := by
    rw [hH, List.length_append]
    have := length_vb8 (n := G) (by omega)
    omega
  obtain ⟨OI, hOI⟩ : ∃ OI : Nat → ByteArray → ByteArray → Prop, OI = fun fr s ft => ∃ f L gs, s.data.toList = L ∧ ft.data.toList = ftL H gs ∧ n ≤ fr + f ∧ gsGo cs ts rows n f fr L gs = FIN ∧ L.length ≤ 10000000000 * fr + 1000 ∧ (ftL H gs).length ≤ 2000 + 1000 * fr := ⟨_, rfl⟩
  obtain ⟨II, hII⟩ : ∃ II : Nat → Nat → Nat → ByteArray → ByteArray → Prop, II = fun fr te j s ft => ∃ f L gs, s.data.toList = (grpN cs ts fr te L j).1 ∧ ft.data.toList = ftL H gs ++ vb (te - fr) ++ (grpN cs ts fr te L j).2.flatMap plcL ∧ n ≤ fr + (f + 1) ∧ gsGo cs ts rows n (f + 1) fr L gs = FIN ∧ L.length ≤ 10000000000 * fr + 1000 ∧ (ftL H gs).length ≤ 2000 + 1000 * fr ∧ (grpN cs ts fr te L j).1.length ≤ L.length + 500000000 * j ∧ ft.size ≤ 2000 + 1000 * fr + 7 + 14 * j := ⟨_, rfl⟩
  obtain ⟨t0, ht0⟩ : ∃ t0 : ByteArray, t0 = ⟨#[83, 84, 82, 65]⟩ := ⟨_, rfl⟩
  have HO0 : Hid (OI 0 t0 (th ++ tg)) := by
    rw [Hid, hOI]
    refine ⟨n, stra, [], by rw [ht0]; rfl, ?_, by omega, hFIN.symm, by simp [stra], by show (H ++ []).length ≤ _; rw [List.append_nil]; omega⟩
    simp only [ByteArray.data_append, Array.toList_append]
    rw [hth, htg]
    show _ = H ++ []
    rw [List.append_nil, hH]
  have HOs : Hid (∀ fr s ft, OI fr s ft → fr ≤ 6000 → s.size ≤ 60000000001000 ∧ ft.size ≤ 6002000) := fun fr s ft h hf => by
    rw [hOI] at h
    obtain ⟨f, L, gs, h1, h2, _, _, h5, h6⟩ := h
    rw [← len_data s, ← len_data ft, h1, h2]
    omega
  have HOI : Hid (∀ fr te s ft, OI fr s ft → fr < n → fr ≤ 6000 → te ≤ 6000 → II fr te 0 s (ft ++ ⟨(vb (te - fr)).toArray⟩)) := fun fr te s ft h hf hf2 hto => by
    rw [hOI] at h
    obtain ⟨f, L, gs, h1, h2, h3, h4, h5, h6⟩ := h
    obtain ⟨f', rfl⟩ : ∃ f', f = f' + 1 := ⟨f - 1, by omega⟩
    have hv := length_vb8 (n := te - fr) (by omega)
    have hfs : ft.size ≤ 2000 + 1000 * fr := by rw [← len_data, h2]; exact h6
    rw [hII]
    refine ⟨f', L, gs, h1, ?_, h3, h4, h5, h6, Nat.le_refl _, ?_⟩
    · simp only [ByteArray.data_append, Array.toList_append]
      rw [h2]
      show _ = ftL H gs ++ vb (te - fr) ++ []
      rw [List.append_nil]
    · rw [ByteArray.size_append]
      have : (⟨(vb (te - fr)).toArray⟩ : ByteArray).size = (vb (te - fr)).length := by rw [← len_data]
      omega
  have HIs : Hid (∀ fr te j s ft, II fr te j s ft → fr ≤ 6000 → j ≤ 20 → s.size ≤ 60000000001000 + 500000000 * j ∧ ft.size ≤ 6002000 + 7 + 14 * j) := fun fr te j s ft h hf hj => by
    rw [hII] at h
    obtain ⟨f, L, gs, h1, h2, _, _, h5, h6, h7, h8⟩ := h
    rw [← len_data s, h1]
    omega
  have HIn : Hid (∀ (fr te j : Nat) (s ft : ByteArray) (hj1 : j < cs.length) (hj2 : j < ts.length), II fr te j s ft → fr ≤ te → te ≤ n → fr ≤ 6000 → II fr te (j + 1) (s ++ ⟨(partL cs[j].kind cs[j].opt (segL fr te ts[j])).1.toArray⟩) (ft ++ ⟨(vb s.size).toArray⟩ ++ ⟨(vb (partL cs[j].kind cs[j].opt (segL fr te ts[j])).2).toArray⟩)) := fun fr te j s ft hj1 hj2 h hft htn hf => by
    have hsz := HIs.out fr te j s ft h hf (by omega)
    rw [hII] at h ⊢
    obtain ⟨f, L, gs, h1, h2, h3, h4, h5, h6, h7, h8⟩ := h
    have hstep := grpN_succ cs ts fr te L j hj1 hj2
    have hln := grpN_len1 cs ts fr te n L (by omega) g4 hft htn (by omega) htx (j + 1) (by omega)
    have hv1 := length_vb8 (n := s.size) (by omega)
    have hp2 := partL_two cs[j].kind cs[j].opt (segL fr te ts[j])
    have hv2 := length_vb8 (n := (partL cs[j].kind cs[j].opt (segL fr te ts[j])).2) (by omega)
    refine ⟨f, L, gs, ?_, ?_, h3, h4, h5, h6, hln, ?_⟩
    · simp only [ByteArray.data_append, Array.toList_append]
      rw [h1, hstep]; rfl
    · simp only [ByteArray.data_append, Array.toList_append]
      rw [h2, hstep]
      show ftL H gs ++ vb (te - fr) ++ (grpN cs ts fr te L j).2.flatMap plcL ++ vb s.size ++ vb _ = ftL H gs ++ vb (te - fr) ++ ((grpN cs ts fr te L j).2 ++ [((grpN cs ts fr te L j).1.length, _)]).flatMap plcL
      rw [flat_snoc, ← h1, len_data]
      simp only [plcL, List.append_assoc]
    · rw [ByteArray.size_append, ByteArray.size_append]
      have e1 : (⟨(vb s.size).toArray⟩ : ByteArray).size = (vb s.size).length := by rw [← len_data]
      have e2 : (⟨(vb (partL cs[j].kind cs[j].opt (segL fr te ts[j])).2).toArray⟩ : ByteArray).size = (vb (partL cs[j].kind cs[j].opt (segL fr te ts[j])).2).length := by rw [← len_data]
      omega
  have HIO : Hid (∀ fr s ft, II fr (min (fr + rows) n) N s ft → fr < n → OI (fr + rows) s ft) := fun fr s ft h hf => by
    rw [hII] at h
    obtain ⟨f, L, gs, h1, h2, h3, h4, h5, h6, h7, h8⟩ := h
    rw [← hcl, grpN_all cs ts fr _ L (by omega)] at h1 h2 h7
    have hstep : gsGo cs ts rows n (f + 1) fr L gs = gsGo cs ts rows n f (fr + rows) (grpW cs ts fr (min (fr + rows) n) L).1 (gs ++ [(min (fr + rows) n - fr, (grpW cs ts fr (min (fr + rows) n) L).2)]) := by
      conv => lhs; unfold gsGo
      rw [if_pos hf]
    rw [hOI]
    refine ⟨f, _, _, h1, by rw [h2, ftL_snoc], by omega, by rw [← hstep]; exact h4, by omega, ?_⟩
    rw [ftL_snoc, ← h2, len_data]
    omega
  have HOF : Hid (∀ fr s ft, OI fr s ft → ¬ fr < n → s ++ ⟨(endL ft.data.toList).toArray⟩ = ⟨(fileL cs ts rows n).toArray⟩) := fun fr s ft h hf => by
    rw [hOI] at h
    obtain ⟨f, L, gs, h1, h2, h3, h4, h5, h6⟩ := h
    rw [gsGo_end cs ts rows n f fr L gs hf] at h4
    apply bytes_ext
    simp only [ByteArray.data_append, Array.toList_append]
    have := file_of_parts rs ts rows n hrows1 (fun c hc => ⟨(hcsp c hc).2.2.1, (hcsp c hc).2.2.2⟩) L gs (by rw [← hcs, ← hFIN]; exact h4.symm)
    rw [← hG, ← hH, ← hcs] at this
    rw [h1, h2]
    exact this
  -- a column's pages
  have C34 : Hid (∀ (W : World) (fr te j : Nat) (hj1 : j < cs.length) (hj2 : j < ts.length), WO W → fr < te → te ≤ n → ∃ (nm : ByteArray) (lbi oi ci kind : Nat) (opt : Bool), W.cell? ⟨lbc, oc + j * 3, none⟩ = some (.string nm) ∧ W.cell? ⟨lbc, oc + j * 3 + 1, none⟩ = some (.int .i64 (kind : Int)) ∧ W.cell? ⟨lbc, oc + j * 3 + 2, none⟩ = some (.bool opt) ∧ W.cell? ⟨lbt, ot + j, none⟩ = some (.slice (some ⟨lbi, oi, none⟩) n ci) ∧ n ≤ ci ∧ ci ≤ 9223372036854775807 ∧ kind = cs[j].kind ∧ opt = cs[j].opt ∧
      ∀ W', Below W.heap.size W W' → Calls Try.prog 34 #[.agg #[.string nm, .int .i64 (kind : Int), .bool opt], .slice (some ⟨lbi, oi + fr * 3, none⟩) (te - fr) (ci - fr)] W' fun e w' => e = .returned (.tuple #[.string ⟨(partL cs[j].kind cs[j].opt (segL fr te ts[j])).1.toArray⟩, .int .i64 ((partL cs[j].kind cs[j].opt (segL fr te ts[j])).2 : Int)]) ∧ WO w' ∧ Below W'.heap.size W' w') := fun W fr te j hj1 hj2 hW hft htn => by
    have hW' := hW
    rw [hWO] at hW
    have hTr := kept W hW.1
    have hj0 : j < rs.length := by omega
    obtain ⟨oc2, hac2, c0, c1, c2⟩ := hTr.cols.rc3 j hj0
    have ec : oc2 = oc := by rw [hac] at hac2; simpa using hac2.symm
    subst ec
    obtain ⟨ot2, hat2, hct⟩ := hTr.lists.at (by omega)
    have ee : ot2 = ot := by rw [hat] at hat2; simpa using hat2.symm
    subst ee
    obtain ⟨ai, ci, lbi, e1, e2, e3⟩ := hTr.each j hj2
    have hvl : j < vs.length := (List.getElem?_eq_some_iff.1 e1).1
    have hln : ts[j].length = n := g4 _ (List.getElem_mem _)
    rw [List.getElem?_eq_getElem hvl, hln] at e1
    rw [hln] at e2
    obtain ⟨oi, hai, _⟩ := e2.at (by omega)
    subst hai
    have hkd := hcsp rs[j] (List.getElem_mem hj0)
    have hcj : cs[j] = toCol rs[j] := by simp [hcs]
    have hkn : (((rs[j].2.1).toNat : Nat) : Int) = rs[j].2.1 := by omega
    have hcell := cellsOk_spec hce j hj0 hj2
    refine ⟨⟨rs[j].1.toArray⟩, lbi, oi, ci, rs[j].2.1.toNat, rs[j].2.2, c0, by rw [hkn]; exact c1, c2, by rw [hct j hvl]; exact e1, e2.1, e2.2.1, by rw [hcj]; rfl, by rw [hcj]; rfl, fun W' hb => ?_⟩
    have hWn := WOn.out W W' hW' hb
    have hseg := (e2.seg hln.symm hft htn)
    have hTr' : Rs W' 3 lbi (some ⟨lbi, oi + fr * 3, none⟩) (te - fr) (ci - fr) (clsV (segL fr te ts[j])) := by
      have hk := hseg.kept (w' := W') (hb.block lbi (by have := hW.1.size; omega))
      have hm := e2.2.1
      have hm2 := e2.1
      exact ⟨by omega, by omega, hk.2.2⟩
    have hsl := length_segL fr te ts[j] (by omega) (by omega)
    have key := pages_any lbi (ci - fr) cs[j].kind cs[j].opt ⟨rs[j].1.toArray⟩ (segL fr te ts[j]) (some ⟨lbi, oi + fr * 3, none⟩) W' (by rw [hsl]; exact hTr') (by have := hb.size; have := hW.1.size; omega) (by omega) (by rw [hcj]; show rs[j].2.1.toNat ≤ 2; omega)
      (CellsOk.seg ⟨fun c hc => (fits_ok (hcell c hc)).1, fun h c hc => by
        obtain ⟨m1, m2⟩ := List.mem_filter.1 hc
        refine (fits_ok (hcell c m1)).2 ?_ (by simpa using m2)
        rw [hcj] at h
        have : rs[j].2.1.toNat = 0 := h
        omega⟩ fr te)
    rw [hsl] at key
    have e5 : cs[j].kind = rs[j].2.1.toNat := by rw [hcj]; rfl
    have e6 : cs[j].opt = rs[j].2.2 := by rw [hcj]; rfl
    rw [e5, e6] at key ⊢
    refine key.mono ?_
    rintro e w' ⟨rfl, hb2⟩
    exact ⟨rfl, WOn.out W' w' hWn hb2, hb2⟩
  have HPs : Hid (∀ (fr te j : Nat) (hj1 : j < cs.length) (hj2 : j < ts.length), fr ≤ te → te ≤ n → (partL cs[j].kind cs[j].opt (segL fr te ts[j])).1.length ≤ 500000000 ∧ (partL cs[j].kind cs[j].opt (segL fr te ts[j])).2 ≤ 2) := fun fr te j hj1 hj2 hft htn => by
    have hsl := length_segL fr te ts[j] (by rw [g4 _ (List.getElem_mem _)]; exact htn) hft
    exact ⟨length_partL _ _ _ (by omega) (fun c hc => htx _ (List.getElem_mem _) c (segL_sub _ _ _ c hc)), partL_two _ _ _⟩
  have HNc : Hid (N = cs.length ∧ N = ts.length) := ⟨hcl.symm, hNt.symm⟩
  have CE : Hid (∀ (ft : ByteArray) (W : World), ft.size ≤ 6002000 → WO W → Calls Try.prog 12 #[.string ft] W fun e w' => e = .returned (.string ⟨(endL ft.data.toList).toArray⟩) ∧ WO w') := fun ft W hf h => by
    refine (ending_any ft W (by omega)).mono ?_
    rintro e w' ⟨rfl, hb⟩
    exact ⟨rfl, WOn.out W w' h hb⟩
  have HEN : Hid (∀ ft : ByteArray, (endL ft.data.toList).length = ft.size + 12) := fun ft => by
    unfold endL
    simp only [List.length_append, length_leB, len_data]
    rfl
  have CG : Hid (∀ W, WO W → Calls Try.prog 32 #[.int .i64 (G : Int)] W fun e w' => e = .returned (.string tg) ∧ WO w') := fun W h => by
    rw [htg]; exact C32.out G W (by omega) h
  obtain ⟨P, hP⟩ : ∃ P : Nat → Nat → Nat → ByteArray, P = fun fr te j => match cs[j]?, ts[j]? with
    | some c, some t => ⟨(partL c.kind c.opt (segL fr te t)).1.toArray⟩
    | _, _ => ⟨#[]⟩ := ⟨_, rfl⟩
  obtain ⟨Q, hQ⟩ : ∃ Q : Nat → Nat → Nat → Nat, Q = fun fr te j => match cs[j]?, ts[j]? with
    | some c, some t => (partL c.kind c.opt (segL fr te t)).2
    | _, _ => 0 := ⟨_, rfl⟩
  have hPe : ∀ (fr te j : Nat) (h1 : j < cs.length) (h2 : j < ts.length), P fr te j = ⟨(partL cs[j].kind cs[j].opt (segL fr te ts[j])).1.toArray⟩ := fun fr te j h1 h2 => by
    rw [hP]; simp only [List.getElem?_eq_getElem h1, List.getElem?_eq_getElem h2]
  have hQe : ∀ (fr te j : Nat) (h1 : j < cs.length) (h2 : j < ts.length), Q fr te j = (partL cs[j].kind cs[j].opt (segL fr te ts[j])).2 := fun fr te j h1 h2 => by
    rw [hQ]; simp only [List.getElem?_eq_getElem h1, List.getElem?_eq_getElem h2]
  subst hac hat
  rw [hNt, ← hN, ← hS, ← hcs, ← hn]
  refine refWrite_walk rows n N G S lbc oc cc lbt ot ct w W1 th tg t0 _ P Q WO OI II hrows1 hrows2 g5 (by omega) (by omega) hths htgs ht0 hS.symm hW1.symm q0 q1 WOb WOB WOl C30 C31 C33 CG C32 HO0 HOs HOI HIs (fun fr te j s ft hj h hft htn hf => ?_) HIO HOF (fun W fr te j hj hW hft htn => ?_) (fun fr te j hj hft htn => ?_) CE HEN
  · have h1 : j < cs.length := by omega
    have h2 : j < ts.length := by omega
    rw [hPe fr te j h1 h2, hQe fr te j h1 h2]
    exact HIn.out fr te j s ft h1 h2 h hft htn hf
  · have h1 : j < cs.length := by omega
    have h2 : j < ts.length := by omega
    rw [hPe fr te j h1 h2, hQe fr te j h1 h2]
    obtain ⟨nm, lbi, oi, ci, kind, opt, x0, x1, x2, x3, x4, x5, _, _, x6⟩ := C34.out W fr te j h1 h2 hW hft htn
    exact ⟨nm, lbi, oi, ci, kind, opt, x0, x1, x2, x3, x4, x5, x6⟩
  · have h1 : j < cs.length := by omega
    have h2 : j < ts.length := by omega
    rw [hPe fr te j h1 h2, hQe fr te j h1 h2]
    obtain ⟨y1, y2⟩ := HPs.out fr te j h1 h2 hft htn
    exact ⟨by rw [← len_data]; exact y1, y2⟩

theorem refWrite_any (Bt : Nat) (rows : Int) (ac : Option Addr) (cc : Nat) (at' : Option Addr) (ct : Nat) (rs : List RC) (ts : List (List Pu.Cl)) (lbc lbt : Nat) (vs : List Value) (w : World) (hT : TR w Bt ac cc at' ct rs ts lbc lbt vs) (hBt : Bt ≤ w.heap.size) (hrl : rs.length ≤ 10000000) (htl : ts.length ≤ 10000000) :
    Calls Try.prog 13 #[.agg #[.slice ac rs.length cc, .slice at' ts.length ct], .int .i64 rows] w fun e w' => e = .returned (.tuple #[.string ⟨(wrB rs ts rows).toArray⟩, .int .i64 (wrE rs ts rows : Int)]) ∧ Below w.heap.size w w' := by
  by_cases h : rows < 1 ∨ 1000 < rows
  · have e1 : wrE rs ts rows = 1 := by unfold wrE; rw [if_pos h]
    have e2 : wrB rs ts rows = [] := by unfold wrB; rw [e1]; rfl
    rw [e1, e2]
    exact refWrite_arg ac rs.length cc at' ts.length ct rows w h
  · obtain ⟨r, rfl⟩ : ∃ r : Nat, rows = (r : Int) := ⟨rows.toNat, by omega⟩
    cases ht : tabOk rs ts r
    · have e1 : wrE rs ts (r : Int) = 14 := by unfold wrE; rw [if_neg h, Int.toNat_natCast, ht]; rfl
      have e2 : wrB rs ts (r : Int) = [] := by unfold wrB; rw [e1]; rfl
      rw [e1, e2]
      exact refWrite_bad Bt r ac cc at' ct rs ts lbc lbt vs w hT hBt hrl htl (by omega) (by omega) ht
    · have e1 : wrE rs ts (r : Int) = 0 := by unfold wrE; rw [if_neg h, Int.toNat_natCast, if_pos ht]
      have e2 : wrB rs ts (r : Int) = fileL (rs.map toCol) ts r (nRows ts) := by unfold wrB; rw [if_pos e1, Int.toNat_natCast]
      rw [e1, e2]
      exact refWrite_good Bt r ac cc at' ct rs ts lbc lbt vs w hT hBt hrl htl (by omega) (by omega) ht
end Go.Proofs.Ytjobhlncllfdmaa
