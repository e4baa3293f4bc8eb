/- The reference's IsTable. -/
import Derived.Test.YtjobhlncllfdmaaM37
import Derived.Deep.RegionHeld3
import Derived.Deep.DeepCutAuto
import Derived.BigQuiet
namespace Go.Proofs.Ytjobhlncllfdmaa
open Go.RowKit Go.Maps

theorem tabOk_col {rs : List RC} {ts : List (List Pu.Cl)} {rows k : Nat} (hk : k < rs.length) (h : okAt rs k = false) : tabOk rs ts rows = false := by
  unfold tabOk; rw [colsOk_no hk h]; simp
theorem tabOk_len {rs : List RC} {ts : List (List Pu.Cl)} {rows k : Nat} (hk : k < ts.length) (h : ts[k].length ≠ nRows ts) : tabOk rs ts rows = false := by
  unfold tabOk shapeOk; rw [sameLen_no hk h]; simp
theorem tabOk_cell {rs : List RC} {ts : List (List Pu.Cl)} {rows k j : Nat} (h1 : k < rs.length) (h2 : k < ts.length) (h3 : j < ts[k].length) (h : fitsR rs[k].2.1 rs[k].2.2 ts[k][j] = false) : tabOk rs ts rows = false := by
  unfold tabOk; rw [cellsOk_no h1 h2 h3 h]; simp
theorem tabOk_yes {rs : List RC} {ts : List (List Pu.Cl)} {rows : Nat} (h1 : 1 ≤ rs.length) (h2 : rs.length ≤ 20) (h3 : ts.length = rs.length) (h4 : nRows ts ≤ 5000) (h5 : nRows ts ≤ rows * 50) (h6 : ∀ k, k < rs.length → okAt rs k = true ∧ (∀ hk : k < ts.length, ts[k].length = nRows ts) ∧ cellsAt rs ts k = true) : tabOk rs ts rows = true := by
  unfold tabOk shapeOk
  rw [colsOk_yes (fun k hk => (h6 k hk).1), cellsOk_yes (fun k hk => (h6 k hk).2.2), sameLen_yes (fun k hk => (h6 k (by omega)).2.1 hk)]
  simp [h1, h2, h3, h4, h5]
theorem groups_few {n rows : Nat} (h1 : 1 ≤ rows) : (n + rows - 1) / rows ≤ 50 ↔ n ≤ rows * 50 := by
  rw [← Nat.lt_succ_iff, Nat.div_lt_iff_lt_mul (by omega)]
  have : (50 : Nat).succ * rows = rows * 50 + rows := by rw [Nat.succ_mul, Nat.mul_comm]
  omega

set_option maxHeartbeats 16000000 in
set_option maxRecDepth 100000 in
theorem isTable_any (Bt rows : Nat) (ac : Option Addr) (cc : Nat) (at' : Option Addr) (ct : Nat) (rs : List RC) (ts : List (List Pu.Cl)) (lbc lbt : Nat) (vs : List Value) (w : World) (hT : TR w Bt ac cc at' ct rs ts lbc lbt vs) (hBt : Bt ≤ w.heap.size) (hrl : rs.length ≤ 10000000) (htl : ts.length ≤ 10000000) (hrows1 : 1 ≤ rows) (hrows : rows ≤ 1000) :
    Calls Try.prog 30 #[.agg #[.slice ac rs.length cc, .slice at' ts.length ct], .int .i64 rows] w fun e w' => e = .returned (.bool (tabOk rs ts rows)) ∧ Below w.heap.size w w' := by
  obtain ⟨S, hS⟩ : ∃ S, S = w.heap.size := ⟨_, rfl⟩
  obtain ⟨N, hN⟩ : ∃ N, N = rs.length := ⟨_, rfl⟩
  obtain ⟨T, hTl⟩ : ∃ T, T = ts.length := ⟨_, rfl⟩
  obtain ⟨W1, hW1⟩ : ∃ W1, W1 = w.alloc (.cells #[.slice ac N cc, .slice at' T ct] 50) := ⟨_, rfl⟩
  have b1 : Below S w W1 := by rw [hS, hW1]; exact bbox w _
  have r1 : W1.heap[S]? = some (.cells #[.slice ac N cc, .slice at' T ct] 50 (0, 0)) := by rw [hW1, hS]; exact heap_alloc_new w _
  have q0 : W1.cell? ⟨S, 0, none⟩ = some (.slice ac N cc) := by rw [cell_of_row _ _ 0 _ _ _ r1]; rfl
  have q1 : W1.cell? ⟨S, 1, none⟩ = some (.slice at' T ct) := by rw [cell_of_row _ _ 1 _ _ _ r1]; rfl
  obtain ⟨R, hR⟩ : ∃ R, R = tabOk rs ts rows := ⟨_, rfl⟩
  have hcc1 : N ≤ cc := by rw [hN]; exact hT.cols.1
  have hcc2 : cc ≤ maxLen := hT.cols.2.1
  unfold maxLen at hcc2
  have hlow : ∀ W, Below S w W → ∀ j, j < Bt → W.heap[j]? = w.heap[j]? := fun W hW j hj => hW.block j (by omega)
  -- a list
  have HL : Hid (∀ (W : World) (k : Nat) (h2 : k < ts.length), Below S w W → ∃ ot ai ci, at' = some ⟨lbt, ot, none⟩ ∧ W.cell? ⟨lbt, ot + k, none⟩ = some (.slice ai ts[k].length ci)) := fun W k h2 hW => by
    have hT1 := hT.kept (hlow W hW)
    obtain ⟨ot, hat, hct⟩ := hT1.lists.at (by omega)
    obtain ⟨ai, ci, lbi, e1, e2, e3⟩ := hT1.each k h2
    have hvl : k < vs.length := (List.getElem?_eq_some_iff.1 e1).1
    refine ⟨ot, ai, ci, hat, ?_⟩
    rw [hct k hvl]
    rw [List.getElem?_eq_getElem hvl] at e1
    exact e1
  -- a column, its list, its cells
  have HC : Hid (∀ (wr : World) (k : Nat) (h1 : k < rs.length) (h2 : k < ts.length), Below S w wr → ∃ oc ot ai ci lbi, ac = some ⟨lbc, oc, none⟩ ∧ at' = some ⟨lbt, ot, none⟩ ∧ wr.cell? ⟨lbc, oc + k * 3, none⟩ = some (strV rs[k].1) ∧ wr.cell? ⟨lbc, oc + k * 3 + 1, none⟩ = some (.int .i64 rs[k].2.1) ∧ wr.cell? ⟨lbc, oc + k * 3 + 2, none⟩ = some (.bool rs[k].2.2) ∧ (∀ W, Below S w W → W.cell? ⟨lbt, ot + k, none⟩ = some (.slice ai ts[k].length ci)) ∧
      (∀ W j, Below S w W → (hj : j < ts[k].length) → ∃ o, ai = some ⟨lbi, o, none⟩ ∧ W.cell? ⟨lbi, o + j * 3, none⟩ = some (.bool ts[k][j].null) ∧ W.cell? ⟨lbi, o + j * 3 + 1, none⟩ = some (.int .i64 ts[k][j].n) ∧ W.cell? ⟨lbi, o + j * 3 + 2, none⟩ = some (strV ts[k][j].s))) := fun wr k h1 h2 hb => by
    obtain ⟨oc, hac, c0, c1, c2⟩ := (hT.kept (hlow wr hb)).cols.rc3 k h1
    obtain ⟨ot, hat, _⟩ := hT.lists.at (by omega)
    obtain ⟨ai, ci, lbi, e1, e2, e3⟩ := hT.each k h2
    refine ⟨oc, ot, ai, ci, lbi, hac, hat, c0, c1, c2, fun W hW => ?_, fun W j hW hj => ?_⟩
    · obtain ⟨ot', hat', hct⟩ := (hT.kept (hlow W hW)).lists.at (by omega)
      have ee : ot' = ot := by rw [hat] at hat'; simpa using hat'.symm
      subst ee
      have hvl : k < vs.length := (List.getElem?_eq_some_iff.1 e1).1
      rw [hct k hvl]
      rw [List.getElem?_eq_getElem hvl] at e1
      exact e1
    · exact (e2.kept (hlow W hW _ e3)).cl3 j hj
  have HTx : Hid (∀ k, (h2 : k < ts.length) → ts[k].length ≤ 10000000 ∧ ∀ j, (hj : j < ts[k].length) → ts[k][j].s.length ≤ 140737488355328) := fun k h2 => ⟨(hT.texts _ (List.getElem_mem h2)).1, fun j hj => (hT.texts _ (List.getElem_mem h2)).2 _ (List.getElem_mem hj)⟩
  have HNm : Hid (∀ (W : World) (k : Nat) (u : ByteArray), Below S w W → k < rs.length → rs.length ≤ 20 → Calls Try.prog 51 #[.slice ac k cc, .string u] W fun e w' => e = .returned (.bool (hasNm (rs.take k) u.data.toList)) ∧ w' = W) := fun W k u hb hk h20 => by
    have ht := (hT.kept (hlow W hb)).cols.take k (by omega)
    rw [rcsV_take] at ht
    have hlt : (rs.take k).length = k := by rw [List.length_take]; omega
    have := nameR_any lbc cc ac (rs.take k) u W (by rw [hlt]; exact ⟨by omega, hT.cols.2.1, ht.2.2⟩) (by omega)
    rw [hlt] at this
    exact this
  have HLn : Hid (∀ c ∈ rs, c.1.length ≤ 140737488355328) := hT.names
  have HCol : Hid (∀ k, k < rs.length → okAt rs k = false → R = false) := fun k hk h => by rw [hR]; exact tabOk_col hk h
  have HLen : Hid (∀ (k : Nat) (hk : k < ts.length), ts[k].length ≠ nRows ts → R = false) := fun k hk h => by rw [hR]; exact tabOk_len hk h
  have HCel : Hid (∀ (k j : Nat) (h1 : k < rs.length) (h2 : k < ts.length) (h3 : j < ts[k].length), fitsR rs[k].2.1 rs[k].2.2 ts[k][j] = false → R = false) := fun k j h1 h2 h3 h => by rw [hR]; exact tabOk_cell h1 h2 h3 h
  have HYs : Hid (1 ≤ N → N ≤ 20 → T = N → nRows ts ≤ 5000 → nRows ts ≤ rows * 50 → (∀ k, k < rs.length → okAt rs k = true ∧ (∀ hk : k < ts.length, ts[k].length = nRows ts) ∧ cellsAt rs ts k = true) → R = true) := fun h1 h2 h3 h4 h5 h6 => by rw [hR]; exact tabOk_yes (by omega) (by omega) (by omega) h4 h5 h6
  have HAt : Hid (∀ (k : Nat) (h1 : k < rs.length) (h2 : k < ts.length), (∀ j, (hj : j < ts[k].length) → fitsR rs[k].2.1 rs[k].2.2 ts[k][j] = true) → cellsAt rs ts k = true) := fun k h1 h2 h => cellsAt_yes h1 h2 h
  have H0n : Hid (∀ h0 : 0 < ts.length, ts[0].length = nRows ts) := fun h0 => by
    unfold nRows
    cases ts with
    | nil => simp at h0
    | cons a r => rfl
  have hRdef : R = (decide (1 ≤ N) && decide (N ≤ 20) && decide (T = N) && sameLen ts && decide (nRows ts ≤ 5000) && decide (nRows ts ≤ rows * 50) && colsOk rs && cellsOk rs ts) := by rw [hR, hN, hTl]; rfl
  have HRd := hid hRdef
  have HTl : Hid (T = ts.length) := hTl
  have HN : Hid (N = rs.length) := hN
  have HS : Hid (S = w.heap.size) := hS
  have HQ : Hid (∀ W : World, W.heap[S]? = W1.heap[S]? → W.cell? ⟨S, 0, none⟩ = some (.slice ac N cc) ∧ W.cell? ⟨S, 1, none⟩ = some (.slice at' T ct)) := fun W hW => by
    have : W.heap[S]? = some (.cells #[.slice ac N cc, .slice at' T ct] 50 (0, 0)) := by rw [hW]; exact r1
    exact ⟨by rw [cell_of_row _ _ 0 _ _ _ this]; rfl, by rw [cell_of_row _ _ 1 _ _ _ this]; rfl⟩
  rw [← hTl, ← hN, ← hR, ← hS]
  have hN7 : N ≤ 10000000 := by omega
  have hT7 : T ≤ 10000000 := by omega
  have hW1' : w.alloc (.cells #[.slice ac N cc, .slice at' T ct] 50) = W1 := hW1.symm
  have hsz : w.heap.size = S := hS.symm
  have HB := hid b1
  have HSl : Hid (S < W1.heap.size) := by rw [Hid, hW1, size_alloc']; omega
  clear hT hN hTl hW1 hS b1 r1 hR hBt hRdef hrl htl hlow
  by_cases h1 : N < 1
  · have hz : R = false := by rw [HRd.out, show decide (1 ≤ N) = false from decide_eq_false (by omega)]; simp
    subst hz
    have d1 : decide ((N : Int) < 1) = true := by simp; omega
    go_enter Try.func30, Try.ntmps30
    go_wp2
    go_ret
    exact ⟨rfl, HB.out⟩
  have d1 : decide ((N : Int) < 1) = false := by simp; omega
  by_cases h20 : 20 < N
  · have hz : R = false := by rw [HRd.out, show decide (N ≤ 20) = false from decide_eq_false (by omega)]; simp
    subst hz
    have d2 : decide (20 < (N : Int)) = true := by simp; omega
    go_enter Try.func30, Try.ntmps30
    go_wp2
    go_ret
    exact ⟨rfl, HB.out⟩
  have d2 : decide (20 < (N : Int)) = false := by simp; omega
  by_cases hTN : T = N
  case neg =>
    have hz : R = false := by rw [HRd.out, show decide (T = N) = false from decide_eq_false hTN]; simp
    subst hz
    have d3 : ((T : Int) == (N : Int)) = false := by simp; omega
    have d3' : ((T : Int) != (N : Int)) = true := by simp [bne]; omega
    go_enter Try.func30, Try.ntmps30
    go_wp2
    go_ret
    exact ⟨rfl, HB.out⟩
  obtain ⟨n, hn⟩ : ∃ n, n = nRows ts := ⟨_, rfl⟩
  obtain ⟨ot, a0, ci0, rfl, hc0⟩ := HL.out W1 0 (by rw [← HTl.out]; omega) HB.out
  rw [H0n.out (by rw [← HTl.out]; omega), ← hn, Nat.add_zero] at hc0
  have hn7 : n ≤ 10000000 := by
    have := (HTx.out 0 (by rw [← HTl.out]; omega)).1
    rw [H0n.out (by rw [← HTl.out]; omega), ← hn] at this
    exact this
  have HNr := hid hn
  subst hTN
  clear H0n HL
  by_cases h5 : 5000 < n
  · have hz : R = false := by rw [HRd.out, ← hn, show decide (n ≤ 5000) = false from decide_eq_false (by omega)]; simp
    subst hz
    have d5 : decide (5000 < (n : Int)) = true := by simp; omega
    clear hn
    go_enter Try.func30, Try.ntmps30
    go_wp2
    go_ret
    exact ⟨rfl, HB.out⟩
  have d5 : decide (5000 < (n : Int)) = false := by simp; omega
  have CG := hid (groups_any n rows W1 (by omega) hrows1 hrows)
  obtain ⟨q, hq⟩ : ∃ q, q = (n + rows - 1) / rows := ⟨_, rfl⟩
  have hqe := groups_few (n := n) hrows1
  rw [← hq] at CG hqe
  by_cases h50 : 50 < q
  · have hz : R = false := by rw [HRd.out, ← hn, show decide (n ≤ rows * 50) = false from decide_eq_false (fun h => by have := hqe.2 h; omega)]; simp
    subst hz
    have d6 : decide (50 < (q : Int)) = true := by simp; omega
    clear hn hq hqe
    go_enter Try.func30, Try.ntmps30
    go_wp2_with fail
    refine CG.out.mono ?_
    rintro e w' ⟨rfl, hw'⟩
    subst w'
    go_wp2
    go_ret
    exact ⟨rfl, HB.out⟩
  have d6 : decide (50 < (q : Int)) = false := by simp; omega
  have HYs2 : Hid ((∀ k, k < rs.length → okAt rs k = true ∧ (∀ hk : k < ts.length, ts[k].length = nRows ts) ∧ cellsAt rs ts k = true) → R = true) := fun h => HYs.out (by omega) (by omega) rfl (by omega) (by rw [← hn]; exact hqe.1 (by omega)) h
  have hN20 : T ≤ 20 := by omega
  have H0 : Hid (Below S w W1 ∧ W1.heap[S]? = W1.heap[S]? ∧ S < W1.heap.size ∧ ∀ j, j < 0 → okAt rs j = true ∧ (∀ hk : j < ts.length, ts[j].length = nRows ts) ∧ cellsAt rs ts j = true) := ⟨HB.out, rfl, HSl.out, fun j hj => by omega⟩
  clear hn hq hqe HYs HRd HSl
  go_enter Try.func30, Try.ntmps30
  go_wp2_with fail
  refine CG.out.mono ?_
  rintro e w' ⟨rfl, hw'⟩
  subst w'
  clear CG
  go_wp2
  go_loopw [6] (fun i wr => ∃ (k : Nat), k ≤ T ∧ i = .int .i64 k ∧ Hid (Below S w wr ∧ wr.heap[S]? = W1.heap[S]? ∧ S < wr.heap.size ∧ ∀ j, j < k → okAt rs j = true ∧ (∀ hk : j < ts.length, ts[j].length = nRows ts) ∧ cellsAt rs ts j = true))
    (fun i _ => T - (intOf i).toNat)
  case atStart => exact ⟨0, Nat.zero_le _, rfl, ⟨H0.out.1, rfl, H0.out.2.2.1, H0.out.2.2.2⟩⟩
  case round =>
    clear q0 q1 hc0 H0
    obtain ⟨k, hk, rfl, Hk⟩ := hrel
    obtain ⟨q0, q1⟩ := HQ.out wr Hk.out.2.1
    by_cases hk2 : k < T
    case neg =>
      obtain rfl : k = T := by omega
      have hy := HYs2.out (by rw [← HN.out]; exact Hk.out.2.2.2)
      subst hy
      go_wp2
      go_ret
      exact ⟨rfl, Hk.out.1⟩
    have h1 : k < rs.length := by rw [← HN.out]; exact hk2
    have h2 : k < ts.length := by rw [← HTl.out]; exact hk2
    obtain ⟨oc, ot', ai, ci, lbi, rfl, hat, c0, c1, c2, hlst, hcel⟩ := HC.out wr k h1 h2 Hk.out.1
    have ee : ot' = ot := by simpa using hat.symm
    subst ee
    obtain ⟨hln, htx⟩ := HTx.out k h2
    have hcl := HLn.out rs[k] (List.getElem_mem h1)
    have hcol := HCol.out k h1
    have hlen := HLen.out k h2
    have hno := HCel.out k
    have hat2 := HAt.out k h1 h2
    have hok : okAt rs k = (decide (1 ≤ rs[k].1.length) && decide (rs[k].1.length ≤ 20) && !hasNm (rs.take k) rs[k].1 && decide (0 ≤ rs[k].2.1) && decide (rs[k].2.1 ≤ 2)) := by unfold okAt; rw [List.getElem?_eq_getElem h1]
    obtain ⟨c, hc⟩ : ∃ c, c = rs[k] := ⟨_, rfl⟩
    obtain ⟨l, hl⟩ : ∃ l, l = ts[k] := ⟨_, rfl⟩
    have hno' : ∀ (j : Nat) (h3 : j < l.length), fitsR c.2.1 c.2.2 l[j] = false → R = false := fun j h3 h => by subst hl hc; exact hno j h1 h2 h3 h
    have hat' : (∀ j, (hj : j < l.length) → fitsR c.2.1 c.2.2 l[j] = true) → cellsAt rs ts k = true := fun h => by subst hl hc; exact hat2 h
    have hcel' : ∀ (W : World) (j : Nat), Below S w W → (hj : j < l.length) → ∃ o, ai = some ⟨lbi, o, none⟩ ∧ W.cell? ⟨lbi, o + j * 3, none⟩ = some (.bool l[j].null) ∧ W.cell? ⟨lbi, o + j * 3 + 1, none⟩ = some (.int .i64 l[j].n) ∧ W.cell? ⟨lbi, o + j * 3 + 2, none⟩ = some (strV l[j].s) := fun W j hW hj => by subst hl; exact hcel W j hW hj
    have htx' : ∀ j, (hj : j < l.length) → l[j].s.length ≤ 140737488355328 := fun j hj => by subst hl; exact htx j hj
    have hsame : l.length = nRows ts → ∀ hk : k < ts.length, ts[k].length = nRows ts := fun h _ => by rw [← hl]; exact h
    rw [← hl] at hln hlst hlen
    rw [← hc] at c0 c1 c2 hcl hok
    obtain ⟨nm, kd, op⟩ := c
    simp only at c0 c1 c2 hno' hat' hcl hok
    obtain ⟨u, hu⟩ : ∃ u : ByteArray, u = ⟨nm.toArray⟩ := ⟨_, rfl⟩
    have c0' : wr.cell? ⟨lbc, oc + k * 3, none⟩ = some (.string u) := by rw [hu]; exact c0
    have hud : u.data.toList = nm := by rw [hu]
    have hus : u.size = nm.length := by rw [hu]; simp [ByteArray.size]
    obtain ⟨G, hG⟩ : ∃ G, G = wr.heap.size := ⟨_, rfl⟩
    obtain ⟨Wc, hWc⟩ : ∃ Wc, Wc = wr.alloc (.cells #[.string u, .int .i64 kd, .bool op] 45) := ⟨_, rfl⟩
    have rc : Wc.heap[G]? = some (.cells #[.string u, .int .i64 kd, .bool op] 45 (0, 0)) := by rw [hWc, hG]; exact heap_alloc_new wr _
    have hkb := Hk.out.1.size
    have bc : Below S w Wc := by rw [hWc]; exact Hk.out.1.alloc (by rw [HS.out]; exact hkb) _
    have hWS : Wc.heap[S]? = W1.heap[S]? := by rw [hWc, Below.heap_alloc wr _ _ Hk.out.2.2.1]; exact Hk.out.2.1
    obtain ⟨y50, y51⟩ := HQ.out Wc hWS
    have y0 : Wc.cell? ⟨G, 0, none⟩ = some (.string u) := by rw [cell_of_row _ _ 0 _ _ _ rc]; rfl
    have y1 : Wc.cell? ⟨G, 1, none⟩ = some (.int .i64 kd) := by rw [cell_of_row _ _ 1 _ _ _ rc]; rfl
    have yl := hlst Wc bc
    obtain ⟨m, hm⟩ : ∃ m, m = l.length := ⟨_, rfl⟩
    obtain ⟨hb, hhb⟩ : ∃ hb, hb = hasNm (rs.take k) nm := ⟨_, rfl⟩
    have CN : Hid (∀ n' : Nat, Calls Try.prog 51 #[.slice (some ⟨lbc, oc, none⟩) k cc, .string u] (Wc.drewN n') fun e w' => e = .returned (.bool hb) ∧ w' = Wc.drewN n') := fun n' => by
      have := HNm.out (Wc.drewN n') k u (below_drewN bc n') h1 (by rw [← HN.out]; exact hN20)
      rw [hud, ← hhb] at this
      exact this
    rw [← hm] at yl hln hlen
    rw [← hhb] at hok
    -- what holds in the inner loop
    obtain ⟨J, hJ⟩ : ∃ J : World → Nat → Prop, J = fun wq j => Below S w wq ∧ wq.heap[S]? = W1.heap[S]? ∧ S < G ∧ G < wq.heap.size ∧ wq.heap[G]? = some (.cells #[.string u, .int .i64 kd, .bool op] 45 (0, 0)) ∧ ∀ i, (hi : i < l.length) → i < j → fitsR kd op l[i] = true := ⟨_, rfl⟩
    have HJ0 : Hid (∀ n', J (Wc.drewN n') 0) := fun n' => by
      have hd : Below Wc.heap.size Wc (Wc.drewN n') := below_drewN (Below.refl _ _) n'
      have hGl : G < Wc.heap.size := by rw [hWc, size_alloc', hG]; omega
      have hSG : S < G := by rw [hG]; exact Hk.out.2.2.1
      rw [hJ]
      exact ⟨below_drewN bc n', by rw [hd.block S (by omega)]; exact hWS, hSG, by have := hd.size; omega, by rw [hd.block G hGl]; exact rc, fun j _ hj => by omega⟩
    have HJS : Hid (∀ (wq : World) (j : Nat) (hj : j < l.length), J wq j → ∃ o, ai = some ⟨lbi, o, none⟩ ∧ wq.cell? ⟨G, 0, none⟩ = some (.string u) ∧ wq.cell? ⟨G, 1, none⟩ = some (.int .i64 kd) ∧ wq.cell? ⟨G, 2, none⟩ = some (.bool op) ∧ wq.cell? ⟨S, 1, none⟩ = some (.slice (some ⟨lbt, ot', none⟩) T ct) ∧ wq.cell? ⟨lbt, ot' + k, none⟩ = some (.slice ai m ci) ∧ wq.cell? ⟨lbi, o + j * 3, none⟩ = some (.bool l[j].null) ∧ wq.cell? ⟨lbi, o + j * 3 + 1, none⟩ = some (.int .i64 l[j].n) ∧ wq.cell? ⟨lbi, o + j * 3 + 2, none⟩ = some (strV l[j].s)) := fun wq j hj h => by
      rw [hJ] at h
      obtain ⟨g1, g2, g3, g4, g5, _⟩ := h
      obtain ⟨o, e0, e1, e2, e3⟩ := hcel' wq j g1 hj
      have yl' := hlst wq g1
      rw [← hm] at yl'
      exact ⟨o, e0, by rw [cell_of_row _ _ 0 _ _ _ g5]; rfl, by rw [cell_of_row _ _ 1 _ _ _ g5]; rfl, by rw [cell_of_row _ _ 2 _ _ _ g5]; rfl, (HQ.out wq g2).2, yl', e1, e2, e3⟩
    have HJn : Hid (∀ (wq w2 : World) (j : Nat) (hj : j < l.length), J wq j → Below wq.heap.size wq w2 → fitsR kd op l[j] = true → J w2 (j + 1)) := fun wq w2 j hj h hb2 hf => by
      rw [hJ] at h ⊢
      obtain ⟨g1, g2, g3, g4, g5, g6⟩ := h
      have hs1 := g1.size
      refine ⟨g1.trans (hb2.mono (by rw [HS.out]; exact hs1)), by rw [hb2.block S (by omega)]; exact g2, g3, by have := hb2.size; omega, by rw [hb2.block G g4]; exact g5, fun i hi hi2 => ?_⟩
      by_cases e : i = j
      · subst e; exact hf
      · exact g6 i hi (by omega)
    have HJb : Hid (∀ (wq w2 : World) (j : Nat), J wq j → Below wq.heap.size wq w2 → Below S w w2) := fun wq w2 j h hb2 => by
      rw [hJ] at h
      have hs1 := h.1.size
      exact h.1.trans (hb2.mono (by rw [HS.out]; exact hs1))
    have HTx' := hid htx'
    have HNo' := hid hno'
    have HM := hid hm
    have HBad : Hid (∀ b1 b2 b4 b5 : Bool, decide (1 ≤ nm.length) = b1 → decide (nm.length ≤ 20) = b2 → decide (0 ≤ kd) = b4 → decide (kd ≤ 2) = b5 → (b1 && b2 && !hb && b4 && b5) = false → R = false) := fun b1 b2 b4 b5 e1 e2 e4 e5 h => hcol (by rw [hok, e1, e2, e4, e5]; exact h)
    have HNX : Hid (∀ wq, 1 ≤ u.size → u.size ≤ 20 → hb = false → 0 ≤ kd → kd ≤ 2 → m = n → J wq m → Below S w wq ∧ wq.heap[S]? = W1.heap[S]? ∧ S < wq.heap.size ∧ ∀ j, j < k + 1 → okAt rs j = true ∧ (∀ hk : j < ts.length, ts[j].length = nRows ts) ∧ cellsAt rs ts j = true) := fun wq e1 e2 e3 e4 e5 e6 h => by
      rw [hJ] at h
      obtain ⟨g1, g2, g3, g4, g5, g6⟩ := h
      refine ⟨g1, g2, by omega, fun j hj => ?_⟩
      by_cases e : j = k
      · subst e
        refine ⟨by rw [hok, e3]; simp [e4, e5]; omega, hsame (by rw [← hm, e6]; exact HNr.out), hat' (fun i hi => g6 i hi (by omega))⟩
      · exact Hk.out.2.2.2 j (by omega)
    have HLenB := hid hlen
    have BD : Hid (∀ n', Below S w (Wc.drewN n')) := fun n' => below_drewN bc n'
    have hkc : k ≤ cc := by omega
    have hG' : wr.heap.size = G := hG.symm
    have hW : wr.alloc (.cells #[.string u, .int .i64 kd, .bool op] 45) = Wc := hWc.symm
    have hu47 : u.size ≤ 140737488355328 := by omega
    have Hus := hid hus
    clear hc hl hcel hcel' htx htx' hno hno' hat' hat2 hu c0 rc bc hlst hWc hG hkb HC HTx HCol HLen HCel HAt hok hcol hlen hJ hud hus hhb hWS hat hsame hcl hm Hk HNm HLn
    go_wp2
    go_quiet ((go_at_call 51; exact Calls.quiet_of_same (CN.out _)))
    clear CN
    cases hb
    case true =>
      have hz := HBad.out _ _ _ _ rfl rfl rfl rfl (by simp)
      subst hz
      go_wp2
      go_ret
      exact ⟨rfl, BD.out _⟩
    by_cases hu1 : u.size < 1
    · have hz := HBad.out false _ _ _ (decide_eq_false (by have := Hus.out; omega)) rfl rfl rfl (by simp)
      subst hz
      have d7 : decide ((u.size : Int) < 1) = true := by simp; omega
      go_wp2
      go_ret
      exact ⟨rfl, BD.out _⟩
    have d7 : decide ((u.size : Int) < 1) = false := by simp; omega
    by_cases hu20 : 20 < u.size
    · have hz := HBad.out _ false _ _ rfl (decide_eq_false (by have := Hus.out; omega)) rfl rfl (by simp)
      subst hz
      have d8 : decide (20 < (u.size : Int)) = true := by simp; omega
      go_wp2
      go_ret
      exact ⟨rfl, BD.out _⟩
    have d8 : decide (20 < (u.size : Int)) = false := by simp; omega
    by_cases hk0 : kd < 0
    · have hz := HBad.out _ _ false _ rfl rfl (decide_eq_false (by omega)) rfl (by simp)
      subst hz
      have d9 : decide (kd < 0) = true := by simp; omega
      go_wp2
      go_ret
      exact ⟨rfl, BD.out _⟩
    have d9 : decide (kd < 0) = false := by simp; omega
    by_cases hk22 : 2 < kd
    · have hz := HBad.out _ _ _ false rfl rfl rfl (decide_eq_false (by omega)) (by simp)
      subst hz
      have d10 : decide (2 < kd) = true := by simp; omega
      go_wp2
      go_ret
      exact ⟨rfl, BD.out _⟩
    have d10 : decide (2 < kd) = false := by simp; omega
    by_cases hmn : m = n
    case neg =>
      have hz : R = false := HLenB.out (by rw [← HNr.out]; exact hmn)
      subst hz
      have d11 : ((m : Int) == (n : Int)) = false := by simp; omega
      have d11' : ((m : Int) != (n : Int)) = true := by simp [bne]; omega
      go_wp2
      go_ret
      exact ⟨rfl, BD.out _⟩
    have HNX2 : Hid (∀ wq, J wq m → Below S w wq ∧ wq.heap[S]? = W1.heap[S]? ∧ S < wq.heap.size ∧ ∀ j, j < k + 1 → okAt rs j = true ∧ (∀ hk : j < ts.length, ts[j].length = nRows ts) ∧ cellsAt rs ts j = true) := fun wq h => HNX.out wq (by omega) (by omega) rfl (by omega) (by omega) hmn h
    clear HNX HBad HLenB BD Hus
    subst hmn
    have d11 : ((m : Int) == (m : Int)) = true := by simp
    have d11' : ((m : Int) != (m : Int)) = false := by simp [bne]
    go_wp2
    go_loopw [9] (fun i wq => ∃ (j : Nat), j ≤ m ∧ i = .int .i64 j ∧ Hid (J wq j)) (fun i _ => m - (intOf i).toNat)
    case atStart => exact ⟨0, Nat.zero_le _, rfl, HJ0.out _⟩
    case round =>
      clear y50 y51 y0 y1 yl HJ0 q0 q1 c0' c1 c2 hW
      obtain ⟨j, hj, rfl, Hj⟩ := hrel
      by_cases hj2 : j < m
      case neg =>
        obtain rfl : j = m := by omega
        have Hn := hid (HNX2.out wr Hj.out)
        go_wp2
        go_roundw
        case rel => exact ⟨k + 1, by omega, by go_num, Hn⟩
        case measure => simp [intOf]; omega
      have hjl : j < l.length := by rw [← HM.out]; exact hj2
      obtain ⟨o, rfl, s0, s1, s2, s3, s4, x0, x1, x2⟩ := HJS.out wr j hjl Hj.out
      have htl := HTx'.out j hjl
      have hno := HNo'.out j hjl
      have HN1 := hid (fun (w2 : World) (hb2 : Below wr.heap.size wr w2) (hf : fitsR kd op l[j] = true) => HJn.out wr w2 j hjl Hj.out hb2 hf)
      obtain ⟨b, hb⟩ : ∃ b, b = l[j] := ⟨_, rfl⟩
      rw [← hb] at x0 x1 x2 htl hno HN1
      obtain ⟨nu, nn, ns⟩ := b
      simp only at x0 x1 x2 htl
      obtain ⟨t, ht⟩ : ∃ t : ByteArray, t = ⟨ns.toArray⟩ := ⟨_, rfl⟩
      have x2' : wr.cell? ⟨lbi, o + j * 3 + 2, none⟩ = some (.string t) := by rw [ht]; exact x2
      have htd : t.data.toList = ns := by rw [ht]
      have hts : t.size = ns.length := by rw [ht]; simp [ByteArray.size]
      obtain ⟨f, hf⟩ : ∃ f, f = fitsR kd op ⟨nu, nn, ns⟩ := ⟨_, rfl⟩
      have CF : Hid (∀ W : World, Calls Try.prog 52 #[.agg #[.string u, .int .i64 kd, .bool op], .agg #[.bool nu, .int .i64 nn, .string t]] W fun e w' => e = .returned (.bool f) ∧ Below W.heap.size W w') := fun W => by
        have := right_any u kd op nu nn t W (by omega)
        rw [htd, ← hf] at this
        exact this
      rw [← hf] at hno HN1
      have HB2 := hid (fun (w2 : World) (hb2 : Below wr.heap.size wr w2) => HJb.out wr w2 j Hj.out hb2)
      have HNo2 := hid hno
      have SS : Hid (∀ W : World, Below wr.heap.size wr W → W.cell? ⟨G, 0, none⟩ = some (.string u) ∧ W.cell? ⟨G, 1, none⟩ = some (.int .i64 kd) ∧ W.cell? ⟨G, 2, none⟩ = some (.bool op) ∧ W.cell? ⟨S, 1, none⟩ = some (.slice (some ⟨lbt, ot', none⟩) T ct) ∧ W.cell? ⟨lbt, ot' + k, none⟩ = some (.slice (some ⟨lbi, o, none⟩) m ci) ∧ W.cell? ⟨lbi, o + j * 3, none⟩ = some (.bool nu) ∧ W.cell? ⟨lbi, o + j * 3 + 1, none⟩ = some (.int .i64 nn) ∧ W.cell? ⟨lbi, o + j * 3 + 2, none⟩ = some (.string t)) := fun W hW => by
        have cc : ∀ (b q : Nat) (v : Value), wr.cell? ⟨b, q, none⟩ = some v → W.cell? ⟨b, q, none⟩ = some v := fun b q v h => by
          rw [World.cell?_of_block (w := wr) (a := ⟨b, q, none⟩) (hW.block b (World.block_lt_of_cell? wr ⟨b, q, none⟩ h))]; exact h
        exact ⟨cc _ _ _ s0, cc _ _ _ s1, cc _ _ _ s2, cc _ _ _ s3, cc _ _ _ s4, cc _ _ _ x0, cc _ _ _ x1, cc _ _ _ x2'⟩
      clear hb ht htd hts x2 hf hno HNo' HTx' HJS HJn HJb Hj htl
      go_wp2
      go_region_held3 (fun W => W.cell? ⟨G, 0, none⟩ = some (.string u) ∧ W.cell? ⟨G, 1, none⟩ = some (.int .i64 kd) ∧ W.cell? ⟨G, 2, none⟩ = some (.bool op) ∧ W.cell? ⟨S, 1, none⟩ = some (.slice (some ⟨lbt, ot', none⟩) T ct) ∧ W.cell? ⟨lbt, ot' + k, none⟩ = some (.slice (some ⟨lbi, o, none⟩) m ci) ∧ W.cell? ⟨lbi, o + j * 3, none⟩ = some (.bool nu) ∧ W.cell? ⟨lbi, o + j * 3 + 1, none⟩ = some (.int .i64 nn) ∧ W.cell? ⟨lbi, o + j * 3 + 2, none⟩ = some (.string t))
        ((with_reducible refine SS.out _ ?_; repeat (first | with_reducible exact Below.refl _ _ | with_reducible refine bself ?_ hb2 | with_reducible refine Below.drew ?_)))
        ((go_at_call 52; refine (CF.out _).mono ?_; rintro e w2 ⟨rfl, hb2⟩))
      all_goals
        have hbw : Below wr.heap.size wr w2 := by first | exact hb2 | exact bself (Below.refl _ _).drew hb2
        have G2 := hid (HB2.out w2 hbw)
        have G3 := hid (HN1.out w2 hbw)
        clear hb2 hbw HB2 HN1 SS CF
        cases f
        · have hz := HNo2.out rfl
          subst hz
          go_wp2
          go_ret
          exact ⟨rfl, G2.out⟩
        · go_wp2
          go_roundw
          case rel => exact ⟨j + 1, by omega, by go_num, G3.out rfl⟩
          case measure => simp [intOf]; omega
end Go.Proofs.Ytjobhlncllfdmaa
