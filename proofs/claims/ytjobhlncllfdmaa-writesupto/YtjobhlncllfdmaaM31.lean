/- A table as it comes in; the program's table.hasCells. -/
import Derived.Test.YtjobhlncllfdmaaM30
namespace Go.Proofs.Ytjobhlncllfdmaa
open Go.RowKit Go.Maps

/-- a table as it comes in: its columns, its lists, all in blocks below Bt -/
structure TR (w : World) (Bt : Nat) (ac : Option Addr) (cc : Nat) (at' : Option Addr) (ct : Nat) (rs : List RC) (ts : List (List Pu.Cl)) (lbc lbt : Nat) (vs : List Value) : Prop where
  cols : Rs w 3 lbc ac rs.length cc (rcsV rs)
  lbc : lbc < Bt
  lists : Rs w 1 lbt at' ts.length ct vs
  lbt : lbt < Bt
  each : ∀ i, (h : i < ts.length) → ∃ ai ci lbi, vs[i]? = some (.slice ai ts[i].length ci) ∧ Rs w 3 lbi ai ts[i].length ci (clsV ts[i]) ∧ lbi < Bt
  names : ∀ c ∈ rs, c.1.length ≤ 140737488355328
  texts : ∀ t ∈ ts, t.length ≤ 10000000 ∧ ∀ c ∈ t, c.s.length ≤ 140737488355328

theorem TR.kept {w w' : World} {Bt : Nat} {ac : Option Addr} {cc : Nat} {at' : Option Addr} {ct : Nat} {rs : List RC} {ts : List (List Pu.Cl)} {lbc lbt : Nat} {vs : List Value} (h : TR w Bt ac cc at' ct rs ts lbc lbt vs) (hw : ∀ k, k < Bt → w'.heap[k]? = w.heap[k]?) : TR w' Bt ac cc at' ct rs ts lbc lbt vs :=
  ⟨h.cols.kept (hw _ h.lbc), h.lbc, h.lists.kept (hw _ h.lbt), h.lbt, fun i hi => by
    obtain ⟨ai, ci, lbi, e1, e2, e3⟩ := h.each i hi
    exact ⟨ai, ci, lbi, e1, e2.kept (hw _ e3), e3⟩, h.names, h.texts⟩

/-- may all cells stand in their columns? -/
def cellsAt (rs : List RC) (ts : List (List Pu.Cl)) (k : Nat) : Bool :=
  match rs[k]?, ts[k]? with
  | some c, some t => t.all (fitsR c.2.1 c.2.2)
  | _, _ => true
def cellsOk (rs : List RC) (ts : List (List Pu.Cl)) : Bool := (List.range rs.length).all (cellsAt rs ts)
theorem cellsOk_no {rs : List RC} {ts : List (List Pu.Cl)} {k j : Nat} (h1 : k < rs.length) (h2 : k < ts.length) (h3 : j < ts[k].length) (h : fitsR rs[k].2.1 rs[k].2.2 ts[k][j] = false) : cellsOk rs ts = false := by
  unfold cellsOk
  rw [List.all_eq_false]
  refine ⟨k, List.mem_range.2 h1, ?_⟩
  unfold cellsAt
  rw [List.getElem?_eq_getElem h1, List.getElem?_eq_getElem h2]
  simp only [List.all_eq_true]
  intro hall
  have := hall _ (List.getElem_mem h3)
  rw [h] at this; cases this
theorem cellsAt_yes {rs : List RC} {ts : List (List Pu.Cl)} {k : Nat} (h1 : k < rs.length) (h2 : k < ts.length) (h : ∀ j, (hj : j < ts[k].length) → fitsR rs[k].2.1 rs[k].2.2 ts[k][j] = true) : cellsAt rs ts k = true := by
  unfold cellsAt
  rw [List.getElem?_eq_getElem h1, List.getElem?_eq_getElem h2]
  simp only [List.all_eq_true]
  intro c hc
  obtain ⟨j, hj, rfl⟩ := List.getElem_of_mem hc
  exact h j hj
theorem cellsOk_yes {rs : List RC} {ts : List (List Pu.Cl)} (h : ∀ k, k < rs.length → cellsAt rs ts k = true) : cellsOk rs ts = true := by
  unfold cellsOk
  rw [List.all_eq_true]
  exact fun k hk => h k (List.mem_range.1 hk)

set_option maxHeartbeats 8000000 in
set_option maxRecDepth 100000 in
theorem hasCells_any (Bt : Nat) (ac : Option Addr) (cc : Nat) (at' : Option Addr) (ct : Nat) (rs : List RC) (ts : List (List Pu.Cl)) (lbc lbt : Nat) (vs : List Value) (w : World) (hT : TR w Bt ac cc at' ct rs ts lbc lbt vs) (hBt : Bt ≤ w.heap.size) (hcs : rs.length = ts.length) (hc20 : rs.length ≤ 20) :
    Calls Try.prog 70 #[.agg #[.slice ac rs.length cc, .slice at' ts.length ct]] w fun e w' => e = .returned (.bool (cellsOk rs ts)) ∧ Below w.heap.size w w' := by
  obtain ⟨S, hS⟩ : ∃ S, S = w.heap.size := ⟨_, rfl⟩
  obtain ⟨N, hN⟩ : ∃ N, N = rs.length := ⟨_, rfl⟩
  have hNt : ts.length = N := by omega
  obtain ⟨W1, hW1⟩ : ∃ W1, W1 = w.alloc (.cells #[.slice ac N cc, .slice at' N ct] 50) := ⟨_, rfl⟩
  have b1 : Below S w W1 := by rw [hS, hW1]; exact bbox w _
  have r1 : W1.heap[S]? = some (.cells #[.slice ac N cc, .slice at' N ct] 50 (0, 0)) := by rw [hW1, hS]; exact heap_alloc_new w _
  have q0 : W1.cell? ⟨S, 0, none⟩ = some (.slice ac N cc) := by rw [cell_of_row _ _ 0 _ _ _ r1]; rfl
  obtain ⟨R, hR⟩ : ∃ R, R = cellsOk rs ts := ⟨_, rfl⟩
  -- a column, its list
  have HC : Hid (∀ (wr : World) (k : Nat) (h1 : k < rs.length) (h2 : k < ts.length), Below S w wr → ∃ oc ot ai ci lbi, ac = some ⟨lbc, oc, none⟩ ∧ at' = some ⟨lbt, ot, none⟩ ∧ wr.cell? ⟨lbc, oc + k * 3, none⟩ = some (strV rs[k].1) ∧ wr.cell? ⟨lbc, oc + k * 3 + 1, none⟩ = some (.int .i64 rs[k].2.1) ∧ wr.cell? ⟨lbc, oc + k * 3 + 2, none⟩ = some (.bool rs[k].2.2) ∧ (∀ W, Below S w W → W.cell? ⟨lbt, ot + k, none⟩ = some (.slice ai ts[k].length ci)) ∧
      (∀ W j, Below S w W → (hj : j < ts[k].length) → ∃ o, ai = some ⟨lbi, o, none⟩ ∧ W.cell? ⟨lbi, o + j * 3, none⟩ = some (.bool ts[k][j].null) ∧ W.cell? ⟨lbi, o + j * 3 + 1, none⟩ = some (.int .i64 ts[k][j].n) ∧ W.cell? ⟨lbi, o + j * 3 + 2, none⟩ = some (strV ts[k][j].s))) := fun wr k h1 h2 hb => by
    have hlow : ∀ W, Below S w W → ∀ j, j < Bt → W.heap[j]? = w.heap[j]? := fun W hW j hj => hW.block j (by omega)
    obtain ⟨oc, hac, c0, c1, c2⟩ := (hT.kept (hlow wr hb)).cols.rc3 k h1
    obtain ⟨ot, hat, _⟩ := hT.lists.at (by omega)
    obtain ⟨ai, ci, lbi, e1, e2, e3⟩ := hT.each k h2
    refine ⟨oc, ot, ai, ci, lbi, hac, hat, c0, c1, c2, fun W hW => ?_, fun W j hW hj => ?_⟩
    · obtain ⟨ot', hat', hct⟩ := (hT.kept (hlow W hW)).lists.at (by omega)
      have ee : ot' = ot := by rw [hat] at hat'; simpa using hat'.symm
      subst ee
      have hvl : k < vs.length := (List.getElem?_eq_some_iff.1 e1).1
      rw [hct k hvl]
      rw [List.getElem?_eq_getElem hvl] at e1
      exact e1
    · exact (e2.kept (hlow W hW _ e3)).cl3 j hj
  have HTx : Hid (∀ k, (h2 : k < ts.length) → ts[k].length ≤ 10000000 ∧ ∀ j, (hj : j < ts[k].length) → ts[k][j].s.length ≤ 140737488355328) := fun k h2 => ⟨(hT.texts _ (List.getElem_mem h2)).1, fun j hj => (hT.texts _ (List.getElem_mem h2)).2 _ (List.getElem_mem hj)⟩
  have HNo : Hid (∀ (k j : Nat) (h1 : k < rs.length) (h2 : k < ts.length) (h3 : j < ts[k].length), fitsR rs[k].2.1 rs[k].2.2 ts[k][j] = false → R = false) := fun k j h1 h2 h3 h => by rw [hR]; exact cellsOk_no h1 h2 h3 h
  have HYs : Hid ((∀ k, k < rs.length → cellsAt rs ts k = true) → R = true) := fun h => by rw [hR]; exact cellsOk_yes h
  have HAt : Hid (∀ (k : Nat) (h1 : k < rs.length) (h2 : k < ts.length), (∀ j, (hj : j < ts[k].length) → fitsR rs[k].2.1 rs[k].2.2 ts[k][j] = true) → cellsAt rs ts k = true) := fun k h1 h2 h => cellsAt_yes h1 h2 h
  have HNc : Hid (N = rs.length ∧ N = ts.length) := ⟨hN, hNt.symm⟩
  have HS : Hid (S = w.heap.size) := hS
  have HQ : Hid (∀ W : World, W.heap[S]? = W1.heap[S]? → W.cell? ⟨S, 1, none⟩ = some (.slice at' N ct)) := fun W hW => by
    have : W.heap[S]? = some (.cells #[.slice ac N cc, .slice at' N ct] 50 (0, 0)) := by rw [hW]; exact r1
    rw [cell_of_row _ _ 1 _ _ _ this]; rfl
  rw [hNt, ← hN, ← hR, ← hS]
  have hW1' : w.alloc (.cells #[.slice ac N cc, .slice at' N ct] 50) = W1 := hW1.symm
  have hsz : w.heap.size = S := hS.symm
  have H0 : Hid (Below S w W1 ∧ W1.heap[S]? = W1.heap[S]? ∧ S < W1.heap.size ∧ ∀ j, j < 0 → cellsAt rs ts j = true) := ⟨b1, rfl, by rw [hW1, size_alloc']; omega, fun j hj => by omega⟩
  have hN20 : N ≤ 20 := by omega
  clear hT hN hNt hcs hc20 hW1 hS b1 r1 hR hBt
  go_enter Try.func70, Try.ntmps70
  go_wp2
  go_loopw [10] (fun i wr => ∃ (k : Nat), k ≤ N ∧ i = .int .i64 k ∧ Hid (Below S w wr ∧ wr.heap[S]? = W1.heap[S]? ∧ S < wr.heap.size ∧ ∀ j, j < k → cellsAt rs ts j = true))
    (fun i _ => N - (intOf i).toNat)
  case atStart => exact ⟨0, Nat.zero_le _, rfl, ⟨H0.out.1, rfl, H0.out.2.2.1, H0.out.2.2.2⟩⟩
  case round =>
    obtain ⟨k, hk, rfl, Hk⟩ := hrel
    by_cases hk2 : k < N
    · have h1 : k < rs.length := by rw [← HNc.out.1]; exact hk2
      have h2 : k < ts.length := by rw [← HNc.out.2]; exact hk2
      obtain ⟨oc, ot, ai, ci, lbi, rfl, rfl, c0, c1, c2, hlst, hcel⟩ := HC.out wr k h1 h2 Hk.out.1
      obtain ⟨hln, htx⟩ := HTx.out k h2
      have hno := HNo.out k
      have hat := HAt.out k h1 h2
      obtain ⟨c, hc⟩ : ∃ c, c = rs[k] := ⟨_, rfl⟩
      rw [← hc] at c0 c1 c2
      obtain ⟨l, hl⟩ : ∃ l, l = ts[k] := ⟨_, rfl⟩
      have hno' : ∀ (j : Nat) (h3 : j < l.length), fitsR c.2.1 c.2.2 l[j] = false → R = false := fun j h3 h => by
        subst hl hc; exact hno j h1 h2 h3 h
      have hat' : (∀ j, (hj : j < l.length) → fitsR c.2.1 c.2.2 l[j] = true) → cellsAt rs ts k = true := fun h => by
        subst hl hc; exact hat h
      have hcel' : ∀ (W : World) (j : Nat), Below S w W → (hj : j < l.length) → ∃ o, ai = some ⟨lbi, o, none⟩ ∧ W.cell? ⟨lbi, o + j * 3, none⟩ = some (.bool l[j].null) ∧ W.cell? ⟨lbi, o + j * 3 + 1, none⟩ = some (.int .i64 l[j].n) ∧ W.cell? ⟨lbi, o + j * 3 + 2, none⟩ = some (strV l[j].s) := fun W j hW hj => by
        subst hl; exact hcel W j hW hj
      have htx' : ∀ j, (hj : j < l.length) → l[j].s.length ≤ 140737488355328 := fun j hj => by subst hl; exact htx j hj
      rw [← hl] at hln hlst
      obtain ⟨nm, kd, op⟩ := c
      simp only at c0 c1 c2 hno' hat'
      obtain ⟨u, hu⟩ : ∃ u : ByteArray, u = ⟨nm.toArray⟩ := ⟨_, rfl⟩
      have c0' : wr.cell? ⟨lbc, oc + k * 3, none⟩ = some (.string u) := by rw [hu]; exact c0
      obtain ⟨Wc, hWc⟩ : ∃ Wc, Wc = wr.alloc (.cells #[.string u, .int .i64 kd, .bool op] 45) := ⟨_, rfl⟩
      have rc : Wc.heap[wr.heap.size]? = some (.cells #[.string u, .int .i64 kd, .bool op] 45 (0, 0)) := by rw [hWc]; exact heap_alloc_new wr _
      have hkb := Hk.out.1.size
      have bc : Below S w Wc := by rw [hWc]; exact Hk.out.1.alloc (by rw [HS.out]; exact hkb) _
      have yl := hlst Wc bc
      have ys := HQ.out Wc (by rw [hWc, Below.heap_alloc wr _ _ Hk.out.2.2.1]; exact Hk.out.2.1)
      obtain ⟨M, hM⟩ : ∃ M, M = l.length := ⟨_, rfl⟩
      rw [← hM] at yl hln
      obtain ⟨T4, hT4⟩ : ∃ T4, T4 = wr.heap.size := ⟨_, rfl⟩
      have HI0 : Hid (Below S w Wc ∧ Wc.heap[S]? = W1.heap[S]? ∧ S < T4 ∧ T4 < Wc.heap.size ∧ Wc.heap[T4]? = some (.cells #[.string u, .int .i64 kd, .bool op] 45 (0, 0)) ∧ ∀ j, (hj : j < l.length) → j < 0 → fitsR kd op l[j] = true) := ⟨bc, by rw [hWc, Below.heap_alloc wr _ _ Hk.out.2.2.1]; exact Hk.out.2.1, by rw [hT4]; exact Hk.out.2.2.1, by rw [hWc, size_alloc', hT4]; omega, by rw [hT4]; exact rc, fun j _ hj => by omega⟩
      have HCel := hid hcel'
      have HTx' := hid htx'
      have HNo' := hid hno'
      have HAt' := hid hat'
      have HM := hid hM
      have hT4' : wr.heap.size = T4 := hT4.symm
      have hW : wr.alloc (.cells #[.string u, .int .i64 kd, .bool op] 45) = Wc := hWc.symm
      clear hc hl hcel hcel' htx htx' hno hno' hat hat' hu c0 rc bc hlst hM hWc hT4 hkb HC HTx HNo HAt
      go_wp2
      go_loopw [21] (fun i wq => ∃ (j : Nat), j ≤ M ∧ i = .int .i64 j ∧ Hid (Below S w wq ∧ wq.heap[S]? = W1.heap[S]? ∧ S < T4 ∧ T4 < wq.heap.size ∧ wq.heap[T4]? = some (.cells #[.string u, .int .i64 kd, .bool op] 45 (0, 0)) ∧ ∀ i, (hi : i < l.length) → i < j → fitsR kd op l[i] = true))
        (fun i _ => M - (intOf i).toNat)
      case atStart => exact ⟨0, Nat.zero_le _, rfl, HI0⟩
      case round =>
        obtain ⟨j, hj, rfl, Hj⟩ := hrel
        by_cases hj2 : j < M
        · have hjl : j < l.length := by rw [← HM.out]; exact hj2
          obtain ⟨o, rfl, x0, x1, x2⟩ := HCel.out wr j Hj.out.1 hjl
          have htl := HTx'.out j hjl
          have hno := HNo'.out j hjl
          obtain ⟨b, hb⟩ : ∃ b, b = l[j] := ⟨_, rfl⟩
          rw [← hb] at x0 x1 x2 htl hno
          obtain ⟨hj1, hjS, hST, hTl, hT4r, hall⟩ := Hj.out
          have hall' : ∀ i, (hi : i < l.length) → i < j + 1 → fitsR kd op b = true → fitsR kd op l[i] = true := fun i hi hi2 hbt => by
            by_cases e : i = j
            · subst e; rw [← hb]; exact hbt
            · exact hall i hi (by omega)
          have HAll := hid hall'
          obtain ⟨nu, nn, ns⟩ := b
          simp only at x0 x1 x2 htl
          obtain ⟨t, ht⟩ : ∃ t : ByteArray, t = ⟨ns.toArray⟩ := ⟨_, rfl⟩
          have x2' : wr.cell? ⟨lbi, o + j * 3 + 2, none⟩ = some (.string t) := by rw [ht]; exact x2
          have htd : t.data.toList = ns := by rw [ht]
          have hts : t.size = ns.length := by rw [ht]; simp [ByteArray.size]
          obtain ⟨Wd, hWd⟩ : ∃ Wd, Wd = wr.alloc (.cells #[.bool nu, .int .i64 nn, .string t] 66) := ⟨_, rfl⟩
          have rd : Wd.heap[wr.heap.size]? = some (.cells #[.bool nu, .int .i64 nn, .string t] 66 (0, 0)) := by rw [hWd]; exact heap_alloc_new wr _
          have sd : Wd.heap.size = wr.heap.size + 1 := by rw [hWd, size_alloc']
          have hjs := hj1.size
          have bd : Below S w Wd := by rw [hWd]; exact hj1.alloc (by rw [HS.out]; exact hjs) _
          have r4 : Wd.heap[T4]? = some (.cells #[.string u, .int .i64 kd, .bool op] 45 (0, 0)) := by rw [hWd, Below.heap_alloc wr _ _ hTl]; exact hT4r
          have y0 : Wd.cell? ⟨wr.heap.size, 0, none⟩ = some (.bool nu) := by rw [cell_of_row _ _ 0 _ _ _ rd]; rfl
          have y1 : Wd.cell? ⟨wr.heap.size, 1, none⟩ = some (.int .i64 nn) := by rw [cell_of_row _ _ 1 _ _ _ rd]; rfl
          have y2 : Wd.cell? ⟨wr.heap.size, 2, none⟩ = some (.string t) := by rw [cell_of_row _ _ 2 _ _ _ rd]; rfl
          have v0 : Wd.cell? ⟨T4, 0, none⟩ = some (.string u) := by rw [cell_of_row _ _ 0 _ _ _ r4]; rfl
          have v1 : Wd.cell? ⟨T4, 1, none⟩ = some (.int .i64 kd) := by rw [cell_of_row _ _ 1 _ _ _ r4]; rfl
          have v2 : Wd.cell? ⟨T4, 2, none⟩ = some (.bool op) := by rw [cell_of_row _ _ 2 _ _ _ r4]; rfl
          have CF := hid (fits_any u kd op nu nn t Wd (by omega))
          rw [htd] at CF
          obtain ⟨f, hf⟩ : ∃ f, f = fitsR kd op ⟨nu, nn, ns⟩ := ⟨_, rfl⟩
          rw [← hf] at CF hno
          have hbb : (fitsR kd op ⟨nu, nn, ns⟩ = true) = (f = true) := by rw [hf]
          rw [hbb] at HAll
          have HRow := hid (fun (W : World) (hW : Below Wd.heap.size Wd W) => (show Below S w W ∧ W.heap[S]? = W1.heap[S]? ∧ T4 < W.heap.size ∧ W.heap[T4]? = some (.cells #[.string u, .int .i64 kd, .bool op] 45 (0, 0)) from
            ⟨bd.trans (hW.mono (by have := bd.size; rw [HS.out]; exact this)), by rw [hW.block S (by omega), hWd, Below.heap_alloc wr _ _ (by omega)]; exact hjS, by have := hW.size; omega, by rw [hW.block T4 (by omega)]; exact r4⟩))
          have HNo2 := hid hno
          have hWd' : wr.alloc (.cells #[.bool nu, .int .i64 nn, .string t] 66) = Wd := hWd.symm
          clear hb ht htd hts x2 rd r4 hf hbb hno hall hall' Hj hWd sd bd hj1 hjS hTl hT4r HNo' HCel HTx' hjs
          cases f
          · have hz := HNo2.out rfl
            subst hz
            go_wp2_with fail
            refine CF.out.mono ?_
            rintro e w2 ⟨rfl, hb2⟩
            obtain ⟨g1, _, _, _⟩ := HRow.out w2 hb2
            have G1 := hid g1
            clear g1 hb2 CF HRow
            go_wp2
            go_ret
            exact ⟨rfl, G1.out⟩
          · go_wp2_with fail
            refine CF.out.mono ?_
            rintro e w2 ⟨rfl, hb2⟩
            obtain ⟨g1, g2, g3, g4⟩ := HRow.out w2 hb2
            have G := hid (show Below S w w2 ∧ w2.heap[S]? = W1.heap[S]? ∧ S < T4 ∧ T4 < w2.heap.size ∧ w2.heap[T4]? = some (.cells #[.string u, .int .i64 kd, .bool op] 45 (0, 0)) ∧ ∀ i, (hi : i < l.length) → i < j + 1 → fitsR kd op l[i] = true from ⟨g1, g2, hST, g3, g4, fun i hi hi2 => HAll.out i hi hi2 (by simp)⟩)
            clear g1 g2 g3 g4 hb2 CF HRow HAll
            go_wp2
            go_roundw
            case rel => exact ⟨j + 1, by omega, by go_num, G⟩
            case measure => simp [intOf]; omega
        · obtain rfl : j = M := by omega
          obtain ⟨hj1, hjS, hST, hTl, hT4r, hall⟩ := Hj.out
          have hnx : cellsAt rs ts k = true := HAt'.out (fun i hi => hall i hi (by rw [HM.out]; exact hi))
          have G := hid (show Below S w wr ∧ wr.heap[S]? = W1.heap[S]? ∧ S < wr.heap.size ∧ ∀ i, i < k + 1 → cellsAt rs ts i = true from ⟨hj1, hjS, by omega, fun i hi => by
            by_cases e : i = k
            · rw [e]; exact hnx
            · exact Hk.out.2.2.2 i (by omega)⟩)
          clear hj1 hjS hST hTl hT4r hall hnx Hj
          go_wp2
          go_roundw
          case rel => exact ⟨k + 1, by omega, by go_num, G⟩
          case measure => simp [intOf]; omega
    · obtain rfl : k = N := by omega
      have hy := HYs.out (by rw [← HNc.out.1]; exact Hk.out.2.2.2)
      subst hy
      go_wp2
      go_ret
      exact ⟨rfl, Hk.out.1⟩
end Go.Proofs.Ytjobhlncllfdmaa

/- The program's table.hasShape. -/
namespace Go.Proofs.Ytjobhlncllfdmaa
open Go.RowKit Go.Maps

/-- how many rows: those of the first list -/
def nRows (ts : List (List Pu.Cl)) : Nat := (ts.headD []).length
def sameLen (ts : List (List Pu.Cl)) : Bool := ts.all fun t => decide (t.length = nRows ts)
def shapeOk (rs : List RC) (ts : List (List Pu.Cl)) (rows : Nat) : Bool :=
  decide (1 ≤ rs.length) && decide (rs.length ≤ 20) && decide (ts.length = rs.length) && sameLen ts && decide (nRows ts ≤ 5000) && decide (nRows ts ≤ rows * 50)
theorem sameLen_no {ts : List (List Pu.Cl)} {k : Nat} (hk : k < ts.length) (h : ts[k].length ≠ nRows ts) : sameLen ts = false := by
  unfold sameLen
  rw [List.all_eq_false]
  exact ⟨ts[k], List.getElem_mem hk, by simpa using h⟩
theorem sameLen_yes {ts : List (List Pu.Cl)} (h : ∀ k, (hk : k < ts.length) → ts[k].length = nRows ts) : sameLen ts = true := by
  unfold sameLen
  rw [List.all_eq_true]
  intro t ht
  obtain ⟨k, hk, rfl⟩ := List.getElem_of_mem ht
  exact decide_eq_true (h k hk)

set_option maxHeartbeats 8000000 in
set_option maxRecDepth 100000 in
theorem hasShape_any (Bt rows : Nat) (ac : Option Addr) (cc : Nat) (at' : Option Addr) (ct : Nat) (rs : List RC) (ts : List (List Pu.Cl)) (lbc lbt : Nat) (vs : List Value) (w : World) (hT : TR w Bt ac cc at' ct rs ts lbc lbt vs) (hBt : Bt ≤ w.heap.size) (hrl : rs.length ≤ 10000000) (htl : ts.length ≤ 10000000) (hrows : rows ≤ 1000) :
    Calls Try.prog 68 #[.agg #[.slice ac rs.length cc, .slice at' ts.length ct], .int .i64 rows] w fun e w' => e = .returned (.bool (shapeOk rs ts rows)) ∧ Below w.heap.size w w' := by
  obtain ⟨S, hS⟩ : ∃ S, S = w.heap.size := ⟨_, rfl⟩
  obtain ⟨N, hN⟩ : ∃ N, N = rs.length := ⟨_, rfl⟩
  obtain ⟨T, hTl⟩ : ∃ T, T = ts.length := ⟨_, rfl⟩
  obtain ⟨W1, hW1⟩ : ∃ W1, W1 = w.alloc (.cells #[.slice ac N cc, .slice at' T ct] 50) := ⟨_, rfl⟩
  have b1 : Below S w W1 := by rw [hS, hW1]; exact bbox w _
  have r1 : W1.heap[S]? = some (.cells #[.slice ac N cc, .slice at' T ct] 50 (0, 0)) := by rw [hW1, hS]; exact heap_alloc_new w _
  have q0 : W1.cell? ⟨S, 0, none⟩ = some (.slice ac N cc) := by rw [cell_of_row _ _ 0 _ _ _ r1]; rfl
  have q1 : W1.cell? ⟨S, 1, none⟩ = some (.slice at' T ct) := by rw [cell_of_row _ _ 1 _ _ _ r1]; rfl
  obtain ⟨R, hR⟩ : ∃ R, R = shapeOk rs ts rows := ⟨_, rfl⟩
  have hRdef : R = (decide (1 ≤ N) && decide (N ≤ 20) && decide (T = N) && sameLen ts && decide (nRows ts ≤ 5000) && decide (nRows ts ≤ rows * 50)) := by rw [hR, hN, hTl]; rfl
  have HC : Hid (∀ (k : Nat) (h2 : k < ts.length), ∃ ot ai ci, at' = some ⟨lbt, ot, none⟩ ∧ W1.cell? ⟨lbt, ot + k, none⟩ = some (.slice ai ts[k].length ci)) := fun k h2 => by
    have hT1 := hT.kept (w' := W1) (fun j hj => b1.block j (by omega))
    obtain ⟨ot, hat, hct⟩ := hT1.lists.at (by omega)
    obtain ⟨ai, ci, lbi, e1, e2, e3⟩ := hT1.each k h2
    have hvl : k < vs.length := (List.getElem?_eq_some_iff.1 e1).1
    refine ⟨ot, ai, ci, hat, ?_⟩
    rw [hct k hvl]
    rw [List.getElem?_eq_getElem hvl] at e1
    exact e1
  have HLen : Hid (∀ (k : Nat) (h2 : k < ts.length), ts[k].length ≤ 10000000) := fun k h2 => (hT.texts _ (List.getElem_mem h2)).1
  have HNo : Hid (∀ (k : Nat) (hk : k < ts.length), ts[k].length ≠ nRows ts → sameLen ts = false) := fun k hk h => sameLen_no hk h
  have HYs : Hid ((∀ k, (hk : k < ts.length) → ts[k].length = nRows ts) → sameLen ts = true) := sameLen_yes
  have H0n : Hid (∀ h0 : 0 < ts.length, ts[0].length = nRows ts) := fun h0 => by
    unfold nRows
    cases ts with
    | nil => simp at h0
    | cons a r => rfl
  have HTl : Hid (T = ts.length) := hTl
  rw [← hTl, ← hN, ← hR, ← hS]
  have hN7 : N ≤ 10000000 := by omega
  have hT7 : T ≤ 10000000 := by omega
  have hW1' : w.alloc (.cells #[.slice ac N cc, .slice at' T ct] 50) = W1 := hW1.symm
  have hsz : w.heap.size = S := hS.symm
  have HB := hid b1
  have HRd := hid hRdef
  clear hT hN hTl hW1 hS b1 r1 hR hBt hRdef hrl htl
  by_cases h1 : N < 1
  · have hz : R = false := by rw [HRd.out, show decide (1 ≤ N) = false from decide_eq_false (by omega)]; simp
    subst hz
    have d1 : decide ((N : Int) < 1) = true := by simp; omega
    go_enter Try.func68, Try.ntmps68
    go_wp2
    go_ret
    exact ⟨rfl, HB.out⟩
  have d1 : decide ((N : Int) < 1) = false := by simp; omega
  by_cases h20 : 20 < N
  · have hz : R = false := by rw [HRd.out, show decide (N ≤ 20) = false from decide_eq_false (by omega)]; simp
    subst hz
    have d2 : decide (20 < (N : Int)) = true := by simp; omega
    go_enter Try.func68, Try.ntmps68
    go_wp2
    go_ret
    exact ⟨rfl, HB.out⟩
  have d2 : decide (20 < (N : Int)) = false := by simp; omega
  by_cases hTN : T = N
  · obtain ⟨n, hn⟩ : ∃ n, n = nRows ts := ⟨_, rfl⟩
    obtain ⟨ot, a0, ci0, rfl, hc0⟩ := HC.out 0 (by rw [← HTl.out]; omega)
    rw [H0n.out (by rw [← HTl.out]; omega), ← hn] at hc0
    have hn7 : n ≤ 10000000 := by
      have := HLen.out 0 (by rw [← HTl.out]; omega)
      rw [H0n.out (by rw [← HTl.out]; omega), ← hn] at this
      exact this
    have hRd2 : R = (sameLen ts && decide (n ≤ 5000) && decide (n ≤ rows * 50)) := by
      rw [HRd.out, ← hn, show decide (1 ≤ N) = true from decide_eq_true (by omega), show decide (N ≤ 20) = true from decide_eq_true (by omega), show decide (T = N) = true from decide_eq_true hTN]
      simp
    have HRd2 := hid hRd2
    have HNr := hid hn
    subst hTN
    rw [Nat.add_zero] at hc0
    clear HRd hRd2 hn H0n
    go_enter Try.func68, Try.ntmps68
    go_wp2
    go_loop [33] (fun i => ∃ (k : Nat), k ≤ T ∧ i = .int .i64 k ∧ Hid (∀ j, (hj : j < ts.length) → j < k → ts[j].length = nRows ts)) (fun i => T - (intOf i).toNat)
    case atStart => exact ⟨0, Nat.zero_le _, rfl, fun j _ hj => by omega⟩
    case round =>
      obtain ⟨k, hk, rfl, Hk⟩ := hrel
      by_cases hk2 : k < T
      · have hkl : k < ts.length := by rw [← HTl.out]; exact hk2
        obtain ⟨ot', ai, ci, hat, hc⟩ := HC.out k hkl
        have ee : ot' = ot := by simpa using hat.symm
        subst ee
        have hl7 := HLen.out k hkl
        have hno := HNo.out k hkl
        rw [← HNr.out] at hno
        obtain ⟨m, hm⟩ : ∃ m, m = ts[k].length := ⟨_, rfl⟩
        rw [← hm] at hc hl7 hno
        by_cases hmn : m = n
        · have HNX : Hid (∀ j, (hj : j < ts.length) → j < k + 1 → ts[j].length = nRows ts) := fun j hj hj2 => by
            by_cases e : j = k
            · subst e; rw [← hm, hmn]; exact HNr.out
            · exact Hk.out j hj (by omega)
          clear hm hno hat Hk
          subst hmn
          go_wp2
          go_round
          case rel => exact ⟨k + 1, by omega, by go_num, HNX⟩
          case measure => simp [intOf]; omega
        · have hz : R = false := by rw [HRd2.out, hno hmn]; simp
          have d3 : ((m : Int) == (n : Int)) = false := by simp; omega
          subst hz
          clear hm hno hat Hk
          go_wp2
          go_ret
          exact ⟨rfl, HB.out⟩
      · obtain rfl : k = T := by omega
        have hsl := HYs.out (fun j hj => Hk.out j hj (by rw [HTl.out]; exact hj))
        have hRf := HRd2.out
        rw [hsl] at hRf
        obtain ⟨rw', hrw⟩ : ∃ rw', rw' = rows * 50 := ⟨_, rfl⟩
        have em : IntKind.i64.wrap ((rows : Int) * 50) = (rw' : Int) := by rw [IntKind.wrap_i64]; omega
        have em2 : (rows : Int) * 50 = (rw' : Int) := by omega
        rw [← hrw] at hRf
        by_cases h5 : n ≤ 5000
        · have d5 : decide ((n : Int) ≤ 5000) = true := by simp; omega
          by_cases h6 : n ≤ rw'
          · have d6 : decide ((n : Int) ≤ (rw' : Int)) = true := by simp; omega
            have hz : R = true := by rw [hRf]; simp [h5, h6]
            subst hz
            clear hRf hrw
            go_wp2
            go_ret
            exact ⟨rfl, HB.out⟩
          · have d6 : decide ((n : Int) ≤ (rw' : Int)) = false := by simp; omega
            have hz : R = false := by rw [hRf]; simp [h6]
            subst hz
            clear hRf hrw
            go_wp2
            go_ret
            exact ⟨rfl, HB.out⟩
        · have d5 : decide ((n : Int) ≤ 5000) = false := by simp; omega
          have hz : R = false := by rw [hRf]; simp [h5]
          subst hz
          clear hRf hrw
          go_wp2
          go_ret
          exact ⟨rfl, HB.out⟩
  · have hz : R = false := by rw [HRd.out, show decide (T = N) = false from decide_eq_false hTN]; simp
    subst hz
    have d3 : ((T : Int) == (N : Int)) = false := by simp; omega
    go_enter Try.func68, Try.ntmps68
    go_wp2
    go_ret
    exact ⟨rfl, HB.out⟩
end Go.Proofs.Ytjobhlncllfdmaa
