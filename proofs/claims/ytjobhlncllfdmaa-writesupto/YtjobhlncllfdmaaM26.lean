/- A table that came in, and the program's table.writeGroup: what holds. -/
import Derived.Test.YtjobhlncllfdmaaM25
import Derived.Deep.RegionHeld3
namespace Go.Proofs.Ytjobhlncllfdmaa
open Go.RowKit Go.Maps

/-- a table: its columns, its lists, all in blocks below Bt -/
structure TB (w : World) (Bt : Nat) (ac : Option Addr) (cc : Nat) (at' : Option Addr) (ct : Nat) (cs : List Pu.Col) (ts : List (List Pu.Cl)) (lbc lbt : Nat) (vs : List Value) : Prop where
  cols : Rs w 3 lbc ac cs.length cc (colsV cs)
  lbc : lbc < Bt
  lists : Rs w 1 lbt at' ts.length ct vs
  lbt : lbt < Bt
  each : ∀ i, (h : i < ts.length) → ∃ ai ci lbi, vs[i]? = some (.slice ai ts[i].length ci) ∧ Rs w 3 lbi ai ts[i].length ci (clsV ts[i]) ∧ lbi < Bt

theorem TB.kept {w w' : World} {Bt : Nat} {ac : Option Addr} {cc : Nat} {at' : Option Addr} {ct : Nat} {cs : List Pu.Col} {ts : List (List Pu.Cl)} {lbc lbt : Nat} {vs : List Value} (h : TB w Bt ac cc at' ct cs ts lbc lbt vs) (hw : ∀ k, k < Bt → w'.heap[k]? = w.heap[k]?) : TB w' Bt ac cc at' ct cs ts lbc lbt vs :=
  ⟨h.cols.kept (hw _ h.lbc), h.lbc, h.lists.kept (hw _ h.lbt), h.lbt, fun i hi => by
    obtain ⟨ai, ci, lbi, e1, e2, e3⟩ := h.each i hi
    exact ⟨ai, ci, lbi, e1, e2.kept (hw _ e3), e3⟩⟩

theorem OG.low {w w1 : World} {R B : Nat} {v : Value} {L M : List UInt8} {Bt : Nat} (h : OS w R B v L) (hg : OG w R B v M w1) (hR : Bt ≤ R) (hB : Bt ≤ B) : ∀ k, k < Bt → w1.heap[k]? = w.heap[k]? := fun k hk =>
  hg.blk (by have := h.lt; omega) (by omega) (fun e => by have := (h.own.lt k e).1; omega)

theorem clsV_cons (c : Pu.Cl) (r : List Pu.Cl) : clsV (c :: r) = clV c ++ clsV r := by simp [clsV]
theorem clsV_dropS (c : Pu.Cl) (r : List Pu.Cl) (k : Nat) : (clV c ++ clsV r).drop ((k + 1) * 3) = (clsV r).drop (k * 3) := by
  rw [List.drop_append, show (clV c).length = 3 from rfl, List.drop_eq_nil_of_le (by show 3 ≤ _; omega), List.nil_append]
  congr 1; omega
theorem clsV_drop : ∀ (l : List Pu.Cl) (k : Nat), (clsV l).drop (k * 3) = clsV (l.drop k)
  | [], k => by simp [clsV]
  | c :: r, 0 => by simp
  | c :: r, k + 1 => by rw [clsV_cons, List.drop_succ_cons, ← clsV_drop r k, clsV_dropS c r k]
theorem clsV_take : ∀ (l : List Pu.Cl) (k : Nat), (clsV l).take (k * 3) = clsV (l.take k)
  | [], k => by simp [clsV]
  | c :: r, 0 => by simp [clsV]
  | c :: r, k + 1 => by
    rw [clsV_cons, List.take_succ_cons, clsV_cons, ← clsV_take r k, List.take_append, show (clV c).length = 3 from rfl, List.take_of_length_le (by show 3 ≤ _; omega)]
    congr 2; omega

/-- some cells of a list -/
def segL (fr to : Nat) (l : List Pu.Cl) : List Pu.Cl := (l.drop fr).take (to - fr)
theorem length_segL (fr to : Nat) (l : List Pu.Cl) (h : to ≤ l.length) (h2 : fr ≤ to) : (segL fr to l).length = to - fr := by unfold segL; rw [List.length_take, List.length_drop]; omega
theorem Rs.seg {w : World} {lb o n cap fr to : Nat} {l : List Pu.Cl} (h : Rs w 3 lb (some ⟨lb, o, none⟩) n cap (clsV l)) (hn : n = l.length) (h1 : fr < to) (h2 : to ≤ n) : Rs w 3 lb (some ⟨lb, o + fr * 3, none⟩) (to - fr) (to - fr) (clsV (segL fr to l)) := by
  subst hn
  have hd := h.drop fr (by omega)
  have ht := hd.take (to - fr) (by omega)
  unfold cutS at ht
  rw [if_neg (by have := h.1; omega), clsV_drop, clsV_take] at ht
  have e : (some (⟨lb, o, none⟩ : Addr)).map (·.add (fr * 3)) = some ⟨lb, o + fr * 3, none⟩ := by
    simp only [Option.map, Addr.add]
    split
    · simp_all
    · rfl
  rw [e] at ht
  exact ht

/-- the pages of one group behind what has been written, and where they are -/
def gStep (fr to : Nat) (st : List UInt8 × List (Nat × Nat)) (x : Pu.Col × List Pu.Cl) : List UInt8 × List (Nat × Nat) :=
  (st.1 ++ (partL x.1.kind x.1.opt (segL fr to x.2)).1, st.2 ++ [(st.1.length, (partL x.1.kind x.1.opt (segL fr to x.2)).2)])
def grpW (cs : List Pu.Col) (ts : List (List Pu.Cl)) (fr to : Nat) (L : List UInt8) : List UInt8 × List (Nat × Nat) := (cs.zip ts).foldl (gStep fr to) (L, [])
def grpN (cs : List Pu.Col) (ts : List (List Pu.Cl)) (fr to : Nat) (L : List UInt8) (k : Nat) : List UInt8 × List (Nat × Nat) := ((cs.zip ts).take k).foldl (gStep fr to) (L, [])
theorem grpN_succ (cs : List Pu.Col) (ts : List (List Pu.Cl)) (fr to : Nat) (L : List UInt8) (k : Nat) (h1 : k < cs.length) (h2 : k < ts.length) : grpN cs ts fr to L (k + 1) = gStep fr to (grpN cs ts fr to L k) (cs[k], ts[k]) := by
  unfold grpN
  have hz : k < (cs.zip ts).length := by rw [List.length_zip]; omega
  rw [List.take_succ_eq_append_getElem hz, List.foldl_append]
  simp
theorem grpN_len (cs : List Pu.Col) (ts : List (List Pu.Cl)) (fr to : Nat) (L : List UInt8) : ∀ k, k ≤ cs.length → k ≤ ts.length → (grpN cs ts fr to L k).2.length = k
  | 0, _, _ => rfl
  | k + 1, h1, h2 => by
    rw [grpN_succ cs ts fr to L k (by omega) (by omega)]
    show (_ ++ [_]).length = _
    rw [List.length_append, grpN_len cs ts fr to L k (by omega) (by omega)]; rfl
theorem length_pageL (so ce : Nat) (D : List UInt8) (hce : ce ≤ 1000000) (hD : D.length ≤ 1000000000) : (pageL so ce D).length ≤ D.length + 100 := by
  have l1 := length_vb8 (n := ce) (by omega)
  have l2 := length_vb8 (n := D.length) (by omega)
  have l3 := length_leB 4 (Pu.sum D)
  unfold pageL
  simp only [List.length_append, l3]
  simp; omega
theorem length_partL (kind : Nat) (opt : Bool) (l : List Pu.Cl) (hl : l.length ≤ 100000) (ht : ∀ c ∈ l, c.s.length ≤ 1000) : (partL kind opt l).1.length ≤ 500000000 := by
  have h1 := length_valsL l
  obtain ⟨d1, d2⟩ := dic_len' (valsL l)
  unfold partL
  split
  · have p1 := length_plainL 2 false (dic (valsL l)).1 (by omega) (fun c hc => ht c (List.mem_filter.1 (dic_sub' _ c hc)).1)
    have p2 := length_indicesL opt l (dic (valsL l)).1 (dic (valsL l)).2 hl (by omega) (by omega)
    have q1 := length_pageL 1 (dic (valsL l)).1.length (plainL 2 false (dic (valsL l)).1) (by omega) (by omega)
    have q2 := length_pageL 2 l.length (indicesL opt l (dic (valsL l)).1 (dic (valsL l)).2) (by omega) (by omega)
    show List.length (_ ++ _) ≤ _
    rw [List.length_append]; omega
  · have p1 := length_plainL kind opt l hl ht
    have q1 := length_pageL 0 l.length (plainL kind opt l) (by omega) (by omega)
    show List.length (pageL _ _ _) ≤ _
    omega
end Go.Proofs.Ytjobhlncllfdmaa

/- The program's table.writeGroup. -/
namespace Go.Proofs.Ytjobhlncllfdmaa
open Go.RowKit Go.Maps

/-- what is so in the loop of writeGroup: the writer; the table's, the result's and the group's blocks; the places -/
structure GW (w : World) (R B : Nat) (v : Value) (S rows : Nat) (ac : Option Addr) (nc cc : Nat) (at' : Option Addr) (nt ct : Nat) (L : List UInt8) (ps : List (Nat × Nat)) (vp : Value) (wr : World) : Prop where
  og : OG w R B v L wr
  t5 : wr.heap[S]? = some (.cells #[.slice ac nc cc, .slice at' nt ct] 50 (0, 0))
  t8 : wr.heap[S + 1]? = some (.cells #[.int .i64 0, .slice none 0 0] 105 (0, 0))
  t9 : wr.heap[S + 2]? = some (.cells #[.int .i64 (rows : Int), vp] 105 (0, 0))
  own : wr.ownsRow (S + 3) 158 2 vp ps.length (plsV ps)
  s0 : S = w.heap.size
  size : S + 3 ≤ wr.heap.size
  rlt : R < S

section
variable {w wr w1 : World} {R B : Nat} {v : Value} {S rows : Nat} {ac : Option Addr} {nc cc : Nat} {at' : Option Addr} {nt ct : Nat} {L : List UInt8} {ps : List (Nat × Nat)} {vp : Value}

theorem GW.below (h : GW w R B v S rows ac nc cc at' nt ct L ps vp wr) (hb : Below wr.heap.size wr w1) : GW w R B v S rows ac nc cc at' nt ct L ps vp w1 := by
  have hs := h.size
  have hbs := hb.size
  exact ⟨h.og.later hb, by rw [hb.block _ (by omega)]; exact h.t5, by rw [hb.block _ (by omega)]; exact h.t8, by rw [hb.block _ (by omega)]; exact h.t9, own_agreeS h.own (fun k hk => hb.block k (h.own.lt k hk).2), h.s0, by omega, h.rlt⟩

/-- the writer goes on: all else stays -/
theorem GW.write (h : GW w R B v S rows ac nc cc at' nt ct L ps vp wr) {L' : List UInt8} (hw : ∀ v1, OS wr R B v1 L → OG wr R B v1 L' w1) : GW w R B v S rows ac nc cc at' nt ct L' ps vp w1 := by
  have hs := h.size
  obtain ⟨v1, o1, f1, g1⟩ := h.og
  have hg := hw v1 o1
  have hgs := hg.size
  have hR : R < S := h.rlt
  have ty5 : ∀ k, v1.ownBlock = some k → Ty wr k 5 := fun k hk => own_ty o1.own hk
  have kp : ∀ k (e : TypeId), Ty wr k e → k ≠ R → e ≠ 5 → w1.heap[k]? = wr.heap[k]? := fun k e hk hR he => hg.blk hk.lt hR (fun e' => Ty.ne hk (ty5 k e') he rfl)
  exact ⟨OG.step o1 f1 g1 hg, by rw [kp S 50 ⟨_, h.t5⟩ (by omega) (by decide)]; exact h.t5, by rw [kp (S + 1) 105 ⟨_, h.t8⟩ (by omega) (by decide)]; exact h.t8, by rw [kp (S + 2) 105 ⟨_, h.t9⟩ (by omega) (by decide)]; exact h.t9, own_agreeS h.own (fun k hk => kp k 158 (ownTyS h.own hk) (by have := (h.own.lt k hk).1; omega) (by decide)), h.s0, by omega, h.rlt⟩

/-- a place more -/
theorem GW.place (h : GW w R B v S rows ac nc cc at' nt ct L ps vp wr) {p : Nat × Nat} {vp' : Value} (hg : wr.grownBy w1 vp.ownBlock) (ho : w1.ownsRow (S + 3) 158 2 vp' (ps ++ [p]).length (plsV (ps ++ [p]))) : GW w R B v S rows ac nc cc at' nt ct L (ps ++ [p]) vp' (w1.setCell ⟨S + 2, 1, none⟩ vp') ∧ w1.cell? ⟨S + 2, 1, none⟩ = some vp ∧ w1.frozen? ⟨S + 2, 1, none⟩ = false := by
  have hs := h.size
  have hR := h.rlt
  have hgs := hg.size
  obtain ⟨v1, o1, f1, g1⟩ := h.og
  have hvp : ∀ k, vp.ownBlock = some k → S + 3 ≤ k := fun k hk => (h.own.lt k hk).1
  have kp : ∀ k, k < wr.heap.size → vp.ownBlock ≠ some k → w1.heap[k]? = wr.heap[k]? := fun k hk hn => hg.block k hk (fun e => hn e.symm)
  have low : ∀ k, k < S + 3 → w1.heap[k]? = wr.heap[k]? := fun k hk => kp k (by omega) (fun e => by have := hvp k e; omega)
  have r9 : w1.heap[S + 2]? = some (.cells #[.int .i64 (rows : Int), vp] 105 (0, 0)) := by rw [low _ (by omega)]; exact h.t9
  have oth : ∀ k, k ≠ S + 2 → (w1.setCell ⟨S + 2, 1, none⟩ vp').heap[k]? = w1.heap[k]? := fun k hk => heap_setCell_other w1 _ k _ hk
  refine ⟨⟨⟨v1, ⟨?_, ?_⟩, ?_, g1⟩, ?_, ?_, ?_, ?_, h.s0, by rw [size_set]; omega, hR⟩, by rw [cell_of_row _ _ 1 _ _ _ r9]; rfl, frozen_of_row _ _ 1 _ _ r9⟩
  · rw [oth R (by omega), low R (by omega)]; exact o1.blk
  · refine own_agree o1.own (fun k hk => ?_)
    have t5 := own_ty o1.own hk
    rw [oth k (fun e => Ty.ne t5 ⟨_, by rw [e]; exact h.t9⟩ (by decide) rfl)]
    exact kp k t5.lt (fun e => Ty.ne t5 (ownTyS h.own e) (by decide) rfl)
  · refine ⟨hg.os.trans f1.os, hg.tape.trans f1.tape, hg.output.trans f1.output, by rw [size_set]; have := f1.size; omega, fun k hk hn => ?_⟩
    have := h.s0
    rw [oth k (by omega), low k (by omega)]
    exact f1.block k hk hn
  · rw [oth S (by omega), low S (by omega)]; exact h.t5
  · rw [oth (S + 1) (by omega), low (S + 1) (by omega)]; exact h.t8
  · rw [heap_setCell_same w1 (S + 2) 1 _ _ _ r9]; rfl
  · exact own_agreeS ho (fun k hk => oth k (by have := (ho.lt k hk).1; omega))
end

/-- a column of a list -/
theorem Rs.col3 {w : World} {lb : Nat} {ao : Option Addr} {cap : Nat} {l : List Pu.Col} (h : Rs w 3 lb ao l.length cap (colsV l)) (k : Nat) (hk : k < l.length) :
    ∃ o, ao = some ⟨lb, o, none⟩ ∧ w.cell? ⟨lb, o + k * 3, none⟩ = some (strV l[k].name) ∧ w.cell? ⟨lb, o + k * 3 + 1, none⟩ = some (.int .i64 (l[k].kind : Int)) ∧ w.cell? ⟨lb, o + k * 3 + 2, none⟩ = some (.bool l[k].opt) := by
  obtain ⟨o, rfl, hc⟩ := h.at (by omega)
  have hl := length_colsV l
  have hh : ∀ j, (hj : j < 3) → ∀ u, (colV l[k])[j]? = some u → w.cell? ⟨lb, o + (k * 3 + j), none⟩ = some u := fun j hj u hu => by
    rw [hc (k * 3 + j) (by omega)]
    have := colsV_at l k j hk hj
    rw [List.getElem?_eq_getElem (by omega), hu] at this
    exact this
  exact ⟨o, rfl, hh 0 (by omega) _ rfl, hh 1 (by omega) _ rfl, hh 2 (by omega) _ rfl⟩

/-- one column's round -/
structure GRound (w : World) (R B : Nat) (v : Value) (S rows fr to n N : Nat) (ac : Option Addr) (cc : Nat) (at' : Option Addr) (ct : Nat) (lbc lbt k : Nat) (L1 L2 : List UInt8) (ps : List (Nat × Nat)) (vp : Value) (q : Nat) (nm : ByteArray) (kind : Nat) (opt : Bool) (oc ot oi lbi ci : Nat) (wr Wc : World) : Prop where
  hac : ac = some ⟨lbc, oc, none⟩
  hat : at' = some ⟨lbt, ot, none⟩
  c0 : wr.cell? ⟨lbc, oc + k * 3, none⟩ = some (.string nm)
  c1 : wr.cell? ⟨lbc, oc + k * 3 + 1, none⟩ = some (.int .i64 (kind : Int))
  c2 : wr.cell? ⟨lbc, oc + k * 3 + 2, none⟩ = some (.bool opt)
  nci : n ≤ ci
  hW : wr.alloc (.cells #[.string nm, .int .i64 (kind : Int), .bool opt] 45) = Wc
  size : Calls Try.prog 89 #[.pointer (some ⟨R, 0, none⟩)] Wc fun e w' => e = .returned (.int .i64 (L1.length : Int)) ∧ w' = Wc
  cells : ∀ W : World, (∀ j, j < Wc.heap.size → j ≠ R → (∀ e, Ty Wc j e → e ≠ 5) → W.heap[j]? = Wc.heap[j]?) → W.cell? ⟨wr.heap.size, 0, none⟩ = some (.string nm) ∧ W.cell? ⟨wr.heap.size, 1, none⟩ = some (.int .i64 (kind : Int)) ∧ W.cell? ⟨wr.heap.size, 2, none⟩ = some (.bool opt) ∧ W.cell? ⟨S, 1, none⟩ = some (.slice at' N ct)
  lst : Wc.cell? ⟨lbt, ot + k, none⟩ = some (.slice (some ⟨lbi, oi, none⟩) n ci)
  call : Calls Try.prog 90 #[.pointer (some ⟨R, 0, none⟩), .agg #[.string nm, .int .i64 (kind : Int), .bool opt], .slice (some ⟨lbi, oi + fr * 3, none⟩) (to - fr) (to - fr)] Wc.drew fun e w2 => e = .returned (.int .i64 (q : Int)) ∧ w2.cell? ⟨lbt, ot + k, none⟩ = some (.slice (some ⟨lbi, oi, none⟩) n ci) ∧ (∀ j, j < Wc.heap.size → j ≠ R → (∀ e, Ty Wc j e → e ≠ 5) → w2.heap[j]? = Wc.heap[j]?) ∧ GW w R B v S rows ac N cc at' N ct L2 ps vp w2

theorem gRound {R B Bt fr to n : Nat} {v : Value} {L : List UInt8} {ac : Option Addr} {cc : Nat} {at' : Option Addr} {ct : Nat} {cs : List Pu.Col} {ts : List (List Pu.Cl)} {lbc lbt : Nat} {vs : List Value} {w : World} {S rows N : Nat} (h : OS w R B v L) (hB : B ≤ w.heap.size) (hT : TB w Bt ac cc at' ct cs ts lbc lbt vs) (hBR : Bt ≤ R) (hBB : Bt ≤ B)
    (hcs : cs.length = N) (hts : ts.length = N) (hn : ∀ t ∈ ts, t.length = n) (hft : fr < to) (htn : to ≤ n) (hn5 : n ≤ 100000) (hkind : ∀ c ∈ cs, c.kind ≤ 2) (hok : ∀ i, (h1 : i < cs.length) → (h2 : i < ts.length) → CellsOk cs[i].kind (segL fr to ts[i]))
    {k : Nat} (hk : k < N) {L1 : List UInt8} {ps : List (Nat × Nat)} {vp : Value} {wr : World} (hG : GW w R B v S rows ac N cc at' N ct L1 ps vp wr) (hs : L1.length + 5000000000 ≤ 140737488355328) :
    ∃ (nm : ByteArray) (kind : Nat) (opt : Bool) (oc ot oi lbi ci : Nat) (Wc : World), GRound w R B v S rows fr to n N ac cc at' ct lbc lbt k L1 (L1 ++ (partL cs[k].kind cs[k].opt (segL fr to ts[k])).1) ps vp (partL cs[k].kind cs[k].opt (segL fr to ts[k])).2 nm kind opt oc ot oi lbi ci wr Wc := by
  have hlow : ∀ j, j < Bt → wr.heap[j]? = w.heap[j]? := OG.low h hG.og hBR hBB
  have hT1 := hT.kept hlow
  have hRlt := hG.rlt
  have hsz := hG.size
  have hkc : k < cs.length := by omega
  have hkt : k < ts.length := by omega
  obtain ⟨oc, hac, c0, c1, c2⟩ := hT1.cols.col3 k hkc
  obtain ⟨ot, hat, hct⟩ := hT1.lists.at (by omega)
  obtain ⟨ai, ci, lbi, e1, e2, e3⟩ := hT1.each k hkt
  have hnt : ts[k].length = n := hn _ (List.getElem_mem hkt)
  obtain ⟨oi, rfl, hci⟩ := e2.at (by omega)
  have hvl : k < vs.length := (List.getElem?_eq_some_iff.1 e1).1
  have hlst : wr.cell? ⟨lbt, ot + k, none⟩ = some (.slice (some ⟨lbi, oi, none⟩) n ci) := by
    rw [hct k hvl]
    rw [List.getElem?_eq_getElem hvl, hnt] at e1
    exact e1
  obtain ⟨nm, hnm⟩ : ∃ nm : ByteArray, nm = ⟨cs[k].name.toArray⟩ := ⟨_, rfl⟩
  obtain ⟨Wc, hWc⟩ : ∃ Wc, Wc = wr.alloc (.cells #[.string nm, .int .i64 (cs[k].kind : Int), .bool cs[k].opt] 45) := ⟨_, rfl⟩
  have sWc : Wc.heap.size = wr.heap.size + 1 := by rw [hWc, size_alloc']
  have bWc : Below wr.heap.size wr Wc := by rw [hWc]; exact bbox wr _
  have GC := hG.below bWc
  obtain ⟨v1, o1, f1, g1⟩ := GC.og
  have rT : Wc.heap[wr.heap.size]? = some (.cells #[.string nm, .int .i64 (cs[k].kind : Int), .bool cs[k].opt] 45 (0, 0)) := by rw [hWc]; exact heap_alloc_new wr _
  refine ⟨nm, cs[k].kind, cs[k].opt, oc, ot, oi, lbi, ci, Wc, ⟨hac, hat, by rw [hnm]; exact c0, c1, c2, by have := e2.1; omega, hWc.symm, outSize_any R B v1 L1 Wc o1, fun W hW => ?_, ?_, ?_⟩⟩
  · have a1 : W.heap[wr.heap.size]? = some (.cells #[.string nm, .int .i64 (cs[k].kind : Int), .bool cs[k].opt] 45 (0, 0)) := by
      rw [hW _ (by omega) (by omega) (fun e ht he => by subst he; exact Ty.ne ht ⟨_, rT⟩ (by decide) rfl)]; exact rT
    have a2 : W.heap[S]? = some (.cells #[.slice ac N cc, .slice at' N ct] 50 (0, 0)) := by
      rw [hW _ (by omega) (by omega) (fun e ht he => by subst he; exact Ty.ne ht ⟨_, GC.t5⟩ (by decide) rfl)]; exact GC.t5
    exact ⟨by rw [cell_of_row _ _ 0 _ _ _ a1]; rfl, by rw [cell_of_row _ _ 1 _ _ _ a1]; rfl, by rw [cell_of_row _ _ 2 _ _ _ a1]; rfl, by rw [cell_of_row _ _ 1 _ _ _ a2]; rfl⟩
  · have hl0 := hT.lbt
    rw [World.cell?_of_block (w := wr) (a := ⟨lbt, ot + k, none⟩) (bWc.block lbt (by omega))]; exact hlst
  · have od : OS Wc.drew R B v1 L1 := ⟨o1.blk, o1.own⟩
    have e2c : Rs Wc.drew 3 lbi (some ⟨lbi, oi, none⟩) n ci (clsV ts[k]) := by
      have := e2.kept (w' := Wc.drew) (bWc.block _ (by omega))
      rw [hnt] at this; exact this
    have hseg := e2c.seg (by omega) hft htn
    have hlseg := length_segL fr to ts[k] (by omega) (by omega)
    have hblk : ∀ j, j < Bt → j ≠ R ∧ v1.ownBlock ≠ some j := fun j hj => ⟨by omega, fun e => by have := (o1.own.lt j e).1; omega⟩
    have key := writePart_any R B lbi (to - fr) cs[k].kind cs[k].opt nm v1 L1 (segL fr to ts[k]) (some ⟨lbi, oi + fr * 3, none⟩) Wc.drew od (by have := GC.s0; show B ≤ Wc.heap.size; omega) (by rw [hlseg]; exact hseg) (by show lbi < Wc.heap.size; omega) (hblk lbi e3).1 (hblk lbi e3).2 (by omega) (hkind _ (List.getElem_mem hkc)) (hok k hkc hkt) (by omega)
    rw [hlseg] at key
    refine key.mono ?_
    rintro e w2 ⟨rfl, hg⟩
    have hgW : OG Wc R B v1 (L1 ++ (partL cs[k].kind cs[k].opt (segL fr to ts[k])).1) w2 := by
      obtain ⟨v2, o2, f2, g2⟩ := hg
      exact ⟨v2, o2, ⟨f2.os, f2.tape, f2.output, f2.size, f2.block⟩, g2⟩
    refine ⟨rfl, ?_, fun j hj hjR hty => hgW.blk hj hjR (fun e => hty 5 (own_ty o1.own e) rfl), ?_⟩
    · have hl0 := hT.lbt
      rw [World.cell?_of_block (w := Wc) (a := ⟨lbt, ot + k, none⟩) (hgW.blk (k := lbt) (by omega) (hblk lbt hT.lbt).1 (hblk lbt hT.lbt).2), World.cell?_of_block (w := wr) (a := ⟨lbt, ot + k, none⟩) (bWc.block lbt (by omega))]
      exact hlst
    · refine GC.write (fun v2 o2 => ?_)
      have := Option.some.inj (o1.c0.symm.trans o2.c0)
      rw [← this]; exact hgW

set_option maxHeartbeats 8000000 in
set_option maxRecDepth 100000 in
theorem writeGroup_any (R B Bt fr to n : Nat) (v : Value) (L : List UInt8) (ac : Option Addr) (cc : Nat) (at' : Option Addr) (ct : Nat) (cs : List Pu.Col) (ts : List (List Pu.Cl)) (lbc lbt : Nat) (vs : List Value) (w : World) (h : OS w R B v L) (hB : B ≤ w.heap.size) (hT : TB w Bt ac cc at' ct cs ts lbc lbt vs) (hBR : Bt ≤ R) (hBB : Bt ≤ B)
    (hcs : cs.length = ts.length) (hc20 : cs.length ≤ 20) (hn : ∀ t ∈ ts, t.length = n) (hft : fr < to) (htn : to ≤ n) (hn5 : n ≤ 100000) (hkind : ∀ c ∈ cs, c.kind ≤ 2) (hok : ∀ i, (h1 : i < cs.length) → (h2 : i < ts.length) → CellsOk cs[i].kind (segL fr to ts[i])) (hs : L.length + 100000000000 ≤ 140737488355328) :
    Calls Try.prog 72 #[.pointer (some ⟨R, 0, none⟩), .agg #[.slice ac cs.length cc, .slice at' ts.length ct], .int .i64 fr, .int .i64 to] w fun e w' => ∃ vp, e = .returned (.agg #[.int .i64 ((to - fr : Nat) : Int), vp]) ∧ OG w R B v (grpW cs ts fr to L).1 w' ∧ w'.ownsRow w.heap.size 158 2 vp (grpW cs ts fr to L).2.length (plsV (grpW cs ts fr to L).2) := by
  obtain ⟨S, hS⟩ : ∃ S, S = w.heap.size := ⟨_, rfl⟩
  obtain ⟨rows, hrows⟩ : ∃ rows, rows = to - fr := ⟨_, rfl⟩
  obtain ⟨N, hN⟩ : ∃ N, N = cs.length := ⟨_, rfl⟩
  have hNt : ts.length = N := by omega
  obtain ⟨W1, hW1⟩ : ∃ W1, W1 = w.alloc (.cells #[.slice ac N cc, .slice at' N ct] 50) := ⟨_, rfl⟩
  have s1 : W1.heap.size = S + 1 := by rw [hW1, size_alloc', hS]
  obtain ⟨W2, hW2⟩ : ∃ W2, W2 = W1.alloc (.cells #[.int .i64 0, .slice none 0 0] 105) := ⟨_, rfl⟩
  have s2 : W2.heap.size = S + 2 := by rw [hW2, size_alloc', s1]
  obtain ⟨W3, hW3⟩ : ∃ W3, W3 = W2.alloc (.cells #[.int .i64 (rows : Int), .slice none 0 0] 105) := ⟨_, rfl⟩
  have s3 : W3.heap.size = S + 3 := by rw [hW3, size_alloc', s2]
  have b3 : Below w.heap.size w W3 := by
    rw [hW3, hW2, hW1]
    exact (((Below.refl _ _).alloc (Nat.le_refl _) _).alloc (by rw [size_alloc']; omega) _).alloc (by rw [size_alloc', size_alloc']; omega) _
  have hRlt := h.lt
  have G0 : GW w R B v S rows ac N cc at' N ct L [] (.slice none 0 0) W3 := ⟨(OG.refl h).later b3, by rw [hW3, Below.heap_alloc W2 _ _ (by omega), hW2, Below.heap_alloc W1 _ _ (by omega), hW1, hS]; exact heap_alloc_new w _, by rw [hW3, Below.heap_alloc W2 _ _ (by omega), hW2, ← s1]; exact heap_alloc_new W1 _, by rw [hW3, ← s2]; exact heap_alloc_new W2 _, World.ownsRow_nil _ _ _ _, hS, by omega, by omega⟩
  have H0 : Hid (∃ vp, GW w R B v S rows ac N cc at' N ct (grpN cs ts fr to L 0).1 (grpN cs ts fr to L 0).2 vp W3) := ⟨_, G0⟩
  -- what the loop's round wants
  have HR : Hid (∀ (k : Nat) (wr : World) (vp : Value) (h1 : k < cs.length) (h2 : k < ts.length), GW w R B v S rows ac N cc at' N ct (grpN cs ts fr to L k).1 (grpN cs ts fr to L k).2 vp wr → ∃ (nm : ByteArray) (kind : Nat) (opt : Bool) (oc ot oi lbi ci : Nat) (Wc : World), GRound w R B v S rows fr to n N ac cc at' ct lbc lbt k (grpN cs ts fr to L k).1 (grpN cs ts fr to L (k + 1)).1 (grpN cs ts fr to L k).2 vp (partL cs[k].kind cs[k].opt (segL fr to ts[k])).2 nm kind opt oc ot oi lbi ci wr Wc) := fun k wr vp h1 h2 hG => by
    have hlen : ∀ k, k ≤ cs.length → (grpN cs ts fr to L k).1.length ≤ L.length + 500000000 * k := fun k => by
      induction k with
      | zero => intro _; exact Nat.le_refl _
      | succ k ih =>
        intro hk
        have ih := ih (by omega)
        rw [grpN_succ cs ts fr to L k (by omega) (by omega)]
        have hsl := length_segL fr to (ts[k]'(by omega)) (by rw [hn _ (List.getElem_mem _)]; exact htn) (by omega)
        have hp := length_partL (cs[k]'(by omega)).kind (cs[k]'(by omega)).opt (segL fr to (ts[k]'(by omega))) (by omega) (hok k (by omega) (by omega)).1
        show List.length (_ ++ _) ≤ _
        rw [List.length_append]
        simp only
        omega
    have hlk := hlen k (by omega)
    have := gRound h hB hT hBR hBB hN.symm (by omega) hn hft htn hn5 hkind hok (k := k) (by omega) hG (by omega)
    rw [grpN_succ cs ts fr to L k h1 h2]
    exact this
  have HE : Hid (∀ (k : Nat) (h1 : k < cs.length) (h2 : k < ts.length), (grpN cs ts fr to L (k + 1)).2 = (grpN cs ts fr to L k).2 ++ [((grpN cs ts fr to L k).1.length, (partL cs[k].kind cs[k].opt (segL fr to ts[k])).2)]) := fun k h1 h2 => by rw [grpN_succ cs ts fr to L k h1 h2]; rfl
  have HLen : Hid (∀ k, k ≤ N → (grpN cs ts fr to L k).2.length = k) := fun k hk => grpN_len cs ts fr to L k (by omega) (by omega)
  have HFin : Hid (grpN cs ts fr to L N = grpW cs ts fr to L) := by
    unfold Hid grpN grpW
    rw [List.take_of_length_le (by rw [List.length_zip]; omega)]
  have HNc : Hid (N = cs.length ∧ N = ts.length) := ⟨hN, hNt.symm⟩
  rw [hNt, ← hN]
  have hc20' : N ≤ 20 := by omega
  have e1 : w.alloc (.cells #[.slice ac N cc, .slice at' N ct] 50) = W1 := hW1.symm
  have e2 : W1.alloc (.cells #[.int .i64 0, .slice none 0 0] 105) = W2 := hW2.symm
  rw [hW3] at H0
  have hsz : w.heap.size = S := hS.symm
  have er : (to : Int) - (fr : Int) = (rows : Int) := by omega
  have q5 : (W2.alloc (.cells #[.int .i64 (rows : Int), .slice none 0 0] 105)).cell? ⟨S, 0, none⟩ = some (.slice ac N cc) := by rw [← hW3, cell_of_row _ _ 0 _ _ _ G0.t5]; rfl
  have hft' : to - fr = rows := hrows.symm
  rw [← hrows, hsz]
  have htn5 : to ≤ 100000 := by omega
  clear h hT hn hkind hok hW1 hW2 hW3 hS hrows hN hNt hcs hc20 b3 G0 s3 hB hBR hBB hn5
  go_enter Try.func72, Try.ntmps72
  go_wp2
  go_loopw [21] (fun i wr => ∃ (k : Nat), k ≤ N ∧ i = .int .i64 k ∧ Hid (∃ vp, GW w R B v S rows ac N cc at' N ct (grpN cs ts fr to L k).1 (grpN cs ts fr to L k).2 vp wr))
    (fun i _ => N - (intOf i).toNat)
  case atStart => exact ⟨0, Nat.zero_le _, rfl, H0⟩
  case round =>
    obtain ⟨k, hk, rfl, HG⟩ := hrel
    by_cases hk2 : k < N
    · have hkc : k < cs.length := by rw [← HNc.out.1]; exact hk2
      have hkt : k < ts.length := by rw [← HNc.out.2]; exact hk2
      obtain ⟨vp, hG⟩ := HG.out
      obtain ⟨nm, kind, opt, oc, ot, oi, lbi, ci, Wc, gr⟩ := HR.out k wr vp hkc hkt hG
      have hstep := HE.out k hkc hkt
      obtain ⟨q, hq⟩ : ∃ q, q = (partL cs[k].kind cs[k].opt (segL fr to ts[k])).2 := ⟨_, rfl⟩
      rw [← hq] at gr hstep
      obtain ⟨M1, hM1⟩ : ∃ M1, M1 = (grpN cs ts fr to L k).1 := ⟨_, rfl⟩
      obtain ⟨ps, hps⟩ : ∃ ps, ps = (grpN cs ts fr to L k).2 := ⟨_, rfl⟩
      rw [← hM1, ← hps] at gr hstep
      have hpl : ps.length = k := by rw [hps]; exact HLen.out k hk
      obtain ⟨ln, hln⟩ : ∃ ln, ln = M1.length := ⟨_, rfl⟩
      obtain ⟨hac, hat, c0, c1, c2, nci, hW, csize, ccells, clst, ccall⟩ := gr
      subst hac hat
      rw [← hln] at csize hstep
      have CS := hid csize
      have CC := hid ccells
      rw [hft'] at ccall
      have CA := hid ccall
      obtain ⟨y0, y1, y2, y3⟩ := ccells Wc (fun _ _ _ _ => rfl)
      have hl1 : Wc.cell? ⟨lbt, ot + k, none⟩ = some (.slice (some ⟨lbi, oi, none⟩) n ci) := clst
      have HPl : Hid (∀ (w2 : World), GW w R B v S rows (some ⟨lbc, oc, none⟩) N cc (some ⟨lbt, ot, none⟩) N ct (grpN cs ts fr to L (k + 1)).1 ps vp w2 → w2.cell? ⟨S + 2, 1, none⟩ = some vp ∧ (∃ av cv, vp = .slice av ps.length cv) ∧ w2.ownsRow (S + 3) 158 2 vp ps.length (plsV ps) ∧ S + 3 ≤ w2.heap.size ∧
          ∀ (a1 : Option Addr) (c1 : Nat) (w3 : World), w3.ownsRow (S + 3) 158 2 (.slice a1 (ps.length + 1) c1) (ps.length + 1) (plsV ps ++ [.int .i64 (ln : Int), .int .i64 (q : Int)]) → w2.grownBy w3 vp.ownBlock → (∃ vp, GW w R B v S rows (some ⟨lbc, oc, none⟩) N cc (some ⟨lbt, ot, none⟩) N ct (grpN cs ts fr to L (k + 1)).1 (grpN cs ts fr to L (k + 1)).2 vp (w3.setCell ⟨S + 2, 1, none⟩ (.slice a1 (ps.length + 1) c1))) ∧ w3.cell? ⟨S + 2, 1, none⟩ = some vp ∧ w3.frozen? ⟨S + 2, 1, none⟩ = false) := fun w2 g2 => by
        refine ⟨by rw [cell_of_row _ _ 1 _ _ _ g2.t9]; rfl, slen_of g2.own, g2.own, g2.size, fun a1 c1 w3 own gr => ?_⟩
        have := g2.place (p := (ln, q)) (vp' := .slice a1 (ps.length + 1) c1) gr (by rw [List.length_append, plsV_snoc]; exact own)
        rw [hstep]
        exact ⟨⟨_, this.1⟩, this.2⟩
      obtain ⟨i158, hi8, hz8, hz8', hz8''⟩ := info_parts Try.info158
      obtain ⟨np, hnp⟩ : ∃ np, np = ps.length := ⟨_, rfl⟩
      rw [← hnp] at HPl hpl
      have hnp20 : np ≤ 20 := by omega
      have htc : to ≤ ci := by omega
      have hft2 : fr ≤ to := by omega
      have hne : ¬ to = fr := by omega
      clear csize ccells ccall clst hG HG hstep hq hM1 hps hln hnp hpl HR HE
      go_wp2_with fail
      refine CS.out.mono ?_
      rintro e w' ⟨rfl, hw'⟩
      subst w'
      go_wp2
      go_region_held3 (fun W => W.cell? ⟨wr.heap.size, 0, none⟩ = some (.string nm) ∧ W.cell? ⟨wr.heap.size, 1, none⟩ = some (.int .i64 (kind : Int)) ∧ W.cell? ⟨wr.heap.size, 2, none⟩ = some (.bool opt) ∧ W.cell? ⟨S, 1, none⟩ = some (.slice (some ⟨lbt, ot, none⟩) N ct) ∧ W.cell? ⟨lbt, ot + k, none⟩ = some (.slice (some ⟨lbi, oi, none⟩) n ci)) (first | exact ⟨y0, y1, y2, y3, hl1⟩ | exact ⟨z0, z1, z2, z3, hl2⟩)
        (first
          | (go_at_call 90; refine CA.out.mono ?_; rintro e w2 ⟨rfl, hl2, hkp, hG2⟩; obtain ⟨z0, z1, z2, z3⟩ := CC.out w2 hkp; have HG2 := hid hG2; clear hG2))
      obtain ⟨x0, ⟨av, cv, rfl⟩, x1, x2, x3⟩ := HPl.out w2 HG2.out
      have OP := hid x1
      have HX := hid x3
      clear x1 x3 HPl HG2
      go_wp2_with (first
        | (at_builtin; refine wpList_push rfl (.tmp 41) (.tmp 45) 103 rfl rfl Try.underlying103 hi8 hz8 hz8' hz8'' rfl OP.out #[.int .i64 (ln : Int), .int .i64 (q : Int)] rfl (by intro u hu; simp at hu; rcases hu with rfl | rfl <;> rfl) (by unfold maxLen; omega) (by omega) x2 rfl rfl ?_; intro a1 c1' w3 own3 gr3 lies3; obtain ⟨hr3, x4, x5⟩ := HX.out a1 c1' w3 own3 gr3; clear own3 gr3 lies3; have HR3 := hid hr3; clear hr3)
        | go_in)
      go_roundw
      case rel => exact ⟨k + 1, by omega, by go_num, HR3⟩
      case measure => simp [intOf]; omega
    · obtain rfl : k = N := by omega
      obtain ⟨vp, hG⟩ := HG.out
      have hfin := HFin.out
      rw [hfin] at hG
      have hpl : (grpW cs ts fr to L).2.length = k := by rw [← hfin]; exact HLen.out k (Nat.le_refl _)
      obtain ⟨av, cv, rfl⟩ := slen_of hG.own
      obtain ⟨np, hnp⟩ : ∃ np, np = (grpW cs ts fr to L).2.length := ⟨_, rfl⟩
      rw [← hnp] at hG
      have q9a : wr.cell? ⟨S + 2, 0, none⟩ = some (.int .i64 (rows : Int)) := by rw [cell_of_row _ _ 0 _ _ _ hG.t9]; rfl
      have q9b : wr.cell? ⟨S + 2, 1, none⟩ = some (.slice av np cv) := by rw [cell_of_row _ _ 1 _ _ _ hG.t9]; rfl
      have q8a : wr.cell? ⟨S + 1, 0, none⟩ = some (.int .i64 0) := by rw [cell_of_row _ _ 0 _ _ _ hG.t8]; rfl
      have q8b : wr.cell? ⟨S + 1, 1, none⟩ = some (.slice none 0 0) := by rw [cell_of_row _ _ 1 _ _ _ hG.t8]; rfl
      have f8a := frozen_of_row _ _ 0 _ _ hG.t8
      have f8b := frozen_of_row _ _ 1 _ _ hG.t8
      obtain ⟨F, hF⟩ : ∃ F, F = (wr.setCell ⟨S + 1, 0, none⟩ (.int .i64 (rows : Int))).setCell ⟨S + 1, 1, none⟩ (.slice av np cv) := ⟨_, rfl⟩
      have r1 : (wr.setCell ⟨S + 1, 0, none⟩ (.int .i64 (rows : Int))).heap[S + 1]? = some (.cells #[.int .i64 (rows : Int), .slice none 0 0] 105 (0, 0)) := by rw [heap_setCell_same wr (S + 1) 0 _ _ _ hG.t8]; rfl
      have r2 : F.heap[S + 1]? = some (.cells #[.int .i64 (rows : Int), .slice av np cv] 105 (0, 0)) := by rw [hF, heap_setCell_same _ (S + 1) 1 _ _ _ r1]; rfl
      have oth : ∀ j, j ≠ S + 1 → F.heap[j]? = wr.heap[j]? := fun j hj => by rw [hF, heap_setCell_other _ _ j _ hj, heap_setCell_other _ _ j _ hj]
      have p0 : F.cell? ⟨S + 1, 0, none⟩ = some (.int .i64 (rows : Int)) := by rw [cell_of_row _ _ 0 _ _ _ r2]; rfl
      have p1 : F.cell? ⟨S + 1, 1, none⟩ = some (.slice av np cv) := by rw [cell_of_row _ _ 1 _ _ _ r2]; rfl
      have hFs : F.heap.size = wr.heap.size := by rw [hF, size_set, size_set]
      have hOG : OG w R B v (grpW cs ts fr to L).1 F := by
        obtain ⟨v1, o1, f1, g1⟩ := hG.og
        have hRl := hG.rlt
        have hs0 := hG.s0
        refine ⟨v1, o1.kept (oth R (by omega)) (fun j hj => oth j (fun e => Ty.ne (own_ty o1.own hj) (show Ty wr j 105 from by rw [e]; exact ⟨_, hG.t8⟩) (by decide) rfl)), ⟨by rw [hF]; exact f1.os, by rw [hF]; exact f1.tape, by rw [hF]; exact f1.output, by rw [hFs]; exact f1.size, fun j hj hn => by rw [oth j (by omega)]; exact f1.block j hj hn⟩, g1⟩
      have hOW : F.ownsRow S 158 2 (.slice av np cv) (grpW cs ts fr to L).2.length (plsV (grpW cs ts fr to L).2) := own_agreeS (hG.own.mono (by omega)) (fun j hj => oth j (by have := (hG.own.lt j hj).1; omega))
      have HF := hid (show ∃ vp, Ending.returned (.agg #[.int .i64 (rows : Int), .slice av np cv]) = Ending.returned (.agg #[.int .i64 (rows : Int), vp]) ∧ OG w R B v (grpW cs ts fr to L).1 F ∧ F.ownsRow S 158 2 vp (grpW cs ts fr to L).2.length (plsV (grpW cs ts fr to L).2) from ⟨_, rfl, hOG, hOW⟩)
      have hF' : (wr.setCell ⟨S + 1, 0, none⟩ (.int .i64 (rows : Int))).setCell ⟨S + 1, 1, none⟩ (.slice av np cv) = F := hF.symm
      clear hG HG hOG hOW r1 r2 oth hF hFs hpl hnp hfin HFin
      go_wp2
      exact bodyPost_ret (v := .agg #[.int .i64 (rows : Int), .slice av np cv]) (by simp [results, Try.results72, go_sem, p0, p1]) rfl HF.out
end Go.Proofs.Ytjobhlncllfdmaa
