/- A table that comes in: its columns, its lists, their bulk. -/
import Derived.Test.YtjobhlncllfdmaaM31
import Derived.Test.YtjobhlncllfdmaaRows
import Derived.Deep.Slices
import Derived.OpenShut
namespace Go.Proofs.Ytjobhlncllfdmaa
open Go.RowKit Go.Deep Go.ChangeShapes Go.WideShapes

theorem under45 : (match Try.prog.underlying 45 with
    | some (.struct fs) => some (fs.toList.map (fun f => (f.type, f.offset)))
    | _ => none) = some [(9, 0), (43, 1), (4, 2)] := by kernel_rfl
theorem under66 : (match Try.prog.underlying 66 with
    | some (.struct fs) => some (fs.toList.map (fun f => (f.type, f.offset)))
    | _ => none) = some [(4, 0), (3, 1), (9, 2)] := by kernel_rfl
theorem under50 : (match Try.prog.underlying 50 with
    | some (.struct fs) => some (fs.toList.map (fun f => (f.type, f.offset)))
    | _ => none) = some [(37, 0), (28, 1)] := by kernel_rfl
theorem cells45 : Try.prog.cellsOf 45 = 3 := by kernel_rfl
theorem cells66 : Try.prog.cellsOf 66 = 3 := by kernel_rfl
theorem cells64 : Try.prog.cellsOf 64 = 1 := by kernel_rfl
theorem cells37 : Try.prog.cellsOf 37 = 1 := by kernel_rfl
theorem cells28 : Try.prog.cellsOf 28 = 1 := by kernel_rfl
theorem cells50 : Try.prog.cellsOf 50 = 2 := by kernel_rfl
theorem cells9 : Try.prog.cellsOf 9 = 1 := by kernel_rfl
theorem cells43 : Try.prog.cellsOf 43 = 1 := by kernel_rfl
theorem cells3 : Try.prog.cellsOf 3 = 1 := by kernel_rfl
theorem cells4 : Try.prog.cellsOf 4 = 1 := by kernel_rfl

def rcD {H : Type} (c : RC) : DataW H := .agg [.lit (.string c.1), .lit (.int .i64 c.2.1), .lit (.bool c.2.2)]
def clD {H : Type} (c : Pu.Cl) : DataW H := .agg [.lit (.bool c.null), .lit (.int .i64 c.n), .lit (.string c.s)]

/-- a table as it comes in, whatever is empty may lie anywhere -/
structure TI (w : World) (Bt : Nat) (ac : Option Addr) (cc : Nat) (at' : Option Addr) (ct : Nat) (rs : List RC) (ts : List (List Pu.Cl)) (vs : List Value) : Prop where
  cols : ∃ lb, Rs w 3 lb ac rs.length cc (rcsV rs) ∧ (0 < rs.length → lb < Bt)
  lists : ∃ lb, Rs w 1 lb at' ts.length ct vs ∧ (0 < ts.length → lb < Bt)
  each : ∀ i, (h : i < ts.length) → ∃ ai ci lbi, vs[i]? = some (.slice ai ts[i].length ci) ∧ Rs w 3 lbi ai ts[i].length ci (clsV ts[i]) ∧ (0 < ts[i].length → lbi < Bt)
  names : ∀ c ∈ rs, c.1.length ≤ 1048576
  texts : ∀ t ∈ ts, t.length ≤ 1048576 ∧ ∀ c ∈ t, c.s.length ≤ 1048576
  few : rs.length ≤ 1048576
  fewT : ts.length ≤ 1048576

theorem Rs.empty {w : World} {sz lb : Nat} {ao : Option Addr} {n cap : Nat} {xs : List Value} (h : Rs w sz lb ao n cap xs) (hn : n = 0) (lb' : Nat) : Rs w sz lb' ao n cap xs := ⟨h.1, h.2.1, h.2.2.1, .inl hn⟩
theorem Rs.place {w : World} {sz lb : Nat} {ao : Option Addr} {n cap : Nat} {xs : List Value} {Bt S : Nat} (h : Rs w sz lb ao n cap xs) (hb : 0 < n → lb < Bt) (hS : Bt ≤ S) (h1 : 1 ≤ S) : ∃ lb', Rs w sz lb' ao n cap xs ∧ lb' < S := by
  by_cases hn : n = 0
  · exact ⟨0, h.empty hn 0, by omega⟩
  · exact ⟨lb, h, by have := hb (by omega); omega⟩

theorem TI.tr {w : World} {Bt S : Nat} {ac : Option Addr} {cc : Nat} {at' : Option Addr} {ct : Nat} {rs : List RC} {ts : List (List Pu.Cl)} {vs : List Value} (h : TI w Bt ac cc at' ct rs ts vs) (hS : Bt ≤ S) (h1 : 1 ≤ S) : ∃ lbc lbt, TR w S ac cc at' ct rs ts lbc lbt vs := by
  obtain ⟨l1, a1, b1⟩ := h.cols
  obtain ⟨l2, a2, b2⟩ := h.lists
  obtain ⟨m1, c1, d1⟩ := a1.place b1 hS h1
  obtain ⟨m2, c2, d2⟩ := a2.place b2 hS h1
  refine ⟨m1, m2, c1, d1, c2, d2, fun i hi => ?_, fun c hc => by have := h.names c hc; omega, fun t ht => ⟨by have := (h.texts t ht).1; omega, fun c hc => by have := (h.texts t ht).2 c hc; omega⟩⟩
  obtain ⟨ai, ci, lbi, e1, e2, e3⟩ := h.each i hi
  obtain ⟨m3, c3, d3⟩ := e2.place e3 hS h1
  exact ⟨ai, ci, m3, e1, c3, d3⟩

theorem Rs.kept' {w w' : World} {sz lb : Nat} {ao : Option Addr} {n cap : Nat} {xs : List Value} {Bt : Nat} (h : Rs w sz lb ao n cap xs) (hb : 0 < n → lb < Bt) (hw : ∀ k, k < Bt → w'.heap[k]? = w.heap[k]?) : Rs w' sz lb ao n cap xs := by
  by_cases hn : n = 0
  · exact ⟨h.1, h.2.1, h.2.2.1, .inl hn⟩
  · exact h.kept (hw _ (hb (by omega)))
theorem TI.kept {w w' : World} {Bt : Nat} {ac : Option Addr} {cc : Nat} {at' : Option Addr} {ct : Nat} {rs : List RC} {ts : List (List Pu.Cl)} {vs : List Value} (h : TI w Bt ac cc at' ct rs ts vs) (hw : ∀ k, k < Bt → w'.heap[k]? = w.heap[k]?) : TI w' Bt ac cc at' ct rs ts vs := by
  obtain ⟨l1, a1, b1⟩ := h.cols
  obtain ⟨l2, a2, b2⟩ := h.lists
  refine ⟨⟨l1, a1.kept' b1 hw, b1⟩, ⟨l2, a2.kept' b2 hw, b2⟩, fun i hi => ?_, h.names, h.texts, h.few, h.fewT⟩
  obtain ⟨ai, ci, lbi, e1, e2, e3⟩ := h.each i hi
  exact ⟨ai, ci, lbi, e1, e2.kept' e3 hw, e3⟩

section
variable {H : Type} {enc : TypeId × Value → H} {w : World} {base : Nat} {spare : Nat → Bool} {held : Bool}

theorem arr3 {α : Type} (fs : Array α) (h : fs.toList.length = 3) : ∃ f0 f1 f2, fs = #[f0, f1, f2] := by
  obtain ⟨l⟩ := fs
  match l, h with
  | [a, b, c], _ => exact ⟨a, b, c, rfl⟩
theorem arr2 {α : Type} (fs : Array α) (h : fs.toList.length = 2) : ∃ f0 f1, fs = #[f0, f1] := by
  obtain ⟨l⟩ := fs
  match l, h with
  | [a, b], _ => exact ⟨a, b, rfl⟩
theorem bytes_eta (s : ByteArray) : (⟨s.data.toList.toArray⟩ : ByteArray) = s := rfl

set_option maxRecDepth 100000 in
theorem one_rc {n : Nat} {cs : List Value} {x : DataW H × List MemPlace} (h : DataW.trod enc Try.prog w base spare held n 45 cs = some x) : ∃ c : RC, cs = rcV c ∧ x.1 = rcD c := by
  have hu := under45
  split at hu
  · rename_i fs hfs
    simp only [Option.some.injEq] at hu
    obtain ⟨f0, f1, f2, hf⟩ := arr3 fs (by have := congrArg List.length hu; simpa using this)
    subst hf
    simp only [List.map_cons, List.map_nil, List.cons.injEq, Prod.mk.injEq, and_true] at hu
    obtain ⟨⟨a0, b0⟩, ⟨a1, b1⟩, a2, b2⟩ := hu
    obtain ⟨xs, k, _, hx, hl, hxl, hf⟩ := DataW.trod_struct hfs h
    have g0 := hf 0 f0 rfl
    have g1 := hf 1 f1 rfl
    have g2 := hf 2 f2 rfl
    rw [cells45] at hl
    rw [a0, b0, cells9] at g0
    rw [a1, b1, cells43] at g1
    rw [a2, b2, cells4] at g2
    match xs, hxl, cs, hl with
    | [y0, y1, y2], _, [v0, v1, v2], _ =>
      simp at g0 g1 g2
      obtain ⟨s, e1, e2, _⟩ := DataW.trod_string Try.underlying9 g0
      obtain ⟨z, e3, e4, _⟩ := DataW.trod_int Try.underlying43 g1
      obtain ⟨o, e5, e6⟩ := DataW.trod_bool Try.underlying4 g2
      simp only [List.cons.injEq, and_true] at e1 e3 e5
      subst e1 e3 e5
      refine ⟨(s.data.toList, z, o), rfl, ?_⟩
      rw [hx, e2, e4, e6]
      rfl
  · cases hu

set_option maxRecDepth 100000 in
theorem one_cl {n : Nat} {cs : List Value} {x : DataW H × List MemPlace} (h : DataW.trod enc Try.prog w base spare held n 66 cs = some x) : ∃ c : Pu.Cl, cs = clV c ∧ x.1 = clD c := by
  have hu := under66
  split at hu
  · rename_i fs hfs
    simp only [Option.some.injEq] at hu
    obtain ⟨f0, f1, f2, hf⟩ := arr3 fs (by have := congrArg List.length hu; simpa using this)
    subst hf
    simp only [List.map_cons, List.map_nil, List.cons.injEq, Prod.mk.injEq, and_true] at hu
    obtain ⟨⟨a0, b0⟩, ⟨a1, b1⟩, a2, b2⟩ := hu
    obtain ⟨xs, k, _, hx, hl, hxl, hf⟩ := DataW.trod_struct hfs h
    have g0 := hf 0 f0 rfl
    have g1 := hf 1 f1 rfl
    have g2 := hf 2 f2 rfl
    rw [cells66] at hl
    rw [a0, b0, cells4] at g0
    rw [a1, b1, cells3] at g1
    rw [a2, b2, cells9] at g2
    match xs, hxl, cs, hl with
    | [y0, y1, y2], _, [v0, v1, v2], _ =>
      simp at g0 g1 g2
      obtain ⟨o, e1, e2⟩ := DataW.trod_bool Try.underlying4 g0
      obtain ⟨z, e3, e4, _⟩ := DataW.trod_int Try.underlying3 g1
      obtain ⟨s, e5, e6, _⟩ := DataW.trod_string Try.underlying9 g2
      simp only [List.cons.injEq, and_true] at e1 e3 e5
      subst e1 e3 e5
      refine ⟨⟨o, z, s.data.toList⟩, rfl, ?_⟩
      rw [hx, e2, e4, e6]
      rfl
  · cases hu

theorem flat3_at {α : Type} (f : α → List Value) (hf : ∀ a, (f a).length = 3) (l : List α) (k j : Nat) (h : k < l.length) (hj : j < 3) : (l.flatMap f)[k * 3 + j]? = (f l[k])[j]? := by
  induction l generalizing k with
  | nil => simp at h
  | cons c r ih =>
    have hl := hf c
    rw [List.flatMap_cons]
    cases k with
    | zero => rw [List.getElem?_append_left (by omega)]; simp
    | succ k =>
      rw [List.getElem?_append_right (by omega), show (k + 1) * 3 + j - (f c).length = k * 3 + j by omega, ih k (by simpa using h)]
      simp
theorem flat3_len {α : Type} (f : α → List Value) (hf : ∀ a, (f a).length = 3) (l : List α) : (l.flatMap f).length = l.length * 3 := by
  induction l with
  | nil => rfl
  | cons c r ih => rw [List.flatMap_cons, List.length_append, ih, hf, List.length_cons]; omega

/-- a slice of elements of three cells -/
theorem open3 {α : Type} [Inhabited α] {t e : TypeId} {fuel : Nat} {cs : List Value} {x : DataW H × List MemPlace} (ht : Try.prog.underlying t = some (.slice e)) (hc : Try.prog.cellsOf e = 3) (f : α → List Value) (dat : α → DataW H) (hf3 : ∀ a, (f a).length = 3)
    (one : ∀ (n : Nat) (cs : List Value) (x : DataW H × List MemPlace), DataW.trod enc Try.prog w 0 (fun _ => true) true n e cs = some x → ∃ a, cs = f a ∧ x.1 = dat a)
    (h : DataW.trod enc Try.prog w 0 (fun _ => true) true fuel t cs = some x) :
    ∃ (ao : Option Addr) (cap : Nat) (l : List α), cs = [.slice ao l.length cap] ∧ (∃ lb, Rs w 3 lb ao l.length cap (l.flatMap f) ∧ (0 < l.length → lb < w.heap.size)) ∧ Rows.uptoBulkAll (l.map dat) ≤ Rows.uptoBulk x.1 := by
  rcases open_slice ht h with ⟨h0, hx⟩ | ⟨a, len, cap, m, n, D, Pl, hv, hb, hl, hm, hmm, hx, hi⟩
  · exact ⟨none, 0, [], h0, ⟨0, ⟨Nat.le_refl _, by unfold maxLen; omega, rfl, .inl rfl⟩, fun h => by simp at h⟩, by simp [Rows.uptoBulkAll]⟩
  · have hxd : x.1 = .slice ((List.range len).map D) ((List.range (m - len)).map fun j => D (len + j)) := by rw [hx]
    by_cases h0 : len = 0
    · subst h0
      exact ⟨some a, cap, [], hv, ⟨0, ⟨Nat.zero_le _, hm, rfl, .inl rfl⟩, fun h => by simp at h⟩, by simp [Rows.uptoBulkAll]⟩
    · have hlm : len ≤ m := by rw [hmm]; split <;> omega
      have each : ∀ i, i < len → ∃ c : α, (∀ j, j < 3 → ∀ u, (f c)[j]? = some u → w.cell? (a.add (i * 3 + j)) = some u) ∧ D i = dat c := fun i hlt => by
        obtain ⟨cs', h1, h2⟩ := hi i (by omega)
        rw [hc] at h1
        obtain ⟨_, _, hcell⟩ := World.cells?_some h1
        obtain ⟨c, rfl, hcd⟩ := one _ _ _ h2
        refine ⟨c, fun j hj u hu => ?_, hcd⟩
        have e0 := hcell j (by omega)
        rw [add_add] at e0
        rw [e0, hu]
      obtain ⟨g, hg⟩ := choose_lt each
      obtain ⟨b, off, spot⟩ := a
      have h00 : ∃ u, w.cell? ((⟨b, off, spot⟩ : Addr).add 0) = some u := by
        have hl3 := hf3 (g 0)
        have := (hg 0 (by omega)).1 0 (by omega) _ (List.getElem?_eq_getElem (by omega))
        exact ⟨_, by simpa using this⟩
      obtain ⟨u0, hu0⟩ := h00
      have hspot : spot = none := by simpa [Addr.add] using World.cell?_spot hu0
      subst hspot
      have hlen : ((List.range len).map g).length = len := by simp
      refine ⟨some ⟨b, off, none⟩, cap, (List.range len).map g, by rw [hlen]; exact hv, ⟨b, ⟨by rw [hlen]; exact hl, hm, flat3_len f hf3 _, .inr ⟨off, rfl, fun j hj => ?_⟩⟩, fun _ => ?_⟩, ?_⟩
      · have hj2 := hj
        rw [flat3_len f hf3, hlen] at hj2
        have hk : j / 3 < ((List.range len).map g).length := by rw [hlen]; omega
        have e1 := flat3_at f hf3 ((List.range len).map g) (j / 3) (j % 3) hk (by omega)
        rw [show j / 3 * 3 + j % 3 = j by omega, List.getElem?_eq_getElem hj] at e1
        have e2 : ((List.range len).map g)[j / 3] = g (j / 3) := by simp
        rw [e2] at e1
        have := (hg (j / 3) (by omega)).1 (j % 3) (by omega) _ e1.symm
        rw [show j / 3 * 3 + j % 3 = j by omega, add_plain] at this
        exact this
      · exact World.block_lt_of_cell? w ⟨b, off, none⟩ (by simpa [Addr.add] using hu0)
      · rw [hxd, show ((List.range len).map g).map dat = (List.range len).map D by
          rw [List.map_map]
          exact List.map_congr_left (fun i hi2 => ((hg i (by simpa using hi2)).2).symm)]
        simp only [Rows.uptoBulk]
        omega

theorem bulk_mem {d : DataW H} {l : List (DataW H)} (h : d ∈ l) : Rows.uptoBulk d ≤ Rows.uptoBulkAll l := by
  induction l with
  | nil => cases h
  | cons a r ih =>
    simp only [Rows.uptoBulkAll]
    rcases List.mem_cons.1 h with rfl | h
    · omega
    · have := ih h; omega
theorem bulk_len {α : Type} (dat : α → DataW H) (h1 : ∀ a, 1 ≤ Rows.uptoBulk (dat a)) (l : List α) : l.length ≤ Rows.uptoBulkAll (l.map dat) := by
  induction l with
  | nil => simp
  | cons a r ih =>
    simp only [List.map_cons, Rows.uptoBulkAll, List.length_cons]
    have := h1 a
    omega
theorem bulk_rc (c : RC) : c.1.length + 1 ≤ Rows.uptoBulk (rcD (H := H) c) := by
  simp only [rcD, Rows.uptoBulk, Rows.uptoBulkAll]; omega
theorem bulk_cl (c : Pu.Cl) : c.s.length + 1 ≤ Rows.uptoBulk (clD (H := H) c) := by
  simp only [clD, Rows.uptoBulk, Rows.uptoBulkAll]; omega
theorem bulk_pos (d : DataW H) : 0 ≤ Rows.uptoBulk d := Nat.zero_le _

set_option maxRecDepth 100000 in
/-- the lists of a table -/
theorem open_lists {fuel : Nat} {cs : List Value} {x : DataW H × List MemPlace} (h : DataW.trod enc Try.prog w 0 (fun _ => true) true fuel 28 cs = some x) :
    ∃ (at' : Option Addr) (ct : Nat) (ts : List (List Pu.Cl)) (vs : List Value), cs = [.slice at' ts.length ct] ∧ (∃ lb, Rs w 1 lb at' ts.length ct vs ∧ (0 < ts.length → lb < w.heap.size)) ∧
      (∀ i, (h : i < ts.length) → ∃ ai ci lbi, vs[i]? = some (.slice ai ts[i].length ci) ∧ Rs w 3 lbi ai ts[i].length ci (clsV ts[i]) ∧ (0 < ts[i].length → lbi < w.heap.size)) ∧
      (∀ t ∈ ts, Rows.uptoBulkAll (t.map (clD (H := H))) ≤ Rows.uptoBulk x.1) ∧ ts.length ≤ Rows.uptoBulk x.1 := by
  rcases open_slice1 Try.underlying28 cells64 h with ⟨h0, hx⟩ | ⟨a, len, cap, m, n, V, D, Pl, hv, hb, hl, hm, hmm, hx, hi⟩
  · exact ⟨none, 0, [], [], h0, ⟨0, ⟨Nat.le_refl _, by unfold maxLen; omega, rfl, .inl rfl⟩, fun h => by simp at h⟩, fun i hi => by simp at hi, fun t ht => absurd ht (by simp), by simp⟩
  · have hxd : x.1 = .slice ((List.range len).map D) ((List.range (m - len)).map fun j => D (len + j)) := by rw [hx]
    have hlm : len ≤ m := by rw [hmm]; split <;> omega
    have each : ∀ i, i < len → ∃ t : List Pu.Cl, (∃ ai ci lbi, V i = .slice ai t.length ci ∧ Rs w 3 lbi ai t.length ci (clsV t) ∧ (0 < t.length → lbi < w.heap.size)) ∧ Rows.uptoBulkAll (t.map (clD (H := H))) ≤ Rows.uptoBulk (D i) := fun i hlt => by
      obtain ⟨h1, h2⟩ := hi i (by omega)
      haveI : Inhabited Pu.Cl := ⟨⟨false, 0, []⟩⟩
      obtain ⟨ao, cp, l, e1, ⟨lb, e2, e3⟩, e4⟩ := open3 Try.underlying64 cells66 clV clD (fun _ => rfl) (fun n cs x h => one_cl h) h2
      simp only [List.cons.injEq, and_true] at e1
      exact ⟨l, ⟨ao, cp, lb, e1, e2, e3⟩, e4⟩
    obtain ⟨g, hg⟩ := choose_lt each
    have hlen : ((List.range len).map g).length = len := by simp
    have hpos : ∀ i, i < len → 1 ≤ Rows.uptoBulk (D i) := fun i hlt => by
      obtain ⟨_, h2⟩ := hi i (by omega)
      rcases open_slice Try.underlying64 h2 with ⟨_, hx⟩ | ⟨_, _, _, _, _, _, _, _, _, _, _, _, hx, _⟩
      · have : D i = .nil := congrArg Prod.fst hx
        rw [this]; simp [Rows.uptoBulk]
      · have := congrArg Prod.fst hx
        simp only at this
        rw [this]; simp [Rows.uptoBulk]
    have hbl : ∀ k, k ≤ len → k ≤ Rows.uptoBulkAll ((List.range k).map D) := fun k => by
      induction k with
      | zero => intro _; exact Nat.zero_le _
      | succ k ih =>
        intro hk
        have h1 := ih (by omega)
        have h2 := hpos k (by omega)
        have h3 : ∀ (a b : List (DataW H)), Rows.uptoBulkAll (a ++ b) = Rows.uptoBulkAll a + Rows.uptoBulkAll b := fun a b => by
          induction a with
          | nil => simp [Rows.uptoBulkAll]
          | cons c r ih => simp only [List.cons_append, Rows.uptoBulkAll, ih]; omega
        rw [List.range_succ, List.map_append, h3]
        simp only [List.map_cons, List.map_nil, Rows.uptoBulkAll]
        omega
    have htx : ∀ t ∈ (List.range len).map g, Rows.uptoBulkAll (t.map (clD (H := H))) ≤ Rows.uptoBulk x.1 := fun t ht => by
      obtain ⟨i, hi2, rfl⟩ := List.mem_map.1 ht
      have hil : i < len := by simpa using hi2
      have h1 := (hg i hil).2
      have h2 : Rows.uptoBulk (D i) ≤ Rows.uptoBulkAll ((List.range len).map D) := bulk_mem (List.mem_map.2 ⟨i, hi2, rfl⟩)
      rw [hxd]
      simp only [Rows.uptoBulk]
      omega
    have hfew : len ≤ Rows.uptoBulk x.1 := by
      rw [hxd]
      have := hbl len (Nat.le_refl _)
      simp only [Rows.uptoBulk]
      omega
    have hea : ∀ i, (h : i < ((List.range len).map g).length) → ∃ ai ci lbi, ((List.range len).map V)[i]? = some (.slice ai ((List.range len).map g)[i].length ci) ∧ Rs w 3 lbi ai ((List.range len).map g)[i].length ci (clsV ((List.range len).map g)[i]) ∧ (0 < ((List.range len).map g)[i].length → lbi < w.heap.size) := fun i hi2 => by
      have hil : i < len := by rw [hlen] at hi2; exact hi2
      obtain ⟨⟨ai, ci, lbi, e1, e2, e3⟩, _⟩ := hg i hil
      have e : ((List.range len).map g)[i] = g i := by simp
      rw [e]
      exact ⟨ai, ci, lbi, by rw [List.getElem?_map, List.getElem?_range hil]; simp [e1], e2, e3⟩
    by_cases h0 : len = 0
    · refine ⟨some a, cap, (List.range len).map g, (List.range len).map V, by rw [hlen]; exact hv, ⟨0, ⟨by rw [hlen]; exact hl, hm, by simp, .inl (by rw [hlen]; exact h0)⟩, fun h => by rw [hlen] at h; omega⟩, hea, htx, by rw [hlen]; exact hfew⟩
    · obtain ⟨b, off, spot⟩ := a
      have hspot : spot = none := by simpa [Addr.add] using World.cell?_spot (hi 0 (by omega)).1
      subst hspot
      refine ⟨some ⟨b, off, none⟩, cap, (List.range len).map g, (List.range len).map V, by rw [hlen]; exact hv, ⟨b, ⟨by rw [hlen]; exact hl, hm, by simp, .inr ⟨off, rfl, fun j hj => ?_⟩⟩, fun _ => ?_⟩, hea, htx, by rw [hlen]; exact hfew⟩
      · have hjl : j < len := by simpa using hj
        have := (hi j (by omega)).1
        rw [add_plain] at this
        rw [this]; simp
      · exact World.block_lt_of_cell? w ⟨b, off, none⟩ (by have := (hi 0 (by omega)).1; simpa [Addr.add] using this)

set_option maxRecDepth 100000 in
/-- the table -/
theorem open_table {v : Value} {d : DataW H} {ps : List MemPlace} {r : Reach} {b0 : Nat} (hval : Value.okWide Try.prog w r b0 50 v) (h : DataW.Trod enc Try.prog w 0 (fun _ => true) true 50 v d ps) (hb : Rows.uptoBulk d ≤ 1048576) :
    ∃ (ac : Option Addr) (cc : Nat) (at' : Option Addr) (ct : Nat) (rs : List RC) (ts : List (List Pu.Cl)) (vs : List Value), v = .agg #[.slice ac rs.length cc, .slice at' ts.length ct] ∧ TI w w.heap.size ac cc at' ct rs ts vs := by
  obtain ⟨fuel, h⟩ := h
  have hu := under50
  split at hu
  · rename_i fs hfs
    simp only [Option.some.injEq] at hu
    obtain ⟨f0, f1, hf⟩ := arr2 fs (by have := congrArg List.length hu; simpa using this)
    subst hf
    simp only [List.map_cons, List.map_nil, List.cons.injEq, Prod.mk.injEq, and_true] at hu
    obtain ⟨⟨a0, b0'⟩, a1, b1⟩ := hu
    obtain ⟨xs, k, _, hx, hl, hxl, hf⟩ := DataW.trod_struct hfs h
    have g0 := hf 0 f0 rfl
    have g1 := hf 1 f1 rfl
    rw [cells50] at hl
    rw [a0, b0', cells37] at g0
    rw [a1, b1, cells28] at g1
    obtain ⟨⟨cs⟩, rfl, _⟩ := okWide_struct hfs hval
    have ecs : (Value.agg ⟨cs⟩).cells.toList = cs := rfl
    rw [ecs] at g0 g1 hl
    match xs, hxl, cs, hl with
    | [y0, y1], _, [v0, v1], _ =>
      simp at g0 g1
      obtain ⟨ac, cc, rs, e1, e2, e3⟩ := open3 Try.underlying37 cells45 rcV rcD (fun _ => rfl) (fun n cs x h => one_rc h) g0
      obtain ⟨at', ct, ts, vs, q1, q2, q3, q4, q5⟩ := open_lists g1
      simp only [List.cons.injEq, and_true] at e1 q1
      subst e1 q1
      have hd : d = .agg [y0.1, y1.1] := by have := congrArg Prod.fst hx; simpa using this
      rw [hd] at hb
      simp only [Rows.uptoBulk, Rows.uptoBulkAll] at hb
      refine ⟨ac, cc, at', ct, rs, ts, vs, rfl, e2, q2, q3, fun c hc => ?_, fun t ht => ⟨?_, fun c hc => ?_⟩, ?_, by omega⟩
      · have h1 := bulk_rc (H := H) c
        have h2 : Rows.uptoBulk (rcD (H := H) c) ≤ Rows.uptoBulkAll (rs.map rcD) := bulk_mem (List.mem_map.2 ⟨c, hc, rfl⟩)
        omega
      · have h1 := bulk_len (H := H) clD (fun c => by have := bulk_cl (H := H) c; omega) t
        have h2 := q4 t ht
        omega
      · have h1 := bulk_cl (H := H) c
        have h2 : Rows.uptoBulk (clD (H := H) c) ≤ Rows.uptoBulkAll (t.map clD) := bulk_mem (List.mem_map.2 ⟨c, hc, rfl⟩)
        have h3 := q4 t ht
        omega
      · have h1 := bulk_len (H := H) rcD (fun c => by have := bulk_rc (H := H) c; omega) rs
        omega
  · cases hu
end
end Go.Proofs.Ytjobhlncllfdmaa
