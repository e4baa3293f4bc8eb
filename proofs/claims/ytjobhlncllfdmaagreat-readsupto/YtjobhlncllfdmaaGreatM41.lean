/- table.Read: groups, columns, a new part. -/
import Derived.Test.YtjobhlncllfdmaaGreatM40
import Derived.Test.YtjobhlncllfdmaaGreatM16
import Derived.Test.YtjobhlncllfdmaaGreatM11
namespace Go.Proofs.YtjobhlncllfdmaaGreat
open Go.RowKit

theorem length_plsV (l : List (Nat × Nat)) : (plsV l).length = l.length * 2 := by
  induction l with
  | nil => rfl
  | cons x xs ih => rw [show plsV (x :: xs) = plV x ++ plsV xs from rfl, List.length_append, ih, List.length_cons]; simp [plV]; omega
theorem plsV_at (l : List (Nat × Nat)) : ∀ k (h : k < l.length), (plsV l)[k * 2]? = some (.int .i64 (l[k].1 : Int)) ∧ (plsV l)[k * 2 + 1]? = some (.int .i64 (l[k].2 : Int)) := by
  induction l with
  | nil => intro k h; simp at h
  | cons x xs ih =>
    intro k h
    rw [show plsV (x :: xs) = plV x ++ plsV xs from rfl]
    match k, h with
    | 0, _ => exact ⟨rfl, rfl⟩
    | k + 1, h =>
      have := ih k (by simpa using h)
      rw [List.getElem?_append_right (by simp [plV]; omega), List.getElem?_append_right (by simp [plV]; omega)]
      rw [show (k + 1) * 2 - (plV x).length = k * 2 by simp [plV]; omega, show (k + 1) * 2 + 1 - (plV x).length = k * 2 + 1 by simp [plV]; omega]
      simpa using this
theorem pls_cell {w : World} {B : Nat} {ao : Option Addr} {cap : Nat} {l : List (Nat × Nat)} (h : w.ownsRow B 86 2 (.slice ao l.length cap) l.length (plsV l)) :
    ∀ k, (hk : k < l.length) → ∃ g, ao = some ⟨g, 0, none⟩ ∧ w.cell? ⟨g, k * 2, none⟩ = some (.int .i64 (l[k].1 : Int)) ∧ w.cell? ⟨g, k * 2 + 1, none⟩ = some (.int .i64 (l[k].2 : Int)) := by
  intro k hk
  obtain ⟨g, cap', he, _, _⟩ := h.form (by omega)
  simp only [Value.slice.injEq] at he
  obtain ⟨rfl, _, rfl⟩ := he
  have hl := length_plsV l
  refine ⟨g, rfl, ?_, ?_⟩
  · rw [h.cellAt _ (by omega)]; exact (plsV_at l k hk).1
  · rw [h.cellAt _ (by omega)]; exact (plsV_at l k hk).2

/-- what a round of the outer loop takes up -/
def Outer (w : World) (lb : Nat) (ao : Option Addr) (cap : Nat) (D : List UInt8) (F7 K T10 : Nat) (vc vr vt : Value) (E b : Nat) (cs : List Pu.Col) (ws : List (Nat × Value)) (gs : List (Nat × List (Nat × Nat))) (RR : Except Nat (List Pu.Col × List (List Pu.Cl) × Nat)) (k : Nat) (W : World) : Prop :=
  ∃ u ts, TS w lb ao cap D w.heap.size F7 K T10 vc vr vt E (b - u) cs ws gs ts W ∧ u ≤ b ∧ ts.length = cs.length ∧ (∀ x ∈ ts, x.length ≤ 1000 * (20 * k)) ∧ RR = finR cs (Pu.grpsR D E b cs (gs.drop k) u ts)

def Inner (w : World) (lb : Nat) (ao : Option Addr) (cap : Nat) (D : List UInt8) (F7 K T10 : Nat) (vc vr vt : Value) (E b : Nat) (cs : List Pu.Col) (ws : List (Nat × Value)) (gs : List (Nat × List (Nat × Nat))) (RR : Except Nat (List Pu.Col × List (List Pu.Cl) × Nat)) (k G12 rows : Nat) (pl : List (Nat × Nat)) (pv : Value) (i : Nat) (W : World) : Prop :=
  ∃ u ts, TS w lb ao cap D w.heap.size F7 K T10 vc vr vt E (b - u) cs ws gs ts W ∧ u ≤ b ∧ ts.length = cs.length ∧ (∀ x ∈ ts, x.length ≤ 1000 * (20 * k + i)) ∧ RR = restR D E b rows cs ((cs.zip pl).drop i) i u ts (gs.drop (k + 1)) ∧ W.heap[G12]? = some (.cells #[.int .i64 (rows : Int), pv] 84 (0, 0)) ∧ W.ownsRow w.heap.size 86 2 pv pl.length (plsV pl)

theorem Outer.group {w : World} {lb : Nat} {ao : Option Addr} {cap : Nat} {D : List UInt8} {F7 K T10 : Nat} {vc vt : Value} {ar : Option Addr} {ng cr : Nat} {E b : Nat} {cs : List Pu.Col} {ws : List (Nat × Value)} {gs : List (Nat × List (Nat × Nat))} {RR : Except Nat (List Pu.Col × List (List Pu.Cl) × Nat)} {k : Nat} {W : World} (h : Outer w lb ao cap D F7 K T10 vc (.slice ar ng cr) vt E b cs ws gs RR k W) (hng : ng = ws.length) (hk : k < ng) (hgs : ∀ g ∈ gs, GrOk E cs.length g) :
    ∃ (g rows : Nat) (pl : List (Nat × Nat)) (ap : Option Addr) (cp : Nat), ar = some ⟨g, 0, none⟩ ∧ W.cell? ⟨g, k * 2, none⟩ = some (.int .i64 (rows : Int)) ∧ W.cell? ⟨g, k * 2 + 1, none⟩ = some (.slice ap pl.length cp) ∧ rows ≤ 1000 ∧ pl.length = cs.length ∧ (∀ c ∈ pl, ChOk E c) ∧ g < W.heap.size ∧
      Inner w lb ao cap D F7 K T10 vc (.slice ar ng cr) vt E b cs ws gs RR k W.heap.size rows pl (.slice ap pl.length cp) 0 (W.alloc (.cells #[.int .i64 (rows : Int), .slice ap pl.length cp] 84)) := by
  obtain ⟨u, ts, T, hu, htl, hts, hR⟩ := h
  subst hng
  obtain ⟨g, hg, c0, c1⟩ := grs_cell T.og k hk
  have hkg : k < gs.length := by rw [← T.gl.1]; exact hk
  have e1 : ws[k]? = some ws[k] := List.getElem?_eq_getElem hk
  have e2 : gs[k]? = some gs[k] := List.getElem?_eq_getElem hkg
  obtain ⟨f1, f2⟩ := T.gl.2 k _ _ e1 e2
  obtain ⟨ap, cp, hp⟩ := slen_of f2
  obtain ⟨o1, o2, o3⟩ := hgs gs[k] (List.getElem_mem hkg)
  rw [f1] at c0
  rw [hp] at c1 f2
  have hb := bbox W (.cells #[.int .i64 (gs[k].1 : Int), .slice ap gs[k].2.length cp] 84)
  refine ⟨g, gs[k].1, gs[k].2, ap, cp, hg, c0, c1, o1, o2, o3, by subst hg; exact (own_tyS T.og rfl).lt, u, ts, T.below hb, hu, htl, fun x hx => by have := hts x hx; omega, ?_, heap_alloc_new W _, own_below f2 hb⟩
  rw [hR]
  exact fin_group D E b cs gs k u ts gs[k] e2

theorem Inner.last {w : World} {lb : Nat} {ao : Option Addr} {cap : Nat} {D : List UInt8} {F7 K T10 : Nat} {vc vr vt : Value} {E b : Nat} {cs : List Pu.Col} {ws : List (Nat × Value)} {gs : List (Nat × List (Nat × Nat))} {RR : Except Nat (List Pu.Col × List (List Pu.Cl) × Nat)} {k G12 rows : Nat} {pl : List (Nat × Nat)} {pv : Value} {i : Nat} {W : World} (h : Inner w lb ao cap D F7 K T10 vc vr vt E b cs ws gs RR k G12 rows pl pv i W) (hi : i = cs.length) (hc : cs.length ≤ 20) : Outer w lb ao cap D F7 K T10 vc vr vt E b cs ws gs RR (k + 1) W := by
  obtain ⟨u, ts, T, hu, htl, hts, hR, _⟩ := h
  refine ⟨u, ts, T, hu, htl, fun x hx => by have := hts x hx; omega, ?_⟩
  rw [hR, List.drop_eq_nil_of_le (by rw [List.length_zip]; omega)]
  exact rest_end _ _ _ _ _ _ _ _ _

theorem Inner.part {w : World} {lb : Nat} {ao : Option Addr} {cap : Nat} {D : List UInt8} {F7 K T10 : Nat} {av : Option Addr} {n cv : Nat} {vr vt : Value} {E b : Nat} {cs : List Pu.Col} {ws : List (Nat × Value)} {gs : List (Nat × List (Nat × Nat))} {RR : Except Nat (List Pu.Col × List (List Pu.Cl) × Nat)} {k G12 rows : Nat} {pl : List (Nat × Nat)} {ap : Option Addr} {cp : Nat} {i : Nat} {W : World} (h : Inner w lb ao cap D F7 K T10 (.slice av n cv) vr vt E b cs ws gs RR k G12 rows pl (.slice ap n cp) i W) (hn : n = cs.length) (hpl : pl.length = cs.length) (hi : i < n) (hk2 : ∀ c ∈ cs, c.kind ≤ 2) (hch : ∀ c ∈ pl, ChOk E c) :
    ∃ (gc gp : Nat) (nm : ByteArray) (kind : Nat) (opt : Bool) (at' q : Nat), av = some ⟨gc, 0, none⟩ ∧ ap = some ⟨gp, 0, none⟩ ∧ W.cell? ⟨gc, i * 3, none⟩ = some (.string nm) ∧ W.cell? ⟨gc, i * 3 + 1, none⟩ = some (.int .i64 (kind : Int)) ∧ W.cell? ⟨gc, i * 3 + 2, none⟩ = some (.bool opt) ∧ W.cell? ⟨gp, i * 2, none⟩ = some (.int .i64 (at' : Int)) ∧ W.cell? ⟨gp, i * 2 + 1, none⟩ = some (.int .i64 (q : Int)) ∧ kind ≤ 2 ∧ at' ≤ E ∧ q ≤ 50 ∧ gc < W.heap.size ∧ gp < W.heap.size ∧
      ∃ l, cs[i]? = some ⟨l, kind, opt⟩ ∧ pl[i]? = some (at', q) := by
  obtain ⟨u, ts, T, hu, htl, hts, hR, hG, ho⟩ := h
  subst hn
  rw [← hpl] at ho
  obtain ⟨gc, e1, c0, c1, c2⟩ := cols_cell T.oc i hi
  obtain ⟨gp, e2, d0, d1⟩ := pls_cell ho i (by omega)
  obtain ⟨q1, q2⟩ := hch pl[i] (List.getElem_mem (by omega))
  exact ⟨gc, gp, _, cs[i].kind, cs[i].opt, pl[i].1, pl[i].2, e1, e2, c0, c1, c2, d0, d1, hk2 _ (List.getElem_mem hi), q1, q2, by subst e1; exact (own_tyS T.oc rfl).lt, by subst e2; exact (own_tyS ho rfl).lt, cs[i].name, List.getElem?_eq_getElem hi, List.getElem?_eq_getElem (by omega)⟩

def zRow90 : Array Value := #[.string ByteArray.empty, .int .i64 0, .bool false, .int .i64 0, .slice none 0 0, .int .i64 0, .bool false, .slice none 0 0, .slice none 0 0]
def Z90 (W : World) (P : Nat) : Prop := W.heap[P]? = some (.cells zRow90 90 (0, 0))
theorem Z90.cells {W : World} {P : Nat} (h : Z90 W P) : W.cell? ⟨P, 0, none⟩ = some (.string ByteArray.empty) ∧ W.cell? ⟨P, 1, none⟩ = some (.int .i64 0) ∧ W.cell? ⟨P, 2, none⟩ = some (.bool false) ∧ W.cell? ⟨P, 3, none⟩ = some (.int .i64 0) ∧ W.cell? ⟨P, 4, none⟩ = some (.slice none 0 0) ∧ W.cell? ⟨P, 5, none⟩ = some (.int .i64 0) ∧ W.cell? ⟨P, 6, none⟩ = some (.bool false) ∧ W.cell? ⟨P, 7, none⟩ = some (.slice none 0 0) ∧ W.cell? ⟨P, 8, none⟩ = some (.slice none 0 0) ∧ W.frozen? ⟨P, 0, none⟩ = false ∧ W.frozen? ⟨P, 1, none⟩ = false ∧ W.frozen? ⟨P, 2, none⟩ = false ∧ W.frozen? ⟨P, 3, none⟩ = false ∧ W.frozen? ⟨P, 4, none⟩ = false ∧ W.frozen? ⟨P, 5, none⟩ = false ∧ W.frozen? ⟨P, 6, none⟩ = false ∧ W.frozen? ⟨P, 7, none⟩ = false ∧ W.frozen? ⟨P, 8, none⟩ = false := by
  refine ⟨?_, ?_, ?_, ?_, ?_, ?_, ?_, ?_, ?_, frozen_of_row W P 0 _ _ h, frozen_of_row W P 1 _ _ h, frozen_of_row W P 2 _ _ h, frozen_of_row W P 3 _ _ h, frozen_of_row W P 4 _ _ h, frozen_of_row W P 5 _ _ h, frozen_of_row W P 6 _ _ h, frozen_of_row W P 7 _ _ h, frozen_of_row W P 8 _ _ h⟩
  all_goals (rw [cell_of_row W P _ _ _ _ h]; rfl)
theorem Z90.kept {W W' : World} {P : Nat} (h : Z90 W P) (hb : Below W.heap.size W W') : Z90 W' P := by
  unfold Z90; rw [hb.block P (Array.getElem?_eq_some_iff.1 h).1]; exact h
theorem Z90.set {W : World} {P : Nat} (h : Z90 W P) (nm : ByteArray) (kind rows : Nat) (opt : Bool) (pa : Option Addr) (z : Nat) :
    ((World.setCell (World.setCell (World.setCell (World.setCell (World.setCell (World.setCell (World.setCell (World.setCell (World.setCell W ⟨P, 0, none⟩ (.string nm)) ⟨P, 1, none⟩ (.int .i64 (kind : Int))) ⟨P, 2, none⟩ (.bool opt)) ⟨P, 3, none⟩ (.int .i64 (rows : Int))) ⟨P, 4, none⟩ (.slice pa z z)) ⟨P, 5, none⟩ (.int .i64 ((0 : Nat) : Int))) ⟨P, 6, none⟩ (.bool false)) ⟨P, 7, none⟩ (.slice none 0 0)) ⟨P, 8, none⟩ (.slice none 0 0))).heap[P]? = some (.cells (ptRow nm kind opt rows (.slice pa z z) 0 false (.slice none 0 0) (.slice none 0 0)) 90 (0, 0)) := by
  have h0 : W.heap[P]? = some (.cells #[.string ByteArray.empty, .int .i64 0, .bool false, .int .i64 0, .slice none 0 0, .int .i64 0, .bool false, .slice none 0 0, .slice none 0 0] 90 (0, 0)) := h
  have h1 := row_set (j := 0) h0 (.string nm)
  have h2 := row_set (j := 1) h1 (.int .i64 (kind : Int))
  have h3 := row_set (j := 2) h2 (.bool opt)
  have h4 := row_set (j := 3) h3 (.int .i64 (rows : Int))
  have h5 := row_set (j := 4) h4 (.slice pa z z)
  have h6 := row_set (j := 5) h5 (.int .i64 ((0 : Nat) : Int))
  have h7 := row_set (j := 6) h6 (.bool false)
  have h8 := row_set (j := 7) h7 (.slice none 0 0)
  have h9 := row_set (j := 8) h8 (.slice none 0 0)
  rw [h9]
  simp [ptRow]

/-- a part that was just made -/
theorem part_new {w : World} {lb : Nat} {ao : Option Addr} {cap : Nat} {D : List UInt8} {wr W : World} {P : Nat} {nm : ByteArray} {kind rows : Nat} {opt : Bool} {E at' : Nat} (hr : Rest wr lb ao cap D) (hlb : lb < w.heap.size) (hw : w.heap.size ≤ wr.heap.size) (hE : E ≤ D.length) (hat : at' ≤ E) (hb : Below wr.heap.size wr W) (hP : wr.heap.size ≤ P) (hrow : W.heap[P]? = some (.cells (ptRow nm kind opt rows (.slice (pieceA ao at' E) (E - at') (E - at')) 0 false (.slice none 0 0) (.slice none 0 0)) 90 (0, 0))) :
    PSta W P wr.heap.size nm kind opt rows lb (D.take E) at' 0 ⟨rows, [], false, []⟩ := by
  have hl : (D.take E).length = E := by rw [List.length_take]; omega
  refine ⟨pieceA ao at' E, E - at', .slice none 0 0, .slice none 0 0, ?_, ?_, by rw [hl]; exact hat, by omega, ⟨rfl, .inl ⟨rfl, rfl⟩⟩, ⟨rfl, .inl ⟨rfl, rfl⟩⟩, (fun k hk => by cases hk), hP, by omega, by simp⟩
  · rw [hl]; exact hrow
  · have := (hr.piece at' E hat hE).kept (hb.block lb (by omega))
    rw [show Pu.piece D at' (E - at') = (D.take E).drop at' by unfold Pu.piece; rw [List.drop_take]] at this
    exact this

/-- what stands ahead of a part's reading -/
def PartAt (_w : World) (lb : Nat) (D : List UInt8) (E at' q rows kind : Nat) (nm : ByteArray) (opt : Bool) (wr : World) (P : Nat) (W : World) : Prop :=
  PSta W P wr.heap.size nm kind opt rows lb (D.take E) at' 0 ⟨rows, [], false, []⟩ ∧ Below wr.heap.size wr W ∧ W.cell? ⟨wr.heap.size, 1, none⟩ = some (.int .i64 (q : Int))

end Go.Proofs.YtjobhlncllfdmaaGreat

/- Cells behind a list of a table; errors of a part. -/
namespace Go.Proofs.YtjobhlncllfdmaaGreat
open Go.RowKit

theorem tab_append {W : World} {B M n cap i : Nat} {ts : List (List Pu.Cl)} {l : List Pu.Cl} {al : Option Addr} {cl B2 : Nat} (h : TabD W B (.slice (some ⟨M, 0, none⟩) n cap) ts) (hn : n = ts.length) (hi : i < ts.length) (hl : W.ownsRow B2 57 3 (.slice al l.length cl) l.length (clsV l)) (hts : ∀ x ∈ ts, x.length ≤ 1000000) (hll : l.length ≤ 1000000) (hB : B ≤ W.heap.size) :
    ∃ ai ci a5 k5 w5, W.cell? ⟨M, i, none⟩ = some (.slice ai ts[i].length ci) ∧ W.ownsRow B 57 3 (.slice ai ts[i].length ci) ts[i].length (clsV ts[i]) ∧ (Builtin.append_ #[47, 47] 47 #[.slice ai ts[i].length ci, .slice al l.length cl]).run Tryz.prog W.drew = .ok (.slice a5 (ts[i].length + l.length) k5) w5 ∧
      w5.ownsRow B 57 3 (.slice a5 (ts[i].length + l.length) k5) (ts[i].length + l.length) (clsV ts[i] ++ clsV l) ∧ W.grownBy w5 (Value.slice ai ts[i].length ci).ownBlock ∧ ((Value.slice a5 (ts[i].length + l.length) k5).ownBlock = (Value.slice ai ts[i].length ci).ownBlock ∨ (Value.slice a5 (ts[i].length + l.length) k5).ownBlock = some W.heap.size ∧ W.grownBy w5 none) ∧
      w5.cell? ⟨M, i, none⟩ = some (.slice ai ts[i].length ci) ∧ w5.frozen? ⟨M, i, none⟩ = false ∧ ∀ k e, Ty W k e → e ≠ 57 → w5.heap[k]? = W.heap[k]? := by
  obtain ⟨vs, h1, h2, h3⟩ := h
  subst hn
  obtain ⟨ai, ci, g1, g2⟩ := h2 i hi
  have hvl : vs.length = ts.length := by have := h1.1; omega
  have hc : W.cell? ⟨M, i, none⟩ = some (.slice ai ts[i].length ci) := by rw [h1.cellAt i (by omega), g1]
  obtain ⟨i0, hi0, hz0, hz1, hz2⟩ := info_parts Tryz.info57
  have hxi := hts ts[i] (List.getElem_mem hi)
  have hd : Below W.heap.size W W.drew := (Below.refl _ _).drew
  obtain ⟨a5, k5, w5, run5, own5, gr5, at5⟩ := appendM W.drew 47 47 57 i0 (.agg #[.bool false, .int .i64 0, .string ByteArray.empty]) 3 32 B Tryz.underlying47 hi0 hz0 hz1 hz2 rfl (by decide) (.slice ai ts[i].length ci) ts[i].length (clsV ts[i]) (own_below g2 hd) al l.length cl B2 (clsV l) (own_below hl hd) (cls_one l) (by unfold maxLen; omega) (by omega) hB
  have gr : W.grownBy w5 (Value.slice ai ts[i].length ci).ownBlock := ⟨gr5.os, gr5.tape, gr5.output, gr5.size, gr5.block⟩
  have kt : ∀ k e, Ty W k e → e ≠ 57 → w5.heap[k]? = W.heap[k]? := fun k e hk he => gr.block k hk.lt (fun e' => Ty.ne hk (own_tyS g2 e'.symm) he rfl)
  have tM : Ty W M 47 := own_tyS h1 rfl
  obtain ⟨C, hM⟩ := tM
  have hM5 := kt M 47 ⟨C, hM⟩ (by decide)
  rw [hM] at hM5
  refine ⟨ai, ci, a5, k5, w5, hc, g2, run5, own5, gr, ?_, ?_, frozen_of_row w5 M i _ _ hM5, kt⟩
  · rcases at5 with h | ⟨h, g⟩
    · exact .inl h
    · exact .inr ⟨h, ⟨g.os, g.tape, g.output, g.size, g.block⟩⟩
  · rw [World.cell?_of_block (kt M 47 ⟨C, hM⟩ (by decide))]; exact hc

theorem pages_err {D : List UInt8} {E : Nat} {opt : Bool} {kind budget : Nat} (hE : E ≤ D.length) : ∀ n pages a used st k, Pu.pages D E opt kind budget n (decide (pages = 0)) a used st = .error k → k ≠ 0 ∧ k ≤ 12 := by
  intro n
  induction n with
  | zero => intro pages a used st k h; unfold Pu.pages at h; cases h
  | succ n ih =>
    intro pages a used st k h
    rw [pages_next D E opt kind budget n pages a used st hE] at h
    cases hn : Pu.nextR (D.take E) opt kind budget pages a used st with
    | error e => rw [hn] at h; simp only [Except.error.injEq] at h; subst h; exact next_err hn
    | ok q =>
      obtain ⟨u, st', nx⟩ := q
      rw [hn] at h
      exact ih (pages + 1) nx u st' k (by simpa using h)

section
variable {w : World} {lb : Nat} {ao : Option Addr} {cap : Nat} {D : List UInt8} {F7 K T10 : Nat} {vc vr : Value} {E b : Nat} {cs : List Pu.Col} {ws : List (Nat × Value)} {gs : List (Nat × List (Nat × Nat))} {ts : List (List Pu.Cl)} {wr wc w2 : World}
theorem TS.err {T4 : Nat} {vt : Value} {left : Nat} (h : TS w lb ao cap D T4 F7 K T10 vc vr vt E left cs ws gs ts wr) (hb : Below wr.heap.size wr wc) (hf : Fr (fun j => j = K ∨ wr.heap.size ≤ j) wc w2) : w2.heap[T4]? = some (.cells #[.slice none 0 0, .slice none 0 0] 36 (0, 0)) ∧ Below w.heap.size w w2 ∧ Fr (fun j => j = K ∨ wr.heap.size ≤ j) wr w2 := by
  have hfw : Fr (fun j => j = K ∨ wr.heap.size ≤ j) wr w2 := (Fr.of_below _ hb).trans hf (fun _ _ h => h)
  have tK : Ty wr K 81 := ⟨_, h.rK⟩
  have t4 : Ty wr T4 36 := ⟨_, h.r4⟩
  have hs := h.bl.size
  have hk := h.nK
  refine ⟨?_, h.bl.trans (hfw.below hs (fun k e => by rcases e with e | e <;> omega)), hfw⟩
  rw [hfw.block T4 t4.lt (fun e => by rcases e with e | e; exact Ty.ne t4 tK (by decide) e; have := t4.lt; omega)]
  exact h.r4

/-- a part is read: the next column -/
theorem inner_next {M n u u' k G12 rows : Nat} {pl : List (Nat × Nat)} {pv : Value} {j : Nat} {l : List Pu.Cl} {ai a5 : Option Addr} {ci k5 : Nat} {w5 : World} {RR : Except Nat (List Pu.Col × List (List Pu.Cl) × Nat)}
    (T : TS w lb ao cap D w.heap.size F7 K T10 vc vr (.slice (some ⟨M, 0, none⟩) n n) E (b - u) cs ws gs ts wr) (htl : ts.length = cs.length) (hn : n = cs.length) (hj : j < n) (hts : ∀ x ∈ ts, x.length ≤ 1000 * (20 * k + j)) (hG : wr.heap[G12]? = some (.cells #[.int .i64 (rows : Int), pv] 84 (0, 0))) (ho : wr.ownsRow w.heap.size 86 2 pv pl.length (plsV pl))
    (hfw : Fr (fun j => j = K ∨ wr.heap.size ≤ j) wr w2) (hp : w2.heap[K]? = some (.cells #[.int .i64 ((b - u' : Nat) : Int)] 81 (0, 0))) (hu' : u' ≤ b) (hll : l.length ≤ 1000) (hR : RR = restR D E b rows cs ((cs.zip pl).drop (j + 1)) (j + 1) u' (ts.set j (ts.getD j [] ++ l)) (gs.drop (k + 1)))
    (hc : w2.cell? ⟨M, j, none⟩ = some (.slice ai (ts[j]'(by omega)).length ci)) (hoi : w2.ownsRow w.heap.size 57 3 (.slice ai (ts[j]'(by omega)).length ci) (ts[j]'(by omega)).length (clsV (ts[j]'(by omega)))) (hown : w5.ownsRow w.heap.size 57 3 (.slice a5 ((ts[j]'(by omega)).length + l.length) k5) ((ts[j]'(by omega)).length + l.length) (clsV (ts[j]'(by omega)) ++ clsV l)) (hg : w2.grownBy w5 (Value.slice ai (ts[j]'(by omega)).length ci).ownBlock) (hat : (Value.slice a5 ((ts[j]'(by omega)).length + l.length) k5).ownBlock = (Value.slice ai (ts[j]'(by omega)).length ci).ownBlock ∨ (Value.slice a5 ((ts[j]'(by omega)).length + l.length) k5).ownBlock = some w2.heap.size ∧ w2.grownBy w5 none) :
    Inner w lb ao cap D F7 K T10 vc vr (.slice (some ⟨M, 0, none⟩) n n) E b cs ws gs RR k G12 rows pl pv (j + 1) (w5.setCell ⟨M, j, none⟩ (.slice a5 ((ts[j]'(by omega)).length + l.length) k5)) := by
  have T2 := T.step hfw hp
  have tK : Ty wr K 81 := ⟨_, T.rK⟩
  have kt2 : ∀ k e, Ty wr k e → e ≠ 81 → w2.heap[k]? = wr.heap[k]? := fun k e hk he => hfw.block k hk.lt (fun h => by rcases h with h | h; exact Ty.ne hk tK he h; have := hk.lt; omega)
  have ty2 : ∀ k e, Ty wr k e → e ≠ 81 → Ty w2 k e := fun k e hk he => by obtain ⟨C, hC⟩ := hk; exact ⟨C, by rw [kt2 k e ⟨C, hC⟩ he]; exact hC⟩
  have kt5 : ∀ k e, Ty w2 k e → e ≠ 57 → w5.heap[k]? = w2.heap[k]? := fun k e hk he => hg.block k hk.lt (fun e' => Ty.ne hk (own_tyS hoi e'.symm) he rfl)
  obtain ⟨vs, q1, q2, q3⟩ := T2.tb
  have tM : Ty w2 M 47 := own_tyS q1 rfl
  have ktx : ∀ k e, Ty wr k e → e ≠ 81 → e ≠ 57 → e ≠ 47 → (w5.setCell ⟨M, j, none⟩ (.slice a5 ((ts[j]'(by omega)).length + l.length) k5)).heap[k]? = wr.heap[k]? := fun k e hk h1 h2 h3 => by
    rw [row_off (Ty.ne (ty2 k e hk h1) tM h3), kt5 k e (ty2 k e hk h1) h2, kt2 k e hk h1]
  refine ⟨u', ts.set j (ts.getD j [] ++ l), T2.app (by omega) (by omega) hc hoi hown hg hat, hu', by rw [List.length_set]; exact htl, fun x hx => ?_, hR, ?_, own_agreeS ho (fun k hk => ktx k 86 (own_tyS ho hk) (by decide) (by decide) (by decide))⟩
  · rcases List.mem_or_eq_of_mem_set hx with hx | hx
    · have := hts x hx; omega
    · subst hx
      have hm := hts (ts[j]'(by omega)) (List.getElem_mem _)
      rw [List.getD_eq_getElem?_getD, List.getElem?_eq_getElem (by omega)]
      simp only [Option.getD_some, List.length_append]
      omega
  · rw [ktx G12 84 ⟨_, hG⟩ (by decide) (by decide) (by decide)]; exact hG
end
end Go.Proofs.YtjobhlncllfdmaaGreat

/- The document's table: example; IsTable of it. -/
namespace Go.Proofs.YtjobhlncllfdmaaGreat
open Go.RowKit

/-- the document's table in memory -/
def ExT (W : World) (gc gt gl : Nat) : Prop :=
  W.heap[gc]? = some (.cells #[.string ⟨#[97]⟩, .int .i64 1, .bool false] 54 (0, 0)) ∧ W.heap[gt]? = some (.cells #[.slice (some ⟨gl, 0, none⟩) 2 2] 47 (0, 0)) ∧ W.heap[gl]? = some (.cells #[.bool false, .int .i64 1, .string ⟨#[]⟩, .bool false, .int .i64 2, .string ⟨#[]⟩] 57 (0, 0))
theorem ExT.below {W W' : World} {gc gt gl : Nat} (h : ExT W gc gt gl) (hb : Below W.heap.size W W') : ExT W' gc gt gl := by
  obtain ⟨h1, h2, h3⟩ := h
  exact ⟨by rw [hb.block _ (Array.getElem?_eq_some_iff.1 h1).1]; exact h1, by rw [hb.block _ (Array.getElem?_eq_some_iff.1 h2).1]; exact h2, by rw [hb.block _ (Array.getElem?_eq_some_iff.1 h3).1]; exact h3⟩
theorem ExT.cells {W : World} {gc gt gl : Nat} (h : ExT W gc gt gl) : W.cell? ⟨gc, 0, none⟩ = some (.string ⟨#[97]⟩) ∧ W.cell? ⟨gc, 1, none⟩ = some (.int .i64 1) ∧ W.cell? ⟨gc, 2, none⟩ = some (.bool false) ∧ W.cell? ⟨gt, 0, none⟩ = some (.slice (some ⟨gl, 0, none⟩) 2 2) ∧ W.cell? ⟨gl, 0, none⟩ = some (.bool false) ∧ W.cell? ⟨gl, 1, none⟩ = some (.int .i64 1) ∧ W.cell? ⟨gl, 2, none⟩ = some (.string ⟨#[]⟩) ∧ W.cell? ⟨gl, 3, none⟩ = some (.bool false) ∧ W.cell? ⟨gl, 4, none⟩ = some (.int .i64 2) ∧ W.cell? ⟨gl, 5, none⟩ = some (.string ⟨#[]⟩) := by
  obtain ⟨h1, h2, h3⟩ := h
  refine ⟨?_, ?_, ?_, ?_, ?_, ?_, ?_, ?_, ?_, ?_⟩
  all_goals first | (rw [cell_of_row _ _ _ _ _ _ h1]; rfl) | (rw [cell_of_row _ _ _ _ _ _ h2]; rfl) | (rw [cell_of_row _ _ _ _ _ _ h3]; rfl)

set_option maxHeartbeats 2000000 in
set_option maxRecDepth 100000 in
theorem example_any (w : World) : Calls Tryz.prog 5 #[] w fun e w' => ∃ gc gt gl : Nat, e = .returned (.agg #[.slice (some ⟨gc, 0, none⟩) 1 1, .slice (some ⟨gt, 0, none⟩) 1 1]) ∧ ExT w' gc gt gl ∧ Below w.heap.size w w' := by
  go_enter Tryz.func5, Tryz.ntmps5
  go_wp2
  have q0 := row_alloc (row_alloc (row_alloc (heap_alloc_new w (.cells #[.slice (some ⟨w.heap.size + 1, 0, none⟩) 1 1, .slice (some ⟨w.heap.size + 1 + 1 + 1, 0, none⟩) 1 1] 36)) (.cells #[.string ⟨#[97]⟩, .int .i64 1, .bool false] 54)) (.cells #[.bool false, .int .i64 1, .string ⟨#[]⟩, .bool false, .int .i64 2, .string ⟨#[]⟩] 57)) (.cells #[.slice (some ⟨w.heap.size + 1 + 1, 0, none⟩) 2 2] 47)
  have q1 := heap_alloc_new (w.alloc (.cells #[.slice (some ⟨w.heap.size + 1, 0, none⟩) 1 1, .slice (some ⟨w.heap.size + 1 + 1 + 1, 0, none⟩) 1 1] 36)) (.cells #[.string ⟨#[97]⟩, .int .i64 1, .bool false] 54)
  rw [size_alloc'] at q1
  have q1' := row_alloc (row_alloc q1 (.cells #[.bool false, .int .i64 1, .string ⟨#[]⟩, .bool false, .int .i64 2, .string ⟨#[]⟩] 57)) (.cells #[.slice (some ⟨w.heap.size + 1 + 1, 0, none⟩) 2 2] 47)
  have q2 := heap_alloc_new ((w.alloc (.cells #[.slice (some ⟨w.heap.size + 1, 0, none⟩) 1 1, .slice (some ⟨w.heap.size + 1 + 1 + 1, 0, none⟩) 1 1] 36)).alloc (.cells #[.string ⟨#[97]⟩, .int .i64 1, .bool false] 54)) (.cells #[.bool false, .int .i64 1, .string ⟨#[]⟩, .bool false, .int .i64 2, .string ⟨#[]⟩] 57)
  rw [size_alloc', size_alloc'] at q2
  have q2' := row_alloc q2 (.cells #[.slice (some ⟨w.heap.size + 1 + 1, 0, none⟩) 2 2] 47)
  have q3 := heap_alloc_new (((w.alloc (.cells #[.slice (some ⟨w.heap.size + 1, 0, none⟩) 1 1, .slice (some ⟨w.heap.size + 1 + 1 + 1, 0, none⟩) 1 1] 36)).alloc (.cells #[.string ⟨#[97]⟩, .int .i64 1, .bool false] 54)).alloc (.cells #[.bool false, .int .i64 1, .string ⟨#[]⟩, .bool false, .int .i64 2, .string ⟨#[]⟩] 57)) (.cells #[.slice (some ⟨w.heap.size + 1 + 1, 0, none⟩) 2 2] 47)
  rw [size_alloc', size_alloc', size_alloc'] at q3
  have k0 := cell_of_row _ _ 0 _ _ _ q0
  have k1 := cell_of_row _ _ 1 _ _ _ q0
  simp only [List.getElem?_toArray, List.getElem?_cons_zero, List.getElem?_cons_succ] at k0 k1
  exact bodyPost_ret (v := .agg #[.slice (some ⟨w.heap.size + 1, 0, none⟩) 1 1, .slice (some ⟨w.heap.size + 1 + 1 + 1, 0, none⟩) 1 1]) (by simp [results, Tryz.results5, go_sem, k0, k1]) rfl ⟨_, _, _, rfl, ⟨q1', q3, q2'⟩, (((bbox w _).alloc (by rw [size_alloc']; omega) _).alloc (by rw [size_alloc', size_alloc']; omega) _).alloc (by rw [size_alloc', size_alloc', size_alloc']; omega) _⟩

set_option maxHeartbeats 2000000 in
set_option maxRecDepth 100000 in
theorem right_ex (n : Int) (w : World) : Calls Tryz.prog 26 #[.agg #[.string ⟨#[97]⟩, .int .i64 1, .bool false], .agg #[.bool false, .int .i64 n, .string ⟨#[]⟩]] w fun e w' => e = .returned (.bool true) ∧ Below w.heap.size w w' := by
  go_enter Tryz.func26, Tryz.ntmps26
  go_wp2
  go_ret
  exact ⟨rfl, (bbox w _).alloc (by rw [size_alloc']; omega) _⟩

set_option maxHeartbeats 2000000 in
set_option maxRecDepth 100000 in
theorem groups_ex (w : World) : Calls Tryz.prog 14 #[.int .i64 2, .int .i64 10] w fun e w' => e = .returned (.int .i64 1) ∧ w' = w := by
  go_enter Tryz.func14, Tryz.ntmps14
  go_wp2
  go_ret
  exact ⟨rfl, rfl⟩
end Go.Proofs.YtjobhlncllfdmaaGreat
