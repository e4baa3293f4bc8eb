/- keepLists: its contract. -/
import Derived.Test.YtjobhlncllfdmaaM08
namespace Go.Proofs.Ytjobhlncllfdmaa
open Go.RowKit

theorem Try.info28 : (Try.prog.info? 28).map (fun i => (i.zero, i.size, i.bytes)) = some (some (.slice none 0 0), 1, 24) := by kernel_rfl

theorem LN4_run : LPrun (LN 4) 29 26 24 8 := by
  obtain ⟨i, a1, a2, a3, a4⟩ := info_parts Try.info28
  obtain ⟨j, b1, b2, b3, b4⟩ := info_parts Try.info3
  obtain ⟨k, d1, d2, d3, d4⟩ := info_parts Try.info64
  exact ⟨Try.underlying29, ⟨i, a1, a2, a3, a4⟩, Try.underlying28, ⟨k, _, d1, d2, d3, d4, rfl⟩, Try.underlying26, ⟨j, b1, b2, b3, b4⟩, by omega⟩

set_option maxHeartbeats 1000000 in
theorem one_any (m : Int) (w : World) : Calls Try.prog 77 #[.int .i64 m] w fun e w' => e = .returned (.slice (some ⟨w.heap.size, 0, none⟩) 1 1) ∧ w' = w.alloc (.cells #[.bool false, .int .i64 m, .string ⟨#[]⟩] 66) := by
  go_enter Try.func77, Try.ntmps77
  go_wp2
  go_ret
  exact ⟨rfl, rfl⟩

/-- a place that holds a list of one marked cell, in a block of U -/
theorem el4 {W : World} {U : Nat → Prop} {m : Int} {h c : Nat} (hU : U h) (hh : W.heap[h]? = some (.cells #[.bool false, .int .i64 m, .string ⟨#[]⟩] 66 (0, 0))) : (LN 4).el W U m [.slice (some ⟨h, 0, none⟩) 1 c] :=
  ⟨h, c, _, rfl, hU, hh, rfl⟩

theorem el_set1' {P : LP} {w w' : World} {U U' : Nat → Prop} {m : Int} {k : Nat} {ys : List Value} {x : Value} (hsz : P.sz = 1) (hel : P.el w' U' m [x]) (hk : k < ys.length) (h : AllEl P w U m k ys) (hst : ∀ xs, P.el w U m xs → P.el w' U' m xs) : AllEl P w' U' m (k + 1) (ys.set k x) := by
  intro j hj
  rw [hsz, Nat.mul_one]
  by_cases hjk : j = k
  · subst hjk
    have : ((ys.set j x).drop j).take 1 = [x] := by
      rw [List.drop_eq_getElem_cons (by simpa using hk), List.take_succ_cons]; simp
    rw [this]; exact hel
  · have hh := h j (by omega)
    rw [hsz, Nat.mul_one] at hh
    have : ((ys.set k x).drop j).take 1 = (ys.drop j).take 1 := by
      rw [List.drop_eq_getElem_cons (by simp; omega), List.drop_eq_getElem_cons (show j < ys.length by omega), List.take_succ_cons, List.take_succ_cons]
      simp [Ne.symm hjk]
    rw [this]
    exact hst _ hh

/-- the blocks of the first k lists -/
def Of (vs : List Value) (k : Nat) (x : Nat) : Prop := ∃ i v, i < k ∧ vs[i]? = some v ∧ v.ownBlock = some x

/-- k lists have been kept -/
def LSt (w0 : World) (B b : Nat) (A0 : Nat → Prop) (nb : Nat) (l0 : Option Nat) (vs : List Value) (k : Nat) (W : World) : Prop :=
  ∃ A, Book5 W B b A (nb + 4 * k) ∧ (∀ x, A x → A0 x ∨ Of vs k x ∨ w0.heap.size ≤ x) ∧ Fr (fun x => A0 x ∨ Of vs k x) w0 W ∧ (∀ x, l0 = some x → ¬ A x)

theorem LSt.step {w0 : World} {B b : Nat} {A0 : Nat → Prop} {nb : Nat} {l0 : Option Nat} {vs : List Value} {k : Nat} {W W' : World} {A : Nat → Prop} {v : Value} (_h1 : Book5 W B b A (nb + 4 * k)) (h2 : ∀ x, A x → A0 x ∨ Of vs k x ∨ w0.heap.size ≤ x) (h3 : Fr (fun x => A0 x ∨ Of vs k x) w0 W) (h4 : ∀ x, l0 = some x → ¬ A x)
    (hv : vs[k]? = some v) (hK : Kept W B b A (nb + 4 * k) v.ownBlock W') (hl : ∀ x, l0 = some x → x < w0.heap.size ∧ v.ownBlock ≠ some x) : LSt w0 B b A0 nb l0 vs (k + 1) W' := by
  obtain ⟨A', g1, g2, g3⟩ := hK
  have hs := h3.size
  have up : ∀ x, Of vs k x → Of vs (k + 1) x := fun x ⟨i, v, hi, h⟩ => ⟨i, v, by omega, h⟩
  have key : ∀ x, v.ownBlock = some x → Of vs (k + 1) x := fun x hx => ⟨k, v, by omega, hv, hx⟩
  have hA : ∀ x, A x → A0 x ∨ Of vs (k + 1) x ∨ w0.heap.size ≤ x := fun x hx => by
    rcases h2 x hx with t | t | t
    · exact .inl t
    · exact .inr (.inl (up x t))
    · exact .inr (.inr t)
  refine ⟨A', g1, fun x hx => ?_, (h3.mono (fun x hx => by rcases hx with t | t; exact .inl t; exact .inr (up x t))).trans g3 (fun x hx t => ?_), fun x hx hA' => ?_⟩
  · rcases g2 x hx with t | t | t
    · exact hA x t
    · exact .inr (.inl (key x t))
    · exact .inr (.inr (by omega))
  · rcases t with t | t
    · rcases hA x t with u | u | u
      · exact .inl u
      · exact .inr u
      · omega
    · exact .inr (key x t)
  · rcases g2 x hA' with t | t | t
    · exact h4 x hx t
    · exact (hl x hx).2 t
    · have := (hl x hx).1; omega

theorem KS.round4 {w0 wr : World} {B b : Nat} {C : Array Value} {U0 U : Nat → Prop} {l0 : Option Nat} {N : Nat} {m : Int} {ps : List (Value × Int)} {ao : Option Addr} {cap : Nat}
    (hC : C.size = 11) (h : KS (LN 4) 9 10 w0 B b C U0 l0 N m ps (lists ps) (marks .i64 ps) U wr (.slice ao N cap)) (hps : ps.length ≤ 100000000) (hN : (N + 1) * 24 ≤ 140737488355328) :
    ∃ a1 c1 a2 c2 g1 p1 w1 g2 p2 w2 g3 p3 w3 U',
      wr.cell? ⟨b, 9, none⟩ = some (.slice a1 ps.length c1) ∧
      (Builtin.append_ #[29, 29] 29 #[.slice a1 ps.length c1, .slice (some ⟨wr.heap.size, 0, none⟩) 1 1]).run Try.prog (wr.alloc (.cells #[.slice ao N cap] 28)) = .ok (.slice (some ⟨g1, 0, none⟩) (ps.length + 1) p1) w1 ∧
      w1.cell? ⟨b, 9, none⟩ = some (.slice a1 ps.length c1) ∧ w1.frozen? ⟨b, 9, none⟩ = false ∧
      (w1.setCell ⟨b, 9, none⟩ (.slice (some ⟨g1, 0, none⟩) (ps.length + 1) p1)).cell? ⟨b, 10, none⟩ = some (.slice a2 ps.length c2) ∧
      (Builtin.append_ #[26, 26] 26 #[.slice a2 ps.length c2, .slice (some ⟨w1.heap.size, 0, none⟩) 1 1]).run Try.prog ((w1.setCell ⟨b, 9, none⟩ (.slice (some ⟨g1, 0, none⟩) (ps.length + 1) p1)).alloc (.cells #[.int .i64 m] 3)) = .ok (.slice (some ⟨g2, 0, none⟩) (ps.length + 1) p2) w2 ∧
      w2.cell? ⟨b, 10, none⟩ = some (.slice a2 ps.length c2) ∧ w2.frozen? ⟨b, 10, none⟩ = false ∧
      (Builtin.append_ #[28, 28] 28 #[.slice ao N cap, .slice (some ⟨w2.heap.size + 1, 0, none⟩) 1 1]).run Try.prog (((w2.setCell ⟨b, 10, none⟩ (.slice (some ⟨g2, 0, none⟩) (ps.length + 1) p2)).alloc (.cells #[.bool false, .int .i64 m, .string ⟨#[]⟩] 66)).alloc (.cells #[.slice (some ⟨w2.heap.size, 0, none⟩) 1 1] 64)) = .ok (.slice (some ⟨g3, 0, none⟩) (N + 1) p3) w3 ∧
      KS (LN 4) 9 10 w0 B b C U0 l0 (N + 1) m (ps ++ [(.slice ao N cap, m)]) (lists (ps ++ [(.slice ao N cap, m)])) (marks .i64 (ps ++ [(.slice ao N cap, m)])) U' w3 (.slice (some ⟨g3, 0, none⟩) (N + 1) p3) := by
  have e1 := length_lists ps
  have e2 := length_marks .i64 ps
  have hN2 : N + 1 ≤ maxLen := by unfold maxLen; omega
  obtain ⟨a1, c1, g1, p1, w1, U1, hc1, r1, hc1', hf1, h1⟩ := KS.stepA (jr := 9) (jm := 10) (LN_ok 4) LN4_run (by decide) (by omega) h (by omega)
  rw [e1] at hc1 r1 hc1' h1
  obtain ⟨a2, c2, g2, p2, w2, U2, hc2, r2, hc2', hf2, h2⟩ := KS.stepB (jr := 9) (jm := 10) (LN_ok 4) LN4_run (by decide) (by omega) h1 (by omega)
  rw [e2] at hc2 r2 hc2' h2
  rw [size_set] at r2
  have h3 := h2.moved (LN_ok 4) (w1 := (w2.setCell ⟨b, 10, none⟩ (.slice (some ⟨g2, 0, none⟩) (ps.length + 1) p2)).alloc (.cells #[.bool false, .int .i64 m, .string ⟨#[]⟩] 66)) ((Below.refl _ _).alloc (Nat.le_refl _) _)
  have hnew := heap_alloc_new (w2.setCell ⟨b, 10, none⟩ (.slice (some ⟨g2, 0, none⟩) (ps.length + 1) p2)) (.cells #[.bool false, .int .i64 m, .string ⟨#[]⟩] 66)
  rw [size_set] at hnew
  obtain ⟨g3, p3, w3, U3, r3, h4⟩ := KS.stepC (news := [.slice (some ⟨w2.heap.size, 0, none⟩) 1 1]) (LN_ok 4) LN4_run h3 (el4 (.inr ⟨by rw [size_set]; exact Nat.le_refl _, by rw [size_alloc', size_set]; omega⟩) hnew) (by intro u hu; simp at hu; subst hu; rfl) hN hN2
  rw [size_alloc', size_set] at r3
  rw [lists_snoc, marks_snoc]
  exact ⟨a1, c1, a2, c2, g1, p1, w1, g2, p2, w2, g3, p3, w3, U3, hc1, r1, hc1', hf1, hc2, r2, hc2', hf2, r3, h4⟩

end Go.Proofs.Ytjobhlncllfdmaa

/- Cells and tables as rows; sameCells. -/
namespace Go.Proofs.Ytjobhlncllfdmaa
open Go.RowKit

/-- a cell -/
structure Pu.Cl where
  null : Bool
  n : Int
  s : List UInt8
deriving DecidableEq

def clV (c : Pu.Cl) : List Value := [.bool c.null, .int .i64 c.n, strV c.s]
def clsV (cs : List Pu.Cl) : List Value := cs.flatMap clV

theorem length_clsV (cs : List Pu.Cl) : (clsV cs).length = cs.length * 3 := by
  induction cs with
  | nil => rfl
  | cons c r ih =>
    have : (clsV (c :: r)).length = 3 + (clsV r).length := by simp [clsV, clV]; omega
    rw [this, ih, List.length_cons]; omega

theorem clsV_at (cs : List Pu.Cl) (k j : Nat) (h : k < cs.length) (hj : j < 3) : (clsV cs)[k * 3 + j]? = (clV cs[k])[j]? := by
  induction cs generalizing k with
  | nil => simp at h
  | cons c r ih =>
    have e : clsV (c :: r) = clV c ++ clsV r := by simp [clsV]
    have hl : (clV c).length = 3 := rfl
    rw [e]
    cases k with
    | zero => rw [List.getElem?_append_left (by omega)]; simp
    | succ k =>
      rw [List.getElem?_append_right (by omega), show (k + 1) * 3 + j - (clV c).length = k * 3 + j by omega, ih k (by simpa using h)]
      simp

theorem clsV_snoc (cs : List Pu.Cl) (c : Pu.Cl) : clsV cs ++ clV c = clsV (cs ++ [c]) := by simp [clsV]

theorem cls_cell {w : World} {B : Nat} {ao : Option Addr} {cap : Nat} {cs : List Pu.Cl} (h : w.ownsRow B 66 3 (.slice ao cs.length cap) cs.length (clsV cs)) :
    ∀ k, (hk : k < cs.length) → ∃ g, ao = some ⟨g, 0, none⟩ ∧ w.cell? ⟨g, k * 3, none⟩ = some (.bool cs[k].null) ∧ w.cell? ⟨g, k * 3 + 1, none⟩ = some (.int .i64 cs[k].n) ∧ w.cell? ⟨g, k * 3 + 2, none⟩ = some (strV cs[k].s) := by
  intro k hk
  obtain ⟨g, cap', he, _, _⟩ := h.form (by omega)
  simp only [Value.slice.injEq] at he
  obtain ⟨rfl, _, rfl⟩ := he
  refine ⟨g, rfl, ?_, ?_, ?_⟩
  · rw [h.cellAt _ (by omega)]; exact clsV_at cs k 0 hk (by omega)
  · rw [h.cellAt _ (by omega)]; exact clsV_at cs k 1 hk (by omega)
  · rw [h.cellAt _ (by omega)]; exact clsV_at cs k 2 hk (by omega)

/-- the lists of a table -/
def Tab (W : World) (B : Nat) (v : Value) (ts : List (List Pu.Cl)) : Prop :=
  ∃ vs, W.ownsRow B 64 1 v ts.length vs ∧ ∀ i, (h : i < ts.length) → ∃ ai ci, vs[i]? = some (.slice ai ts[i].length ci) ∧ W.ownsRow B 66 3 (.slice ai ts[i].length ci) ts[i].length (clsV ts[i])

theorem tab_cell {W : World} {B : Nat} {ao : Option Addr} {cap : Nat} {ts : List (List Pu.Cl)} (h : Tab W B (.slice ao ts.length cap) ts) :
    ∀ i, (hi : i < ts.length) → ∃ g ai ci, ao = some ⟨g, 0, none⟩ ∧ W.cell? ⟨g, i, none⟩ = some (.slice ai ts[i].length ci) ∧ W.ownsRow B 66 3 (.slice ai ts[i].length ci) ts[i].length (clsV ts[i]) := by
  intro i hi
  obtain ⟨vs, h1, h2⟩ := h
  obtain ⟨ai, ci, e1, e2⟩ := h2 i hi
  obtain ⟨g, cap', he, _, _⟩ := h1.form (by omega)
  simp only [Value.slice.injEq] at he
  obtain ⟨rfl, _, rfl⟩ := he
  exact ⟨g, ai, ci, rfl, by rw [h1.cellAt i (by omega)]; exact e1, e2⟩

end Go.Proofs.Ytjobhlncllfdmaa

/- Small steps that many walks share. -/
namespace Go.Proofs.Ytjobhlncllfdmaa
open Go.RowKit

theorem bnext {w W w3 : World} {B : Nat} (h : Below B w W) (hB : B ≤ w.heap.size) (hb : Below W.heap.size W w3) : Below B w w3 := h.trans (hb.mono (Nat.le_trans hB h.size))
theorem bbox (w : World) (o : Obj) : Below w.heap.size w (w.alloc o) := (Below.refl _ _).alloc (Nat.le_refl _) _
theorem bboxd (w : World) (o : Obj) : Below w.heap.size w (w.alloc o).drew := ((Below.refl _ _).alloc (Nat.le_refl _) _).drew
theorem bboxN (w : World) (o : Obj) (q : Nat) : Below w.heap.size w ((w.alloc o).drewN q) := below_drewN ((Below.refl _ _).alloc (Nat.le_refl _) _) q
theorem bself {w W w3 : World} (h : Below w.heap.size w W) (hb : Below W.heap.size W w3) : Below w.heap.size w w3 := bnext h (Nat.le_refl _) hb

/-- the cells of a box, later -/
theorem box_cell {w w3 : World} {cs : Array Value} {e : TypeId} {j : Nat} (hb : Below (w.alloc (.cells cs e)).heap.size (w.alloc (.cells cs e)) w3) : w3.cell? ⟨w.heap.size, j, none⟩ = cs[j]? := by
  rw [hb.cell (p := ⟨w.heap.size, j, none⟩) (by rw [size_alloc']; exact Nat.lt_succ_self _), cell_of_row _ _ j _ _ _ (heap_alloc_new w _)]
theorem box_celld {w w3 : World} {cs : Array Value} {e : TypeId} {j : Nat} (hb : Below (w.alloc (.cells cs e)).drew.heap.size (w.alloc (.cells cs e)).drew w3) : w3.cell? ⟨w.heap.size, j, none⟩ = cs[j]? := by
  rw [hb.cell (p := ⟨w.heap.size, j, none⟩) (by show w.heap.size < (w.alloc (.cells cs e)).heap.size; rw [size_alloc']; exact Nat.lt_succ_self _)]
  exact cell_of_row (w.alloc (.cells cs e)) _ j _ _ _ (heap_alloc_new w _)
theorem wrap64_eq (n : Int) : wrap64 n = IntKind.i64.wrap n := by rw [IntKind.wrap_i64]; unfold wrap64; omega
end Go.Proofs.Ytjobhlncllfdmaa
