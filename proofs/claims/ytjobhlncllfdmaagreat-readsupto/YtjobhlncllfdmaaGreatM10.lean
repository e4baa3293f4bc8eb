/- keepLists: its contract. -/
import Derived.Test.YtjobhlncllfdmaaGreatM09
namespace Go.Proofs.YtjobhlncllfdmaaGreat
open Go.RowKit

theorem Tryz.info29 : (Tryz.prog.info? 29).map (fun i => (i.zero, i.size, i.bytes)) = some (some (.slice none 0 0), 1, 24) := by kernel_rfl

theorem LN4_run : LPrun (LN 4) 30 27 24 8 := by
  obtain ⟨i, a1, a2, a3, a4⟩ := info_parts Tryz.info29
  obtain ⟨j, b1, b2, b3, b4⟩ := info_parts Tryz.info3
  obtain ⟨k, d1, d2, d3, d4⟩ := info_parts Tryz.info47
  exact ⟨Tryz.underlying30, ⟨i, a1, a2, a3, a4⟩, Tryz.underlying29, ⟨k, _, d1, d2, d3, d4, rfl⟩, Tryz.underlying27, ⟨j, b1, b2, b3, b4⟩, by omega⟩

set_option maxHeartbeats 1000000 in
theorem one_any (m : Int) (w : World) : Calls Tryz.prog 44 #[.int .i64 m] w fun e w' => e = .returned (.slice (some ⟨w.heap.size, 0, none⟩) 1 1) ∧ w' = w.alloc (.cells #[.bool false, .int .i64 m, .string ⟨#[]⟩] 57) := by
  go_enter Tryz.func44, Tryz.ntmps44
  go_wp2
  go_ret
  exact ⟨rfl, rfl⟩

/-- a place that holds a list of one marked cell, in a block of U -/
theorem el4 {W : World} {U : Nat → Prop} {m : Int} {h c : Nat} (hU : U h) (hh : W.heap[h]? = some (.cells #[.bool false, .int .i64 m, .string ⟨#[]⟩] 57 (0, 0))) : (LN 4).el W U m [.slice (some ⟨h, 0, none⟩) 1 c] :=
  ⟨h, c, _, rfl, hU, hh, rfl⟩

theorem el_set1' {P : LP} {w w' : World} {U U' : Nat → Prop} {m : Int} {k : Nat} {ys : List Value} {x : Value} (hsz : P.sz = 1) (hel : P.el w' U' m [x]) (hk : k < ys.length) (h : AllEl P w U m k ys) (hst : ∀ xs, P.el w U m xs → P.el w' U' m xs) : AllEl P w' U' m (k + 1) (ys.set k x) := by
  intro j hj
  rw [hsz, Nat.mul_one]
  by_cases hjk : j = k
  · subst hjk
    have : ((ys.set j x).drop j).take 1 = [x] := by
      rw [List.drop_eq_getElem_cons (by simpa using hk), List.take_succ_cons]; simp
    rw [this]; exact hel
  · have hh := h j (by omega)
    rw [hsz, Nat.mul_one] at hh
    have : ((ys.set k x).drop j).take 1 = (ys.drop j).take 1 := by
      rw [List.drop_eq_getElem_cons (by simp; omega), List.drop_eq_getElem_cons (show j < ys.length by omega), List.take_succ_cons, List.take_succ_cons]
      simp [Ne.symm hjk]
    rw [this]
    exact hst _ hh

/-- the blocks of the first k lists -/
def Of (vs : List Value) (k : Nat) (x : Nat) : Prop := ∃ i v, i < k ∧ vs[i]? = some v ∧ v.ownBlock = some x

/-- k lists have been kept -/
def LSt (w0 : World) (B b : Nat) (A0 : Nat → Prop) (nb : Nat) (l0 : Option Nat) (vs : List Value) (k : Nat) (W : World) : Prop :=
  ∃ A, Book5 W B b A (nb + 4 * k) ∧ (∀ x, A x → A0 x ∨ Of vs k x ∨ w0.heap.size ≤ x) ∧ Fr (fun x => A0 x ∨ Of vs k x) w0 W ∧ (∀ x, l0 = some x → ¬ A x)

theorem LSt.step {w0 : World} {B b : Nat} {A0 : Nat → Prop} {nb : Nat} {l0 : Option Nat} {vs : List Value} {k : Nat} {W W' : World} {A : Nat → Prop} {v : Value} (_h1 : Book5 W B b A (nb + 4 * k)) (h2 : ∀ x, A x → A0 x ∨ Of vs k x ∨ w0.heap.size ≤ x) (h3 : Fr (fun x => A0 x ∨ Of vs k x) w0 W) (h4 : ∀ x, l0 = some x → ¬ A x)
    (hv : vs[k]? = some v) (hK : Kept W B b A (nb + 4 * k) v.ownBlock W') (hl : ∀ x, l0 = some x → x < w0.heap.size ∧ v.ownBlock ≠ some x) : LSt w0 B b A0 nb l0 vs (k + 1) W' := by
  obtain ⟨A', g1, g2, g3⟩ := hK
  have hs := h3.size
  have up : ∀ x, Of vs k x → Of vs (k + 1) x := fun x ⟨i, v, hi, h⟩ => ⟨i, v, by omega, h⟩
  have key : ∀ x, v.ownBlock = some x → Of vs (k + 1) x := fun x hx => ⟨k, v, by omega, hv, hx⟩
  have hA : ∀ x, A x → A0 x ∨ Of vs (k + 1) x ∨ w0.heap.size ≤ x := fun x hx => by
    rcases h2 x hx with t | t | t
    · exact .inl t
    · exact .inr (.inl (up x t))
    · exact .inr (.inr t)
  refine ⟨A', g1, fun x hx => ?_, (h3.mono (fun x hx => by rcases hx with t | t; exact .inl t; exact .inr (up x t))).trans g3 (fun x hx t => ?_), fun x hx hA' => ?_⟩
  · rcases g2 x hx with t | t | t
    · exact hA x t
    · exact .inr (.inl (key x t))
    · exact .inr (.inr (by omega))
  · rcases t with t | t
    · rcases hA x t with u | u | u
      · exact .inl u
      · exact .inr u
      · omega
    · exact .inr (key x t)
  · rcases g2 x hA' with t | t | t
    · exact h4 x hx t
    · exact (hl x hx).2 t
    · have := (hl x hx).1; omega

theorem KS.round4 {w0 wr : World} {B b : Nat} {C : Array Value} {U0 U : Nat → Prop} {l0 : Option Nat} {N : Nat} {m : Int} {ps : List (Value × Int)} {ao : Option Addr} {cap : Nat}
    (hC : C.size = 11) (h : KS (LN 4) 9 10 w0 B b C U0 l0 N m ps (lists ps) (marks .i64 ps) U wr (.slice ao N cap)) (hps : ps.length ≤ 1000000) (hN : (N + 1) * 24 ≤ 140737488355328) :
    ∃ a1 c1 a2 c2 g1 p1 w1 g2 p2 w2 g3 p3 w3 U',
      wr.cell? ⟨b, 9, none⟩ = some (.slice a1 ps.length c1) ∧
      (Builtin.append_ #[30, 30] 30 #[.slice a1 ps.length c1, .slice (some ⟨wr.heap.size, 0, none⟩) 1 1]).run Tryz.prog (wr.alloc (.cells #[.slice ao N cap] 29)) = .ok (.slice (some ⟨g1, 0, none⟩) (ps.length + 1) p1) w1 ∧
      w1.cell? ⟨b, 9, none⟩ = some (.slice a1 ps.length c1) ∧ w1.frozen? ⟨b, 9, none⟩ = false ∧
      (w1.setCell ⟨b, 9, none⟩ (.slice (some ⟨g1, 0, none⟩) (ps.length + 1) p1)).cell? ⟨b, 10, none⟩ = some (.slice a2 ps.length c2) ∧
      (Builtin.append_ #[27, 27] 27 #[.slice a2 ps.length c2, .slice (some ⟨w1.heap.size, 0, none⟩) 1 1]).run Tryz.prog ((w1.setCell ⟨b, 9, none⟩ (.slice (some ⟨g1, 0, none⟩) (ps.length + 1) p1)).alloc (.cells #[.int .i64 m] 3)) = .ok (.slice (some ⟨g2, 0, none⟩) (ps.length + 1) p2) w2 ∧
      w2.cell? ⟨b, 10, none⟩ = some (.slice a2 ps.length c2) ∧ w2.frozen? ⟨b, 10, none⟩ = false ∧
      (Builtin.append_ #[29, 29] 29 #[.slice ao N cap, .slice (some ⟨w2.heap.size + 1, 0, none⟩) 1 1]).run Tryz.prog (((w2.setCell ⟨b, 10, none⟩ (.slice (some ⟨g2, 0, none⟩) (ps.length + 1) p2)).alloc (.cells #[.bool false, .int .i64 m, .string ⟨#[]⟩] 57)).alloc (.cells #[.slice (some ⟨w2.heap.size, 0, none⟩) 1 1] 47)) = .ok (.slice (some ⟨g3, 0, none⟩) (N + 1) p3) w3 ∧
      KS (LN 4) 9 10 w0 B b C U0 l0 (N + 1) m (ps ++ [(.slice ao N cap, m)]) (lists (ps ++ [(.slice ao N cap, m)])) (marks .i64 (ps ++ [(.slice ao N cap, m)])) U' w3 (.slice (some ⟨g3, 0, none⟩) (N + 1) p3) := by
  have e1 := length_lists ps
  have e2 := length_marks .i64 ps
  have hN2 : N + 1 ≤ maxLen := by unfold maxLen; omega
  obtain ⟨a1, c1, g1, p1, w1, U1, hc1, r1, hc1', hf1, h1⟩ := KS.stepA (jr := 9) (jm := 10) (LN_ok 4) LN4_run (by decide) (by omega) h (by omega)
  rw [e1] at hc1 r1 hc1' h1
  obtain ⟨a2, c2, g2, p2, w2, U2, hc2, r2, hc2', hf2, h2⟩ := KS.stepB (jr := 9) (jm := 10) (LN_ok 4) LN4_run (by decide) (by omega) h1 (by omega)
  rw [e2] at hc2 r2 hc2' h2
  rw [size_set] at r2
  have h3 := h2.moved (LN_ok 4) (w1 := (w2.setCell ⟨b, 10, none⟩ (.slice (some ⟨g2, 0, none⟩) (ps.length + 1) p2)).alloc (.cells #[.bool false, .int .i64 m, .string ⟨#[]⟩] 57)) ((Below.refl _ _).alloc (Nat.le_refl _) _)
  have hnew := heap_alloc_new (w2.setCell ⟨b, 10, none⟩ (.slice (some ⟨g2, 0, none⟩) (ps.length + 1) p2)) (.cells #[.bool false, .int .i64 m, .string ⟨#[]⟩] 57)
  rw [size_set] at hnew
  obtain ⟨g3, p3, w3, U3, r3, h4⟩ := KS.stepC (news := [.slice (some ⟨w2.heap.size, 0, none⟩) 1 1]) (LN_ok 4) LN4_run h3 (el4 (.inr ⟨by rw [size_set]; exact Nat.le_refl _, by rw [size_alloc', size_set]; omega⟩) hnew) (by intro u hu; simp at hu; subst hu; rfl) hN hN2
  rw [size_alloc', size_set] at r3
  rw [lists_snoc, marks_snoc]
  exact ⟨a1, c1, a2, c2, g1, p1, w1, g2, p2, w2, g3, p3, w3, U3, hc1, r1, hc1', hf1, hc2, r2, hc2', hf2, r3, h4⟩

end Go.Proofs.YtjobhlncllfdmaaGreat

/- Cells and tables as rows; sameCells. -/
namespace Go.Proofs.YtjobhlncllfdmaaGreat
open Go.RowKit

/-- a cell -/
structure Pu.Cl where
  null : Bool
  n : Int
  s : List UInt8
deriving DecidableEq

def clV (c : Pu.Cl) : List Value := [.bool c.null, .int .i64 c.n, strV c.s]
def clsV (cs : List Pu.Cl) : List Value := cs.flatMap clV

theorem length_clsV (cs : List Pu.Cl) : (clsV cs).length = cs.length * 3 := by
  induction cs with
  | nil => rfl
  | cons c r ih =>
    have : (clsV (c :: r)).length = 3 + (clsV r).length := by simp [clsV, clV]; omega
    rw [this, ih, List.length_cons]; omega

theorem clsV_at (cs : List Pu.Cl) (k j : Nat) (h : k < cs.length) (hj : j < 3) : (clsV cs)[k * 3 + j]? = (clV cs[k])[j]? := by
  induction cs generalizing k with
  | nil => simp at h
  | cons c r ih =>
    have e : clsV (c :: r) = clV c ++ clsV r := by simp [clsV]
    have hl : (clV c).length = 3 := rfl
    rw [e]
    cases k with
    | zero => rw [List.getElem?_append_left (by omega)]; simp
    | succ k =>
      rw [List.getElem?_append_right (by omega), show (k + 1) * 3 + j - (clV c).length = k * 3 + j by omega, ih k (by simpa using h)]
      simp

theorem clsV_snoc (cs : List Pu.Cl) (c : Pu.Cl) : clsV cs ++ clV c = clsV (cs ++ [c]) := by simp [clsV]

theorem cls_cell {w : World} {B : Nat} {ao : Option Addr} {cap : Nat} {cs : List Pu.Cl} (h : w.ownsRow B 57 3 (.slice ao cs.length cap) cs.length (clsV cs)) :
    ∀ k, (hk : k < cs.length) → ∃ g, ao = some ⟨g, 0, none⟩ ∧ w.cell? ⟨g, k * 3, none⟩ = some (.bool cs[k].null) ∧ w.cell? ⟨g, k * 3 + 1, none⟩ = some (.int .i64 cs[k].n) ∧ w.cell? ⟨g, k * 3 + 2, none⟩ = some (strV cs[k].s) := by
  intro k hk
  obtain ⟨g, cap', he, _, _⟩ := h.form (by omega)
  simp only [Value.slice.injEq] at he
  obtain ⟨rfl, _, rfl⟩ := he
  refine ⟨g, rfl, ?_, ?_, ?_⟩
  · rw [h.cellAt _ (by omega)]; exact clsV_at cs k 0 hk (by omega)
  · rw [h.cellAt _ (by omega)]; exact clsV_at cs k 1 hk (by omega)
  · rw [h.cellAt _ (by omega)]; exact clsV_at cs k 2 hk (by omega)

/-- the lists of a table -/
def Tab (W : World) (B : Nat) (v : Value) (ts : List (List Pu.Cl)) : Prop :=
  ∃ vs, W.ownsRow B 47 1 v ts.length vs ∧ ∀ i, (h : i < ts.length) → ∃ ai ci, vs[i]? = some (.slice ai ts[i].length ci) ∧ W.ownsRow B 57 3 (.slice ai ts[i].length ci) ts[i].length (clsV ts[i])

theorem tab_cell {W : World} {B : Nat} {ao : Option Addr} {cap : Nat} {ts : List (List Pu.Cl)} (h : Tab W B (.slice ao ts.length cap) ts) :
    ∀ i, (hi : i < ts.length) → ∃ g ai ci, ao = some ⟨g, 0, none⟩ ∧ W.cell? ⟨g, i, none⟩ = some (.slice ai ts[i].length ci) ∧ W.ownsRow B 57 3 (.slice ai ts[i].length ci) ts[i].length (clsV ts[i]) := by
  intro i hi
  obtain ⟨vs, h1, h2⟩ := h
  obtain ⟨ai, ci, e1, e2⟩ := h2 i hi
  obtain ⟨g, cap', he, _, _⟩ := h1.form (by omega)
  simp only [Value.slice.injEq] at he
  obtain ⟨rfl, _, rfl⟩ := he
  exact ⟨g, ai, ci, rfl, by rw [h1.cellAt i (by omega)]; exact e1, e2⟩

set_option maxHeartbeats 2000000 in
set_option maxRecDepth 100000 in
theorem sameCells_any (a1 a2 : Option Addr) (c1 c2 : Nat) (ts : List (List Pu.Cl)) (B1 B2 : Nat) (w : World) (h1 : Tab w B1 (.slice a1 ts.length c1) ts) (h2 : Tab w B2 (.slice a2 ts.length c2) ts) (hx : ts.length ≤ 100000) (hy : ∀ i, (h : i < ts.length) → ts[i].length ≤ 1000000000) :
    Calls Tryz.prog 7 #[.slice a1 ts.length c1, .slice a2 ts.length c2] w fun e w' => e = .returned (.bool true) ∧ ∃ n, w' = w.drewN n := by
  have T1 : Hid (∀ i, (hi : i < ts.length) → ∃ g ai ci, a1 = some ⟨g, 0, none⟩ ∧ w.cell? ⟨g, i, none⟩ = some (.slice ai ts[i].length ci) ∧ w.ownsRow B1 57 3 (.slice ai ts[i].length ci) ts[i].length (clsV ts[i])) := tab_cell h1
  have T2 : Hid (∀ i, (hi : i < ts.length) → ∃ g ai ci, a2 = some ⟨g, 0, none⟩ ∧ w.cell? ⟨g, i, none⟩ = some (.slice ai ts[i].length ci) ∧ w.ownsRow B2 57 3 (.slice ai ts[i].length ci) ts[i].length (clsV ts[i])) := tab_cell h2
  have Hy : Hid (∀ i, (h : i < ts.length) → ts[i].length ≤ 1000000000) := hy
  clear h1 h2 hy
  have hnn : ((ts.length : Int) != (ts.length : Int)) = false := by simp
  go_enter Tryz.func7, Tryz.ntmps7
  go_wp2
  go_loopw [5] (fun i wr => ∃ k q : Nat, k ≤ ts.length ∧ i = .int .i64 k ∧ wr = w.drewN q) (fun i _ => ts.length - (intOf i).toNat)
  case atStart => exact ⟨0, 0, Nat.zero_le _, rfl, rfl⟩
  case round =>
    obtain ⟨k, q, hk, rfl, rfl⟩ := hrel
    by_cases hk2 : k < ts.length
    · obtain ⟨g1, b1, d1, rfl, e1, o1⟩ := T1.out k hk2
      obtain ⟨g2, b2, d2, rfl, e2, o2⟩ := T2.out k hk2
      have hl := Hy.out k hk2
      have R1 : Hid (∀ j, (hj : j < ts[k].length) → ∃ g, b1 = some ⟨g, 0, none⟩ ∧ w.cell? ⟨g, j * 3, none⟩ = some (.bool ts[k][j].null) ∧ w.cell? ⟨g, j * 3 + 1, none⟩ = some (.int .i64 ts[k][j].n) ∧ w.cell? ⟨g, j * 3 + 2, none⟩ = some (strV ts[k][j].s)) := cls_cell o1
      have R2 : Hid (∀ j, (hj : j < ts[k].length) → ∃ g, b2 = some ⟨g, 0, none⟩ ∧ w.cell? ⟨g, j * 3, none⟩ = some (.bool ts[k][j].null) ∧ w.cell? ⟨g, j * 3 + 1, none⟩ = some (.int .i64 ts[k][j].n) ∧ w.cell? ⟨g, j * 3 + 2, none⟩ = some (strV ts[k][j].s)) := cls_cell o2
      clear o1 o2
      generalize ts[k] = L at *
      have hkd : decide ((k : Int) < (ts.length : Int)) = true := by simp; omega
      go_wp2
      go_quiet (fail)
      go_wp2
      go_loopw [6] (fun i wr => ∃ j q : Nat, j ≤ L.length ∧ i = .int .i64 j ∧ wr = w.drewN q) (fun i _ => L.length - (intOf i).toNat)
      case atStart => exact ⟨0, q + nq, Nat.zero_le _, rfl, World.drewN_drewN _ _ _⟩
      case round =>
        obtain ⟨j, q2, hj, rfl, rfl⟩ := hrel
        by_cases hj2 : j < L.length
        · obtain ⟨m1, rfl, x1, x2, x3⟩ := R1.out j hj2
          obtain ⟨m2, rfl, y1, y2, y3⟩ := R2.out j hj2
          unfold strV at x3 y3
          generalize (⟨L[j].s.toArray⟩ : ByteArray) = t at *
          generalize L[j].n = u at *
          generalize L[j].null = v at *
          go_wp2
          go_quiet (fail)
          go_wp2
          go_roundw
          case rel => exact ⟨j + 1, _, by omega, by go_num, rfl⟩
          case measure => simp [intOf]; omega
        · go_wp2
          go_roundw
          case rel => exact ⟨k + 1, _, by omega, by go_num, rfl⟩
          case measure => simp [intOf]; omega
    · go_wp2
      go_ret
      exact ⟨rfl, q, rfl⟩
end Go.Proofs.YtjobhlncllfdmaaGreat

/- A page's head: strataref.head. -/
namespace Go.Proofs.YtjobhlncllfdmaaGreat
open Go.RowKit

/-- a page's head and its bytes -/
structure Pu.Pg where
  sort : Nat
  cells : Nat
  packed : Bool
  size : Nat
  sum : Nat
  body : List UInt8

def pgV (p : Pu.Pg) : Value := .agg #[.int .i64 (p.sort : Int), .int .i64 (p.cells : Int), .bool p.packed, .int .i64 (p.size : Int), .int .i64 (p.sum : Int), .string ⟨p.body.toArray⟩]

/-- the numbers of a head: cells, stored, size, sum, and the place behind them -/
def Pu.nums4 (D : List UInt8) (a : Nat) : Option (Nat × Nat × Nat × Nat × Nat) :=
  match Pu.vi D a with
  | none => none
  | some (c, b1) => match Pu.vi D b1 with
    | none => none
    | some (st, b2) => match Pu.vi D b2 with
      | none => none
      | some (z, b3) => match Pu.lo D b3 4 with
        | none => none
        | some y => some (c, st, z, y, b3 + 4)

def Pu.head (D : List UInt8) (a en : Nat) : Option (Pu.Pg × Nat) :=
  if en < a + 2 then none else
  match Pu.nums4 (D.take en) (a + 2) with
  | none => none
  | some (c, st, z, y, b) =>
    if en - b < st then none else
    if Pu.byteAt D (a + 1) < 2 ∧ (if Pu.byteAt D (a + 1) = 1 then z ≤ 1048576 else z = st) then some (⟨Pu.byteAt D a, c, decide (Pu.byteAt D (a + 1) = 1), z, y, Pu.piece D b st⟩, b + st) else none

def HdAns (r : Option (Pu.Pg × Nat)) (e : Ending) : Prop :=
  match r with
  | none => ∃ a b c d f g x, e = .returned (.tuple #[.agg #[.int .i64 a, .int .i64 b, .bool c, .int .i64 d, .int .i64 f, .string g], .int .i64 x, .bool false])
  | some (p, nx) => e = .returned (.tuple #[pgV p, .int .i64 (nx : Int), .bool true])

theorem len_dataB (t : ByteArray) : t.data.toList.length = t.size := by simp
theorem ext_take' (s : ByteArray) (n : Nat) (h : n ≤ s.size) : (s.extract 0 n).data.toList = s.data.toList.take n := by
  have := extract_list s 0 n (by omega)
  rw [Nat.zero_add] at this
  rw [this]; simp [Pu.piece]
theorem ext_size (s : ByteArray) (n : Nat) (h : n ≤ s.size) : (s.extract 0 n).size = n := by simp; omega
theorem byteAt_take' (D : List UInt8) (n j : Nat) (h : j < n) : Pu.byteAt (D.take n) j = Pu.byteAt D j := by simp [Pu.byteAt, h]

set_option maxHeartbeats 8000000 in
set_option maxRecDepth 100000 in
theorem head_no (s : ByteArray) (a en : Nat) (w : World) (hs : s.size ≤ 140737488355000) (ha : a ≤ en) (hen : en ≤ s.size) (hn : en < a + 2 ∨ Pu.nums4 (s.data.toList.take en) (a + 2) = none) :
    Calls Tryz.prog 39 #[.string s, .int .i64 (a : Int), .int .i64 (en : Int)] w fun e w' => (∃ a b c d f g x, e = .returned (.tuple #[.agg #[.int .i64 a, .int .i64 b, .bool c, .int .i64 d, .int .i64 f, .string g], .int .i64 x, .bool false])) ∧ Below w.heap.size w w' := by
  by_cases h2 : en < a + 2
  · clear hn
    go_enter Tryz.func39, Tryz.ntmps39
    go_wp2
    exact bodyPost_ret (v := .tuple #[.agg #[.int .i64 0, .int .i64 0, .bool false, .int .i64 0, .int .i64 0, .string ⟨#[]⟩], .int .i64 0, .bool false]) (by simp [results, Tryz.results39, go_sem]) rfl ⟨⟨_, _, _, _, _, _, _, rfl⟩, ((Below.refl _ _).alloc (Nat.le_refl _) _).alloc (by rw [size_alloc']; omega) _⟩
  · have hn2 : Pu.nums4 (s.data.toList.take en) (a + 2) = none := by rcases hn with h | h; exact absurd h h2; exact h
    obtain ⟨b0, hb0, hb0l, _⟩ := byte_ex s a (by omega)
    obtain ⟨b1, hb1, hb1l, _⟩ := byte_ex s (a + 1) (by omega)
    have hd := ext_take' s en hen
    have hz := ext_size s en hen
    rw [← hd] at hn2
    have hl : (s.extract 0 en).data.toList.length = en := by rw [len_dataB, hz]
    have VY : Hid (∀ (c h nx : Nat) (W : World), c ≤ en → Pu.vi (s.extract 0 en).data.toList c = some (h, nx) → Calls Tryz.prog 54 #[.string (s.extract 0 en), .int .i64 (c : Int)] W fun e w' => e = .returned (.tuple #[.int .i64 h, .int .i64 nx, .bool true]) ∧ w' = W) := fun c h nx W hc hv => varint_yes _ c h nx W (by rw [hz]; omega) (by rw [hz]; exact hc) hv
    have VN : Hid (∀ (c : Nat) (W : World), c ≤ en → Pu.vi (s.extract 0 en).data.toList c = none → Calls Tryz.prog 54 #[.string (s.extract 0 en), .int .i64 (c : Int)] W fun e w' => ∃ h nx : Int, e = .returned (.tuple #[.int .i64 h, .int .i64 nx, .bool false]) ∧ w' = W) := fun c W hc hv => varint_no _ c W (by rw [hz]; omega) (by rw [hz]; exact hc) hv
    have C2 : Hid ((a : Int) + 2 = ((a + 2 : Nat) : Int)) := by unfold Hid; omega
    clear hn hd
    unfold Pu.nums4 at hn2
    cases h1 : Pu.vi (s.extract 0 en).data.toList (a + 2) with
    | none =>
      have H1 : Hid (Pu.vi (s.extract 0 en).data.toList (a + 2) = none) := h1
      clear h1 hn2 hl hz
      go_enter Tryz.func39, Tryz.ntmps39
      go_wp2_with fail
      rw [C2.out]
      refine (VN.out (a + 2) _ (by omega) H1.out).mono ?_
      rintro e w' ⟨h, nx, rfl, hw'⟩
      subst w'
      go_wp2
      exact bodyPost_ret (v := .tuple #[.agg #[.int .i64 (b0 : Int), .int .i64 h, .bool ((b1 : Int) == 1), .int .i64 0, .int .i64 0, .string ⟨#[]⟩], .int .i64 0, .bool false]) (by simp [results, Tryz.results39, go_sem]) rfl ⟨⟨_, _, _, _, _, _, _, rfl⟩, ((Below.refl _ _).alloc (Nat.le_refl _) _).alloc (by rw [size_alloc']; omega) _⟩
    | some p =>
      obtain ⟨c, q1⟩ := p
      have H1 : Hid (Pu.vi (s.extract 0 en).data.toList (a + 2) = some (c, q1)) := h1
      have l1 := (Pu.vi_lt h1).2.1
      have l1' := (Pu.vi_lt h1).2.2
      rw [hl] at l1
      simp only [h1] at hn2
      cases h3 : Pu.vi (s.extract 0 en).data.toList q1 with
      | none =>
        have H3 : Hid (Pu.vi (s.extract 0 en).data.toList q1 = none) := h3
        clear h1 h3 hn2 hl hz
        go_enter Tryz.func39, Tryz.ntmps39
        go_wp2_with fail
        rw [C2.out]
        refine (VY.out (a + 2) c q1 _ (by omega) H1.out).mono ?_
        rintro e w' ⟨rfl, hw'⟩
        subst w'
        go_wp2_with fail
        refine (VN.out q1 _ l1 H3.out).mono ?_
        rintro e w' ⟨h, nx, rfl, hw'⟩
        subst w'
        go_wp2
        exact bodyPost_ret (v := .tuple #[.agg #[.int .i64 (b0 : Int), .int .i64 (c : Int), .bool ((b1 : Int) == 1), .int .i64 0, .int .i64 0, .string ⟨#[]⟩], .int .i64 0, .bool false]) (by simp [results, Tryz.results39, go_sem]) rfl ⟨⟨_, _, _, _, _, _, _, rfl⟩, ((Below.refl _ _).alloc (Nat.le_refl _) _).alloc (by rw [size_alloc']; omega) _⟩
      | some p =>
        obtain ⟨st, q2⟩ := p
        have H3 : Hid (Pu.vi (s.extract 0 en).data.toList q1 = some (st, q2)) := h3
        have l2 := (Pu.vi_lt h3).2.1
        have l2' := (Pu.vi_lt h3).2.2
        rw [hl] at l2
        simp only [h3] at hn2
        cases h4 : Pu.vi (s.extract 0 en).data.toList q2 with
        | none =>
          have H4 : Hid (Pu.vi (s.extract 0 en).data.toList q2 = none) := h4
          clear h1 h3 h4 hn2 hl hz
          go_enter Tryz.func39, Tryz.ntmps39
          go_wp2_with fail
          rw [C2.out]
          refine (VY.out (a + 2) c q1 _ (by omega) H1.out).mono ?_
          rintro e w' ⟨rfl, hw'⟩
          subst w'
          go_wp2_with fail
          refine (VY.out q1 st q2 _ l1 H3.out).mono ?_
          rintro e w' ⟨rfl, hw'⟩
          subst w'
          go_wp2_with fail
          refine (VN.out q2 _ l2 H4.out).mono ?_
          rintro e w' ⟨h, nx, rfl, hw'⟩
          subst w'
          go_wp2
          exact bodyPost_ret (v := .tuple #[.agg #[.int .i64 (b0 : Int), .int .i64 (c : Int), .bool ((b1 : Int) == 1), .int .i64 h, .int .i64 0, .string ⟨#[]⟩], .int .i64 0, .bool false]) (by simp [results, Tryz.results39, go_sem]) rfl ⟨⟨_, _, _, _, _, _, _, rfl⟩, ((Below.refl _ _).alloc (Nat.le_refl _) _).alloc (by rw [size_alloc']; omega) _⟩
        | some p =>
          obtain ⟨z, q3⟩ := p
          have H4 : Hid (Pu.vi (s.extract 0 en).data.toList q2 = some (z, q3)) := h4
          have l3 := (Pu.vi_lt h4).2.1
          have l3' := (Pu.vi_lt h4).2.2
          rw [hl] at l3
          simp only [h4] at hn2
          have h5 : Pu.lo (s.extract 0 en).data.toList q3 4 = none := by
            cases h5 : Pu.lo (s.extract 0 en).data.toList q3 4 with
            | none => rfl
            | some y => simp only [h5] at hn2; cases hn2
          have LN : Hid (∀ W : World, Calls Tryz.prog 51 #[.string (s.extract 0 en), .int .i64 (q3 : Int), .int .i64 4] W fun e w' => e = .returned (.tuple #[.int .i64 0, .bool false]) ∧ w' = W) := fun W => low_no _ q3 4 W (by rw [hz]; omega) (by rw [hz]; exact l3) (by omega) h5
          clear h1 h3 h4 h5 hn2 hl hz
          go_enter Tryz.func39, Tryz.ntmps39
          go_wp2_with fail
          rw [C2.out]
          refine (VY.out (a + 2) c q1 _ (by omega) H1.out).mono ?_
          rintro e w' ⟨rfl, hw'⟩
          subst w'
          go_wp2_with fail
          refine (VY.out q1 st q2 _ l1 H3.out).mono ?_
          rintro e w' ⟨rfl, hw'⟩
          subst w'
          go_wp2_with fail
          refine (VY.out q2 z q3 _ l2 H4.out).mono ?_
          rintro e w' ⟨rfl, hw'⟩
          subst w'
          go_wp2_with fail
          refine (LN.out _).mono ?_
          rintro e w' ⟨rfl, hw'⟩
          subst w'
          go_wp2
          exact bodyPost_ret (v := .tuple #[.agg #[.int .i64 (b0 : Int), .int .i64 (c : Int), .bool ((b1 : Int) == 1), .int .i64 (z : Int), .int .i64 0, .string ⟨#[]⟩], .int .i64 0, .bool false]) (by simp [results, Tryz.results39, go_sem]) rfl ⟨⟨_, _, _, _, _, _, _, rfl⟩, ((Below.refl _ _).alloc (Nat.le_refl _) _).alloc (by rw [size_alloc']; omega) _⟩

theorem nums4_some {D : List UInt8} {a c st z y b : Nat} (h : Pu.nums4 D a = some (c, st, z, y, b)) : ∃ q1 q2 q3, Pu.vi D a = some (c, q1) ∧ Pu.vi D q1 = some (st, q2) ∧ Pu.vi D q2 = some (z, q3) ∧ Pu.lo D q3 4 = some y ∧ b = q3 + 4 := by
  unfold Pu.nums4 at h
  cases h1 : Pu.vi D a with
  | none => simp [h1] at h
  | some p =>
    obtain ⟨c', q1⟩ := p
    simp only [h1] at h
    cases h2 : Pu.vi D q1 with
    | none => simp [h2] at h
    | some p =>
      obtain ⟨st', q2⟩ := p
      simp only [h2] at h
      cases h3 : Pu.vi D q2 with
      | none => simp [h3] at h
      | some p =>
        obtain ⟨z', q3⟩ := p
        simp only [h3] at h
        cases h4 : Pu.lo D q3 4 with
        | none => simp [h4] at h
        | some y' =>
          simp only [h4, Option.some.injEq, Prod.mk.injEq] at h
          obtain ⟨rfl, rfl, rfl, rfl, rfl⟩ := h
          exact ⟨q1, q2, q3, rfl, h2, h3, h4, rfl⟩

set_option maxHeartbeats 8000000 in
set_option maxRecDepth 100000 in
theorem head_yes (s : ByteArray) (a en c st z y b : Nat) (w : World) (hs : s.size ≤ 140737488355000) (_ha : a ≤ en) (hen : en ≤ s.size) (h2 : ¬ en < a + 2) (hn : Pu.nums4 (s.data.toList.take en) (a + 2) = some (c, st, z, y, b)) :
    Calls Tryz.prog 39 #[.string s, .int .i64 (a : Int), .int .i64 (en : Int)] w fun e w' => HdAns (Pu.head s.data.toList a en) e ∧ Below w.heap.size w w' := by
  obtain ⟨b0, hb0, hb0l, B0⟩ := byte_ex s a (by omega)
  obtain ⟨b1, hb1, hb1l, B1⟩ := byte_ex s (a + 1) (by omega)
  have HH : Hid (Pu.head s.data.toList a en = if en - b < st then none else if b1 < 2 ∧ (if b1 = 1 then z ≤ 1048576 else z = st) then some (⟨b0, c, decide (b1 = 1), z, y, Pu.piece s.data.toList b st⟩, b + st) else none) := by
    unfold Hid Pu.head; rw [if_neg h2, hn, B0.out, B1.out]
  have hd := ext_take' s en hen
  have hz := ext_size s en hen
  rw [← hd] at hn
  have hl : (s.extract 0 en).data.toList.length = en := by rw [len_dataB, hz]
  have VY : Hid (∀ (c h nx : Nat) (W : World), c ≤ en → Pu.vi (s.extract 0 en).data.toList c = some (h, nx) → Calls Tryz.prog 54 #[.string (s.extract 0 en), .int .i64 (c : Int)] W fun e w' => e = .returned (.tuple #[.int .i64 h, .int .i64 nx, .bool true]) ∧ w' = W) := fun c h nx W hc hv => varint_yes _ c h nx W (by rw [hz]; omega) (by rw [hz]; exact hc) hv
  have C2 : Hid ((a : Int) + 2 = ((a + 2 : Nat) : Int)) := by unfold Hid; omega
  obtain ⟨q1, q2, q3, h1, h3, h4, h5, rfl⟩ := nums4_some hn
  have H1 : Hid (Pu.vi (s.extract 0 en).data.toList (a + 2) = some (c, q1)) := h1
  have H3 : Hid (Pu.vi (s.extract 0 en).data.toList q1 = some (st, q2)) := h3
  have H4 : Hid (Pu.vi (s.extract 0 en).data.toList q2 = some (z, q3)) := h4
  have l1 := (Pu.vi_lt h1).2.1
  have l1' := (Pu.vi_lt h1).2.2
  have l2 := (Pu.vi_lt h3).2.1
  have l2' := (Pu.vi_lt h3).2.2
  have l3 := (Pu.vi_lt h4).2.1
  have l3' := (Pu.vi_lt h4).2.2
  have l4 : q3 + 4 ≤ (s.extract 0 en).data.toList.length := by
    unfold Pu.lo at h5; split at h5
    · assumption
    · cases h5
  have hyl : y < 4294967296 := by
    have h6 := h5
    unfold Pu.lo at h6
    rw [if_pos l4] at h6
    simp only [Option.some.injEq] at h6
    rw [← h6]
    have := Pu.le_lt (Pu.piece (s.extract 0 en).data.toList q3 4)
    rw [Pu.length_piece _ _ _ l4] at this
    exact this
  rw [hl] at l1 l2 l3 l4
  have LY : Hid (∀ W : World, Calls Tryz.prog 51 #[.string (s.extract 0 en), .int .i64 (q3 : Int), .int .i64 4] W fun e w' => e = .returned (.tuple #[.int .i64 (y : Int), .bool true]) ∧ w' = W) := fun W => low_yes _ q3 4 y W (by rw [hz]; omega) (by rw [hz]; exact l3) (by omega) h5
  clear h1 h3 h4 h5 hn hl hz hd B0 B1
  by_cases hbig : en - (q3 + 4) < st
  · have HX : Hid (Pu.head s.data.toList a en = none) := by rw [Hid, HH.out, if_pos hbig]
    clear HH
    go_enter Tryz.func39, Tryz.ntmps39
    go_wp2_with fail
    rw [C2.out]
    refine (VY.out (a + 2) c q1 _ (by omega) H1.out).mono ?_
    rintro e w' ⟨rfl, hw'⟩
    subst w'
    go_wp2_with fail
    refine (VY.out q1 st q2 _ l1 H3.out).mono ?_
    rintro e w' ⟨rfl, hw'⟩
    subst w'
    go_wp2_with fail
    refine (VY.out q2 z q3 _ l2 H4.out).mono ?_
    rintro e w' ⟨rfl, hw'⟩
    subst w'
    go_wp2_with fail
    refine (LY.out _).mono ?_
    rintro e w' ⟨rfl, hw'⟩
    subst w'
    go_wp2
    exact bodyPost_ret (v := .tuple #[.agg #[.int .i64 (b0 : Int), .int .i64 (c : Int), .bool ((b1 : Int) == 1), .int .i64 (z : Int), .int .i64 (y : Int), .string ⟨#[]⟩], .int .i64 0, .bool false]) (by simp [results, Tryz.results39, go_sem]) rfl ⟨by rw [HX.out]; exact ⟨_, _, _, _, _, _, _, rfl⟩, ((Below.refl _ _).alloc (Nat.le_refl _) _).alloc (by rw [size_alloc']; omega) _⟩
  · have hfit : q3 + 4 + st ≤ en := by omega
    have HP : Hid (s.extract (q3 + 4) (q3 + 4 + st) = ⟨(Pu.piece s.data.toList (q3 + 4) st).toArray⟩) := str_piece s (q3 + 4) st (by omega)
    have HH2 : Hid (Pu.head s.data.toList a en = if b1 < 2 ∧ (if b1 = 1 then z ≤ 1048576 else z = st) then some (⟨b0, c, decide (b1 = 1), z, y, Pu.piece s.data.toList (q3 + 4) st⟩, q3 + 4 + st) else none) := by rw [Hid, HH.out, if_neg hbig]
    clear HH
    by_cases hb11 : b1 = 1
    · subst hb11
      by_cases hzb : z ≤ 1048576
      · have HX : Hid (Pu.head s.data.toList a en = some (⟨b0, c, true, z, y, Pu.piece s.data.toList (q3 + 4) st⟩, q3 + 4 + st)) := by rw [Hid, HH2.out, if_pos ⟨by omega, by rw [if_pos rfl]; exact hzb⟩]; rfl
        have hzd : decide ((z : Int) ≤ 1048576) = true := by simp; omega
        clear HH2
        go_enter Tryz.func39, Tryz.ntmps39
        go_wp2_with fail
        rw [C2.out]
        refine (VY.out (a + 2) c q1 _ (by omega) H1.out).mono ?_
        rintro e w' ⟨rfl, hw'⟩
        subst w'
        go_wp2_with fail
        refine (VY.out q1 st q2 _ l1 H3.out).mono ?_
        rintro e w' ⟨rfl, hw'⟩
        subst w'
        go_wp2_with fail
        refine (VY.out q2 z q3 _ l2 H4.out).mono ?_
        rintro e w' ⟨rfl, hw'⟩
        subst w'
        go_wp2_with fail
        refine (LY.out _).mono ?_
        rintro e w' ⟨rfl, hw'⟩
        subst w'
        go_wp2
        exact bodyPost_ret (v := .tuple #[.agg #[.int .i64 (b0 : Int), .int .i64 (c : Int), .bool true, .int .i64 (z : Int), .int .i64 (y : Int), .string (s.extract (q3 + 4) (q3 + 4 + st))], .int .i64 ((q3 : Int) + 4 + (st : Int)), .bool true]) (by simp [results, Tryz.results39, go_sem]) rfl ⟨by rw [HX.out, HP.out]; exact congrArg (fun n => Ending.returned (.tuple #[_, .int .i64 n, .bool true])) (by omega), ((Below.refl _ _).alloc (Nat.le_refl _) _).alloc (by rw [size_alloc']; omega) _⟩
      · have HX : Hid (Pu.head s.data.toList a en = none) := by rw [Hid, HH2.out, if_neg (fun h => hzb (by have := h.2; rw [if_pos rfl] at this; exact this))]
        have hzd : decide ((z : Int) ≤ 1048576) = false := by simp; omega
        clear HH2
        go_enter Tryz.func39, Tryz.ntmps39
        go_wp2_with fail
        rw [C2.out]
        refine (VY.out (a + 2) c q1 _ (by omega) H1.out).mono ?_
        rintro e w' ⟨rfl, hw'⟩
        subst w'
        go_wp2_with fail
        refine (VY.out q1 st q2 _ l1 H3.out).mono ?_
        rintro e w' ⟨rfl, hw'⟩
        subst w'
        go_wp2_with fail
        refine (VY.out q2 z q3 _ l2 H4.out).mono ?_
        rintro e w' ⟨rfl, hw'⟩
        subst w'
        go_wp2_with fail
        refine (LY.out _).mono ?_
        rintro e w' ⟨rfl, hw'⟩
        subst w'
        go_wp2
        exact bodyPost_ret (v := .tuple #[.agg #[.int .i64 (b0 : Int), .int .i64 (c : Int), .bool true, .int .i64 (z : Int), .int .i64 (y : Int), .string (s.extract (q3 + 4) (q3 + 4 + st))], .int .i64 ((q3 : Int) + 4 + (st : Int)), .bool false]) (by simp [results, Tryz.results39, go_sem]) rfl ⟨by rw [HX.out]; exact ⟨_, _, _, _, _, _, _, rfl⟩, ((Below.refl _ _).alloc (Nat.le_refl _) _).alloc (by rw [size_alloc']; omega) _⟩
    · have hb1d : ((b1 : Int) == 1) = false := by simp; omega
      by_cases hk : b1 < 2
      · by_cases hzs : z = st
        · have HX : Hid (Pu.head s.data.toList a en = some (⟨b0, c, false, z, y, Pu.piece s.data.toList (q3 + 4) st⟩, q3 + 4 + st)) := by rw [Hid, HH2.out, if_pos ⟨hk, by rw [if_neg hb11]; exact hzs⟩]; simp [hb11]
          have hzd : ((z : Int) == (st : Int)) = true := by simp [hzs]
          clear HH2 hzs
          go_enter Tryz.func39, Tryz.ntmps39
          go_wp2_with fail
          rw [C2.out]
          refine (VY.out (a + 2) c q1 _ (by omega) H1.out).mono ?_
          rintro e w' ⟨rfl, hw'⟩
          subst w'
          go_wp2_with fail
          refine (VY.out q1 st q2 _ l1 H3.out).mono ?_
          rintro e w' ⟨rfl, hw'⟩
          subst w'
          go_wp2_with fail
          refine (VY.out q2 z q3 _ l2 H4.out).mono ?_
          rintro e w' ⟨rfl, hw'⟩
          subst w'
          go_wp2_with fail
          refine (LY.out _).mono ?_
          rintro e w' ⟨rfl, hw'⟩
          subst w'
          go_wp2
          exact bodyPost_ret (v := .tuple #[.agg #[.int .i64 (b0 : Int), .int .i64 (c : Int), .bool false, .int .i64 (z : Int), .int .i64 (y : Int), .string (s.extract (q3 + 4) (q3 + 4 + st))], .int .i64 ((q3 : Int) + 4 + (st : Int)), .bool true]) (by simp [results, Tryz.results39, go_sem]) rfl ⟨by rw [HX.out, HP.out]; exact congrArg (fun n => Ending.returned (.tuple #[_, .int .i64 n, .bool true])) (by omega), ((Below.refl _ _).alloc (Nat.le_refl _) _).alloc (by rw [size_alloc']; omega) _⟩
        · have HX : Hid (Pu.head s.data.toList a en = none) := by rw [Hid, HH2.out, if_neg (fun h => hzs (by have := h.2; rw [if_neg hb11] at this; exact this))]
          have hzd : ((z : Int) == (st : Int)) = false := by simp; omega
          clear HH2
          go_enter Tryz.func39, Tryz.ntmps39
          go_wp2_with fail
          rw [C2.out]
          refine (VY.out (a + 2) c q1 _ (by omega) H1.out).mono ?_
          rintro e w' ⟨rfl, hw'⟩
          subst w'
          go_wp2_with fail
          refine (VY.out q1 st q2 _ l1 H3.out).mono ?_
          rintro e w' ⟨rfl, hw'⟩
          subst w'
          go_wp2_with fail
          refine (VY.out q2 z q3 _ l2 H4.out).mono ?_
          rintro e w' ⟨rfl, hw'⟩
          subst w'
          go_wp2_with fail
          refine (LY.out _).mono ?_
          rintro e w' ⟨rfl, hw'⟩
          subst w'
          go_wp2
          exact bodyPost_ret (v := .tuple #[.agg #[.int .i64 (b0 : Int), .int .i64 (c : Int), .bool false, .int .i64 (z : Int), .int .i64 (y : Int), .string (s.extract (q3 + 4) (q3 + 4 + st))], .int .i64 ((q3 : Int) + 4 + (st : Int)), .bool false]) (by simp [results, Tryz.results39, go_sem]) rfl ⟨by rw [HX.out]; exact ⟨_, _, _, _, _, _, _, rfl⟩, ((Below.refl _ _).alloc (Nat.le_refl _) _).alloc (by rw [size_alloc']; omega) _⟩
      · have HX : Hid (Pu.head s.data.toList a en = none) := by rw [Hid, HH2.out, if_neg (fun h => hk h.1)]
        clear HH2
        go_enter Tryz.func39, Tryz.ntmps39
        go_wp2_with fail
        rw [C2.out]
        refine (VY.out (a + 2) c q1 _ (by omega) H1.out).mono ?_
        rintro e w' ⟨rfl, hw'⟩
        subst w'
        go_wp2_with fail
        refine (VY.out q1 st q2 _ l1 H3.out).mono ?_
        rintro e w' ⟨rfl, hw'⟩
        subst w'
        go_wp2_with fail
        refine (VY.out q2 z q3 _ l2 H4.out).mono ?_
        rintro e w' ⟨rfl, hw'⟩
        subst w'
        go_wp2_with fail
        refine (LY.out _).mono ?_
        rintro e w' ⟨rfl, hw'⟩
        subst w'
        go_wp2
        exact bodyPost_ret (v := .tuple #[.agg #[.int .i64 (b0 : Int), .int .i64 (c : Int), .bool false, .int .i64 (z : Int), .int .i64 (y : Int), .string (s.extract (q3 + 4) (q3 + 4 + st))], .int .i64 ((q3 : Int) + 4 + (st : Int)), .bool false]) (by simp [results, Tryz.results39, go_sem]) rfl ⟨by rw [HX.out]; exact ⟨_, _, _, _, _, _, _, rfl⟩, ((Below.refl _ _).alloc (Nat.le_refl _) _).alloc (by rw [size_alloc']; omega) _⟩

end Go.Proofs.YtjobhlncllfdmaaGreat
