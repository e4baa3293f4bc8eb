/- The book's block; what one round of keeping a list does, in any lane. -/
import Derived.Test.YtjobhlncllfdmaaGreatM07
namespace Go.Proofs.YtjobhlncllfdmaaGreat
open Go.RowKit

/-- the book's block -/
def BB (w : World) (b : Nat) (C : Array Value) : Prop := w.heap[b]? = some (.cells C 32 (0, 0))

section
variable {w w' : World} {b : Nat} {C : Array Value}
theorem BB.cell (h : BB w b C) (j : Nat) : w.cell? ⟨b, j, none⟩ = C[j]? := cell_of_row w b j _ _ _ h
theorem BB.fz (h : BB w b C) (j : Nat) : w.frozen? ⟨b, j, none⟩ = false := frozen_of_row w b j _ _ h
theorem BB.ty (h : BB w b C) : Ty w b 32 := ⟨_, h⟩
theorem BB.kept (h : BB w b C) (hw : w'.heap[b]? = w.heap[b]?) : BB w' b C := by unfold BB; rw [hw]; exact h
theorem BB.set (h : BB w b C) (j : Nat) (u : Value) : BB (w.setCell ⟨b, j, none⟩ u) b (C.setIfInBounds j u) := heap_setCell_same w b j C 32 u h
end

/-- what the appends of a lane want of the program's types -/
structure LPrun (P : LP) (EE EM by' bm : Nat) : Prop where
  uEE : Tryz.prog.underlying EE = some (.slice P.E)
  iE : ∃ i, Tryz.prog.info? P.E = some i ∧ i.zero = some (.slice none 0 0) ∧ i.size = 1 ∧ i.bytes = 24
  uE : Tryz.prog.underlying P.E = some (.slice P.e)
  ie : ∃ i z, Tryz.prog.info? P.e = some i ∧ i.zero = some z ∧ i.size = P.sz ∧ i.bytes = by' ∧ z.cells.size = P.sz
  uEM : Tryz.prog.underlying EM = some (.slice P.em)
  iem : ∃ i, Tryz.prog.info? P.em = some i ∧ i.zero = some (.int P.kd 0) ∧ i.size = 1 ∧ i.bytes = bm
  bm8 : bm ≤ 8

/-- a list is being kept: w0 the world at the beginning, C the book's cells then, U0 the lane's blocks then, l0 the list's block then -/
def KS (P : LP) (jr jm : Nat) (w0 : World) (B b : Nat) (C : Array Value) (U0 : Nat → Prop) (l0 : Option Nat) (N : Nat) (m : Int) (ps : List (Value × Int)) (X Y : List Value) (U : Nat → Prop) (wr : World) (vl : Value) : Prop :=
  ∃ vr vm, BB wr b ((C.setIfInBounds jr vr).setIfInBounds jm vm) ∧ KeepG P wr B U vr vm X Y ps vl N m ∧ (∀ j, U j → B ≤ j ∧ j < wr.heap.size ∧ j ≠ b) ∧ (∀ j, U j → U0 j ∨ l0 = some j ∨ w0.heap.size ≤ j) ∧
    (∀ j, vl.ownBlock = some j → l0 = some j ∨ w0.heap.size ≤ j) ∧ Fr (fun j => U0 j ∨ j = b ∨ l0 = some j) w0 wr ∧ B ≤ b ∧ b < w0.heap.size

section
variable {P : LP} {EE EM by' bm jr jm : Nat} {w0 wr : World} {B b : Nat} {C : Array Value} {U0 U : Nat → Prop} {l0 : Option Nat} {N : Nat} {m : Int} {ps : List (Value × Int)} {X Y : List Value} {ao : Option Addr} {cap : Nat} {vl : Value}

theorem KS.bsize (h : KS P jr jm w0 B b C U0 l0 N m ps X Y U wr vl) : B ≤ wr.heap.size := by
  obtain ⟨_, _, h1, _, _, _, _, _, hb, _⟩ := h
  have := h1.ty.lt; omega

/-- new blocks, nothing old turned -/
theorem KS.moved (ok : LPok P) {w1 : World} (h : KS P jr jm w0 B b C U0 l0 N m ps X Y U wr vl) (hb : Below wr.heap.size wr w1) : KS P jr jm w0 B b C U0 l0 N m ps X Y (more U wr w1) w1 vl := by
  have hBs := h.bsize
  obtain ⟨vr, vm, h1, h2, h3, h4, h5, h6, h7, h8⟩ := h
  have hbl := h1.ty.lt
  have hs := hb.size
  have hs6 := h6.size
  refine ⟨vr, vm, h1.kept (hb.block b h1.ty.lt), h2.moved ok hb (fun k hk => (h3 k hk).2.1) (fun k hk => .inl hk), ?_, ?_, h5, h6.trans (Fr.of_below (fun _ => False) hb) (fun _ _ h => h.elim), h7, h8⟩
  · intro j hj
    rcases hj with hj | hj
    · have := h3 j hj; omega
    · exact ⟨by omega, by omega, by omega⟩
  · intro j hj
    rcases hj with hj | hj
    · exact h4 j hj
    · exact .inr (.inr (by omega))

/-- the row of lists grows -/
theorem KS.stepA (ok : LPok P) (run : LPrun P EE EM by' bm) (hj : jr ≠ jm) (hr : jr < C.size) (h : KS P jr jm w0 B b C U0 l0 N m ps X Y U wr (.slice ao N cap)) (hX : X.length ≤ 1000000) :
    ∃ a1 c1 g1 p1 w1 U', wr.cell? ⟨b, jr, none⟩ = some (.slice a1 X.length c1) ∧
      (Builtin.append_ #[EE, EE] EE #[.slice a1 X.length c1, .slice (some ⟨wr.heap.size, 0, none⟩) 1 1]).run Tryz.prog (wr.alloc (.cells #[.slice ao N cap] P.E)) = .ok (.slice (some ⟨g1, 0, none⟩) (X.length + 1) p1) w1 ∧
      w1.cell? ⟨b, jr, none⟩ = some (.slice a1 X.length c1) ∧ w1.frozen? ⟨b, jr, none⟩ = false ∧
      KS P jr jm w0 B b C U0 l0 N m ps (X ++ [.slice ao N cap]) Y U' (w1.setCell ⟨b, jr, none⟩ (.slice (some ⟨g1, 0, none⟩) (X.length + 1) p1)) (.slice ao N cap) := by
  have hBs := h.bsize
  obtain ⟨vr, vm, h1, h2, h3, h4, h5, h6, h7, h8⟩ := h
  have hr1 := h2.1.1
  obtain ⟨a1, c1, rfl⟩ := slen_of hr1
  obtain ⟨iE, hiE, hE0, hE1, hE2⟩ := run.iE
  have hxe : ∀ j u, [Value.slice ao N cap][j]? = some u → (wr.alloc (.cells #[Value.slice ao N cap] P.E)).cell? ((⟨wr.heap.size, 0, none⟩ : Addr).add j) = some u := one_new rfl
  obtain ⟨g1, p1, w1, run1, own1, gr1, at1⟩ := appendS (wr.alloc (.cells #[.slice ao N cap] P.E)) EE EE P.E iE (.slice none 0 0) 1 24 B run.uEE hiE hE0 hE1 hE2 rfl (by omega) _ _ _ (hr1.alloc _) ⟨wr.heap.size, 0, none⟩ [.slice ao N cap] rfl hxe (by intro u hu; simp at hu; subst hu; rfl) 1 (by unfold maxLen; omega) (by omega) (by rw [size_alloc']; omega)
  rw [size_alloc'] at at1
  have hcr : ((C.setIfInBounds jr (.slice a1 X.length c1)).setIfInBounds jm vm)[jr]? = some (.slice a1 X.length c1) := by
    rw [Array.getElem?_setIfInBounds_ne (Ne.symm hj), Array.getElem?_setIfInBounds_self_of_lt hr]
  have hbb1 : BB w1 b _ := h1.kept (agree_step gr1 h1.ty.lt (fun e' => Ty.ne (own_tyS hr1 e') h1.ty ok.E31 rfl))
  have hK1 := KeepG.stepA (b := b) (j := jr) (u := .slice (some ⟨g1, 0, none⟩) (X.length + 1) p1) ok h2 h1.ty gr1 own1 at1
  have hsz1 : wr.heap.size ≤ w1.heap.size := by have := gr1.size; rw [size_alloc'] at this; omega
  have hbl := h1.ty.lt
  have hs6 := h6.size
  refine ⟨a1, c1, g1, p1, w1, _, by rw [h1.cell jr]; exact hcr, run1, by rw [hbb1.cell jr]; exact hcr, hbb1.fz jr, _, vm, ?_, hK1, ?_, ?_, h5, ?_, h7, h8⟩
  · have := hbb1.set jr (.slice (some ⟨g1, 0, none⟩) (X.length + 1) p1)
    rw [show ((C.setIfInBounds jr (Value.slice a1 X.length c1)).setIfInBounds jm vm).setIfInBounds jr (.slice (some ⟨g1, 0, none⟩) (X.length + 1) p1) = (C.setIfInBounds jr (.slice (some ⟨g1, 0, none⟩) (X.length + 1) p1)).setIfInBounds jm vm from by
      rw [Array.setIfInBounds_comm _ _ (Ne.symm hj), Array.setIfInBounds_setIfInBounds]] at this
    exact this
  · intro j hj
    rcases hj with hj | hj
    · have := h3 j hj; rw [size_set]; omega
    · rw [size_set] at hj ⊢; exact ⟨by omega, by omega, by omega⟩
  · intro j hj
    rcases hj with hj | hj
    · exact h4 j hj
    · exact .inr (.inr (by omega))
  · refine (h6.trans (Fr.grown gr1) (fun j hj e' => ?_)).trans Fr.set (fun j hj e' => .inr (.inl e'))
    rcases h4 j (h2.1.2.2.2.1 j e') with h | h | h
    · exact .inl h
    · exact .inr (.inr h)
    · omega

/-- the row of marks grows -/
theorem KS.stepB (ok : LPok P) (run : LPrun P EE EM by' bm) (_hj : jr ≠ jm) (hm : jm < C.size) (h : KS P jr jm w0 B b C U0 l0 N m ps X Y U wr vl) (hY : Y.length ≤ 1000000) :
    ∃ a1 c1 g1 p1 w1 U', wr.cell? ⟨b, jm, none⟩ = some (.slice a1 Y.length c1) ∧
      (Builtin.append_ #[EM, EM] EM #[.slice a1 Y.length c1, .slice (some ⟨wr.heap.size, 0, none⟩) 1 1]).run Tryz.prog (wr.alloc (.cells #[.int P.kd m] P.em)) = .ok (.slice (some ⟨g1, 0, none⟩) (Y.length + 1) p1) w1 ∧
      w1.cell? ⟨b, jm, none⟩ = some (.slice a1 Y.length c1) ∧ w1.frozen? ⟨b, jm, none⟩ = false ∧
      KS P jr jm w0 B b C U0 l0 N m ps X (Y ++ [.int P.kd m]) U' (w1.setCell ⟨b, jm, none⟩ (.slice (some ⟨g1, 0, none⟩) (Y.length + 1) p1)) vl := by
  have hBs := h.bsize
  obtain ⟨vr, vm, h1, h2, h3, h4, h5, h6, h7, h8⟩ := h
  have hr1 := h2.1.2.1
  obtain ⟨a1, c1, rfl⟩ := slen_of hr1
  obtain ⟨iE, hiE, hE0, hE1, hE2⟩ := run.iem
  have hbm := run.bm8
  have hxe : ∀ j u, [Value.int P.kd m][j]? = some u → (wr.alloc (.cells #[Value.int P.kd m] P.em)).cell? ((⟨wr.heap.size, 0, none⟩ : Addr).add j) = some u := one_new rfl
  have hbytes : (Y.length + 1) * bm ≤ 140737488355328 := Nat.le_trans (Nat.mul_le_mul (show Y.length + 1 ≤ 1000001 by omega) hbm) (by decide)
  obtain ⟨g1, p1, w1, run1, own1, gr1, at1⟩ := appendS (wr.alloc (.cells #[.int P.kd m] P.em)) EM EM P.em iE (.int P.kd 0) 1 bm B run.uEM hiE hE0 hE1 hE2 rfl (by omega) _ _ _ (hr1.alloc _) ⟨wr.heap.size, 0, none⟩ [.int P.kd m] rfl hxe one_cell 1 (by unfold maxLen; omega) hbytes (by rw [size_alloc']; omega)
  rw [size_alloc'] at at1
  have hcr : ((C.setIfInBounds jr vr).setIfInBounds jm (.slice a1 Y.length c1))[jm]? = some (.slice a1 Y.length c1) := by
    rw [Array.getElem?_setIfInBounds_self_of_lt (by simpa using hm)]
  have hbb1 : BB w1 b _ := h1.kept (agree_step gr1 h1.ty.lt (fun e' => Ty.ne (own_tyS hr1 e') h1.ty ok.em31 rfl))
  have hK1 := KeepG.stepB (b := b) (j := jm) (u := .slice (some ⟨g1, 0, none⟩) (Y.length + 1) p1) ok h2 h1.ty gr1 own1 at1
  have hsz1 : wr.heap.size ≤ w1.heap.size := by have := gr1.size; rw [size_alloc'] at this; omega
  have hbl := h1.ty.lt
  have hs6 := h6.size
  refine ⟨a1, c1, g1, p1, w1, _, by rw [h1.cell jm]; exact hcr, run1, by rw [hbb1.cell jm]; exact hcr, hbb1.fz jm, vr, _, ?_, hK1, ?_, ?_, h5, ?_, h7, h8⟩
  · have := hbb1.set jm (.slice (some ⟨g1, 0, none⟩) (Y.length + 1) p1)
    rw [Array.setIfInBounds_setIfInBounds] at this
    exact this
  · intro j hj
    rcases hj with hj | hj
    · have := h3 j hj; rw [size_set]; omega
    · rw [size_set] at hj ⊢; exact ⟨by omega, by omega, by omega⟩
  · intro j hj
    rcases hj with hj | hj
    · exact h4 j hj
    · exact .inr (.inr (by omega))
  · refine (h6.trans (Fr.grown gr1) (fun j hj e' => ?_)).trans Fr.set (fun j hj e' => .inr (.inl e'))
    rcases h4 j (h2.1.2.2.2.2 j e') with h | h | h
    · exact .inl h
    · exact .inr (.inr h)
    · omega

/-- the list itself grows -/
theorem KS.stepC (ok : LPok P) (run : LPrun P EE EM by' bm) {news : List Value} (h : KS P jr jm w0 B b C U0 l0 N m ps X Y U wr (.slice ao N cap)) (hel : P.el wr U m news) (hone : ∀ u ∈ news, u.oneCell' = true) (hN : (N + 1) * by' ≤ 140737488355328) (hN2 : N + 1 ≤ maxLen) :
    ∃ g1 p1 w1 U',
      (Builtin.append_ #[P.E, P.E] P.E #[.slice ao N cap, .slice (some ⟨wr.heap.size, 0, none⟩) 1 1]).run Tryz.prog (wr.alloc (.cells news.toArray P.e)) = .ok (.slice (some ⟨g1, 0, none⟩) (N + 1) p1) w1 ∧
      KS P jr jm w0 B b C U0 l0 (N + 1) m (ps ++ [(.slice ao N cap, m)]) X Y U' w1 (.slice (some ⟨g1, 0, none⟩) (N + 1) p1) := by
  have hBs := h.bsize
  obtain ⟨vr, vm, h1, h2, h3, h4, h5, h6, h7, h8⟩ := h
  obtain ⟨xs, hx1, hx2⟩ := h2.2.1
  have hnl := ok.len _ _ _ _ hel
  obtain ⟨ie, z, hie, he0, he1, he2, hzs⟩ := run.ie
  have hxe : ∀ j u, news[j]? = some u → (wr.alloc (.cells news.toArray P.e)).cell? ((⟨wr.heap.size, 0, none⟩ : Addr).add j) = some u := by
    intro j u hu
    rw [show (⟨wr.heap.size, 0, none⟩ : Addr).add j = ⟨wr.heap.size, j, none⟩ from by unfold Addr.add; split <;> simp_all, cell_of_row _ _ _ _ _ _ (heap_alloc_new wr _)]
    simpa using hu
  obtain ⟨g1, p1, w1, run1, own1, gr1, at1⟩ := appendS (wr.alloc (.cells news.toArray P.e)) P.E P.E P.e ie z P.sz by' B run.uE hie he0 he1 he2 hzs ok.sz0 _ _ _ (hx1.alloc _) ⟨wr.heap.size, 0, none⟩ news hnl hxe hone 1 hN2 hN (by rw [size_alloc']; omega)
  rw [size_alloc'] at at1
  have hK1 := KeepG.stepC (news := news) ok h2 gr1 (fun k hk => (h3 k hk).2.1) hel (fun xs' hx' => by
    obtain rfl : xs' = xs := by
      rcases hx'.2 with ⟨e1, e2⟩ | ⟨g', c', cur, e1, _, e3, _, _, _, e4⟩
      · have l1 := hx'.1; have l2 := hx1.1
        rw [e2, Nat.zero_mul] at l1 l2
        rw [List.eq_nil_of_length_eq_zero l1, List.eq_nil_of_length_eq_zero l2]
      · rcases hx1.2 with ⟨f1, f2⟩ | ⟨g'', c'', cur', f1, _, f3, _, _, _, f4⟩
        · rw [f1] at e1; cases e1
        · rw [f1] at e1
          simp only [Value.slice.injEq, Option.some.injEq, Addr.mk.injEq, and_true, true_and] at e1
          obtain ⟨rfl, _⟩ := e1
          rw [f3] at e3
          simp only [Option.some.injEq, Obj.cells.injEq, and_true] at e3
          rw [← e4, ← f4, e3]
    exact own1) at1
  have hsz1 : wr.heap.size ≤ w1.heap.size := by have := gr1.size; rw [size_alloc'] at this; omega
  have hbl := h1.ty.lt
  have hs6 := h6.size
  have hlne : ∀ j, (Value.slice ao N cap).ownBlock = some j → j ≠ b := fun j hj => Ty.ne (own_tyS hx1 hj) h1.ty ok.e31
  refine ⟨g1, p1, w1, _, run1, vr, vm, h1.kept (agree_step gr1 h1.ty.lt (fun e' => hlne b e' rfl)), hK1, ?_, ?_, ?_, ?_, h7, h8⟩
  · intro j hj
    rcases hj with (hj | hj) | hj
    · have := h3 j hj; omega
    · exact ⟨by omega, by omega, by omega⟩
    · have := hx1.lt j hj
      exact ⟨by omega, by omega, hlne j hj⟩
  · intro j hj
    rcases hj with (hj | hj) | hj
    · exact h4 j hj
    · exact .inr (.inr (by omega))
    · exact .inr (h5 j hj)
  · intro j hj
    simp only [Value.ownBlock, Option.some.injEq] at hj
    subst hj
    rcases at1 with h | ⟨h, _⟩
    · exact h5 _ h
    · exact .inr (by omega)
  · refine h6.trans (Fr.grown gr1) (fun j hj e' => ?_)
    rcases h5 j e' with h | h
    · exact .inr (.inr h)
    · omega

end
end Go.Proofs.YtjobhlncllfdmaaGreat

/- The book with its five lanes; how a lane is opened and shut. -/
namespace Go.Proofs.YtjobhlncllfdmaaGreat
open Go.RowKit

def colM (m : Int) : List Value := [.string ByteArray.empty, .int .i64 m, .bool false]
def cellM (m : Int) : List Value := [.bool false, .int .i64 m, .string ByteArray.empty]

/-- the five lanes: bytes, ints, columns, cells, lists of cells -/
def LN : Nat → LP
  | 0 => { E := 25, e := 5, em := 5, ax := 1000, sz := 1, kd := .u8, el := fun _ _ m xs => xs = [.int .u8 m] }
  | 1 => { E := 27, e := 3, em := 3, ax := 1000, sz := 1, kd := .i64, el := fun _ _ m xs => xs = [.int .i64 m] }
  | 2 => { E := 22, e := 54, em := 3, ax := 1000, sz := 3, kd := .i64, el := fun _ _ m xs => xs = colM m }
  | 3 => { E := 47, e := 57, em := 3, ax := 1000, sz := 3, kd := .i64, el := fun _ _ m xs => xs = cellM m }
  | _ => { E := 29, e := 47, em := 3, ax := 57, sz := 1, kd := .i64, el := fun w U m xs => ∃ g c cur, xs = [.slice (some ⟨g, 0, none⟩) 1 c] ∧ U g ∧ w.heap[g]? = some (.cells cur 57 (0, 0)) ∧ cur.toList.take 3 = cellM m }

theorem LN_ok : ∀ i, LPok (LN i) := by
  intro i
  match i with
  | 0 => exact ⟨by decide, by decide, by decide, by decide, by decide, by decide, by decide, by decide, by decide, by decide, fun _ _ _ _ _ _ h _ _ => h, fun _ _ m xs h => by rw [show xs = [.int .u8 m] from h]; rfl⟩
  | 1 => exact ⟨by decide, by decide, by decide, by decide, by decide, by decide, by decide, by decide, by decide, by decide, fun _ _ _ _ _ _ h _ _ => h, fun _ _ m xs h => by rw [show xs = [.int .i64 m] from h]; rfl⟩
  | 2 => exact ⟨by decide, by decide, by decide, by decide, by decide, by decide, by decide, by decide, by decide, by decide, fun _ _ _ _ _ _ h _ _ => h, fun _ _ m xs h => by rw [show xs = colM m from h]; rfl⟩
  | 3 => exact ⟨by decide, by decide, by decide, by decide, by decide, by decide, by decide, by decide, by decide, by decide, fun _ _ _ _ _ _ h _ _ => h, fun _ _ m xs h => by rw [show xs = cellM m from h]; rfl⟩
  | k + 4 =>
    rw [show LN (k + 4) = LN 4 from rfl]
    refine ⟨by decide, by decide, by decide, by decide, by decide, by decide, by decide, by decide, by decide, by decide, ?_, ?_⟩
    · rintro w w' U U' m xs ⟨g, c, cur, h1, h2, h3, h4⟩ hx hU
      exact ⟨g, c, cur, h1, hU g h2, by rw [hx g h2 ⟨cur, h3⟩]; exact h3, h4⟩
    · rintro w U m xs ⟨g, c, cur, h1, _⟩
      rw [h1]; rfl

/-- the book in block b: its lanes' blocks U, what was kept -/
def Bk (w : World) (B b : Nat) (U : Nat → Nat → Prop) (ps : Nat → List (Value × Int)) : Prop :=
  ∃ C : Array Value, BB w b C ∧ C.size = 11 ∧ (∃ mk, C[0]? = some (.int .i64 mk)) ∧ B ≤ b ∧
    (∀ i, i < 5 → ∃ vr vm, C[2 * i + 1]? = some vr ∧ C[2 * i + 2]? = some vm ∧ LaneG (LN i) w B (U i) vr vm (lists (ps i)) (marks (LN i).kd (ps i)) (ps i)) ∧
    (∀ i, i < 5 → ∀ k, U i k → B ≤ k ∧ k < w.heap.size ∧ k ≠ b) ∧ (∀ i j k, i < 5 → j < 5 → U i k → U j k → i = j)

/-- the book, seen from outside: A its blocks, at most n lists in a lane -/
def Book5 (w : World) (B b : Nat) (A : Nat → Prop) (n : Nat) : Prop :=
  ∃ U ps, Bk w B b U ps ∧ (∀ k, A k ↔ (k = b ∨ ∃ i, i < 5 ∧ U i k)) ∧ ∀ i, i < 5 → (ps i).length ≤ n

theorem Book5.lt {w : World} {B b : Nat} {A : Nat → Prop} {n : Nat} (h : Book5 w B b A n) : ∀ k, A k → B ≤ k ∧ k < w.heap.size := by
  obtain ⟨U, ps, ⟨C, h1, h2, h3, h4, h5, h6, h7⟩, hA, hn⟩ := h
  intro k hk
  rcases (hA k).1 hk with rfl | ⟨i, hi, hu⟩
  · exact ⟨h4, h1.ty.lt⟩
  · have := h6 i hi k hu; omega

theorem Book5.hasB {w : World} {B b : Nat} {A : Nat → Prop} {n : Nat} (h : Book5 w B b A n) : A b := by
  obtain ⟨U, ps, _, hA, _⟩ := h; exact (hA b).2 (.inl rfl)
theorem Book5.bsize {w : World} {B b : Nat} {A : Nat → Prop} {n : Nat} (h : Book5 w B b A n) : B ≤ w.heap.size := by
  have := h.lt b h.hasB; omega

theorem Book5.kept {w w' : World} {B b : Nat} {A : Nat → Prop} {n : Nat} (h : Book5 w B b A n) (hw : ∀ k, A k → w'.heap[k]? = w.heap[k]?) (hs : w.heap.size ≤ w'.heap.size) : Book5 w' B b A n := by
  obtain ⟨U, ps, ⟨C, h1, h2, h3, h4, h5, h6, h7⟩, hA, hn⟩ := h
  refine ⟨U, ps, ⟨C, h1.kept (hw b ((hA b).2 (.inl rfl))), h2, h3, h4, ?_, fun i hi k hk => ?_, h7⟩, hA, hn⟩
  · intro i hi
    obtain ⟨vr, vm, e1, e2, hL⟩ := h5 i hi
    exact ⟨vr, vm, e1, e2, hL.agree (LN_ok i) (fun k hk => hw k ((hA k).2 (.inr ⟨i, hi, hk⟩))) (fun _ h => h)⟩
  · have := h6 i hi k hk; omega

theorem Book5.below {w w' : World} {B b N : Nat} {A : Nat → Prop} {n : Nat} (h : Book5 w B b A n) (hb : Below N w w') (hN : w.heap.size ≤ N) : Book5 w' B b A n :=
  h.kept (fun k hk => hb.block k (by have := (h.lt k hk).2; omega)) hb.size

theorem Book5.mono {w : World} {B b : Nat} {A : Nat → Prop} {n n' : Nat} (h : Book5 w B b A n) (hn : n ≤ n') : Book5 w B b A n' := by
  obtain ⟨U, ps, h1, h2, h3⟩ := h
  exact ⟨U, ps, h1, h2, fun i hi => Nat.le_trans (h3 i hi) hn⟩

theorem set_same (C : Array Value) (j : Nat) (v : Value) (h : C[j]? = some v) : C.setIfInBounds j v = C := by
  apply Array.ext_getElem?
  intro i
  by_cases hij : j = i
  · subst hij
    have hlt : j < C.size := (Array.getElem?_eq_some_iff.1 h).1
    rw [Array.getElem?_setIfInBounds_self_of_lt hlt, h]
  · rw [Array.getElem?_setIfInBounds_ne hij]

/-- a lane of the book is opened; what comes back shuts it -/
theorem Book5.openL {w : World} {B b : Nat} {A : Nat → Prop} {n : Nat} (h : Book5 w B b A n) (i : Nat) (hi : i < 5) :
    ∃ (C : Array Value) (U0 : Nat → Prop) (ps : List (Value × Int)) (vr vm : Value), BB w b C ∧ C.size = 11 ∧ (∃ mk, C[0]? = some (.int .i64 mk)) ∧ C[2 * i + 1]? = some vr ∧ C[2 * i + 2]? = some vm ∧
      LaneG (LN i) w B U0 vr vm (lists ps) (marks (LN i).kd ps) ps ∧ ps.length ≤ n ∧ (∀ k, U0 k → A k) ∧ (∀ k, U0 k → B ≤ k ∧ k < w.heap.size ∧ k ≠ b) ∧ B ≤ b ∧
      ∀ (w' : World) (l0 : Option Nat) (U' : Nat → Prop) (ps' : List (Value × Int)) (vr' vm' : Value) (mk' : Int), BB w' b (((C.setIfInBounds 0 (.int .i64 mk')).setIfInBounds (2 * i + 1) vr').setIfInBounds (2 * i + 2) vm') →
        LaneG (LN i) w' B U' vr' vm' (lists ps') (marks (LN i).kd ps') ps' → ps'.length ≤ n + 4 → (∀ k, U' k → B ≤ k ∧ k < w'.heap.size ∧ k ≠ b) → (∀ k, U' k → U0 k ∨ l0 = some k ∨ w.heap.size ≤ k) → (∀ k, l0 = some k → ¬ A k) →
        Fr (fun j => U0 j ∨ j = b ∨ l0 = some j) w w' →
        ∃ A', Book5 w' B b A' (n + 4) ∧ (∀ k, A' k → A k ∨ l0 = some k ∨ w.heap.size ≤ k) ∧ Fr (fun k => A k ∨ l0 = some k) w w' := by
  obtain ⟨U, ps, ⟨C, h1, h2, h3, h4, h5, h6, h7⟩, hA, hn⟩ := h
  obtain ⟨vr, vm, e1, e2, hL⟩ := h5 i hi
  refine ⟨C, U i, ps i, vr, vm, h1, h2, h3, e1, e2, hL, hn i hi, fun k hk => (hA k).2 (.inr ⟨i, hi, hk⟩), h6 i hi, h4, ?_⟩
  intro w' l0 U' ps' vr' vm' mk' hBB hL' hps hU' hUn hl0 hfr
  have hsz := hfr.size
  have hdis : ∀ j k, j < 5 → j ≠ i → U j k → ¬ U' k := by
    intro j k hj hji hk hu
    rcases hUn k hu with h | h | h
    · exact hji (h7 j i k hj hi hk h)
    · exact hl0 k h ((hA k).2 (.inr ⟨j, hj, hk⟩))
    · have := h6 j hj k hk; omega
  refine ⟨fun k => k = b ∨ ∃ j, j < 5 ∧ (if j = i then U' k else U j k), ⟨fun j => if j = i then U' else U j, fun j => if j = i then ps' else ps j, ⟨_, hBB, by simp [h2], ⟨mk', ?_⟩, h4, ?_, ?_, ?_⟩, ?_, ?_⟩, ?_, ?_⟩
  · rw [Array.getElem?_setIfInBounds_ne (by omega), Array.getElem?_setIfInBounds_ne (by omega), Array.getElem?_setIfInBounds_self_of_lt (by omega)]
  · intro j hj
    by_cases hji : j = i
    · subst hji
      refine ⟨vr', vm', ?_, ?_, by simpa using hL'⟩
      · rw [Array.getElem?_setIfInBounds_ne (by omega), Array.getElem?_setIfInBounds_self_of_lt (by simp; omega)]
      · rw [Array.getElem?_setIfInBounds_self_of_lt (by simp; omega)]
    · obtain ⟨vr2, vm2, f1, f2, hL2⟩ := h5 j hj
      refine ⟨vr2, vm2, ?_, ?_, ?_⟩
      · rw [Array.getElem?_setIfInBounds_ne (by omega), Array.getElem?_setIfInBounds_ne (by omega), Array.getElem?_setIfInBounds_ne (by omega)]; exact f1
      · rw [Array.getElem?_setIfInBounds_ne (by omega), Array.getElem?_setIfInBounds_ne (by omega), Array.getElem?_setIfInBounds_ne (by omega)]; exact f2
      · simp only [if_neg hji]
        refine hL2.agree (LN_ok j) (fun k hk => hfr.block k (h6 j hj k hk).2.1 ?_) (fun _ h => h)
        rintro (h | h | h)
        · exact hji (h7 j i k hj hi hk h)
        · exact (h6 j hj k hk).2.2 h
        · exact hl0 k h ((hA k).2 (.inr ⟨j, hj, hk⟩))
  · intro j hj k hk
    by_cases hji : j = i
    · simp only [if_pos hji] at hk; exact hU' k hk
    · simp only [if_neg hji] at hk; have := h6 j hj k hk; omega
  · intro j j2 k hj hj2 hk hk2
    by_cases hji : j = i
    · by_cases hji2 : j2 = i
      · omega
      · simp only [if_pos hji] at hk; simp only [if_neg hji2] at hk2
        exact absurd hk (hdis j2 k hj2 hji2 hk2)
    · by_cases hji2 : j2 = i
      · simp only [if_neg hji] at hk; simp only [if_pos hji2] at hk2
        exact absurd hk2 (hdis j k hj hji hk)
      · simp only [if_neg hji] at hk; simp only [if_neg hji2] at hk2
        exact h7 j j2 k hj hj2 hk hk2
  · intro k
    have e : ∀ j, ((fun j => if j = i then U' else U j) j k) = (if j = i then U' k else U j k) := fun j => by
      by_cases hji : j = i
      · simp only [if_pos hji]
      · simp only [if_neg hji]
    constructor
    · rintro (h | ⟨j, hj, h⟩)
      · exact .inl h
      · exact .inr ⟨j, hj, (e j).mpr h⟩
    · rintro (h | ⟨j, hj, h⟩)
      · exact .inl h
      · exact .inr ⟨j, hj, (e j).mp h⟩
  · intro j hj
    by_cases hji : j = i
    · simp only [if_pos hji]; exact hps
    · simp only [if_neg hji]; have := hn j hj; omega
  · rintro k (h | ⟨j, hj, h⟩)
    · exact .inl ((hA k).2 (.inl h))
    · split at h
      · rcases hUn k h with h | h | h
        · exact .inl ((hA k).2 (.inr ⟨i, hi, h⟩))
        · exact .inr (.inl h)
        · exact .inr (.inr h)
      · exact .inl ((hA k).2 (.inr ⟨j, hj, h⟩))
  · refine hfr.mono (fun k hk => ?_)
    rcases hk with h | h | h
    · exact .inl ((hA k).2 (.inr ⟨i, hi, h⟩))
    · exact .inl ((hA k).2 (.inl h))
    · exact .inr h

/-- the book at its beginning -/
theorem Book5.start (w : World) : Book5 (w.alloc (.cells #[.int .i64 0, nilS, nilS, nilS, nilS, nilS, nilS, nilS, nilS, nilS, nilS] 32)) w.heap.size w.heap.size (fun k => k = w.heap.size) 0 := by
  refine ⟨fun _ _ => False, fun _ => [], ⟨_, heap_alloc_new w _, rfl, ⟨0, rfl⟩, Nat.le_refl _, ?_, fun _ _ _ h => h.elim, fun _ _ _ _ _ h => h.elim⟩, fun k => by simp, fun i hi => Nat.le_refl _⟩
  intro i hi
  refine ⟨nilS, nilS, ?_, ?_, World.ownsRow_nil _ _ _ _, World.ownsRow_nil _ _ _ _, ?_, ?_, ?_⟩
  · match i, hi with
    | 0, _ => rfl
    | 1, _ => rfl
    | 2, _ => rfl
    | 3, _ => rfl
    | 4, _ => rfl
  · match i, hi with
    | 0, _ => rfl
    | 1, _ => rfl
    | 2, _ => rfl
    | 3, _ => rfl
    | 4, _ => rfl
  · intro p hp; cases hp
  · intro k hk; cases hk
  · intro k hk; cases hk

section
variable {P : LP} {jr jm : Nat} {w w1 wr : World} {B b : Nat} {C : Array Value} {U U' : Nat → Prop} {n : Nat} {m : Int} {ps : List (Value × Int)} {ao : Option Addr} {cap : Nat} {vr vm : Value} {xs : List Value}

/-- the list has been written full: the keeping begins -/
theorem KS.start (ok : LPok P) (hL : LaneG P w B U vr vm (lists ps) (marks P.kd ps) ps) (hBB : BB w b C) (hvr : C[jr]? = some vr) (hvm : C[jm]? = some vm) (hj0 : jr ≠ 0) (hm0 : jm ≠ 0) (hUr : ∀ k, U k → B ≤ k ∧ k < w.heap.size ∧ k ≠ b) (hB : B ≤ b) (u : Value)
    (hf1 : w1 = w.setCell ⟨b, 0, none⟩ u) (hf2 : Fr (fun k => (Value.slice ao n cap).ownBlock = some k) w1 wr) (hlU : ∀ k, (Value.slice ao n cap).ownBlock = some k → ¬ U k) (hlb : (Value.slice ao n cap).ownBlock ≠ some b)
    (ho : wr.ownsRow B P.e P.sz (.slice ao n cap) n xs) (hU1 : ∀ k, U k → U' k) (hU2 : ∀ k, U' k → U k ∨ (w.heap.size ≤ k ∧ k < wr.heap.size)) (_hlU' : ∀ k, (Value.slice ao n cap).ownBlock = some k → k < w.heap.size) (hel : AllEl P wr U' m n xs) :
    KS P jr jm w B b (C.setIfInBounds 0 u) U (Value.slice ao n cap).ownBlock n m ps (lists ps) (marks P.kd ps) U' wr (.slice ao n cap) := by
  have hbl := hBB.ty.lt
  have hs1 : w1.heap.size = w.heap.size := by rw [hf1]; exact size_set _ _ _
  have hs2 := hf2.size
  have ag : ∀ k, U k → wr.heap[k]? = w.heap[k]? := fun k hk => by
    have h := hUr k hk
    rw [hf2.block k (by omega) (fun e' => hlU k e' hk), hf1]
    exact heap_setCell_other w _ k u h.2.2
  have hL' : LaneG P wr B U' vr vm (lists ps) (marks P.kd ps) ps := hL.agree ok ag hU1
  refine ⟨vr, vm, ?_, ⟨hL', ⟨xs, ho, hel⟩, fun k hk e' => hlU k hk (hL.2.2.2.2 k e'), ?_⟩, ?_, ?_, fun j hj => .inl hj, ?_, hB, hbl⟩
  · have hb1 : BB w1 b (C.setIfInBounds 0 u) := by rw [hf1]; exact hBB.set 0 u
    rw [set_same _ jr vr (by rw [Array.getElem?_setIfInBounds_ne (Ne.symm hj0)]; exact hvr), set_same _ jm vm (by rw [Array.getElem?_setIfInBounds_ne (Ne.symm hm0)]; exact hvm)]
    exact hb1.kept (hf2.block b (by omega) hlb)
  · intro p hp g j cp hv hj hg
    obtain ⟨ao', j', cp', hv', hm, hf⟩ := hL.2.2.1 p hp
    rw [hv] at hv'
    simp only [Value.slice.injEq] at hv'
    obtain ⟨rfl, rfl, rfl⟩ := hv'
    rcases hf with hf | ⟨g', cur, ha, hu, _⟩
    · omega
    · simp only [Option.some.injEq, Addr.mk.injEq, and_true] at ha
      subst ha
      exact absurd hu (hlU _ hg)
  · intro k hk
    rcases hU2 k hk with h | h
    · have := hUr k h; omega
    · exact ⟨by omega, by omega, by omega⟩
  · intro k hk
    rcases hU2 k hk with h | h
    · exact .inl h
    · exact .inr (.inr h.1)
  · have hf1' : Fr (fun k => k = b) w w1 := by rw [hf1]; exact Fr.set
    exact (hf1'.mono (fun k (hk : k = b) => .inr (.inl hk))).trans hf2 (fun k _ e' => .inr (.inr e'))

theorem KS.finish {U0 : Nat → Prop} {l0 : Option Nat} {N : Nat} {vl : Value} {X Y : List Value} (h : KS P jr jm w B b C U0 l0 N m ps X Y U wr vl) :
    ∃ vr vm, BB wr b ((C.setIfInBounds jr vr).setIfInBounds jm vm) ∧ LaneG P wr B U vr vm X Y ps ∧ (∀ j, U j → B ≤ j ∧ j < wr.heap.size ∧ j ≠ b) ∧ (∀ j, U j → U0 j ∨ l0 = some j ∨ w.heap.size ≤ j) ∧ Fr (fun j => U0 j ∨ j = b ∨ l0 = some j) w wr := by
  obtain ⟨vr, vm, h1, h2, h3, h4, h5, h6, h7, h8⟩ := h
  exact ⟨vr, vm, h1, h2.1, h3, h4, h6⟩
end

end Go.Proofs.YtjobhlncllfdmaaGreat
