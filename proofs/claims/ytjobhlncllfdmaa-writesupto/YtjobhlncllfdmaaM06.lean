/- Some cells that are read behind a list: where the new one lies. -/
import Derived.Test.YtjobhlncllfdmaaM05
namespace Go.Proofs.Ytjobhlncllfdmaa
open Go.RowKit

/-- k elements more, read from an address on: in place, or in a new block and nothing old turned -/
theorem appendC {P : Program} (w : World) (t ty e : TypeId) (i : TypeInfo) (z : Value) (size bytes B : Nat) (ht : P.underlying t = some (.slice e)) (hi : P.info? e = some i) (hz : i.zero = some z) (hsize : i.size = size) (hby : i.bytes = bytes) (hzs : z.cells.size = size)
    (v : Value) (n : Nat) (xs : List Value) (hown : w.ownsRow B e size v n xs) (a : Addr) (k c : Nat) (hk : 0 < k) (ys : List Value) (hly : ys.length = k * size) (hnews : ∀ j u, ys[j]? = some u → w.cell? (a.add j) = some u) (h1 : ∀ u ∈ ys, u.oneCell' = true) (h63 : n + k ≤ maxLen) (hbytes : (n + k) * bytes ≤ 140737488355328) (hB : B ≤ w.heap.size) :
    ∃ g cap w', (Builtin.append_ #[t, t] ty #[v, .slice (some a) k c]).run P w = .ok (.slice (some ⟨g, 0, none⟩) (n + k) cap) w' ∧
      w'.ownsRow B e size (.slice (some ⟨g, 0, none⟩) (n + k) cap) (n + k) (xs ++ ys) ∧ w.grownBy w' v.ownBlock ∧ (v.ownBlock = some g ∨ g = w.heap.size ∧ w.grownBy w' none) := by
  have hlx : xs.length = n * size := hown.1
  have hlen : (xs ++ ys).length = (n + k) * size := by rw [List.length_append, hlx, hly, Nat.add_mul]
  obtain ⟨av, cv, rfl⟩ := slen_of hown
  have hsrc : Src P i.size t (.slice (some a) k c) k ys w := Src.ofSlice w ht a k c ys (by rw [hsize]; exact hly) hnews h1
  have grow : ∀ (base : Option Addr) (sc : Nat), (Builtin.firstCells i.size n (.slice base n sc)).run P w.drew = .ok xs.toArray w.drew → sc < n + k →
      ∃ g cap w', (Builtin.append_ #[t, t] ty #[.slice base n sc, .slice (some a) k c]).run P w = .ok (.slice (some ⟨g, 0, none⟩) (n + k) cap) w' ∧
      w'.ownsRow B e size (.slice (some ⟨g, 0, none⟩) (n + k) cap) (n + k) (xs ++ ys) ∧ g = w.heap.size ∧ w.grownBy w' none := by
    intro base sc hold hsc
    have hr := run_append_grow_src w t t ty e i z ht hi hz base n sc xs hold (.slice (some a) k c) k ys hsrc hsc (by unfold maxLen at h63; omega) (by rw [hby]; exact growslice_fits (by omega) hbytes)
    have hge := grownCap_ge w (n + k) sc e
    have hcm : grownCap w (n + k) sc e ≤ maxLen := grownCap_le_maxLen w (n + k) sc e h63
    refine ⟨_, _, _, hr, ⟨hlen, .inr ⟨w.heap.size, _, _, rfl, hB, heap_alloc_new w.drew _, hge, hcm, ?_, ?_⟩⟩, rfl, ⟨rfl, rfl, rfl, by simp, fun k hk _ => Below.heap_alloc w.drew _ k hk⟩⟩
    · simp only [Array.size_append, List.size_toArray, size_zeroCells, hzs]
      rw [hlen, ← Nat.add_mul]
      congr 1; omega
    · simp only [Array.toList_append]
      rw [← hlen]
      exact List.take_left
  rcases hown.2 with ⟨hv, hn0⟩ | ⟨g, cap, cur, hv, hbg, hg, hnc, hcm, hcs, htake⟩
  · simp only [Value.slice.injEq] at hv
    obtain ⟨rfl, rfl, rfl⟩ := hv
    have hx0 : xs = [] := List.eq_nil_of_length_eq_zero (by rw [hlx]; simp)
    subst hx0
    obtain ⟨g, cap, w', h2, h3, h4, h5⟩ := grow none 0 (by simpa using run_firstCells_none (P := P) w.drew i.size 0 0 0) (by omega)
    exact ⟨_, cap, w', h2, h3, ⟨h5.os, h5.tape, h5.output, h5.size, fun k hk _ => h5.block k hk (by simp)⟩, .inr ⟨h4, h5⟩⟩
  · simp only [Value.slice.injEq, true_and] at hv
    obtain ⟨rfl, rfl⟩ := hv
    by_cases hroom : n + k ≤ cv
    · obtain ⟨w', h2, h3, h4⟩ := run_append_fits w B t ty e i size ht hi hsize g n cv xs hown a k c ys hly hnews h1 hroom
      exact ⟨_, cv, w', h2, h3, h4, .inl rfl⟩
    · have holds : ∀ j u, xs[j]? = some u → w.cell? ((⟨g, 0, none⟩ : Addr).add j) = some u := hown.cells (g := g) rfl
      obtain ⟨g', cap', w', h2, h3, h4, h5⟩ := grow (some ⟨g, 0, none⟩) cv (run_firstCells_some w.drew i.size n ⟨g, 0, none⟩ n cv xs (by rw [hsize]; exact hlx) (by simpa using holds)) (by omega)
      exact ⟨_, cap', w', h2, h3, ⟨h5.os, h5.tape, h5.output, h5.size, fun k hk _ => h5.block k hk (by simp)⟩, .inr ⟨h4, h5⟩⟩

end Go.Proofs.Ytjobhlncllfdmaa

/- The book's block; what one round of keeping a list does, in any lane. -/
namespace Go.Proofs.Ytjobhlncllfdmaa
open Go.RowKit

/-- the book's block -/
def BB (w : World) (b : Nat) (C : Array Value) : Prop := w.heap[b]? = some (.cells C 31 (0, 0))

section
variable {w w' : World} {b : Nat} {C : Array Value}
theorem BB.cell (h : BB w b C) (j : Nat) : w.cell? ⟨b, j, none⟩ = C[j]? := cell_of_row w b j _ _ _ h
theorem BB.fz (h : BB w b C) (j : Nat) : w.frozen? ⟨b, j, none⟩ = false := frozen_of_row w b j _ _ h
theorem BB.ty (h : BB w b C) : Ty w b 31 := ⟨_, h⟩
theorem BB.kept (h : BB w b C) (hw : w'.heap[b]? = w.heap[b]?) : BB w' b C := by unfold BB; rw [hw]; exact h
theorem BB.set (h : BB w b C) (j : Nat) (u : Value) : BB (w.setCell ⟨b, j, none⟩ u) b (C.setIfInBounds j u) := heap_setCell_same w b j C 31 u h
end

/-- what the appends of a lane want of the program's types -/
structure LPrun (P : LP) (EE EM by' bm : Nat) : Prop where
  uEE : Try.prog.underlying EE = some (.slice P.E)
  iE : ∃ i, Try.prog.info? P.E = some i ∧ i.zero = some (.slice none 0 0) ∧ i.size = 1 ∧ i.bytes = 24
  uE : Try.prog.underlying P.E = some (.slice P.e)
  ie : ∃ i z, Try.prog.info? P.e = some i ∧ i.zero = some z ∧ i.size = P.sz ∧ i.bytes = by' ∧ z.cells.size = P.sz
  uEM : Try.prog.underlying EM = some (.slice P.em)
  iem : ∃ i, Try.prog.info? P.em = some i ∧ i.zero = some (.int P.kd 0) ∧ i.size = 1 ∧ i.bytes = bm
  bm8 : bm ≤ 8

/-- a list is being kept: w0 the world at the beginning, C the book's cells then, U0 the lane's blocks then, l0 the list's block then -/
def KS (P : LP) (jr jm : Nat) (w0 : World) (B b : Nat) (C : Array Value) (U0 : Nat → Prop) (l0 : Option Nat) (N : Nat) (m : Int) (ps : List (Value × Int)) (X Y : List Value) (U : Nat → Prop) (wr : World) (vl : Value) : Prop :=
  ∃ vr vm, BB wr b ((C.setIfInBounds jr vr).setIfInBounds jm vm) ∧ KeepG P wr B U vr vm X Y ps vl N m ∧ (∀ j, U j → B ≤ j ∧ j < wr.heap.size ∧ j ≠ b) ∧ (∀ j, U j → U0 j ∨ l0 = some j ∨ w0.heap.size ≤ j) ∧
    (∀ j, vl.ownBlock = some j → l0 = some j ∨ w0.heap.size ≤ j) ∧ Fr (fun j => U0 j ∨ j = b ∨ l0 = some j) w0 wr ∧ B ≤ b ∧ b < w0.heap.size

section
variable {P : LP} {EE EM by' bm jr jm : Nat} {w0 wr : World} {B b : Nat} {C : Array Value} {U0 U : Nat → Prop} {l0 : Option Nat} {N : Nat} {m : Int} {ps : List (Value × Int)} {X Y : List Value} {ao : Option Addr} {cap : Nat} {vl : Value}

theorem KS.bsize (h : KS P jr jm w0 B b C U0 l0 N m ps X Y U wr vl) : B ≤ wr.heap.size := by
  obtain ⟨_, _, h1, _, _, _, _, _, hb, _⟩ := h
  have := h1.ty.lt; omega

/-- new blocks, nothing old turned -/
theorem KS.moved (ok : LPok P) {w1 : World} (h : KS P jr jm w0 B b C U0 l0 N m ps X Y U wr vl) (hb : Below wr.heap.size wr w1) : KS P jr jm w0 B b C U0 l0 N m ps X Y (more U wr w1) w1 vl := by
  have hBs := h.bsize
  obtain ⟨vr, vm, h1, h2, h3, h4, h5, h6, h7, h8⟩ := h
  have hbl := h1.ty.lt
  have hs := hb.size
  have hs6 := h6.size
  refine ⟨vr, vm, h1.kept (hb.block b h1.ty.lt), h2.moved ok hb (fun k hk => (h3 k hk).2.1) (fun k hk => .inl hk), ?_, ?_, h5, h6.trans (Fr.of_below (fun _ => False) hb) (fun _ _ h => h.elim), h7, h8⟩
  · intro j hj
    rcases hj with hj | hj
    · have := h3 j hj; omega
    · exact ⟨by omega, by omega, by omega⟩
  · intro j hj
    rcases hj with hj | hj
    · exact h4 j hj
    · exact .inr (.inr (by omega))

/-- the row of lists grows -/
theorem KS.stepA (ok : LPok P) (run : LPrun P EE EM by' bm) (hj : jr ≠ jm) (hr : jr < C.size) (h : KS P jr jm w0 B b C U0 l0 N m ps X Y U wr (.slice ao N cap)) (hX : X.length ≤ 100000000) :
    ∃ a1 c1 g1 p1 w1 U', wr.cell? ⟨b, jr, none⟩ = some (.slice a1 X.length c1) ∧
      (Builtin.append_ #[EE, EE] EE #[.slice a1 X.length c1, .slice (some ⟨wr.heap.size, 0, none⟩) 1 1]).run Try.prog (wr.alloc (.cells #[.slice ao N cap] P.E)) = .ok (.slice (some ⟨g1, 0, none⟩) (X.length + 1) p1) w1 ∧
      w1.cell? ⟨b, jr, none⟩ = some (.slice a1 X.length c1) ∧ w1.frozen? ⟨b, jr, none⟩ = false ∧
      KS P jr jm w0 B b C U0 l0 N m ps (X ++ [.slice ao N cap]) Y U' (w1.setCell ⟨b, jr, none⟩ (.slice (some ⟨g1, 0, none⟩) (X.length + 1) p1)) (.slice ao N cap) := by
  have hBs := h.bsize
  obtain ⟨vr, vm, h1, h2, h3, h4, h5, h6, h7, h8⟩ := h
  have hr1 := h2.1.1
  obtain ⟨a1, c1, rfl⟩ := slen_of hr1
  obtain ⟨iE, hiE, hE0, hE1, hE2⟩ := run.iE
  have hxe : ∀ j u, [Value.slice ao N cap][j]? = some u → (wr.alloc (.cells #[Value.slice ao N cap] P.E)).cell? ((⟨wr.heap.size, 0, none⟩ : Addr).add j) = some u := one_new rfl
  obtain ⟨g1, p1, w1, run1, own1, gr1, at1⟩ := appendS (wr.alloc (.cells #[.slice ao N cap] P.E)) EE EE P.E iE (.slice none 0 0) 1 24 B run.uEE hiE hE0 hE1 hE2 rfl (by omega) _ _ _ (hr1.alloc _) ⟨wr.heap.size, 0, none⟩ [.slice ao N cap] rfl hxe (by intro u hu; simp at hu; subst hu; rfl) 1 (by unfold maxLen; omega) (by omega) (by rw [size_alloc']; omega)
  rw [size_alloc'] at at1
  have hcr : ((C.setIfInBounds jr (.slice a1 X.length c1)).setIfInBounds jm vm)[jr]? = some (.slice a1 X.length c1) := by
    rw [Array.getElem?_setIfInBounds_ne (Ne.symm hj), Array.getElem?_setIfInBounds_self_of_lt hr]
  have hbb1 : BB w1 b _ := h1.kept (agree_step gr1 h1.ty.lt (fun e' => Ty.ne (own_tyS hr1 e') h1.ty ok.E31 rfl))
  have hK1 := KeepG.stepA (b := b) (j := jr) (u := .slice (some ⟨g1, 0, none⟩) (X.length + 1) p1) ok h2 h1.ty gr1 own1 at1
  have hsz1 : wr.heap.size ≤ w1.heap.size := by have := gr1.size; rw [size_alloc'] at this; omega
  have hbl := h1.ty.lt
  have hs6 := h6.size
  refine ⟨a1, c1, g1, p1, w1, _, by rw [h1.cell jr]; exact hcr, run1, by rw [hbb1.cell jr]; exact hcr, hbb1.fz jr, _, vm, ?_, hK1, ?_, ?_, h5, ?_, h7, h8⟩
  · have := hbb1.set jr (.slice (some ⟨g1, 0, none⟩) (X.length + 1) p1)
    rw [show ((C.setIfInBounds jr (Value.slice a1 X.length c1)).setIfInBounds jm vm).setIfInBounds jr (.slice (some ⟨g1, 0, none⟩) (X.length + 1) p1) = (C.setIfInBounds jr (.slice (some ⟨g1, 0, none⟩) (X.length + 1) p1)).setIfInBounds jm vm from by
      rw [Array.setIfInBounds_comm _ _ (Ne.symm hj), Array.setIfInBounds_setIfInBounds]] at this
    exact this
  · intro j hj
    rcases hj with hj | hj
    · have := h3 j hj; rw [size_set]; omega
    · rw [size_set] at hj ⊢; exact ⟨by omega, by omega, by omega⟩
  · intro j hj
    rcases hj with hj | hj
    · exact h4 j hj
    · exact .inr (.inr (by omega))
  · refine (h6.trans (Fr.grown gr1) (fun j hj e' => ?_)).trans Fr.set (fun j hj e' => .inr (.inl e'))
    rcases h4 j (h2.1.2.2.2.1 j e') with h | h | h
    · exact .inl h
    · exact .inr (.inr h)
    · omega

/-- the row of marks grows -/
theorem KS.stepB (ok : LPok P) (run : LPrun P EE EM by' bm) (_hj : jr ≠ jm) (hm : jm < C.size) (h : KS P jr jm w0 B b C U0 l0 N m ps X Y U wr vl) (hY : Y.length ≤ 100000000) :
    ∃ a1 c1 g1 p1 w1 U', wr.cell? ⟨b, jm, none⟩ = some (.slice a1 Y.length c1) ∧
      (Builtin.append_ #[EM, EM] EM #[.slice a1 Y.length c1, .slice (some ⟨wr.heap.size, 0, none⟩) 1 1]).run Try.prog (wr.alloc (.cells #[.int P.kd m] P.em)) = .ok (.slice (some ⟨g1, 0, none⟩) (Y.length + 1) p1) w1 ∧
      w1.cell? ⟨b, jm, none⟩ = some (.slice a1 Y.length c1) ∧ w1.frozen? ⟨b, jm, none⟩ = false ∧
      KS P jr jm w0 B b C U0 l0 N m ps X (Y ++ [.int P.kd m]) U' (w1.setCell ⟨b, jm, none⟩ (.slice (some ⟨g1, 0, none⟩) (Y.length + 1) p1)) vl := by
  have hBs := h.bsize
  obtain ⟨vr, vm, h1, h2, h3, h4, h5, h6, h7, h8⟩ := h
  have hr1 := h2.1.2.1
  obtain ⟨a1, c1, rfl⟩ := slen_of hr1
  obtain ⟨iE, hiE, hE0, hE1, hE2⟩ := run.iem
  have hbm := run.bm8
  have hxe : ∀ j u, [Value.int P.kd m][j]? = some u → (wr.alloc (.cells #[Value.int P.kd m] P.em)).cell? ((⟨wr.heap.size, 0, none⟩ : Addr).add j) = some u := one_new rfl
  have hbytes : (Y.length + 1) * bm ≤ 140737488355328 := Nat.le_trans (Nat.mul_le_mul (show Y.length + 1 ≤ 100000001 by omega) hbm) (by decide)
  obtain ⟨g1, p1, w1, run1, own1, gr1, at1⟩ := appendS (wr.alloc (.cells #[.int P.kd m] P.em)) EM EM P.em iE (.int P.kd 0) 1 bm B run.uEM hiE hE0 hE1 hE2 rfl (by omega) _ _ _ (hr1.alloc _) ⟨wr.heap.size, 0, none⟩ [.int P.kd m] rfl hxe one_cell 1 (by unfold maxLen; omega) hbytes (by rw [size_alloc']; omega)
  rw [size_alloc'] at at1
  have hcr : ((C.setIfInBounds jr vr).setIfInBounds jm (.slice a1 Y.length c1))[jm]? = some (.slice a1 Y.length c1) := by
    rw [Array.getElem?_setIfInBounds_self_of_lt (by simpa using hm)]
  have hbb1 : BB w1 b _ := h1.kept (agree_step gr1 h1.ty.lt (fun e' => Ty.ne (own_tyS hr1 e') h1.ty ok.em31 rfl))
  have hK1 := KeepG.stepB (b := b) (j := jm) (u := .slice (some ⟨g1, 0, none⟩) (Y.length + 1) p1) ok h2 h1.ty gr1 own1 at1
  have hsz1 : wr.heap.size ≤ w1.heap.size := by have := gr1.size; rw [size_alloc'] at this; omega
  have hbl := h1.ty.lt
  have hs6 := h6.size
  refine ⟨a1, c1, g1, p1, w1, _, by rw [h1.cell jm]; exact hcr, run1, by rw [hbb1.cell jm]; exact hcr, hbb1.fz jm, vr, _, ?_, hK1, ?_, ?_, h5, ?_, h7, h8⟩
  · have := hbb1.set jm (.slice (some ⟨g1, 0, none⟩) (Y.length + 1) p1)
    rw [Array.setIfInBounds_setIfInBounds] at this
    exact this
  · intro j hj
    rcases hj with hj | hj
    · have := h3 j hj; rw [size_set]; omega
    · rw [size_set] at hj ⊢; exact ⟨by omega, by omega, by omega⟩
  · intro j hj
    rcases hj with hj | hj
    · exact h4 j hj
    · exact .inr (.inr (by omega))
  · refine (h6.trans (Fr.grown gr1) (fun j hj e' => ?_)).trans Fr.set (fun j hj e' => .inr (.inl e'))
    rcases h4 j (h2.1.2.2.2.2 j e') with h | h | h
    · exact .inl h
    · exact .inr (.inr h)
    · omega

/-- the list itself grows -/
theorem KS.stepC (ok : LPok P) (run : LPrun P EE EM by' bm) {news : List Value} (h : KS P jr jm w0 B b C U0 l0 N m ps X Y U wr (.slice ao N cap)) (hel : P.el wr U m news) (hone : ∀ u ∈ news, u.oneCell' = true) (hN : (N + 1) * by' ≤ 140737488355328) (hN2 : N + 1 ≤ maxLen) :
    ∃ g1 p1 w1 U',
      (Builtin.append_ #[P.E, P.E] P.E #[.slice ao N cap, .slice (some ⟨wr.heap.size, 0, none⟩) 1 1]).run Try.prog (wr.alloc (.cells news.toArray P.e)) = .ok (.slice (some ⟨g1, 0, none⟩) (N + 1) p1) w1 ∧
      KS P jr jm w0 B b C U0 l0 (N + 1) m (ps ++ [(.slice ao N cap, m)]) X Y U' w1 (.slice (some ⟨g1, 0, none⟩) (N + 1) p1) := by
  have hBs := h.bsize
  obtain ⟨vr, vm, h1, h2, h3, h4, h5, h6, h7, h8⟩ := h
  obtain ⟨xs, hx1, hx2⟩ := h2.2.1
  have hnl := ok.len _ _ _ _ hel
  obtain ⟨ie, z, hie, he0, he1, he2, hzs⟩ := run.ie
  have hxe : ∀ j u, news[j]? = some u → (wr.alloc (.cells news.toArray P.e)).cell? ((⟨wr.heap.size, 0, none⟩ : Addr).add j) = some u := by
    intro j u hu
    rw [show (⟨wr.heap.size, 0, none⟩ : Addr).add j = ⟨wr.heap.size, j, none⟩ from by unfold Addr.add; split <;> simp_all, cell_of_row _ _ _ _ _ _ (heap_alloc_new wr _)]
    simpa using hu
  obtain ⟨g1, p1, w1, run1, own1, gr1, at1⟩ := appendS (wr.alloc (.cells news.toArray P.e)) P.E P.E P.e ie z P.sz by' B run.uE hie he0 he1 he2 hzs ok.sz0 _ _ _ (hx1.alloc _) ⟨wr.heap.size, 0, none⟩ news hnl hxe hone 1 hN2 hN (by rw [size_alloc']; omega)
  rw [size_alloc'] at at1
  have hK1 := KeepG.stepC (news := news) ok h2 gr1 (fun k hk => (h3 k hk).2.1) hel (fun xs' hx' => by
    obtain rfl : xs' = xs := by
      rcases hx'.2 with ⟨e1, e2⟩ | ⟨g', c', cur, e1, _, e3, _, _, _, e4⟩
      · have l1 := hx'.1; have l2 := hx1.1
        rw [e2, Nat.zero_mul] at l1 l2
        rw [List.eq_nil_of_length_eq_zero l1, List.eq_nil_of_length_eq_zero l2]
      · rcases hx1.2 with ⟨f1, f2⟩ | ⟨g'', c'', cur', f1, _, f3, _, _, _, f4⟩
        · rw [f1] at e1; cases e1
        · rw [f1] at e1
          simp only [Value.slice.injEq, Option.some.injEq, Addr.mk.injEq, and_true, true_and] at e1
          obtain ⟨rfl, _⟩ := e1
          rw [f3] at e3
          simp only [Option.some.injEq, Obj.cells.injEq, and_true] at e3
          rw [← e4, ← f4, e3]
    exact own1) at1
  have hsz1 : wr.heap.size ≤ w1.heap.size := by have := gr1.size; rw [size_alloc'] at this; omega
  have hbl := h1.ty.lt
  have hs6 := h6.size
  have hlne : ∀ j, (Value.slice ao N cap).ownBlock = some j → j ≠ b := fun j hj => Ty.ne (own_tyS hx1 hj) h1.ty ok.e31
  refine ⟨g1, p1, w1, _, run1, vr, vm, h1.kept (agree_step gr1 h1.ty.lt (fun e' => hlne b e' rfl)), hK1, ?_, ?_, ?_, ?_, h7, h8⟩
  · intro j hj
    rcases hj with (hj | hj) | hj
    · have := h3 j hj; omega
    · exact ⟨by omega, by omega, by omega⟩
    · have := hx1.lt j hj
      exact ⟨by omega, by omega, hlne j hj⟩
  · intro j hj
    rcases hj with (hj | hj) | hj
    · exact h4 j hj
    · exact .inr (.inr (by omega))
    · exact .inr (h5 j hj)
  · intro j hj
    simp only [Value.ownBlock, Option.some.injEq] at hj
    subst hj
    rcases at1 with h | ⟨h, _⟩
    · exact h5 _ h
    · exact .inr (by omega)
  · refine h6.trans (Fr.grown gr1) (fun j hj e' => ?_)
    rcases h5 j e' with h | h
    · exact .inr (.inr h)
    · omega

end
end Go.Proofs.Ytjobhlncllfdmaa
