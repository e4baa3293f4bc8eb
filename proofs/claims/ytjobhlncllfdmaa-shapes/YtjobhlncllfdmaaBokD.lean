/- The book; keepBytes. -/
import Derived.Test.YtjobhlncllfdmaaBokC
namespace Go.Proofs.Ytjobhlncllfdmaa
open Go.RowKit

theorem Try.info24 : (Try.prog.info? 24).map (fun i => (i.zero, i.size, i.bytes)) = some (some (.slice none 0 0), 1, 24) := by kernel_rfl
theorem Try.info26 : (Try.prog.info? 26).map (fun i => (i.zero, i.size, i.bytes)) = some (some (.slice none 0 0), 1, 24) := by kernel_rfl

/-- all but the blocks of T is as it was -/
structure Fr (T : Nat → Prop) (w w' : World) : Prop where
  os : w'.os = w.os
  tape : w'.tape = w.tape
  output : w'.output = w.output
  size : w.heap.size ≤ w'.heap.size
  block : ∀ k, k < w.heap.size → ¬ T k → w'.heap[k]? = w.heap[k]?

theorem Fr.refl (T : Nat → Prop) (w : World) : Fr T w w := ⟨rfl, rfl, rfl, Nat.le_refl _, fun _ _ _ => rfl⟩
theorem Fr.trans {T T' : Nat → Prop} {w w' w'' : World} (h : Fr T w w') (h' : Fr T' w' w'') (hT : ∀ k, k < w.heap.size → T' k → T k) : Fr T w w'' :=
  ⟨h'.os.trans h.os, h'.tape.trans h.tape, h'.output.trans h.output, Nat.le_trans h.size h'.size, fun k hk ht => (h'.block k (Nat.lt_of_lt_of_le hk h.size) (fun t => ht (hT k hk t))).trans (h.block k hk ht)⟩
theorem Fr.mono {T T' : Nat → Prop} {w w' : World} (h : Fr T w w') (hT : ∀ k, T k → T' k) : Fr T' w w' := ⟨h.os, h.tape, h.output, h.size, fun k hk ht => h.block k hk (fun t => ht (hT k t))⟩
theorem Fr.below {T : Nat → Prop} {w w' : World} {B : Nat} (h : Fr T w w') (hB : B ≤ w.heap.size) (hT : ∀ k, T k → B ≤ k) : Below B w w' :=
  ⟨h.os, h.tape, h.output, h.size, fun k hk => h.block k (by omega) (fun t => by have := hT k t; omega)⟩
theorem Fr.of_below {w w' : World} (T : Nat → Prop) (h : Below w.heap.size w w') : Fr T w w' := ⟨h.os, h.tape, h.output, h.size, fun k hk _ => h.block k hk⟩
theorem Fr.set {w : World} {b j : Nat} {u : Value} : Fr (fun k => k = b) w (w.setCell ⟨b, j, none⟩ u) := ⟨rfl, rfl, rfl, by simp, fun k _ hk => heap_setCell_other w _ k u hk⟩
theorem Fr.grown {w w1 : World} {o : Obj} {row : Option Nat} (hg : (w.alloc o).grownBy w1 row) : Fr (fun k => row = some k) w w1 :=
  ⟨hg.os, hg.tape, hg.output, by have := hg.size; rw [size_alloc'] at this; omega, fun k hk hr => agree_step hg hk hr⟩

theorem take_set_next {α : Type} (ys : List α) (k : Nat) (x : α) (h : ys.take k = List.replicate k x) (hk : k < ys.length) : (ys.set k x).take (k + 1) = List.replicate (k + 1) x := by
  rw [List.take_succ_eq_append_getElem (by simpa using hk)]
  rw [List.take_set_of_le (Nat.le_refl _), h, List.replicate_succ']
  simp

def nilS : Value := .slice none 0 0

/-- the book's block -/
def BBlk (w : World) (b : Nat) (mk : Int) (vb vbm vi vim : Value) : Prop :=
  w.heap[b]? = some (.cells #[.int .i64 mk, vb, vbm, vi, vim, nilS, nilS, nilS, nilS, nilS, nilS] 31 (0, 0))

section
variable {w w' : World} {b : Nat} {mk : Int} {vb vbm vi vim : Value}
theorem BBlk.c0 (h : BBlk w b mk vb vbm vi vim) : w.cell? ⟨b, 0, none⟩ = some (.int .i64 mk) := by rw [cell_of_row w b 0 _ _ _ h]; rfl
theorem BBlk.c1 (h : BBlk w b mk vb vbm vi vim) : w.cell? ⟨b, 1, none⟩ = some vb := by rw [cell_of_row w b 1 _ _ _ h]; rfl
theorem BBlk.c2 (h : BBlk w b mk vb vbm vi vim) : w.cell? ⟨b, 2, none⟩ = some vbm := by rw [cell_of_row w b 2 _ _ _ h]; rfl
theorem BBlk.c3 (h : BBlk w b mk vb vbm vi vim) : w.cell? ⟨b, 3, none⟩ = some vi := by rw [cell_of_row w b 3 _ _ _ h]; rfl
theorem BBlk.c4 (h : BBlk w b mk vb vbm vi vim) : w.cell? ⟨b, 4, none⟩ = some vim := by rw [cell_of_row w b 4 _ _ _ h]; rfl
theorem BBlk.fz (h : BBlk w b mk vb vbm vi vim) (j : Nat) : w.frozen? ⟨b, j, none⟩ = false := frozen_of_row w b j _ _ h
theorem BBlk.ty (h : BBlk w b mk vb vbm vi vim) : Ty w b 31 := ⟨_, h⟩
theorem BBlk.kept (h : BBlk w b mk vb vbm vi vim) (hw : w'.heap[b]? = w.heap[b]?) : BBlk w' b mk vb vbm vi vim := by unfold BBlk; rw [hw]; exact h
theorem BBlk.set0 (h : BBlk w b mk vb vbm vi vim) (k : Int) : BBlk (w.setCell ⟨b, 0, none⟩ (.int .i64 k)) b k vb vbm vi vim := by unfold BBlk; rw [heap_setCell_same w b 0 _ _ _ h]; rfl
theorem BBlk.set1 (h : BBlk w b mk vb vbm vi vim) (u : Value) : BBlk (w.setCell ⟨b, 1, none⟩ u) b mk u vbm vi vim := by unfold BBlk; rw [heap_setCell_same w b 1 _ _ _ h]; rfl
theorem BBlk.set2 (h : BBlk w b mk vb vbm vi vim) (u : Value) : BBlk (w.setCell ⟨b, 2, none⟩ u) b mk vb u vi vim := by unfold BBlk; rw [heap_setCell_same w b 2 _ _ _ h]; rfl
theorem BBlk.set3 (h : BBlk w b mk vb vbm vi vim) (u : Value) : BBlk (w.setCell ⟨b, 3, none⟩ u) b mk vb vbm u vim := by unfold BBlk; rw [heap_setCell_same w b 3 _ _ _ h]; rfl
theorem BBlk.set4 (h : BBlk w b mk vb vbm vi vim) (u : Value) : BBlk (w.setCell ⟨b, 4, none⟩ u) b mk vb vbm vi u := by unfold BBlk; rw [heap_setCell_same w b 4 _ _ _ h]; rfl
end

def lists (ps : List (Value × Int)) : List Value := ps.map Prod.fst
def marks (kd : IntKind) (ps : List (Value × Int)) : List Value := ps.map fun p => .int kd p.2

/-- the book: its two lanes, all in blocks of U -/
def Book (w : World) (B b : Nat) (U : Nat → Prop) (bs is : List (Value × Int)) : Prop :=
  ∃ mk vb vbm vi vim, BBlk w b mk vb vbm vi vim ∧ Lane w B U 24 5 .u8 vb vbm (lists bs) (marks .u8 bs) bs ∧ Lane w B U 26 3 .i64 vi vim (lists is) (marks .i64 is) is ∧ U b ∧ (∀ k, U k → B ≤ k ∧ k < w.heap.size)

theorem Book.kept {w w' : World} {B b : Nat} {U : Nat → Prop} {bs is : List (Value × Int)} (h : Book w B b U bs is) (hw : ∀ k, U k → w'.heap[k]? = w.heap[k]?) (hs : w.heap.size ≤ w'.heap.size) : Book w' B b U bs is := by
  obtain ⟨mk, vb, vbm, vi, vim, h1, h2, h3, h4, h5⟩ := h
  exact ⟨mk, vb, vbm, vi, vim, h1.kept (hw b h4), h2.agree (fun k hk _ => hw k hk) (fun _ h => h), h3.agree (fun k hk _ => hw k hk) (fun _ h => h), h4, fun k hk => ⟨(h5 k hk).1, Nat.lt_of_lt_of_le (h5 k hk).2 hs⟩⟩

end Go.Proofs.Ytjobhlncllfdmaa
