/- The book; keepBytes. -/
import Derived.Test.YtjobhlncllfdmaaGreatM03
import Derived.Test.YtjobhlncllfdmaaGreatM02
namespace Go.Proofs.YtjobhlncllfdmaaGreat
open Go.RowKit

theorem Tryz.info25 : (Tryz.prog.info? 25).map (fun i => (i.zero, i.size, i.bytes)) = some (some (.slice none 0 0), 1, 24) := by kernel_rfl
theorem Tryz.info27 : (Tryz.prog.info? 27).map (fun i => (i.zero, i.size, i.bytes)) = some (some (.slice none 0 0), 1, 24) := by kernel_rfl

/-- all but the blocks of T is as it was -/
structure Fr (T : Nat → Prop) (w w' : World) : Prop where
  os : w'.os = w.os
  tape : w'.tape = w.tape
  output : w'.output = w.output
  size : w.heap.size ≤ w'.heap.size
  block : ∀ k, k < w.heap.size → ¬ T k → w'.heap[k]? = w.heap[k]?

theorem Fr.refl (T : Nat → Prop) (w : World) : Fr T w w := ⟨rfl, rfl, rfl, Nat.le_refl _, fun _ _ _ => rfl⟩
theorem Fr.trans {T T' : Nat → Prop} {w w' w'' : World} (h : Fr T w w') (h' : Fr T' w' w'') (hT : ∀ k, k < w.heap.size → T' k → T k) : Fr T w w'' :=
  ⟨h'.os.trans h.os, h'.tape.trans h.tape, h'.output.trans h.output, Nat.le_trans h.size h'.size, fun k hk ht => (h'.block k (Nat.lt_of_lt_of_le hk h.size) (fun t => ht (hT k hk t))).trans (h.block k hk ht)⟩
theorem Fr.mono {T T' : Nat → Prop} {w w' : World} (h : Fr T w w') (hT : ∀ k, T k → T' k) : Fr T' w w' := ⟨h.os, h.tape, h.output, h.size, fun k hk ht => h.block k hk (fun t => ht (hT k t))⟩
theorem Fr.below {T : Nat → Prop} {w w' : World} {B : Nat} (h : Fr T w w') (hB : B ≤ w.heap.size) (hT : ∀ k, T k → B ≤ k) : Below B w w' :=
  ⟨h.os, h.tape, h.output, h.size, fun k hk => h.block k (by omega) (fun t => by have := hT k t; omega)⟩
theorem Fr.of_below {w w' : World} (T : Nat → Prop) (h : Below w.heap.size w w') : Fr T w w' := ⟨h.os, h.tape, h.output, h.size, fun k hk _ => h.block k hk⟩
theorem Fr.set {w : World} {b j : Nat} {u : Value} : Fr (fun k => k = b) w (w.setCell ⟨b, j, none⟩ u) := ⟨rfl, rfl, rfl, by simp, fun k _ hk => heap_setCell_other w _ k u hk⟩
theorem Fr.grown {w w1 : World} {o : Obj} {row : Option Nat} (hg : (w.alloc o).grownBy w1 row) : Fr (fun k => row = some k) w w1 :=
  ⟨hg.os, hg.tape, hg.output, by have := hg.size; rw [size_alloc'] at this; omega, fun k hk hr => agree_step hg hk hr⟩

theorem take_set_next {α : Type} (ys : List α) (k : Nat) (x : α) (h : ys.take k = List.replicate k x) (hk : k < ys.length) : (ys.set k x).take (k + 1) = List.replicate (k + 1) x := by
  rw [List.take_succ_eq_append_getElem (by simpa using hk)]
  rw [List.take_set_of_le (Nat.le_refl _), h, List.replicate_succ']
  simp

def nilS : Value := .slice none 0 0

/-- the book's block -/
def BBlk (w : World) (b : Nat) (mk : Int) (vb vbm vi vim : Value) : Prop :=
  w.heap[b]? = some (.cells #[.int .i64 mk, vb, vbm, vi, vim, nilS, nilS, nilS, nilS, nilS, nilS] 32 (0, 0))

section
variable {w w' : World} {b : Nat} {mk : Int} {vb vbm vi vim : Value}
theorem BBlk.c0 (h : BBlk w b mk vb vbm vi vim) : w.cell? ⟨b, 0, none⟩ = some (.int .i64 mk) := by rw [cell_of_row w b 0 _ _ _ h]; rfl
theorem BBlk.c1 (h : BBlk w b mk vb vbm vi vim) : w.cell? ⟨b, 1, none⟩ = some vb := by rw [cell_of_row w b 1 _ _ _ h]; rfl
theorem BBlk.c2 (h : BBlk w b mk vb vbm vi vim) : w.cell? ⟨b, 2, none⟩ = some vbm := by rw [cell_of_row w b 2 _ _ _ h]; rfl
theorem BBlk.c3 (h : BBlk w b mk vb vbm vi vim) : w.cell? ⟨b, 3, none⟩ = some vi := by rw [cell_of_row w b 3 _ _ _ h]; rfl
theorem BBlk.c4 (h : BBlk w b mk vb vbm vi vim) : w.cell? ⟨b, 4, none⟩ = some vim := by rw [cell_of_row w b 4 _ _ _ h]; rfl
theorem BBlk.fz (h : BBlk w b mk vb vbm vi vim) (j : Nat) : w.frozen? ⟨b, j, none⟩ = false := frozen_of_row w b j _ _ h
theorem BBlk.ty (h : BBlk w b mk vb vbm vi vim) : Ty w b 32 := ⟨_, h⟩
theorem BBlk.kept (h : BBlk w b mk vb vbm vi vim) (hw : w'.heap[b]? = w.heap[b]?) : BBlk w' b mk vb vbm vi vim := by unfold BBlk; rw [hw]; exact h
theorem BBlk.set0 (h : BBlk w b mk vb vbm vi vim) (k : Int) : BBlk (w.setCell ⟨b, 0, none⟩ (.int .i64 k)) b k vb vbm vi vim := by unfold BBlk; rw [heap_setCell_same w b 0 _ _ _ h]; rfl
theorem BBlk.set1 (h : BBlk w b mk vb vbm vi vim) (u : Value) : BBlk (w.setCell ⟨b, 1, none⟩ u) b mk u vbm vi vim := by unfold BBlk; rw [heap_setCell_same w b 1 _ _ _ h]; rfl
theorem BBlk.set2 (h : BBlk w b mk vb vbm vi vim) (u : Value) : BBlk (w.setCell ⟨b, 2, none⟩ u) b mk vb u vi vim := by unfold BBlk; rw [heap_setCell_same w b 2 _ _ _ h]; rfl
theorem BBlk.set3 (h : BBlk w b mk vb vbm vi vim) (u : Value) : BBlk (w.setCell ⟨b, 3, none⟩ u) b mk vb vbm u vim := by unfold BBlk; rw [heap_setCell_same w b 3 _ _ _ h]; rfl
theorem BBlk.set4 (h : BBlk w b mk vb vbm vi vim) (u : Value) : BBlk (w.setCell ⟨b, 4, none⟩ u) b mk vb vbm vi u := by unfold BBlk; rw [heap_setCell_same w b 4 _ _ _ h]; rfl
end

def lists (ps : List (Value × Int)) : List Value := ps.map Prod.fst
def marks (kd : IntKind) (ps : List (Value × Int)) : List Value := ps.map fun p => .int kd p.2

/-- the book: its two lanes, all in blocks of U -/
def Book (w : World) (B b : Nat) (U : Nat → Prop) (bs is : List (Value × Int)) : Prop :=
  ∃ mk vb vbm vi vim, BBlk w b mk vb vbm vi vim ∧ Lane w B U 25 5 .u8 vb vbm (lists bs) (marks .u8 bs) bs ∧ Lane w B U 27 3 .i64 vi vim (lists is) (marks .i64 is) is ∧ U b ∧ (∀ k, U k → B ≤ k ∧ k < w.heap.size)

theorem Book.kept {w w' : World} {B b : Nat} {U : Nat → Prop} {bs is : List (Value × Int)} (h : Book w B b U bs is) (hw : ∀ k, U k → w'.heap[k]? = w.heap[k]?) (hs : w.heap.size ≤ w'.heap.size) : Book w' B b U bs is := by
  obtain ⟨mk, vb, vbm, vi, vim, h1, h2, h3, h4, h5⟩ := h
  exact ⟨mk, vb, vbm, vi, vim, h1.kept (hw b h4), h2.agree (fun k hk _ => hw k hk) (fun _ h => h), h3.agree (fun k hk _ => hw k hk) (fun _ h => h), h4, fun k hk => ⟨(h5 k hk).1, Nat.lt_of_lt_of_le (h5 k hk).2 hs⟩⟩

end Go.Proofs.YtjobhlncllfdmaaGreat

/- The reference's file: its block, its rows and chunks; what the steps of groups do to it. -/
namespace Go.Proofs.YtjobhlncllfdmaaGreat
open Go.RowKit

theorem Tryz.info107 : (Tryz.prog.info? 107).map (fun i => (i.zero, i.size, i.bytes)) = some (some (.slice none 0 0), 1, 24) := by kernel_rfl
theorem Tryz.info106 : (Tryz.prog.info? 106).map (fun i => (i.zero, i.size, i.bytes)) = some (some (.agg #[.int .i64 0, .int .i64 0]), 2, 16) := by kernel_rfl

def chV (l : List (Nat × Nat)) : List Value := l.flatMap fun c => [Value.int .i64 (c.1 : Int), .int .i64 (c.2 : Int)]
theorem chV_snoc (l : List (Nat × Nat)) (p q : Nat) : chV l ++ [.int .i64 (p : Int), .int .i64 (q : Int)] = chV (l ++ [(p, q)]) := by simp [chV]

theorem own_tyS {w : World} {B : Nat} {e : TypeId} {size : Nat} {v : Value} {n : Nat} {xs : List Value} (h : w.ownsRow B e size v n xs) {k : Nat} (hk : v.ownBlock = some k) : Ty w k e := by
  rcases h.2 with ⟨rfl, _⟩ | ⟨g, cap, cur, rfl, _, hg, _⟩
  · simp [Value.ownBlock] at hk
  · simp only [Value.ownBlock, Option.some.injEq] at hk
    subst hk
    exact ⟨cur, hg⟩
theorem own_agreeS {w w' : World} {B : Nat} {e : TypeId} {size : Nat} {v : Value} {n : Nat} {xs : List Value} (h : w.ownsRow B e size v n xs) (hw : ∀ k, v.ownBlock = some k → w'.heap[k]? = w.heap[k]?) : w'.ownsRow B e size v n xs := by
  refine ⟨h.1, ?_⟩
  rcases h.2 with h2 | ⟨g, cap, cur, rfl, hb, hg, r⟩
  · exact .inl h2
  · exact .inr ⟨g, cap, cur, rfl, hb, by rw [hw g rfl]; exact hg, r⟩

/-- the block of a file that is being read -/
def FBlk (w : World) (F : Nat) (vc vr vk : Value) (E : Nat) : Prop := w.heap[F]? = some (.cells #[vc, vr, vk, .int .i64 E] 101 (0, 0))
section
variable {w w' : World} {F : Nat} {vc vr vk : Value} {E : Nat}
theorem FBlk.c0 (h : FBlk w F vc vr vk E) : w.cell? ⟨F, 0, none⟩ = some vc := by rw [cell_of_row w F 0 _ _ _ h]; rfl
theorem FBlk.c1 (h : FBlk w F vc vr vk E) : w.cell? ⟨F, 1, none⟩ = some vr := by rw [cell_of_row w F 1 _ _ _ h]; rfl
theorem FBlk.c2 (h : FBlk w F vc vr vk E) : w.cell? ⟨F, 2, none⟩ = some vk := by rw [cell_of_row w F 2 _ _ _ h]; rfl
theorem FBlk.c3 (h : FBlk w F vc vr vk E) : w.cell? ⟨F, 3, none⟩ = some (.int .i64 E) := by rw [cell_of_row w F 3 _ _ _ h]; rfl
theorem FBlk.fz (h : FBlk w F vc vr vk E) (j : Nat) : w.frozen? ⟨F, j, none⟩ = false := frozen_of_row w F j _ _ h
theorem FBlk.ty (h : FBlk w F vc vr vk E) : Ty w F 101 := ⟨_, h⟩
theorem FBlk.kept (h : FBlk w F vc vr vk E) (hw : w'.heap[F]? = w.heap[F]?) : FBlk w' F vc vr vk E := by unfold FBlk; rw [hw]; exact h
theorem FBlk.set0 (h : FBlk w F vc vr vk E) (u : Value) : FBlk (w.setCell ⟨F, 0, none⟩ u) F u vr vk E := by unfold FBlk; rw [heap_setCell_same w F 0 _ _ _ h]; rfl
theorem FBlk.set1 (h : FBlk w F vc vr vk E) (u : Value) : FBlk (w.setCell ⟨F, 1, none⟩ u) F vc u vk E := by unfold FBlk; rw [heap_setCell_same w F 1 _ _ _ h]; rfl
theorem FBlk.set2 (h : FBlk w F vc vr vk E) (u : Value) : FBlk (w.setCell ⟨F, 2, none⟩ u) F vc vr u E := by unfold FBlk; rw [heap_setCell_same w F 2 _ _ _ h]; rfl
end

/-- the file in block F, begun in w0: its rows rs, its chunks ls -/
def GS (w0 w : World) (F : Nat) (vc : Value) (E : Nat) (rs : List Nat) (ls : List (List (Nat × Nat))) (vr vk : Value) (vs : List Value) : Prop :=
  FBlk w F vc vr vk E ∧ w.ownsRow w0.heap.size 3 1 vr rs.length (ints rs) ∧ w.ownsRow w0.heap.size 107 1 vk ls.length vs ∧
    (∀ i, (h : i < ls.length) → ∃ v, vs[i]? = some v ∧ w.ownsRow w0.heap.size 106 2 v ls[i].length (chV ls[i])) ∧ Fr (fun k => k = F) w0 w ∧ F < w0.heap.size

section
variable {w0 w w1 : World} {o : Obj} {F : Nat} {vc vr vk v v' : Value} {vs : List Value} {E r : Nat} {rs : List Nat} {ls : List (List (Nat × Nat))} {l : List (Nat × Nat)}

theorem GS.start (h : FBlk w0 F vc nilS nilS E) : GS w0 w0 F vc E [] [] nilS nilS [] :=
  ⟨h, World.ownsRow_nil _ _ _ _, World.ownsRow_nil _ _ _ _, fun i h => by simp at h, Fr.refl _ _, h.ty.lt⟩

theorem GS.below (h : GS w0 w F vc E rs ls vr vk vs) (hb : Below w.heap.size w w1) : GS w0 w1 F vc E rs ls vr vk vs := by
  obtain ⟨h1, h2, h3, h4, h5, h6⟩ := h
  have ag : ∀ k, k < w.heap.size → w1.heap[k]? = w.heap[k]? := fun k hk => hb.block k hk
  refine ⟨h1.kept (ag F h1.ty.lt), own_agreeS h2 (fun k hk => ag k (own_tyS h2 hk).lt), own_agreeS h3 (fun k hk => ag k (own_tyS h3 hk).lt), ?_, h5.trans (Fr.of_below (fun _ => False) hb) (fun _ _ h => h.elim), h6⟩
  intro i hi
  obtain ⟨v, hv, ho⟩ := h4 i hi
  exact ⟨v, hv, own_agreeS ho (fun k hk => ag k (own_tyS ho hk).lt)⟩

/-- a number of rows more -/
theorem GS.pushR (h : GS w0 w F vc E rs ls vr vk vs) (hg : (w.alloc o).grownBy w1 vr.ownBlock) (ho : w1.ownsRow w0.heap.size 3 1 v' (rs.length + 1) (ints rs ++ [.int .i64 (r : Int)])) :
    FBlk w1 F vc vr vk E ∧ GS w0 (w1.setCell ⟨F, 1, none⟩ v') F vc E (rs ++ [r]) ls v' vk vs := by
  obtain ⟨h1, h2, h3, h4, h5, h6⟩ := h
  have hF : FBlk w1 F vc vr vk E := h1.kept (agree_step hg h1.ty.lt (fun e' => Ty.ne (own_tyS h2 e') h1.ty (by decide) rfl))
  have ag : ∀ k e, Ty w k e → e ≠ 3 → e ≠ 101 → (w1.setCell ⟨F, 1, none⟩ v').heap[k]? = w.heap[k]? := fun k e ht h3 h65 =>
    agree_set hg ht.lt (fun e' => Ty.ne (own_tyS h2 e') ht h3.symm rfl) (Ty.ne ht h1.ty h65)
  refine ⟨hF, hF.set1 v', ?_, own_agreeS h3 (fun k hk => ag k _ (own_tyS h3 hk) (by decide) (by decide)), ?_, ?_, h6⟩
  · rw [show (rs ++ [r]).length = rs.length + 1 by simp, ← ints_snoc]
    exact ownsRow_set_other' ho (fun e' => Ty.ne (own_tyS ho e') hF.ty (by decide) rfl)
  · intro i hi
    obtain ⟨v, hv, hoi⟩ := h4 i hi
    exact ⟨v, hv, own_agreeS hoi (fun k hk => ag k _ (own_tyS hoi hk) (by decide) (by decide))⟩
  · refine (h5.trans (Fr.grown hg) (fun k hk e' => ?_)).trans Fr.set (fun k _ e' => e')
    have := (h2.lt k e').1; omega

/-- a list of chunks more -/
theorem GS.pushL (h : GS w0 w F vc E rs ls vr vk vs) (hl : w.ownsRow w0.heap.size 106 2 v l.length (chV l)) (hg : (w.alloc o).grownBy w1 vk.ownBlock) (ho : w1.ownsRow w0.heap.size 107 1 v' (ls.length + 1) (vs ++ [v])) :
    FBlk w1 F vc vr vk E ∧ GS w0 (w1.setCell ⟨F, 2, none⟩ v') F vc E rs (ls ++ [l]) vr v' (vs ++ [v]) := by
  obtain ⟨h1, h2, h3, h4, h5, h6⟩ := h
  have hF : FBlk w1 F vc vr vk E := h1.kept (agree_step hg h1.ty.lt (fun e' => Ty.ne (own_tyS h3 e') h1.ty (by decide) rfl))
  have ag : ∀ k e, Ty w k e → e ≠ 107 → e ≠ 101 → (w1.setCell ⟨F, 2, none⟩ v').heap[k]? = w.heap[k]? := fun k e ht h3' h65 =>
    agree_set hg ht.lt (fun e' => Ty.ne (own_tyS h3 e') ht h3'.symm rfl) (Ty.ne ht h1.ty h65)
  have hvl : vs.length = ls.length := by have := h3.1; omega
  refine ⟨hF, hF.set2 v', own_agreeS h2 (fun k hk => ag k _ (own_tyS h2 hk) (by decide) (by decide)), ?_, ?_, ?_, h6⟩
  · rw [show (ls ++ [l]).length = ls.length + 1 by simp]
    exact ownsRow_set_other' ho (fun e' => Ty.ne (own_tyS ho e') hF.ty (by decide) rfl)
  · intro i hi
    by_cases hi2 : i < ls.length
    · obtain ⟨v, hv, hoi⟩ := h4 i hi2
      refine ⟨v, ?_, ?_⟩
      · rw [List.getElem?_append_left (by omega)]; exact hv
      · rw [List.getElem_append_left hi2]
        exact own_agreeS hoi (fun k hk => ag k _ (own_tyS hoi hk) (by decide) (by decide))
    · have hi3 : i = ls.length := by simp at hi; omega
      subst hi3
      refine ⟨v, by rw [List.getElem?_append_right (by omega), hvl]; simp, ?_⟩
      rw [List.getElem_append_right (by omega)]
      simp only [Nat.sub_self, List.getElem_cons_zero]
      exact own_agreeS hl (fun k hk => ag k _ (own_tyS hl hk) (by decide) (by decide))
  · refine (h5.trans (Fr.grown hg) (fun k hk e' => ?_)).trans Fr.set (fun k _ e' => e')
    have := (h3.lt k e').1; omega
end

theorem chunk1_vi {D : List UInt8} {E a : Nat} (h : Pu.vi D a = none) : Pu.chunk1 D E a = none := by simp [Pu.chunk1, h]
theorem chunk1_bad {D : List UInt8} {E a p a1 : Nat} (h : Pu.vi D a = some (p, a1)) (hb : p < 4 ∨ E < p) : Pu.chunk1 D E a = none := by simp only [Pu.chunk1, h]; rw [if_pos hb]
theorem chunk1_vi2 {D : List UInt8} {E a p a1 : Nat} (h : Pu.vi D a = some (p, a1)) (h2 : Pu.vi D a1 = none) : Pu.chunk1 D E a = none := by
  simp only [Pu.chunk1, h, h2]; split <;> rfl
theorem chunk1_bad2 {D : List UInt8} {E a p a1 q a2 : Nat} (h : Pu.vi D a = some (p, a1)) (h2 : Pu.vi D a1 = some (q, a2)) (hb : q < 1 ∨ 50 < q) : Pu.chunk1 D E a = none := by
  simp only [Pu.chunk1, h, h2]; split <;> first | rfl | rw [if_pos hb]
theorem chunk1_yes {D : List UInt8} {E a p a1 q a2 : Nat} (h : Pu.vi D a = some (p, a1)) (hb : ¬ (p < 4 ∨ E < p)) (h2 : Pu.vi D a1 = some (q, a2)) (hb2 : ¬ (q < 1 ∨ 50 < q)) : Pu.chunk1 D E a = some ((p, q), a2) := by
  simp only [Pu.chunk1, h, h2]; rw [if_neg hb, if_neg hb2]
theorem chunksGo_no {D : List UInt8} {E n a : Nat} {out : List (Nat × Nat)} (hn : 0 < n) (h : Pu.chunk1 D E a = none) : Pu.chunksGo D E n a out = none := by
  obtain ⟨m, rfl⟩ : ∃ m, n = m + 1 := ⟨n - 1, by omega⟩
  simp [Pu.chunksGo, h]
theorem chunksGo_yes {D : List UInt8} {E n a a' : Nat} {out : List (Nat × Nat)} {c : Nat × Nat} (hn : 0 < n) (h : Pu.chunk1 D E a = some (c, a')) : Pu.chunksGo D E n a out = Pu.chunksGo D E (n - 1) a' (out ++ [c]) := by
  obtain ⟨m, rfl⟩ : ∃ m, n = m + 1 := ⟨n - 1, by omega⟩
  simp [Pu.chunksGo, h]
theorem grp1_vi {D : List UInt8} {E nc a : Nat} (h : Pu.vi D a = none) : Pu.grp1 D E nc a = none := by simp [Pu.grp1, h]
theorem grp1_bad {D : List UInt8} {E nc a r a1 : Nat} (h : Pu.vi D a = some (r, a1)) (hb : r < 1 ∨ 1000 < r) : Pu.grp1 D E nc a = none := by simp only [Pu.grp1, h]; rw [if_pos hb]
theorem grp1_no {D : List UInt8} {E nc a r a1 : Nat} (h : Pu.vi D a = some (r, a1)) (hc : Pu.chunksGo D E nc a1 [] = none) : Pu.grp1 D E nc a = none := by
  simp only [Pu.grp1, h, hc]; split <;> rfl
theorem grp1_yes {D : List UInt8} {E nc a r a1 a2 : Nat} {l : List (Nat × Nat)} (h : Pu.vi D a = some (r, a1)) (hb : ¬ (r < 1 ∨ 1000 < r)) (hc : Pu.chunksGo D E nc a1 [] = some (l, a2)) : Pu.grp1 D E nc a = some ((r, l), a2) := by
  simp only [Pu.grp1, h, hc]; rw [if_neg hb]
theorem grpsGo_no {D : List UInt8} {E nc n a : Nat} {out : List (Nat × List (Nat × Nat))} (hn : 0 < n) (h : Pu.grp1 D E nc a = none) : Pu.grpsGo D E nc n a out = none := by
  obtain ⟨m, rfl⟩ : ∃ m, n = m + 1 := ⟨n - 1, by omega⟩
  simp [Pu.grpsGo, h]
theorem grpsGo_yes {D : List UInt8} {E nc n a a' : Nat} {out : List (Nat × List (Nat × Nat))} {g : Nat × List (Nat × Nat)} (hn : 0 < n) (h : Pu.grp1 D E nc a = some (g, a')) : Pu.grpsGo D E nc n a out = Pu.grpsGo D E nc (n - 1) a' (out ++ [g]) := by
  obtain ⟨m, rfl⟩ : ∃ m, n = m + 1 := ⟨n - 1, by omega⟩
  simp [Pu.grpsGo, h]

end Go.Proofs.YtjobhlncllfdmaaGreat
