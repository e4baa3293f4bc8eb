/- The reference's file: its block, its rows and chunks; what the steps of groups do to it. -/
import Derived.Test.YtjobhlncllfdmaaLkB
import Derived.Test.YtjobhlncllfdmaaBokD
namespace Go.Proofs.Ytjobhlncllfdmaa
open Go.RowKit

theorem Try.info136 : (Try.prog.info? 136).map (fun i => (i.zero, i.size, i.bytes)) = some (some (.slice none 0 0), 1, 24) := by kernel_rfl
theorem Try.info138 : (Try.prog.info? 138).map (fun i => (i.zero, i.size, i.bytes)) = some (some (.agg #[.int .i64 0, .int .i64 0]), 2, 16) := by kernel_rfl

def chV (l : List (Nat × Nat)) : List Value := l.flatMap fun c => [Value.int .i64 (c.1 : Int), .int .i64 (c.2 : Int)]
theorem chV_snoc (l : List (Nat × Nat)) (p q : Nat) : chV l ++ [.int .i64 (p : Int), .int .i64 (q : Int)] = chV (l ++ [(p, q)]) := by simp [chV]

theorem own_tyS {w : World} {B : Nat} {e : TypeId} {size : Nat} {v : Value} {n : Nat} {xs : List Value} (h : w.ownsRow B e size v n xs) {k : Nat} (hk : v.ownBlock = some k) : Ty w k e := by
  rcases h.2 with ⟨rfl, _⟩ | ⟨g, cap, cur, rfl, _, hg, _⟩
  · simp [Value.ownBlock] at hk
  · simp only [Value.ownBlock, Option.some.injEq] at hk
    subst hk
    exact ⟨cur, hg⟩
theorem own_agreeS {w w' : World} {B : Nat} {e : TypeId} {size : Nat} {v : Value} {n : Nat} {xs : List Value} (h : w.ownsRow B e size v n xs) (hw : ∀ k, v.ownBlock = some k → w'.heap[k]? = w.heap[k]?) : w'.ownsRow B e size v n xs := by
  refine ⟨h.1, ?_⟩
  rcases h.2 with h2 | ⟨g, cap, cur, rfl, hb, hg, r⟩
  · exact .inl h2
  · exact .inr ⟨g, cap, cur, rfl, hb, by rw [hw g rfl]; exact hg, r⟩

/-- the block of a file that is being read -/
def FBlk (w : World) (F : Nat) (vc vr vk : Value) (E : Nat) : Prop := w.heap[F]? = some (.cells #[vc, vr, vk, .int .i64 E] 73 (0, 0))
section
variable {w w' : World} {F : Nat} {vc vr vk : Value} {E : Nat}
theorem FBlk.c0 (h : FBlk w F vc vr vk E) : w.cell? ⟨F, 0, none⟩ = some vc := by rw [cell_of_row w F 0 _ _ _ h]; rfl
theorem FBlk.c1 (h : FBlk w F vc vr vk E) : w.cell? ⟨F, 1, none⟩ = some vr := by rw [cell_of_row w F 1 _ _ _ h]; rfl
theorem FBlk.c2 (h : FBlk w F vc vr vk E) : w.cell? ⟨F, 2, none⟩ = some vk := by rw [cell_of_row w F 2 _ _ _ h]; rfl
theorem FBlk.c3 (h : FBlk w F vc vr vk E) : w.cell? ⟨F, 3, none⟩ = some (.int .i64 E) := by rw [cell_of_row w F 3 _ _ _ h]; rfl
theorem FBlk.fz (h : FBlk w F vc vr vk E) (j : Nat) : w.frozen? ⟨F, j, none⟩ = false := frozen_of_row w F j _ _ h
theorem FBlk.ty (h : FBlk w F vc vr vk E) : Ty w F 73 := ⟨_, h⟩
theorem FBlk.kept (h : FBlk w F vc vr vk E) (hw : w'.heap[F]? = w.heap[F]?) : FBlk w' F vc vr vk E := by unfold FBlk; rw [hw]; exact h
theorem FBlk.set0 (h : FBlk w F vc vr vk E) (u : Value) : FBlk (w.setCell ⟨F, 0, none⟩ u) F u vr vk E := by unfold FBlk; rw [heap_setCell_same w F 0 _ _ _ h]; rfl
theorem FBlk.set1 (h : FBlk w F vc vr vk E) (u : Value) : FBlk (w.setCell ⟨F, 1, none⟩ u) F vc u vk E := by unfold FBlk; rw [heap_setCell_same w F 1 _ _ _ h]; rfl
theorem FBlk.set2 (h : FBlk w F vc vr vk E) (u : Value) : FBlk (w.setCell ⟨F, 2, none⟩ u) F vc vr u E := by unfold FBlk; rw [heap_setCell_same w F 2 _ _ _ h]; rfl
end

/-- the file in block F, begun in w0: its rows rs, its chunks ls -/
def GS (w0 w : World) (F : Nat) (vc : Value) (E : Nat) (rs : List Nat) (ls : List (List (Nat × Nat))) (vr vk : Value) (vs : List Value) : Prop :=
  FBlk w F vc vr vk E ∧ w.ownsRow w0.heap.size 3 1 vr rs.length (ints rs) ∧ w.ownsRow w0.heap.size 136 1 vk ls.length vs ∧
    (∀ i, (h : i < ls.length) → ∃ v, vs[i]? = some v ∧ w.ownsRow w0.heap.size 138 2 v ls[i].length (chV ls[i])) ∧ Fr (fun k => k = F) w0 w ∧ F < w0.heap.size

section
variable {w0 w w1 : World} {o : Obj} {F : Nat} {vc vr vk v v' : Value} {vs : List Value} {E r : Nat} {rs : List Nat} {ls : List (List (Nat × Nat))} {l : List (Nat × Nat)}

theorem GS.start (h : FBlk w0 F vc nilS nilS E) : GS w0 w0 F vc E [] [] nilS nilS [] :=
  ⟨h, World.ownsRow_nil _ _ _ _, World.ownsRow_nil _ _ _ _, fun i h => by simp at h, Fr.refl _ _, h.ty.lt⟩

theorem GS.below (h : GS w0 w F vc E rs ls vr vk vs) (hb : Below w.heap.size w w1) : GS w0 w1 F vc E rs ls vr vk vs := by
  obtain ⟨h1, h2, h3, h4, h5, h6⟩ := h
  have ag : ∀ k, k < w.heap.size → w1.heap[k]? = w.heap[k]? := fun k hk => hb.block k hk
  refine ⟨h1.kept (ag F h1.ty.lt), own_agreeS h2 (fun k hk => ag k (own_tyS h2 hk).lt), own_agreeS h3 (fun k hk => ag k (own_tyS h3 hk).lt), ?_, h5.trans (Fr.of_below (fun _ => False) hb) (fun _ _ h => h.elim), h6⟩
  intro i hi
  obtain ⟨v, hv, ho⟩ := h4 i hi
  exact ⟨v, hv, own_agreeS ho (fun k hk => ag k (own_tyS ho hk).lt)⟩

/-- a number of rows more -/
theorem GS.pushR (h : GS w0 w F vc E rs ls vr vk vs) (hg : (w.alloc o).grownBy w1 vr.ownBlock) (ho : w1.ownsRow w0.heap.size 3 1 v' (rs.length + 1) (ints rs ++ [.int .i64 (r : Int)])) :
    FBlk w1 F vc vr vk E ∧ GS w0 (w1.setCell ⟨F, 1, none⟩ v') F vc E (rs ++ [r]) ls v' vk vs := by
  obtain ⟨h1, h2, h3, h4, h5, h6⟩ := h
  have hF : FBlk w1 F vc vr vk E := h1.kept (agree_step hg h1.ty.lt (fun e' => Ty.ne (own_tyS h2 e') h1.ty (by decide) rfl))
  have ag : ∀ k e, Ty w k e → e ≠ 3 → e ≠ 73 → (w1.setCell ⟨F, 1, none⟩ v').heap[k]? = w.heap[k]? := fun k e ht h3 h65 =>
    agree_set hg ht.lt (fun e' => Ty.ne (own_tyS h2 e') ht h3.symm rfl) (Ty.ne ht h1.ty h65)
  refine ⟨hF, hF.set1 v', ?_, own_agreeS h3 (fun k hk => ag k _ (own_tyS h3 hk) (by decide) (by decide)), ?_, ?_, h6⟩
  · rw [show (rs ++ [r]).length = rs.length + 1 by simp, ← ints_snoc]
    exact ownsRow_set_other' ho (fun e' => Ty.ne (own_tyS ho e') hF.ty (by decide) rfl)
  · intro i hi
    obtain ⟨v, hv, hoi⟩ := h4 i hi
    exact ⟨v, hv, own_agreeS hoi (fun k hk => ag k _ (own_tyS hoi hk) (by decide) (by decide))⟩
  · refine (h5.trans (Fr.grown hg) (fun k hk e' => ?_)).trans Fr.set (fun k _ e' => e')
    have := (h2.lt k e').1; omega

/-- a list of chunks more -/
theorem GS.pushL (h : GS w0 w F vc E rs ls vr vk vs) (hl : w.ownsRow w0.heap.size 138 2 v l.length (chV l)) (hg : (w.alloc o).grownBy w1 vk.ownBlock) (ho : w1.ownsRow w0.heap.size 136 1 v' (ls.length + 1) (vs ++ [v])) :
    FBlk w1 F vc vr vk E ∧ GS w0 (w1.setCell ⟨F, 2, none⟩ v') F vc E rs (ls ++ [l]) vr v' (vs ++ [v]) := by
  obtain ⟨h1, h2, h3, h4, h5, h6⟩ := h
  have hF : FBlk w1 F vc vr vk E := h1.kept (agree_step hg h1.ty.lt (fun e' => Ty.ne (own_tyS h3 e') h1.ty (by decide) rfl))
  have ag : ∀ k e, Ty w k e → e ≠ 136 → e ≠ 73 → (w1.setCell ⟨F, 2, none⟩ v').heap[k]? = w.heap[k]? := fun k e ht h3' h65 =>
    agree_set hg ht.lt (fun e' => Ty.ne (own_tyS h3 e') ht h3'.symm rfl) (Ty.ne ht h1.ty h65)
  have hvl : vs.length = ls.length := by have := h3.1; omega
  refine ⟨hF, hF.set2 v', own_agreeS h2 (fun k hk => ag k _ (own_tyS h2 hk) (by decide) (by decide)), ?_, ?_, ?_, h6⟩
  · rw [show (ls ++ [l]).length = ls.length + 1 by simp]
    exact ownsRow_set_other' ho (fun e' => Ty.ne (own_tyS ho e') hF.ty (by decide) rfl)
  · intro i hi
    by_cases hi2 : i < ls.length
    · obtain ⟨v, hv, hoi⟩ := h4 i hi2
      refine ⟨v, ?_, ?_⟩
      · rw [List.getElem?_append_left (by omega)]; exact hv
      · rw [List.getElem_append_left hi2]
        exact own_agreeS hoi (fun k hk => ag k _ (own_tyS hoi hk) (by decide) (by decide))
    · have hi3 : i = ls.length := by simp at hi; omega
      subst hi3
      refine ⟨v, by rw [List.getElem?_append_right (by omega), hvl]; simp, ?_⟩
      rw [List.getElem_append_right (by omega)]
      simp only [Nat.sub_self, List.getElem_cons_zero]
      exact own_agreeS hl (fun k hk => ag k _ (own_tyS hl hk) (by decide) (by decide))
  · refine (h5.trans (Fr.grown hg) (fun k hk e' => ?_)).trans Fr.set (fun k _ e' => e')
    have := (h3.lt k e').1; omega
end

theorem chunk1_vi {D : List UInt8} {E a : Nat} (h : Pu.vi D a = none) : Pu.chunk1 D E a = none := by simp [Pu.chunk1, h]
theorem chunk1_bad {D : List UInt8} {E a p a1 : Nat} (h : Pu.vi D a = some (p, a1)) (hb : p < 4 ∨ E < p) : Pu.chunk1 D E a = none := by simp only [Pu.chunk1, h]; rw [if_pos hb]
theorem chunk1_vi2 {D : List UInt8} {E a p a1 : Nat} (h : Pu.vi D a = some (p, a1)) (h2 : Pu.vi D a1 = none) : Pu.chunk1 D E a = none := by
  simp only [Pu.chunk1, h, h2]; split <;> rfl
theorem chunk1_bad2 {D : List UInt8} {E a p a1 q a2 : Nat} (h : Pu.vi D a = some (p, a1)) (h2 : Pu.vi D a1 = some (q, a2)) (hb : q < 1 ∨ 50 < q) : Pu.chunk1 D E a = none := by
  simp only [Pu.chunk1, h, h2]; split <;> first | rfl | rw [if_pos hb]
theorem chunk1_yes {D : List UInt8} {E a p a1 q a2 : Nat} (h : Pu.vi D a = some (p, a1)) (hb : ¬ (p < 4 ∨ E < p)) (h2 : Pu.vi D a1 = some (q, a2)) (hb2 : ¬ (q < 1 ∨ 50 < q)) : Pu.chunk1 D E a = some ((p, q), a2) := by
  simp only [Pu.chunk1, h, h2]; rw [if_neg hb, if_neg hb2]
theorem chunksGo_no {D : List UInt8} {E n a : Nat} {out : List (Nat × Nat)} (hn : 0 < n) (h : Pu.chunk1 D E a = none) : Pu.chunksGo D E n a out = none := by
  obtain ⟨m, rfl⟩ : ∃ m, n = m + 1 := ⟨n - 1, by omega⟩
  simp [Pu.chunksGo, h]
theorem chunksGo_yes {D : List UInt8} {E n a a' : Nat} {out : List (Nat × Nat)} {c : Nat × Nat} (hn : 0 < n) (h : Pu.chunk1 D E a = some (c, a')) : Pu.chunksGo D E n a out = Pu.chunksGo D E (n - 1) a' (out ++ [c]) := by
  obtain ⟨m, rfl⟩ : ∃ m, n = m + 1 := ⟨n - 1, by omega⟩
  simp [Pu.chunksGo, h]
theorem grp1_vi {D : List UInt8} {E nc a : Nat} (h : Pu.vi D a = none) : Pu.grp1 D E nc a = none := by simp [Pu.grp1, h]
theorem grp1_bad {D : List UInt8} {E nc a r a1 : Nat} (h : Pu.vi D a = some (r, a1)) (hb : r < 1 ∨ 1000 < r) : Pu.grp1 D E nc a = none := by simp only [Pu.grp1, h]; rw [if_pos hb]
theorem grp1_no {D : List UInt8} {E nc a r a1 : Nat} (h : Pu.vi D a = some (r, a1)) (hc : Pu.chunksGo D E nc a1 [] = none) : Pu.grp1 D E nc a = none := by
  simp only [Pu.grp1, h, hc]; split <;> rfl
theorem grp1_yes {D : List UInt8} {E nc a r a1 a2 : Nat} {l : List (Nat × Nat)} (h : Pu.vi D a = some (r, a1)) (hb : ¬ (r < 1 ∨ 1000 < r)) (hc : Pu.chunksGo D E nc a1 [] = some (l, a2)) : Pu.grp1 D E nc a = some ((r, l), a2) := by
  simp only [Pu.grp1, h, hc]; rw [if_neg hb]
theorem grpsGo_no {D : List UInt8} {E nc n a : Nat} {out : List (Nat × List (Nat × Nat))} (hn : 0 < n) (h : Pu.grp1 D E nc a = none) : Pu.grpsGo D E nc n a out = none := by
  obtain ⟨m, rfl⟩ : ∃ m, n = m + 1 := ⟨n - 1, by omega⟩
  simp [Pu.grpsGo, h]
theorem grpsGo_yes {D : List UInt8} {E nc n a a' : Nat} {out : List (Nat × List (Nat × Nat))} {g : Nat × List (Nat × Nat)} (hn : 0 < n) (h : Pu.grp1 D E nc a = some (g, a')) : Pu.grpsGo D E nc n a out = Pu.grpsGo D E nc (n - 1) a' (out ++ [g]) := by
  obtain ⟨m, rfl⟩ : ∃ m, n = m + 1 := ⟨n - 1, by omega⟩
  simp [Pu.grpsGo, h]

end Go.Proofs.Ytjobhlncllfdmaa
