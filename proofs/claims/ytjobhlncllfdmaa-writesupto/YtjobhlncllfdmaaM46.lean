/- The reference's Write: what its file is, in plain terms. -/
import Derived.Test.YtjobhlncllfdmaaM44
import Derived.Test.YtjobhlncllfdmaaM45
namespace Go.Proofs.Ytjobhlncllfdmaa
open Go.RowKit Go.Maps

/-- a column as Heads takes it -/
def toRaw (c : RC) : RawC := (⟨c.1.toArray⟩, c.2.1, c.2.2)
theorem kb_small {k : Int} {o : Bool} (h0 : 0 ≤ k) (h2 : k ≤ 2) : kb k o = k.toNat + (if o = true then 4 else 0) := by
  unfold kb
  cases o
  · simp only [Bool.false_eq_true, if_false]
    rw [IntKind.wrap_u8]; omega
  · simp only [if_true]
    rw [IntKind.wrap_i64, IntKind.wrap_u8]; omega
theorem hs1_toRaw (c : RC) (h0 : 0 ≤ c.2.1) (h2 : c.2.1 ≤ 2) : hs1 (toRaw c) = colL (toCol c) := by
  obtain ⟨nm, k, o⟩ := c
  unfold hs1 toRaw colL toCol
  simp only at h0 h2 ⊢
  rw [kb_small h0 h2, ← len_data]
theorem heads_cols (rs : List RC) (h : ∀ c ∈ rs, 0 ≤ c.2.1 ∧ c.2.1 ≤ 2) : heads (rs.map toRaw) = vb rs.length ++ (rs.map toCol).flatMap colL := by
  unfold heads
  rw [List.length_map]
  congr 1
  induction rs with
  | nil => rfl
  | cons c r ih =>
    rw [List.map_cons, List.map_cons, List.flatMap_cons, List.flatMap_cons, ih (fun d hd => h d (by simp [hd])), hs1_toRaw c (h c (by simp)).1 (h c (by simp)).2]
theorem length_rcols (rs : List RC) (h : ∀ c ∈ rs, c.1.length ≤ 20) : ((rs.map toCol).flatMap colL).length ≤ 30 * rs.length := by
  induction rs with
  | nil => simp
  | cons c r ih =>
    have h1 := ih (fun d hd => h d (by simp [hd]))
    have h2 := h c (by simp)
    rw [List.map_cons, List.flatMap_cons, List.length_append, List.length_cons]
    have h3 : (colL (toCol c)).length = (vb c.1.length).length + c.1.length + 1 := by
      unfold colL toCol
      simp only [List.length_append, List.length_cons, List.length_nil]
    have h4 := length_vb8 (n := c.1.length) (by omega)
    omega
theorem raw_of_rs {W : World} {lb o cap : Nat} {rs : List RC} (h : Rs W 3 lb (some ⟨lb, o, none⟩) rs.length cap (rcsV rs)) (hlb : lb < W.heap.size) : RawAt W lb o (rs.map toRaw) := by
  refine ⟨hlb, fun i hi => ?_⟩
  rw [List.length_map] at hi
  obtain ⟨o', e, c0, c1, c2⟩ := h.rc3 i hi
  have ee : o' = o := by simpa using e.symm
  subst ee
  simp only [List.getElem_map]
  exact ⟨c0, c1, c2⟩

/-- how many groups there are -/
theorem gs_len (cs : List Pu.Col) (ts : List (List Pu.Cl)) (rows n : Nat) (hrows : 1 ≤ rows) : ∀ (f fr : Nat) (L : List UInt8) (gs : List (Nat × List (Nat × Nat))), n ≤ fr + f → (gsGo cs ts rows n f fr L gs).2.length = gs.length + (n - fr + rows - 1) / rows
  | 0, fr, L, gs, h => by
    have e : n - fr = 0 := by omega
    show gs.length = _
    rw [e, Nat.zero_add, Nat.div_eq_of_lt (by omega)]; rfl
  | f + 1, fr, L, gs, h => by
    unfold gsGo
    split
    · rename_i hfr
      rw [gs_len cs ts rows n hrows f (fr + rows) _ _ (by omega), List.length_append, List.length_singleton, Nat.add_assoc]
      congr 1
      by_cases hle : fr + rows ≤ n
      · have e : n - fr + rows - 1 = (n - (fr + rows) + rows - 1) + rows := by omega
        rw [e, Nat.add_div_right _ (by omega), Nat.add_comm]
      · have e : n - (fr + rows) = 0 := by omega
        rw [e, Nat.zero_add, Nat.div_eq_of_lt (by omega)]
        have e2 : n - fr + rows - 1 = (n - fr - 1) + rows := by omega
        rw [e2, Nat.add_div_right _ (by omega), Nat.div_eq_of_lt (by omega)]
    · rename_i hfr
      have e : n - fr = 0 := by omega
      show gs.length = _
      rw [e, Nat.zero_add, Nat.div_eq_of_lt (by omega)]; rfl

theorem flat_snoc {α : Type} (l : List α) (x : α) (f : α → List UInt8) : (l ++ [x]).flatMap f = l.flatMap f ++ f x := by
  rw [List.flatMap_append]; simp

/-- the footer while it is made: what stands ahead of the groups, the groups -/
def ftL (H : List UInt8) (gs : List (Nat × List (Nat × Nat))) : List UInt8 := H ++ gs.flatMap grL
theorem ftL_snoc (H : List UInt8) (gs : List (Nat × List (Nat × Nat))) (q : Nat) (ps : List (Nat × Nat)) : ftL H (gs ++ [(q, ps)]) = ftL H gs ++ vb q ++ ps.flatMap plcL := by
  unfold ftL
  rw [flat_snoc]
  simp [grL]
theorem file_of_parts (rs : List RC) (ts : List (List Pu.Cl)) (rows n : Nat) (hrows : 1 ≤ rows) (h : ∀ c ∈ rs, 0 ≤ c.2.1 ∧ c.2.1 ≤ 2) (L : List UInt8) (gs : List (Nat × List (Nat × Nat))) (hf : gsGo (rs.map toCol) ts rows n n 0 stra [] = (L, gs)) :
    L ++ endL (ftL (heads (rs.map toRaw) ++ vb ((n + rows - 1) / rows)) gs) = fileL (rs.map toCol) ts rows n := by
  have hl := gs_len (rs.map toCol) ts rows n hrows n 0 stra [] (by omega)
  rw [hf] at hl
  simp only [List.length_nil, Nat.zero_add, Nat.sub_zero] at hl
  unfold fileL ftL footL
  rw [hf, heads_cols rs h, ← hl]
  simp [List.length_map]
end Go.Proofs.Ytjobhlncllfdmaa
