/- The three steps by which a list is kept. -/
import Derived.Test.YtjobhlncllfdmaaBokB
namespace Go.Proofs.Ytjobhlncllfdmaa
open Go.RowKit

theorem agree_step {w w1 : World} {o : Obj} {row : Option Nat} (hg : (w.alloc o).grownBy w1 row) {k : Nat} (hk : k < w.heap.size) (hr : row ≠ some k) : w1.heap[k]? = w.heap[k]? := by
  rw [hg.block k (by rw [size_alloc']; omega) (fun e => hr e.symm)]
  exact Below.heap_alloc w o k hk
theorem agree_set {w w1 : World} {o : Obj} {row : Option Nat} (hg : (w.alloc o).grownBy w1 row) {b j k : Nat} {u : Value} (hk : k < w.heap.size) (hr : row ≠ some k) (hb : k ≠ b) : (w1.setCell ⟨b, j, none⟩ u).heap[k]? = w.heap[k]? := by
  rw [heap_setCell_other w1 _ k u hb]; exact agree_step hg hk hr
theorem size_set (w : World) (a : Addr) (u : Value) : (w.setCell a u).heap.size = w.heap.size := by simp

theorem ownsRow_set_other' {w : World} {base : Nat} {e : TypeId} {size : Nat} {v : Value} {n : Nat} {xs : List Value} (h : w.ownsRow base e size v n xs) {R j : Nat} (hv : v.ownBlock ≠ some R) {u : Value} :
    (w.setCell ⟨R, j, none⟩ u).ownsRow base e size v n xs := by
  refine h.kept (row := some R) ⟨rfl, rfl, rfl, by simp, fun k _ hk => heap_setCell_other w _ k u (fun e => hk (by rw [e]))⟩ (Or.inr hv)

/-- the set of blocks, with those that came since -/
def more (U : Nat → Prop) (w w' : World) : Nat → Prop := fun k => U k ∨ (w.heap.size ≤ k ∧ k < w'.heap.size)

/-- a lane, and the list that is being kept in it -/
def Keep (w : World) (B : Nat) (U : Nat → Prop) (E e : TypeId) (kd : IntKind) (vr vm : Value) (X Y : List Value) (ps : List (Value × Int)) (vl : Value) (n : Nat) (m : Int) : Prop :=
  Lane w B U E e kd vr vm X Y ps ∧ w.ownsRow B e 1 vl n (List.replicate n (.int kd m)) ∧ (∀ k, vl.ownBlock = some k → vm.ownBlock ≠ some k) ∧
    (∀ p ∈ ps, ∀ g j cap, p.1 = .slice (some ⟨g, 0, none⟩) j cap → 0 < j → vl.ownBlock = some g → p.2 = m ∧ j ≤ n)

section
variable {w w1 : World} {o : Obj} {B b j g cap : Nat} {U : Nat → Prop} {E e : TypeId} {kd : IntKind} {vr vm vl x u : Value} {X Y : List Value} {ps : List (Value × Int)} {n : Nat} {m : Int}

/-- the row of lists grows -/
theorem Keep.stepA (h : Keep w B U E e kd vr vm X Y ps vl n m) (hb : Ty w b 31) (hE : E ≠ e) (hE2 : E ≠ 31) (he : e ≠ 31) (hg : (w.alloc o).grownBy w1 vr.ownBlock)
    (hown : w1.ownsRow B E 1 (.slice (some ⟨g, 0, none⟩) (X.length + 1) cap) (X.length + 1) (X ++ [x])) (hat : vr.ownBlock = some g ∨ g = w.heap.size + 1 ∧ (w.alloc o).grownBy w1 none) :
    Keep (w1.setCell ⟨b, j, none⟩ u) B (more U w (w1.setCell ⟨b, j, none⟩ u)) E e kd (.slice (some ⟨g, 0, none⟩) (X.length + 1) cap) vm (X ++ [x]) Y ps vl n m := by
  obtain ⟨⟨h1, h2, h3, h4, h5⟩, h6, h7, h8⟩ := h
  have hgb : g ≠ b := by
    have hb1 : Ty w1 b 31 := by
      obtain ⟨cur, hb⟩ := hb
      exact ⟨cur, by rw [agree_step hg (Ty.lt ⟨cur, hb⟩) (fun e' => Ty.ne (own_ty h1 e') ⟨cur, hb⟩ hE2 rfl)]; exact hb⟩
    exact Ty.ne (own_ty hown rfl) hb1 hE2
  have ag : ∀ k, Ty w k e → (w1.setCell ⟨b, j, none⟩ u).heap[k]? = w.heap[k]? := fun k ht =>
    agree_set hg ht.lt (fun e' => Ty.ne (own_ty h1 e') ht hE rfl) (Ty.ne ht hb he)
  refine ⟨⟨?_, own_agree h2 (fun k hk => ag k (own_ty h2 hk)), fun p hp => (h3 p hp).agree (fun k ht hu ha => ⟨.inl hu, ha, ag k ht⟩), ?_, fun k hk => .inl (h5 k hk)⟩, own_agree h6 (fun k hk => ag k (own_ty h6 hk)), h7, h8⟩
  · rw [show (X ++ [x]).length = X.length + 1 by simp]
    exact ownsRow_set_other' hown (by simp [Value.ownBlock]; exact hgb)
  · intro k hk
    simp only [Value.ownBlock, Option.some.injEq] at hk
    subst hk
    rcases hat with hat | ⟨hat, _⟩
    · exact .inl (h4 _ hat)
    · refine .inr ⟨by omega, ?_⟩
      rw [size_set]; exact (own_ty hown rfl).lt

/-- the row of marks grows -/
theorem Keep.stepB (h : Keep w B U E e kd vr vm X Y ps vl n m) (hb : Ty w b 31) (hE : E ≠ e) (hE2 : E ≠ 31) (he : e ≠ 31) (hg : (w.alloc o).grownBy w1 vm.ownBlock)
    (hown : w1.ownsRow B e 1 (.slice (some ⟨g, 0, none⟩) (Y.length + 1) cap) (Y.length + 1) (Y ++ [x])) (hat : vm.ownBlock = some g ∨ g = w.heap.size + 1 ∧ (w.alloc o).grownBy w1 none) :
    Keep (w1.setCell ⟨b, j, none⟩ u) B (more U w (w1.setCell ⟨b, j, none⟩ u)) E e kd vr (.slice (some ⟨g, 0, none⟩) (Y.length + 1) cap) X (Y ++ [x]) ps vl n m := by
  obtain ⟨⟨h1, h2, h3, h4, h5⟩, h6, h7, h8⟩ := h
  have hgb : g ≠ b := by
    have hb1 : Ty w1 b 31 := by
      obtain ⟨cur, hb⟩ := hb
      exact ⟨cur, by rw [agree_step hg (Ty.lt ⟨cur, hb⟩) (fun e' => Ty.ne (own_ty h2 e') ⟨cur, hb⟩ he rfl)]; exact hb⟩
    exact Ty.ne (own_ty hown rfl) hb1 he
  have ag : ∀ k, Ty w k e → vm.ownBlock ≠ some k → (w1.setCell ⟨b, j, none⟩ u).heap[k]? = w.heap[k]? := fun k ht hn =>
    agree_set hg ht.lt hn (Ty.ne ht hb he)
  have av : ∀ k, Ty w k e → vm.ownBlock ≠ some k → (Value.slice (some ⟨g, 0, none⟩) (Y.length + 1) cap).ownBlock ≠ some k := by
    intro k ht hn e'
    simp only [Value.ownBlock, Option.some.injEq] at e'
    subst e'
    rcases hat with hat | ⟨hat, _⟩
    · exact hn hat
    · have := ht.lt; omega
  refine ⟨⟨own_agree h1 (fun k hk => agree_set hg (own_ty h1 hk).lt (fun e' => Ty.ne (own_ty h1 hk) (own_ty h2 e') hE rfl) (Ty.ne (own_ty h1 hk) hb hE2)), ?_, fun p hp => (h3 p hp).agree (fun k ht hu ha => ⟨.inl hu, av k ht ha, ag k ht ha⟩), fun k hk => .inl (h4 k hk), ?_⟩,
    own_agree h6 (fun k hk => ag k (own_ty h6 hk) (h7 k hk)), fun k hk => av k (own_ty h6 hk) (h7 k hk), h8⟩
  · rw [show (Y ++ [x]).length = Y.length + 1 by simp]
    exact ownsRow_set_other' hown (by simp [Value.ownBlock]; exact hgb)
  · intro k hk
    simp only [Value.ownBlock, Option.some.injEq] at hk
    subst hk
    rcases hat with hat | ⟨hat, _⟩
    · exact .inl (h5 _ hat)
    · refine .inr ⟨by omega, ?_⟩
      rw [size_set]; exact (own_ty hown rfl).lt

theorem own_cells {w : World} {B : Nat} {e : TypeId} {v : Value} {n : Nat} {x : Value} (h : w.ownsRow B e 1 v n (List.replicate n x)) (hn : 0 < n) :
    ∃ g cap cur, v = .slice (some ⟨g, 0, none⟩) n cap ∧ w.heap[g]? = some (.cells cur e (0, 0)) ∧ ∀ j, j < n → cur[j]? = some x := by
  rcases h.2 with ⟨_, h0⟩ | ⟨g, cap, cur, rfl, _, hg, _, _, hcs, ht⟩
  · omega
  · refine ⟨g, cap, cur, rfl, hg, fun j hj => ?_⟩
    have e1 : (cur.toList.take (n * 1))[j]? = some x := by rw [ht]; simp [hj]
    rw [List.getElem?_take, if_pos (by omega)] at e1
    simpa using e1

/-- the list itself grows: as it was it is kept -/
theorem Keep.stepC (h : Keep w B U E e kd vr vm X Y ps vl n m) (hE : E ≠ e) (hg : (w.alloc o).grownBy w1 vl.ownBlock)
    (hown : w1.ownsRow B e 1 (.slice (some ⟨g, 0, none⟩) (n + 1) cap) (n + 1) (List.replicate n (.int kd m) ++ [.int kd m])) (hat : vl.ownBlock = some g ∨ g = w.heap.size + 1 ∧ (w.alloc o).grownBy w1 none) :
    Keep w1 B (fun k => more U w w1 k ∨ vl.ownBlock = some k) E e kd vr vm X Y (ps ++ [(vl, m)]) (.slice (some ⟨g, 0, none⟩) (n + 1) cap) (n + 1) m := by
  obtain ⟨⟨h1, h2, h3, h4, h5⟩, h6, h7, h8⟩ := h
  rw [← List.replicate_succ'] at hown
  obtain ⟨g', cap', cur', he', hgg, hcur⟩ := own_cells hown (by omega)
  simp only [Value.slice.injEq, Option.some.injEq, Addr.mk.injEq, and_true, true_and] at he'
  obtain ⟨rfl, rfl⟩ := he'
  have old : ∀ k, k < w.heap.size → vl.ownBlock ≠ some k ∨ g = w.heap.size + 1 ∧ (w.alloc o).grownBy w1 none → w1.heap[k]? = w.heap[k]? := by
    intro k hk hc
    rcases hc with hc | ⟨_, hc⟩
    · exact agree_step hg hk hc
    · exact agree_step hc hk (by simp)
  refine ⟨⟨own_agree h1 (fun k hk => old k (own_ty h1 hk).lt (.inl (fun e' => Ty.ne (own_ty h1 hk) (own_ty h6 e') hE rfl))), own_agree h2 (fun k hk => old k (own_ty h2 hk).lt (.inl (fun e' => h7 k e' hk))), ?_, fun k hk => .inl (.inl (h4 k hk)), fun k hk => .inl (.inl (h5 k hk))⟩, hown, ?_, ?_⟩
  · intro p hp
    rw [List.mem_append, List.mem_singleton] at hp
    rcases hp with hp | rfl
    · obtain ⟨ao, j, cp, hv, hm, hf⟩ := h3 p hp
      refine ⟨ao, j, cp, hv, hm, ?_⟩
      rcases hf with hf | ⟨gp, cur, rfl, k1, k2, k3, k4⟩
      · exact .inl hf
      · by_cases hj : j = 0
        · exact .inl hj
        · by_cases hgp : vl.ownBlock = some gp
          · rcases hat with hat | hat
            · rw [hgp] at hat
              simp only [Option.some.injEq] at hat
              subst hat
              obtain ⟨e1, e2⟩ := h8 p hp gp j cp hv (by omega) hgp
              exact .inr ⟨gp, cur', rfl, .inr hgp, k2, hgg, fun i hi => by rw [e1]; exact hcur i (by omega)⟩
            · exact .inr ⟨gp, cur, rfl, .inr hgp, k2, by rw [old gp (Ty.lt ⟨cur, k3⟩) (.inr hat)]; exact k3, k4⟩
          · exact .inr ⟨gp, cur, rfl, .inl (.inl k1), k2, by rw [old gp (Ty.lt ⟨cur, k3⟩) (.inl hgp)]; exact k3, k4⟩
    · by_cases hn : n = 0
      · obtain ⟨ao, cp, hv⟩ := slen_of h6
        exact ⟨ao, n, cp, hv, own_le h6, .inl hn⟩
      · obtain ⟨gl, cpl, cur, hv, hgl, hc⟩ := own_cells h6 (by omega)
        have hob : vl.ownBlock = some gl := by rw [hv]; rfl
        refine ⟨some ⟨gl, 0, none⟩, n, cpl, hv, own_le h6, ?_⟩
        rcases hat with hat | hat
        · rw [hob] at hat
          simp only [Option.some.injEq] at hat
          subst hat
          exact .inr ⟨gl, cur', rfl, .inr hob, h7 gl hob, hgg, fun i hi => hcur i (by omega)⟩
        · exact .inr ⟨gl, cur, rfl, .inr hob, h7 gl hob, by rw [old gl (Ty.lt ⟨cur, hgl⟩) (.inr hat)]; exact hgl, hc⟩
  · intro k hk e'
    simp only [Value.ownBlock, Option.some.injEq] at hk
    subst hk
    rcases hat with hat | ⟨hat, _⟩
    · exact h7 _ hat e'
    · have := (own_ty h2 e').lt; omega
  · intro p hp gp j cp hv hj hgp
    simp only [Value.ownBlock, Option.some.injEq] at hgp
    subst hgp
    rw [List.mem_append, List.mem_singleton] at hp
    rcases hp with hp | rfl
    · rcases hat with hat | ⟨hat, _⟩
      · obtain ⟨e1, e2⟩ := h8 p hp _ j cp hv hj hat
        exact ⟨e1, by omega⟩
      · obtain ⟨ao, j', cp', hv', hm, hf⟩ := h3 p hp
        rw [hv] at hv'
        simp only [Value.slice.injEq] at hv'
        obtain ⟨rfl, rfl, rfl⟩ := hv'
        rcases hf with hf | ⟨gp, cur, ha, _, _, k3, _⟩
        · omega
        · simp only [Option.some.injEq, Addr.mk.injEq, and_true] at ha
          subst ha
          have := Ty.lt ⟨cur, k3⟩; omega
    · obtain ⟨ao, cp', hv'⟩ := slen_of h6
      simp only at hv
      rw [hv'] at hv
      simp only [Value.slice.injEq] at hv
      exact ⟨rfl, by omega⟩

end
end Go.Proofs.Ytjobhlncllfdmaa
