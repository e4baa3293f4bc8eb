/- One more element behind a row of one's own: in place, or in a new block and nothing old turned; the book's lanes. -/
import Derived.Test.YtjobhlncllfdmaaM02
namespace Go.Proofs.Ytjobhlncllfdmaa
open Go.RowKit

theorem append1 {P : Program} (w : World) (t ty e : TypeId) (i : TypeInfo) (z : Value) (bytes B : Nat) (ht : P.underlying t = some (.slice e)) (hi : P.info? e = some i) (hz : i.zero = some z) (hsize : i.size = 1) (hby : i.bytes = bytes) (hzs : z.cells.size = 1)
    (v : Value) (n : Nat) (xs : List Value) (hown : w.ownsRow B e 1 v n xs) (a : Addr) (x : Value) (hx : w.cell? a = some x) (h1 : x.oneCell' = true) (c : Nat) (h63 : n + 1 ≤ maxLen) (hbytes : (n + 1) * bytes ≤ 140737488355328) (hB : B ≤ w.heap.size) :
    ∃ g cap w', (Builtin.append_ #[t, t] ty #[v, .slice (some a) 1 c]).run P w = .ok (.slice (some ⟨g, 0, none⟩) (n + 1) cap) w' ∧
      w'.ownsRow B e 1 (.slice (some ⟨g, 0, none⟩) (n + 1) cap) (n + 1) (xs ++ [x]) ∧ w.grownBy w' v.ownBlock ∧ (v.ownBlock = some g ∨ g = w.heap.size ∧ w.grownBy w' none) := by
  have hnews : ∀ j u, [x][j]? = some u → w.cell? (a.add j) = some u := by
    intro j u hj
    match j, hj with
    | 0, hj => simp at hj; subst hj; simpa [Addr.add] using hx
  have h1' : ∀ u ∈ [x], u.oneCell' = true := by intro u hu; simp at hu; subst hu; exact h1
  have hlx : xs.length = n := by have := hown.1; omega
  have hsrc : Src P i.size t (.slice (some a) 1 c) 1 [x] w := Src.ofSlice w ht a 1 c [x] (by rw [hsize]; rfl) hnews h1'
  have grow : ∀ (base : Option Addr) (sc : Nat), (Builtin.firstCells i.size n (.slice base n sc)).run P w.drew = .ok xs.toArray w.drew → sc < n + 1 →
      ∃ g cap w', (Builtin.append_ #[t, t] ty #[.slice base n sc, .slice (some a) 1 c]).run P w = .ok (.slice (some ⟨g, 0, none⟩) (n + 1) cap) w' ∧
      w'.ownsRow B e 1 (.slice (some ⟨g, 0, none⟩) (n + 1) cap) (n + 1) (xs ++ [x]) ∧ g = w.heap.size ∧ w.grownBy w' none := by
    intro base sc hold hsc
    have hr := run_append_grow_src w t t ty e i z ht hi hz base n sc xs hold (.slice (some a) 1 c) 1 [x] hsrc hsc (by unfold maxLen at h63; omega) (by rw [hby]; exact growslice_fits (by omega) hbytes)
    have hge := grownCap_ge w (n + 1) sc e
    have hcm : grownCap w (n + 1) sc e ≤ maxLen := grownCap_le_maxLen w (n + 1) sc e h63
    refine ⟨_, _, _, hr, ⟨by simp [hlx], .inr ⟨w.heap.size, _, _, rfl, hB, heap_alloc_new w.drew _, hge, hcm, ?_, ?_⟩⟩, rfl, ⟨rfl, rfl, rfl, by simp, fun k hk _ => Below.heap_alloc w.drew _ k hk⟩⟩
    · simp only [Array.size_append, List.size_toArray, size_zeroCells, hzs, List.length_append, List.length_cons, List.length_nil, hlx]
      omega
    · rw [Array.toList_append, List.take_append_of_le_length (by simp [hlx]), List.take_of_length_le (by simp [hlx])]
  rcases hown.2 with ⟨rfl, rfl⟩ | ⟨g, cap, cur, rfl, hbg, hg, hnc, hcm, hcs, htake⟩
  · have hx0 : xs = [] := List.eq_nil_of_length_eq_zero hlx
    subst hx0
    obtain ⟨g, cap, w', h2, h3, h4, h5⟩ := grow none 0 (by simpa using run_firstCells_none (P := P) w.drew i.size 0 0 0) (by omega)
    exact ⟨g, cap, w', h2, h3, h5, .inr ⟨h4, h5⟩⟩
  · by_cases hroom : n + 1 ≤ cap
    · obtain ⟨w', h2, h3, h4⟩ := run_append_fits w B t ty e i 1 ht hi hsize g n cap xs hown a 1 c [x] rfl hnews h1' hroom
      exact ⟨g, cap, w', h2, h3, h4, .inl rfl⟩
    · have holds : ∀ j u, xs[j]? = some u → w.cell? ((⟨g, 0, none⟩ : Addr).add j) = some u := hown.cells (g := g) rfl
      obtain ⟨g', cap', w', h2, h3, h4, h5⟩ := grow (some ⟨g, 0, none⟩) cap (run_firstCells_some w.drew i.size n ⟨g, 0, none⟩ n cap xs (by rw [hsize]; omega) (by simpa using holds)) (by omega)
      refine ⟨g', cap', w', h2, h3, ⟨h5.os, h5.tape, h5.output, h5.size, fun k hk _ => h5.block k hk (by simp)⟩, .inr ⟨h4, h5⟩⟩

/-- the block k holds cells of type e -/
def Ty (w : World) (k : Nat) (e : TypeId) : Prop := ∃ cur, w.heap[k]? = some (.cells cur e (0, 0))

theorem Ty.lt {w : World} {k : Nat} {e : TypeId} (h : Ty w k e) : k < w.heap.size := by
  obtain ⟨cur, h⟩ := h; exact (Array.getElem?_eq_some_iff.1 h).1
theorem Ty.ne {w : World} {k k' : Nat} {e e' : TypeId} (h : Ty w k e) (h' : Ty w k' e') (hne : e ≠ e') : k ≠ k' := by
  rintro rfl
  obtain ⟨cur, h⟩ := h
  obtain ⟨cur', h'⟩ := h'
  rw [h] at h'
  simp only [Option.some.injEq, Obj.cells.injEq] at h'
  exact hne h'.2.1
theorem own_ty {w : World} {B : Nat} {e : TypeId} {v : Value} {n : Nat} {xs : List Value} (h : w.ownsRow B e 1 v n xs) {k : Nat} (hk : v.ownBlock = some k) : Ty w k e := by
  rcases h.2 with ⟨rfl, _⟩ | ⟨g, cap, cur, rfl, _, hg, _⟩
  · simp [Value.ownBlock] at hk
  · simp only [Value.ownBlock, Option.some.injEq] at hk
    subst hk
    exact ⟨cur, hg⟩
theorem own_agree {w w' : World} {B : Nat} {e : TypeId} {v : Value} {n : Nat} {xs : List Value} (h : w.ownsRow B e 1 v n xs) (hw : ∀ k, v.ownBlock = some k → w'.heap[k]? = w.heap[k]?) : w'.ownsRow B e 1 v n xs := by
  refine ⟨h.1, ?_⟩
  rcases h.2 with h2 | ⟨g, cap, cur, rfl, hb, hg, r⟩
  · exact .inl h2
  · exact .inr ⟨g, cap, cur, rfl, hb, by rw [hw g rfl]; exact hg, r⟩

theorem own_le {w : World} {B : Nat} {e : TypeId} {v : Value} {n : Nat} {xs : List Value} (h : w.ownsRow B e 1 v n xs) : n ≤ maxLen := by
  rcases h.2 with ⟨_, h0⟩ | ⟨g, cap, cur, _, _, _, h1, h2, _⟩
  · omega
  · omega

/-- a kept list: it reads m in every place; its block is one of U, and not the one to be avoided -/
def Full (w : World) (U : Nat → Prop) (av : Option Nat) (e : TypeId) (v m : Value) : Prop :=
  ∃ ao n cap, v = .slice ao n cap ∧ n ≤ maxLen ∧ (n = 0 ∨ ∃ g cur, ao = some ⟨g, 0, none⟩ ∧ U g ∧ av ≠ some g ∧ w.heap[g]? = some (.cells cur e (0, 0)) ∧ ∀ j, j < n → cur[j]? = some m)

theorem Full.agree {w w' : World} {U U' : Nat → Prop} {av av' : Option Nat} {e : TypeId} {v m : Value} (h : Full w U av e v m) (hk : ∀ k, Ty w k e → U k → av ≠ some k → U' k ∧ av' ≠ some k ∧ w'.heap[k]? = w.heap[k]?) : Full w' U' av' e v m := by
  obtain ⟨ao, n, cap, rfl, hm, h⟩ := h
  refine ⟨ao, n, cap, rfl, hm, ?_⟩
  rcases h with h | ⟨g, cur, rfl, h1, h2, h3, h4⟩
  · exact .inl h
  · obtain ⟨k1, k2, k3⟩ := hk g ⟨cur, h3⟩ h1 h2
    exact .inr ⟨g, cur, rfl, k1, k2, by rw [k3]; exact h3, h4⟩

/-- a lane of the book: the row of lists, the row of marks, what was kept -/
def Lane (w : World) (B : Nat) (U : Nat → Prop) (E e : TypeId) (kd : IntKind) (vr vm : Value) (X Y : List Value) (ps : List (Value × Int)) : Prop :=
  w.ownsRow B E 1 vr X.length X ∧ w.ownsRow B e 1 vm Y.length Y ∧ (∀ p ∈ ps, Full w U vm.ownBlock e p.1 (.int kd p.2)) ∧ (∀ k, vr.ownBlock = some k → U k) ∧ (∀ k, vm.ownBlock = some k → U k)

theorem Lane.agree {w w' : World} {B : Nat} {U U' : Nat → Prop} {E e : TypeId} {kd : IntKind} {vr vm : Value} {X Y : List Value} {ps : List (Value × Int)} (h : Lane w B U E e kd vr vm X Y ps) (hw : ∀ k, U k → (Ty w k E ∨ Ty w k e) → w'.heap[k]? = w.heap[k]?) (hU : ∀ k, U k → U' k) :
    Lane w' B U' E e kd vr vm X Y ps := by
  obtain ⟨h1, h2, h3, h4, h5⟩ := h
  exact ⟨own_agree h1 (fun k hk => hw k (h4 k hk) (.inl (own_ty h1 hk))), own_agree h2 (fun k hk => hw k (h5 k hk) (.inr (own_ty h2 hk))),
    fun p hp => (h3 p hp).agree (fun k ht hu ha => ⟨hU k hu, ha, hw k hu (.inr ht)⟩), fun k hk => hU k (h4 k hk), fun k hk => hU k (h5 k hk)⟩

end Go.Proofs.Ytjobhlncllfdmaa

/- The three steps by which a list is kept. -/
namespace Go.Proofs.Ytjobhlncllfdmaa
open Go.RowKit

theorem agree_step {w w1 : World} {o : Obj} {row : Option Nat} (hg : (w.alloc o).grownBy w1 row) {k : Nat} (hk : k < w.heap.size) (hr : row ≠ some k) : w1.heap[k]? = w.heap[k]? := by
  rw [hg.block k (by rw [size_alloc']; omega) (fun e => hr e.symm)]
  exact Below.heap_alloc w o k hk
theorem agree_set {w w1 : World} {o : Obj} {row : Option Nat} (hg : (w.alloc o).grownBy w1 row) {b j k : Nat} {u : Value} (hk : k < w.heap.size) (hr : row ≠ some k) (hb : k ≠ b) : (w1.setCell ⟨b, j, none⟩ u).heap[k]? = w.heap[k]? := by
  rw [heap_setCell_other w1 _ k u hb]; exact agree_step hg hk hr
theorem size_set (w : World) (a : Addr) (u : Value) : (w.setCell a u).heap.size = w.heap.size := by simp

theorem ownsRow_set_other' {w : World} {base : Nat} {e : TypeId} {size : Nat} {v : Value} {n : Nat} {xs : List Value} (h : w.ownsRow base e size v n xs) {R j : Nat} (hv : v.ownBlock ≠ some R) {u : Value} :
    (w.setCell ⟨R, j, none⟩ u).ownsRow base e size v n xs := by
  refine h.kept (row := some R) ⟨rfl, rfl, rfl, by simp, fun k _ hk => heap_setCell_other w _ k u (fun e => hk (by rw [e]))⟩ (Or.inr hv)

/-- the set of blocks, with those that came since -/
def more (U : Nat → Prop) (w w' : World) : Nat → Prop := fun k => U k ∨ (w.heap.size ≤ k ∧ k < w'.heap.size)

/-- a lane, and the list that is being kept in it -/
def Keep (w : World) (B : Nat) (U : Nat → Prop) (E e : TypeId) (kd : IntKind) (vr vm : Value) (X Y : List Value) (ps : List (Value × Int)) (vl : Value) (n : Nat) (m : Int) : Prop :=
  Lane w B U E e kd vr vm X Y ps ∧ w.ownsRow B e 1 vl n (List.replicate n (.int kd m)) ∧ (∀ k, vl.ownBlock = some k → vm.ownBlock ≠ some k) ∧
    (∀ p ∈ ps, ∀ g j cap, p.1 = .slice (some ⟨g, 0, none⟩) j cap → 0 < j → vl.ownBlock = some g → p.2 = m ∧ j ≤ n)

section
variable {w w1 : World} {o : Obj} {B b j g cap : Nat} {U : Nat → Prop} {E e : TypeId} {kd : IntKind} {vr vm vl x u : Value} {X Y : List Value} {ps : List (Value × Int)} {n : Nat} {m : Int}

/-- the row of lists grows -/
theorem Keep.stepA (h : Keep w B U E e kd vr vm X Y ps vl n m) (hb : Ty w b 31) (hE : E ≠ e) (hE2 : E ≠ 31) (he : e ≠ 31) (hg : (w.alloc o).grownBy w1 vr.ownBlock)
    (hown : w1.ownsRow B E 1 (.slice (some ⟨g, 0, none⟩) (X.length + 1) cap) (X.length + 1) (X ++ [x])) (hat : vr.ownBlock = some g ∨ g = w.heap.size + 1 ∧ (w.alloc o).grownBy w1 none) :
    Keep (w1.setCell ⟨b, j, none⟩ u) B (more U w (w1.setCell ⟨b, j, none⟩ u)) E e kd (.slice (some ⟨g, 0, none⟩) (X.length + 1) cap) vm (X ++ [x]) Y ps vl n m := by
  obtain ⟨⟨h1, h2, h3, h4, h5⟩, h6, h7, h8⟩ := h
  have hgb : g ≠ b := by
    have hb1 : Ty w1 b 31 := by
      obtain ⟨cur, hb⟩ := hb
      exact ⟨cur, by rw [agree_step hg (Ty.lt ⟨cur, hb⟩) (fun e' => Ty.ne (own_ty h1 e') ⟨cur, hb⟩ hE2 rfl)]; exact hb⟩
    exact Ty.ne (own_ty hown rfl) hb1 hE2
  have ag : ∀ k, Ty w k e → (w1.setCell ⟨b, j, none⟩ u).heap[k]? = w.heap[k]? := fun k ht =>
    agree_set hg ht.lt (fun e' => Ty.ne (own_ty h1 e') ht hE rfl) (Ty.ne ht hb he)
  refine ⟨⟨?_, own_agree h2 (fun k hk => ag k (own_ty h2 hk)), fun p hp => (h3 p hp).agree (fun k ht hu ha => ⟨.inl hu, ha, ag k ht⟩), ?_, fun k hk => .inl (h5 k hk)⟩, own_agree h6 (fun k hk => ag k (own_ty h6 hk)), h7, h8⟩
  · rw [show (X ++ [x]).length = X.length + 1 by simp]
    exact ownsRow_set_other' hown (by simp [Value.ownBlock]; exact hgb)
  · intro k hk
    simp only [Value.ownBlock, Option.some.injEq] at hk
    subst hk
    rcases hat with hat | ⟨hat, _⟩
    · exact .inl (h4 _ hat)
    · refine .inr ⟨by omega, ?_⟩
      rw [size_set]; exact (own_ty hown rfl).lt

/-- the row of marks grows -/
theorem Keep.stepB (h : Keep w B U E e kd vr vm X Y ps vl n m) (hb : Ty w b 31) (hE : E ≠ e) (hE2 : E ≠ 31) (he : e ≠ 31) (hg : (w.alloc o).grownBy w1 vm.ownBlock)
    (hown : w1.ownsRow B e 1 (.slice (some ⟨g, 0, none⟩) (Y.length + 1) cap) (Y.length + 1) (Y ++ [x])) (hat : vm.ownBlock = some g ∨ g = w.heap.size + 1 ∧ (w.alloc o).grownBy w1 none) :
    Keep (w1.setCell ⟨b, j, none⟩ u) B (more U w (w1.setCell ⟨b, j, none⟩ u)) E e kd vr (.slice (some ⟨g, 0, none⟩) (Y.length + 1) cap) X (Y ++ [x]) ps vl n m := by
  obtain ⟨⟨h1, h2, h3, h4, h5⟩, h6, h7, h8⟩ := h
  have hgb : g ≠ b := by
    have hb1 : Ty w1 b 31 := by
      obtain ⟨cur, hb⟩ := hb
      exact ⟨cur, by rw [agree_step hg (Ty.lt ⟨cur, hb⟩) (fun e' => Ty.ne (own_ty h2 e') ⟨cur, hb⟩ he rfl)]; exact hb⟩
    exact Ty.ne (own_ty hown rfl) hb1 he
  have ag : ∀ k, Ty w k e → vm.ownBlock ≠ some k → (w1.setCell ⟨b, j, none⟩ u).heap[k]? = w.heap[k]? := fun k ht hn =>
    agree_set hg ht.lt hn (Ty.ne ht hb he)
  have av : ∀ k, Ty w k e → vm.ownBlock ≠ some k → (Value.slice (some ⟨g, 0, none⟩) (Y.length + 1) cap).ownBlock ≠ some k := by
    intro k ht hn e'
    simp only [Value.ownBlock, Option.some.injEq] at e'
    subst e'
    rcases hat with hat | ⟨hat, _⟩
    · exact hn hat
    · have := ht.lt; omega
  refine ⟨⟨own_agree h1 (fun k hk => agree_set hg (own_ty h1 hk).lt (fun e' => Ty.ne (own_ty h1 hk) (own_ty h2 e') hE rfl) (Ty.ne (own_ty h1 hk) hb hE2)), ?_, fun p hp => (h3 p hp).agree (fun k ht hu ha => ⟨.inl hu, av k ht ha, ag k ht ha⟩), fun k hk => .inl (h4 k hk), ?_⟩,
    own_agree h6 (fun k hk => ag k (own_ty h6 hk) (h7 k hk)), fun k hk => av k (own_ty h6 hk) (h7 k hk), h8⟩
  · rw [show (Y ++ [x]).length = Y.length + 1 by simp]
    exact ownsRow_set_other' hown (by simp [Value.ownBlock]; exact hgb)
  · intro k hk
    simp only [Value.ownBlock, Option.some.injEq] at hk
    subst hk
    rcases hat with hat | ⟨hat, _⟩
    · exact .inl (h5 _ hat)
    · refine .inr ⟨by omega, ?_⟩
      rw [size_set]; exact (own_ty hown rfl).lt

theorem own_cells {w : World} {B : Nat} {e : TypeId} {v : Value} {n : Nat} {x : Value} (h : w.ownsRow B e 1 v n (List.replicate n x)) (hn : 0 < n) :
    ∃ g cap cur, v = .slice (some ⟨g, 0, none⟩) n cap ∧ w.heap[g]? = some (.cells cur e (0, 0)) ∧ ∀ j, j < n → cur[j]? = some x := by
  rcases h.2 with ⟨_, h0⟩ | ⟨g, cap, cur, rfl, _, hg, _, _, hcs, ht⟩
  · omega
  · refine ⟨g, cap, cur, rfl, hg, fun j hj => ?_⟩
    have e1 : (cur.toList.take (n * 1))[j]? = some x := by rw [ht]; simp [hj]
    rw [List.getElem?_take, if_pos (by omega)] at e1
    simpa using e1

/-- the list itself grows: as it was it is kept -/
theorem Keep.stepC (h : Keep w B U E e kd vr vm X Y ps vl n m) (hE : E ≠ e) (hg : (w.alloc o).grownBy w1 vl.ownBlock)
    (hown : w1.ownsRow B e 1 (.slice (some ⟨g, 0, none⟩) (n + 1) cap) (n + 1) (List.replicate n (.int kd m) ++ [.int kd m])) (hat : vl.ownBlock = some g ∨ g = w.heap.size + 1 ∧ (w.alloc o).grownBy w1 none) :
    Keep w1 B (fun k => more U w w1 k ∨ vl.ownBlock = some k) E e kd vr vm X Y (ps ++ [(vl, m)]) (.slice (some ⟨g, 0, none⟩) (n + 1) cap) (n + 1) m := by
  obtain ⟨⟨h1, h2, h3, h4, h5⟩, h6, h7, h8⟩ := h
  rw [← List.replicate_succ'] at hown
  obtain ⟨g', cap', cur', he', hgg, hcur⟩ := own_cells hown (by omega)
  simp only [Value.slice.injEq, Option.some.injEq, Addr.mk.injEq, and_true, true_and] at he'
  obtain ⟨rfl, rfl⟩ := he'
  have old : ∀ k, k < w.heap.size → vl.ownBlock ≠ some k ∨ g = w.heap.size + 1 ∧ (w.alloc o).grownBy w1 none → w1.heap[k]? = w.heap[k]? := by
    intro k hk hc
    rcases hc with hc | ⟨_, hc⟩
    · exact agree_step hg hk hc
    · exact agree_step hc hk (by simp)
  refine ⟨⟨own_agree h1 (fun k hk => old k (own_ty h1 hk).lt (.inl (fun e' => Ty.ne (own_ty h1 hk) (own_ty h6 e') hE rfl))), own_agree h2 (fun k hk => old k (own_ty h2 hk).lt (.inl (fun e' => h7 k e' hk))), ?_, fun k hk => .inl (.inl (h4 k hk)), fun k hk => .inl (.inl (h5 k hk))⟩, hown, ?_, ?_⟩
  · intro p hp
    rw [List.mem_append, List.mem_singleton] at hp
    rcases hp with hp | rfl
    · obtain ⟨ao, j, cp, hv, hm, hf⟩ := h3 p hp
      refine ⟨ao, j, cp, hv, hm, ?_⟩
      rcases hf with hf | ⟨gp, cur, rfl, k1, k2, k3, k4⟩
      · exact .inl hf
      · by_cases hj : j = 0
        · exact .inl hj
        · by_cases hgp : vl.ownBlock = some gp
          · rcases hat with hat | hat
            · rw [hgp] at hat
              simp only [Option.some.injEq] at hat
              subst hat
              obtain ⟨e1, e2⟩ := h8 p hp gp j cp hv (by omega) hgp
              exact .inr ⟨gp, cur', rfl, .inr hgp, k2, hgg, fun i hi => by rw [e1]; exact hcur i (by omega)⟩
            · exact .inr ⟨gp, cur, rfl, .inr hgp, k2, by rw [old gp (Ty.lt ⟨cur, k3⟩) (.inr hat)]; exact k3, k4⟩
          · exact .inr ⟨gp, cur, rfl, .inl (.inl k1), k2, by rw [old gp (Ty.lt ⟨cur, k3⟩) (.inl hgp)]; exact k3, k4⟩
    · by_cases hn : n = 0
      · obtain ⟨ao, cp, hv⟩ := slen_of h6
        exact ⟨ao, n, cp, hv, own_le h6, .inl hn⟩
      · obtain ⟨gl, cpl, cur, hv, hgl, hc⟩ := own_cells h6 (by omega)
        have hob : vl.ownBlock = some gl := by rw [hv]; rfl
        refine ⟨some ⟨gl, 0, none⟩, n, cpl, hv, own_le h6, ?_⟩
        rcases hat with hat | hat
        · rw [hob] at hat
          simp only [Option.some.injEq] at hat
          subst hat
          exact .inr ⟨gl, cur', rfl, .inr hob, h7 gl hob, hgg, fun i hi => hcur i (by omega)⟩
        · exact .inr ⟨gl, cur, rfl, .inr hob, h7 gl hob, by rw [old gl (Ty.lt ⟨cur, hgl⟩) (.inr hat)]; exact hgl, hc⟩
  · intro k hk e'
    simp only [Value.ownBlock, Option.some.injEq] at hk
    subst hk
    rcases hat with hat | ⟨hat, _⟩
    · exact h7 _ hat e'
    · have := (own_ty h2 e').lt; omega
  · intro p hp gp j cp hv hj hgp
    simp only [Value.ownBlock, Option.some.injEq] at hgp
    subst hgp
    rw [List.mem_append, List.mem_singleton] at hp
    rcases hp with hp | rfl
    · rcases hat with hat | ⟨hat, _⟩
      · obtain ⟨e1, e2⟩ := h8 p hp _ j cp hv hj hat
        exact ⟨e1, by omega⟩
      · obtain ⟨ao, j', cp', hv', hm, hf⟩ := h3 p hp
        rw [hv] at hv'
        simp only [Value.slice.injEq] at hv'
        obtain ⟨rfl, rfl, rfl⟩ := hv'
        rcases hf with hf | ⟨gp, cur, ha, _, _, k3, _⟩
        · omega
        · simp only [Option.some.injEq, Addr.mk.injEq, and_true] at ha
          subst ha
          have := Ty.lt ⟨cur, k3⟩; omega
    · obtain ⟨ao, cp', hv'⟩ := slen_of h6
      simp only at hv
      rw [hv'] at hv
      simp only [Value.slice.injEq] at hv
      exact ⟨rfl, by omega⟩

end
end Go.Proofs.Ytjobhlncllfdmaa

/- The book; keepBytes. -/
namespace Go.Proofs.Ytjobhlncllfdmaa
open Go.RowKit

theorem Try.info24 : (Try.prog.info? 24).map (fun i => (i.zero, i.size, i.bytes)) = some (some (.slice none 0 0), 1, 24) := by kernel_rfl
theorem Try.info26 : (Try.prog.info? 26).map (fun i => (i.zero, i.size, i.bytes)) = some (some (.slice none 0 0), 1, 24) := by kernel_rfl

/-- all but the blocks of T is as it was -/
structure Fr (T : Nat → Prop) (w w' : World) : Prop where
  os : w'.os = w.os
  tape : w'.tape = w.tape
  output : w'.output = w.output
  size : w.heap.size ≤ w'.heap.size
  block : ∀ k, k < w.heap.size → ¬ T k → w'.heap[k]? = w.heap[k]?

theorem Fr.refl (T : Nat → Prop) (w : World) : Fr T w w := ⟨rfl, rfl, rfl, Nat.le_refl _, fun _ _ _ => rfl⟩
theorem Fr.trans {T T' : Nat → Prop} {w w' w'' : World} (h : Fr T w w') (h' : Fr T' w' w'') (hT : ∀ k, k < w.heap.size → T' k → T k) : Fr T w w'' :=
  ⟨h'.os.trans h.os, h'.tape.trans h.tape, h'.output.trans h.output, Nat.le_trans h.size h'.size, fun k hk ht => (h'.block k (Nat.lt_of_lt_of_le hk h.size) (fun t => ht (hT k hk t))).trans (h.block k hk ht)⟩
theorem Fr.mono {T T' : Nat → Prop} {w w' : World} (h : Fr T w w') (hT : ∀ k, T k → T' k) : Fr T' w w' := ⟨h.os, h.tape, h.output, h.size, fun k hk ht => h.block k hk (fun t => ht (hT k t))⟩
theorem Fr.below {T : Nat → Prop} {w w' : World} {B : Nat} (h : Fr T w w') (hB : B ≤ w.heap.size) (hT : ∀ k, T k → B ≤ k) : Below B w w' :=
  ⟨h.os, h.tape, h.output, h.size, fun k hk => h.block k (by omega) (fun t => by have := hT k t; omega)⟩
theorem Fr.of_below {w w' : World} (T : Nat → Prop) (h : Below w.heap.size w w') : Fr T w w' := ⟨h.os, h.tape, h.output, h.size, fun k hk _ => h.block k hk⟩
theorem Fr.set {w : World} {b j : Nat} {u : Value} : Fr (fun k => k = b) w (w.setCell ⟨b, j, none⟩ u) := ⟨rfl, rfl, rfl, by simp, fun k _ hk => heap_setCell_other w _ k u hk⟩
theorem Fr.grown {w w1 : World} {o : Obj} {row : Option Nat} (hg : (w.alloc o).grownBy w1 row) : Fr (fun k => row = some k) w w1 :=
  ⟨hg.os, hg.tape, hg.output, by have := hg.size; rw [size_alloc'] at this; omega, fun k hk hr => agree_step hg hk hr⟩

theorem take_set_next {α : Type} (ys : List α) (k : Nat) (x : α) (h : ys.take k = List.replicate k x) (hk : k < ys.length) : (ys.set k x).take (k + 1) = List.replicate (k + 1) x := by
  rw [List.take_succ_eq_append_getElem (by simpa using hk)]
  rw [List.take_set_of_le (Nat.le_refl _), h, List.replicate_succ']
  simp

def nilS : Value := .slice none 0 0

/-- the book's block -/
def BBlk (w : World) (b : Nat) (mk : Int) (vb vbm vi vim : Value) : Prop :=
  w.heap[b]? = some (.cells #[.int .i64 mk, vb, vbm, vi, vim, nilS, nilS, nilS, nilS, nilS, nilS] 31 (0, 0))

section
variable {w w' : World} {b : Nat} {mk : Int} {vb vbm vi vim : Value}
theorem BBlk.c0 (h : BBlk w b mk vb vbm vi vim) : w.cell? ⟨b, 0, none⟩ = some (.int .i64 mk) := by rw [cell_of_row w b 0 _ _ _ h]; rfl
theorem BBlk.c1 (h : BBlk w b mk vb vbm vi vim) : w.cell? ⟨b, 1, none⟩ = some vb := by rw [cell_of_row w b 1 _ _ _ h]; rfl
theorem BBlk.c2 (h : BBlk w b mk vb vbm vi vim) : w.cell? ⟨b, 2, none⟩ = some vbm := by rw [cell_of_row w b 2 _ _ _ h]; rfl
theorem BBlk.c3 (h : BBlk w b mk vb vbm vi vim) : w.cell? ⟨b, 3, none⟩ = some vi := by rw [cell_of_row w b 3 _ _ _ h]; rfl
theorem BBlk.c4 (h : BBlk w b mk vb vbm vi vim) : w.cell? ⟨b, 4, none⟩ = some vim := by rw [cell_of_row w b 4 _ _ _ h]; rfl
theorem BBlk.fz (h : BBlk w b mk vb vbm vi vim) (j : Nat) : w.frozen? ⟨b, j, none⟩ = false := frozen_of_row w b j _ _ h
theorem BBlk.ty (h : BBlk w b mk vb vbm vi vim) : Ty w b 31 := ⟨_, h⟩
theorem BBlk.kept (h : BBlk w b mk vb vbm vi vim) (hw : w'.heap[b]? = w.heap[b]?) : BBlk w' b mk vb vbm vi vim := by unfold BBlk; rw [hw]; exact h
theorem BBlk.set0 (h : BBlk w b mk vb vbm vi vim) (k : Int) : BBlk (w.setCell ⟨b, 0, none⟩ (.int .i64 k)) b k vb vbm vi vim := by unfold BBlk; rw [heap_setCell_same w b 0 _ _ _ h]; rfl
theorem BBlk.set1 (h : BBlk w b mk vb vbm vi vim) (u : Value) : BBlk (w.setCell ⟨b, 1, none⟩ u) b mk u vbm vi vim := by unfold BBlk; rw [heap_setCell_same w b 1 _ _ _ h]; rfl
theorem BBlk.set2 (h : BBlk w b mk vb vbm vi vim) (u : Value) : BBlk (w.setCell ⟨b, 2, none⟩ u) b mk vb u vi vim := by unfold BBlk; rw [heap_setCell_same w b 2 _ _ _ h]; rfl
theorem BBlk.set3 (h : BBlk w b mk vb vbm vi vim) (u : Value) : BBlk (w.setCell ⟨b, 3, none⟩ u) b mk vb vbm u vim := by unfold BBlk; rw [heap_setCell_same w b 3 _ _ _ h]; rfl
theorem BBlk.set4 (h : BBlk w b mk vb vbm vi vim) (u : Value) : BBlk (w.setCell ⟨b, 4, none⟩ u) b mk vb vbm vi u := by unfold BBlk; rw [heap_setCell_same w b 4 _ _ _ h]; rfl
end

def lists (ps : List (Value × Int)) : List Value := ps.map Prod.fst
def marks (kd : IntKind) (ps : List (Value × Int)) : List Value := ps.map fun p => .int kd p.2

/-- the book: its two lanes, all in blocks of U -/
def Book (w : World) (B b : Nat) (U : Nat → Prop) (bs is : List (Value × Int)) : Prop :=
  ∃ mk vb vbm vi vim, BBlk w b mk vb vbm vi vim ∧ Lane w B U 24 5 .u8 vb vbm (lists bs) (marks .u8 bs) bs ∧ Lane w B U 26 3 .i64 vi vim (lists is) (marks .i64 is) is ∧ U b ∧ (∀ k, U k → B ≤ k ∧ k < w.heap.size)

theorem Book.kept {w w' : World} {B b : Nat} {U : Nat → Prop} {bs is : List (Value × Int)} (h : Book w B b U bs is) (hw : ∀ k, U k → w'.heap[k]? = w.heap[k]?) (hs : w.heap.size ≤ w'.heap.size) : Book w' B b U bs is := by
  obtain ⟨mk, vb, vbm, vi, vim, h1, h2, h3, h4, h5⟩ := h
  exact ⟨mk, vb, vbm, vi, vim, h1.kept (hw b h4), h2.agree (fun k hk _ => hw k hk) (fun _ h => h), h3.agree (fun k hk _ => hw k hk) (fun _ h => h), h4, fun k hk => ⟨(h5 k hk).1, Nat.lt_of_lt_of_le (h5 k hk).2 hs⟩⟩

end Go.Proofs.Ytjobhlncllfdmaa
