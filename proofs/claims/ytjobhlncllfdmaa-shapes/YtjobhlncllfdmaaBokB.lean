/- One more element behind a row of one's own: in place, or in a new block and nothing old turned; the book's lanes. -/
import Derived.Test.YtjobhlncllfdmaaBokA
namespace Go.Proofs.Ytjobhlncllfdmaa
open Go.RowKit

theorem append1 {P : Program} (w : World) (t ty e : TypeId) (i : TypeInfo) (z : Value) (bytes B : Nat) (ht : P.underlying t = some (.slice e)) (hi : P.info? e = some i) (hz : i.zero = some z) (hsize : i.size = 1) (hby : i.bytes = bytes) (hzs : z.cells.size = 1)
    (v : Value) (n : Nat) (xs : List Value) (hown : w.ownsRow B e 1 v n xs) (a : Addr) (x : Value) (hx : w.cell? a = some x) (h1 : x.oneCell' = true) (c : Nat) (h63 : n + 1 ≤ maxLen) (hbytes : (n + 1) * bytes ≤ 140737488355328) (hB : B ≤ w.heap.size) :
    ∃ g cap w', (Builtin.append_ #[t, t] ty #[v, .slice (some a) 1 c]).run P w = .ok (.slice (some ⟨g, 0, none⟩) (n + 1) cap) w' ∧
      w'.ownsRow B e 1 (.slice (some ⟨g, 0, none⟩) (n + 1) cap) (n + 1) (xs ++ [x]) ∧ w.grownBy w' v.ownBlock ∧ (v.ownBlock = some g ∨ g = w.heap.size ∧ w.grownBy w' none) := by
  have hnews : ∀ j u, [x][j]? = some u → w.cell? (a.add j) = some u := by
    intro j u hj
    match j, hj with
    | 0, hj => simp at hj; subst hj; simpa [Addr.add] using hx
  have h1' : ∀ u ∈ [x], u.oneCell' = true := by intro u hu; simp at hu; subst hu; exact h1
  have hlx : xs.length = n := by have := hown.1; omega
  have hsrc : Src P i.size t (.slice (some a) 1 c) 1 [x] w := Src.ofSlice w ht a 1 c [x] (by rw [hsize]; rfl) hnews h1'
  have grow : ∀ (base : Option Addr) (sc : Nat), (Builtin.firstCells i.size n (.slice base n sc)).run P w.drew = .ok xs.toArray w.drew → sc < n + 1 →
      ∃ g cap w', (Builtin.append_ #[t, t] ty #[.slice base n sc, .slice (some a) 1 c]).run P w = .ok (.slice (some ⟨g, 0, none⟩) (n + 1) cap) w' ∧
      w'.ownsRow B e 1 (.slice (some ⟨g, 0, none⟩) (n + 1) cap) (n + 1) (xs ++ [x]) ∧ g = w.heap.size ∧ w.grownBy w' none := by
    intro base sc hold hsc
    have hr := run_append_grow_src w t t ty e i z ht hi hz base n sc xs hold (.slice (some a) 1 c) 1 [x] hsrc hsc (by unfold maxLen at h63; omega) (by rw [hby]; exact growslice_fits (by omega) hbytes)
    have hge := grownCap_ge w (n + 1) sc e
    have hcm : grownCap w (n + 1) sc e ≤ maxLen := grownCap_le_maxLen w (n + 1) sc e h63
    refine ⟨_, _, _, hr, ⟨by simp [hlx], .inr ⟨w.heap.size, _, _, rfl, hB, heap_alloc_new w.drew _, hge, hcm, ?_, ?_⟩⟩, rfl, ⟨rfl, rfl, rfl, by simp, fun k hk _ => Below.heap_alloc w.drew _ k hk⟩⟩
    · simp only [Array.size_append, List.size_toArray, size_zeroCells, hzs, List.length_append, List.length_cons, List.length_nil, hlx]
      omega
    · rw [Array.toList_append, List.take_append_of_le_length (by simp [hlx]), List.take_of_length_le (by simp [hlx])]
  rcases hown.2 with ⟨rfl, rfl⟩ | ⟨g, cap, cur, rfl, hbg, hg, hnc, hcm, hcs, htake⟩
  · have hx0 : xs = [] := List.eq_nil_of_length_eq_zero hlx
    subst hx0
    obtain ⟨g, cap, w', h2, h3, h4, h5⟩ := grow none 0 (by simpa using run_firstCells_none (P := P) w.drew i.size 0 0 0) (by omega)
    exact ⟨g, cap, w', h2, h3, h5, .inr ⟨h4, h5⟩⟩
  · by_cases hroom : n + 1 ≤ cap
    · obtain ⟨w', h2, h3, h4⟩ := run_append_fits w B t ty e i 1 ht hi hsize g n cap xs hown a 1 c [x] rfl hnews h1' hroom
      exact ⟨g, cap, w', h2, h3, h4, .inl rfl⟩
    · have holds : ∀ j u, xs[j]? = some u → w.cell? ((⟨g, 0, none⟩ : Addr).add j) = some u := hown.cells (g := g) rfl
      obtain ⟨g', cap', w', h2, h3, h4, h5⟩ := grow (some ⟨g, 0, none⟩) cap (run_firstCells_some w.drew i.size n ⟨g, 0, none⟩ n cap xs (by rw [hsize]; omega) (by simpa using holds)) (by omega)
      refine ⟨g', cap', w', h2, h3, ⟨h5.os, h5.tape, h5.output, h5.size, fun k hk _ => h5.block k hk (by simp)⟩, .inr ⟨h4, h5⟩⟩

/-- the block k holds cells of type e -/
def Ty (w : World) (k : Nat) (e : TypeId) : Prop := ∃ cur, w.heap[k]? = some (.cells cur e (0, 0))

theorem Ty.lt {w : World} {k : Nat} {e : TypeId} (h : Ty w k e) : k < w.heap.size := by
  obtain ⟨cur, h⟩ := h; exact (Array.getElem?_eq_some_iff.1 h).1
theorem Ty.ne {w : World} {k k' : Nat} {e e' : TypeId} (h : Ty w k e) (h' : Ty w k' e') (hne : e ≠ e') : k ≠ k' := by
  rintro rfl
  obtain ⟨cur, h⟩ := h
  obtain ⟨cur', h'⟩ := h'
  rw [h] at h'
  simp only [Option.some.injEq, Obj.cells.injEq] at h'
  exact hne h'.2.1
theorem own_ty {w : World} {B : Nat} {e : TypeId} {v : Value} {n : Nat} {xs : List Value} (h : w.ownsRow B e 1 v n xs) {k : Nat} (hk : v.ownBlock = some k) : Ty w k e := by
  rcases h.2 with ⟨rfl, _⟩ | ⟨g, cap, cur, rfl, _, hg, _⟩
  · simp [Value.ownBlock] at hk
  · simp only [Value.ownBlock, Option.some.injEq] at hk
    subst hk
    exact ⟨cur, hg⟩
theorem own_agree {w w' : World} {B : Nat} {e : TypeId} {v : Value} {n : Nat} {xs : List Value} (h : w.ownsRow B e 1 v n xs) (hw : ∀ k, v.ownBlock = some k → w'.heap[k]? = w.heap[k]?) : w'.ownsRow B e 1 v n xs := by
  refine ⟨h.1, ?_⟩
  rcases h.2 with h2 | ⟨g, cap, cur, rfl, hb, hg, r⟩
  · exact .inl h2
  · exact .inr ⟨g, cap, cur, rfl, hb, by rw [hw g rfl]; exact hg, r⟩

theorem own_le {w : World} {B : Nat} {e : TypeId} {v : Value} {n : Nat} {xs : List Value} (h : w.ownsRow B e 1 v n xs) : n ≤ maxLen := by
  rcases h.2 with ⟨_, h0⟩ | ⟨g, cap, cur, _, _, _, h1, h2, _⟩
  · omega
  · omega

/-- a kept list: it reads m in every place; its block is one of U, and not the one to be avoided -/
def Full (w : World) (U : Nat → Prop) (av : Option Nat) (e : TypeId) (v m : Value) : Prop :=
  ∃ ao n cap, v = .slice ao n cap ∧ n ≤ maxLen ∧ (n = 0 ∨ ∃ g cur, ao = some ⟨g, 0, none⟩ ∧ U g ∧ av ≠ some g ∧ w.heap[g]? = some (.cells cur e (0, 0)) ∧ ∀ j, j < n → cur[j]? = some m)

theorem Full.agree {w w' : World} {U U' : Nat → Prop} {av av' : Option Nat} {e : TypeId} {v m : Value} (h : Full w U av e v m) (hk : ∀ k, Ty w k e → U k → av ≠ some k → U' k ∧ av' ≠ some k ∧ w'.heap[k]? = w.heap[k]?) : Full w' U' av' e v m := by
  obtain ⟨ao, n, cap, rfl, hm, h⟩ := h
  refine ⟨ao, n, cap, rfl, hm, ?_⟩
  rcases h with h | ⟨g, cur, rfl, h1, h2, h3, h4⟩
  · exact .inl h
  · obtain ⟨k1, k2, k3⟩ := hk g ⟨cur, h3⟩ h1 h2
    exact .inr ⟨g, cur, rfl, k1, k2, by rw [k3]; exact h3, h4⟩

/-- a lane of the book: the row of lists, the row of marks, what was kept -/
def Lane (w : World) (B : Nat) (U : Nat → Prop) (E e : TypeId) (kd : IntKind) (vr vm : Value) (X Y : List Value) (ps : List (Value × Int)) : Prop :=
  w.ownsRow B E 1 vr X.length X ∧ w.ownsRow B e 1 vm Y.length Y ∧ (∀ p ∈ ps, Full w U vm.ownBlock e p.1 (.int kd p.2)) ∧ (∀ k, vr.ownBlock = some k → U k) ∧ (∀ k, vm.ownBlock = some k → U k)

theorem Lane.agree {w w' : World} {B : Nat} {U U' : Nat → Prop} {E e : TypeId} {kd : IntKind} {vr vm : Value} {X Y : List Value} {ps : List (Value × Int)} (h : Lane w B U E e kd vr vm X Y ps) (hw : ∀ k, U k → (Ty w k E ∨ Ty w k e) → w'.heap[k]? = w.heap[k]?) (hU : ∀ k, U k → U' k) :
    Lane w' B U' E e kd vr vm X Y ps := by
  obtain ⟨h1, h2, h3, h4, h5⟩ := h
  exact ⟨own_agree h1 (fun k hk => hw k (h4 k hk) (.inl (own_ty h1 hk))), own_agree h2 (fun k hk => hw k (h5 k hk) (.inr (own_ty h2 hk))),
    fun p hp => (h3 p hp).agree (fun k ht hu ha => ⟨hU k hu, ha, hw k hu (.inr ht)⟩), fun k hk => hU k (h4 k hk), fun k hk => hU k (h5 k hk)⟩

end Go.Proofs.Ytjobhlncllfdmaa
