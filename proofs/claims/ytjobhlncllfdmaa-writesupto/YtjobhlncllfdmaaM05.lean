/- The reference's file: its block, its rows and chunks; what the steps of groups do to it. -/
import Derived.Test.YtjobhlncllfdmaaM03
import Derived.Test.YtjobhlncllfdmaaM04
namespace Go.Proofs.Ytjobhlncllfdmaa
open Go.RowKit

theorem Try.info136 : (Try.prog.info? 136).map (fun i => (i.zero, i.size, i.bytes)) = some (some (.slice none 0 0), 1, 24) := by kernel_rfl
theorem Try.info138 : (Try.prog.info? 138).map (fun i => (i.zero, i.size, i.bytes)) = some (some (.agg #[.int .i64 0, .int .i64 0]), 2, 16) := by kernel_rfl

def chV (l : List (Nat × Nat)) : List Value := l.flatMap fun c => [Value.int .i64 (c.1 : Int), .int .i64 (c.2 : Int)]
theorem chV_snoc (l : List (Nat × Nat)) (p q : Nat) : chV l ++ [.int .i64 (p : Int), .int .i64 (q : Int)] = chV (l ++ [(p, q)]) := by simp [chV]

theorem own_tyS {w : World} {B : Nat} {e : TypeId} {size : Nat} {v : Value} {n : Nat} {xs : List Value} (h : w.ownsRow B e size v n xs) {k : Nat} (hk : v.ownBlock = some k) : Ty w k e := by
  rcases h.2 with ⟨rfl, _⟩ | ⟨g, cap, cur, rfl, _, hg, _⟩
  · simp [Value.ownBlock] at hk
  · simp only [Value.ownBlock, Option.some.injEq] at hk
    subst hk
    exact ⟨cur, hg⟩
theorem own_agreeS {w w' : World} {B : Nat} {e : TypeId} {size : Nat} {v : Value} {n : Nat} {xs : List Value} (h : w.ownsRow B e size v n xs) (hw : ∀ k, v.ownBlock = some k → w'.heap[k]? = w.heap[k]?) : w'.ownsRow B e size v n xs := by
  refine ⟨h.1, ?_⟩
  rcases h.2 with h2 | ⟨g, cap, cur, rfl, hb, hg, r⟩
  · exact .inl h2
  · exact .inr ⟨g, cap, cur, rfl, hb, by rw [hw g rfl]; exact hg, r⟩

/-- the block of a file that is being read -/
def FBlk (w : World) (F : Nat) (vc vr vk : Value) (E : Nat) : Prop := w.heap[F]? = some (.cells #[vc, vr, vk, .int .i64 E] 73 (0, 0))
section
variable {w w' : World} {F : Nat} {vc vr vk : Value} {E : Nat}
theorem FBlk.c0 (h : FBlk w F vc vr vk E) : w.cell? ⟨F, 0, none⟩ = some vc := by rw [cell_of_row w F 0 _ _ _ h]; rfl
theorem FBlk.c1 (h : FBlk w F vc vr vk E) : w.cell? ⟨F, 1, none⟩ = some vr := by rw [cell_of_row w F 1 _ _ _ h]; rfl
theorem FBlk.c2 (h : FBlk w F vc vr vk E) : w.cell? ⟨F, 2, none⟩ = some vk := by rw [cell_of_row w F 2 _ _ _ h]; rfl
theorem FBlk.c3 (h : FBlk w F vc vr vk E) : w.cell? ⟨F, 3, none⟩ = some (.int .i64 E) := by rw [cell_of_row w F 3 _ _ _ h]; rfl
theorem FBlk.fz (h : FBlk w F vc vr vk E) (j : Nat) : w.frozen? ⟨F, j, none⟩ = false := frozen_of_row w F j _ _ h
theorem FBlk.ty (h : FBlk w F vc vr vk E) : Ty w F 73 := ⟨_, h⟩
theorem FBlk.kept (h : FBlk w F vc vr vk E) (hw : w'.heap[F]? = w.heap[F]?) : FBlk w' F vc vr vk E := by unfold FBlk; rw [hw]; exact h
theorem FBlk.set0 (h : FBlk w F vc vr vk E) (u : Value) : FBlk (w.setCell ⟨F, 0, none⟩ u) F u vr vk E := by unfold FBlk; rw [heap_setCell_same w F 0 _ _ _ h]; rfl
theorem FBlk.set1 (h : FBlk w F vc vr vk E) (u : Value) : FBlk (w.setCell ⟨F, 1, none⟩ u) F vc u vk E := by unfold FBlk; rw [heap_setCell_same w F 1 _ _ _ h]; rfl
theorem FBlk.set2 (h : FBlk w F vc vr vk E) (u : Value) : FBlk (w.setCell ⟨F, 2, none⟩ u) F vc vr u E := by unfold FBlk; rw [heap_setCell_same w F 2 _ _ _ h]; rfl
end

/-- the file in block F, begun in w0: its rows rs, its chunks ls -/
def GS (w0 w : World) (F : Nat) (vc : Value) (E : Nat) (rs : List Nat) (ls : List (List (Nat × Nat))) (vr vk : Value) (vs : List Value) : Prop :=
  FBlk w F vc vr vk E ∧ w.ownsRow w0.heap.size 3 1 vr rs.length (ints rs) ∧ w.ownsRow w0.heap.size 136 1 vk ls.length vs ∧
    (∀ i, (h : i < ls.length) → ∃ v, vs[i]? = some v ∧ w.ownsRow w0.heap.size 138 2 v ls[i].length (chV ls[i])) ∧ Fr (fun k => k = F) w0 w ∧ F < w0.heap.size

section
variable {w0 w w1 : World} {o : Obj} {F : Nat} {vc vr vk v v' : Value} {vs : List Value} {E r : Nat} {rs : List Nat} {ls : List (List (Nat × Nat))} {l : List (Nat × Nat)}

theorem GS.start (h : FBlk w0 F vc nilS nilS E) : GS w0 w0 F vc E [] [] nilS nilS [] :=
  ⟨h, World.ownsRow_nil _ _ _ _, World.ownsRow_nil _ _ _ _, fun i h => by simp at h, Fr.refl _ _, h.ty.lt⟩

theorem GS.below (h : GS w0 w F vc E rs ls vr vk vs) (hb : Below w.heap.size w w1) : GS w0 w1 F vc E rs ls vr vk vs := by
  obtain ⟨h1, h2, h3, h4, h5, h6⟩ := h
  have ag : ∀ k, k < w.heap.size → w1.heap[k]? = w.heap[k]? := fun k hk => hb.block k hk
  refine ⟨h1.kept (ag F h1.ty.lt), own_agreeS h2 (fun k hk => ag k (own_tyS h2 hk).lt), own_agreeS h3 (fun k hk => ag k (own_tyS h3 hk).lt), ?_, h5.trans (Fr.of_below (fun _ => False) hb) (fun _ _ h => h.elim), h6⟩
  intro i hi
  obtain ⟨v, hv, ho⟩ := h4 i hi
  exact ⟨v, hv, own_agreeS ho (fun k hk => ag k (own_tyS ho hk).lt)⟩

/-- a number of rows more -/
theorem GS.pushR (h : GS w0 w F vc E rs ls vr vk vs) (hg : (w.alloc o).grownBy w1 vr.ownBlock) (ho : w1.ownsRow w0.heap.size 3 1 v' (rs.length + 1) (ints rs ++ [.int .i64 (r : Int)])) :
    FBlk w1 F vc vr vk E ∧ GS w0 (w1.setCell ⟨F, 1, none⟩ v') F vc E (rs ++ [r]) ls v' vk vs := by
  obtain ⟨h1, h2, h3, h4, h5, h6⟩ := h
  have hF : FBlk w1 F vc vr vk E := h1.kept (agree_step hg h1.ty.lt (fun e' => Ty.ne (own_tyS h2 e') h1.ty (by decide) rfl))
  have ag : ∀ k e, Ty w k e → e ≠ 3 → e ≠ 73 → (w1.setCell ⟨F, 1, none⟩ v').heap[k]? = w.heap[k]? := fun k e ht h3 h65 =>
    agree_set hg ht.lt (fun e' => Ty.ne (own_tyS h2 e') ht h3.symm rfl) (Ty.ne ht h1.ty h65)
  refine ⟨hF, hF.set1 v', ?_, own_agreeS h3 (fun k hk => ag k _ (own_tyS h3 hk) (by decide) (by decide)), ?_, ?_, h6⟩
  · rw [show (rs ++ [r]).length = rs.length + 1 by simp, ← ints_snoc]
    exact ownsRow_set_other' ho (fun e' => Ty.ne (own_tyS ho e') hF.ty (by decide) rfl)
  · intro i hi
    obtain ⟨v, hv, hoi⟩ := h4 i hi
    exact ⟨v, hv, own_agreeS hoi (fun k hk => ag k _ (own_tyS hoi hk) (by decide) (by decide))⟩
  · refine (h5.trans (Fr.grown hg) (fun k hk e' => ?_)).trans Fr.set (fun k _ e' => e')
    have := (h2.lt k e').1; omega

/-- a list of chunks more -/
theorem GS.pushL (h : GS w0 w F vc E rs ls vr vk vs) (hl : w.ownsRow w0.heap.size 138 2 v l.length (chV l)) (hg : (w.alloc o).grownBy w1 vk.ownBlock) (ho : w1.ownsRow w0.heap.size 136 1 v' (ls.length + 1) (vs ++ [v])) :
    FBlk w1 F vc vr vk E ∧ GS w0 (w1.setCell ⟨F, 2, none⟩ v') F vc E rs (ls ++ [l]) vr v' (vs ++ [v]) := by
  obtain ⟨h1, h2, h3, h4, h5, h6⟩ := h
  have hF : FBlk w1 F vc vr vk E := h1.kept (agree_step hg h1.ty.lt (fun e' => Ty.ne (own_tyS h3 e') h1.ty (by decide) rfl))
  have ag : ∀ k e, Ty w k e → e ≠ 136 → e ≠ 73 → (w1.setCell ⟨F, 2, none⟩ v').heap[k]? = w.heap[k]? := fun k e ht h3' h65 =>
    agree_set hg ht.lt (fun e' => Ty.ne (own_tyS h3 e') ht h3'.symm rfl) (Ty.ne ht h1.ty h65)
  have hvl : vs.length = ls.length := by have := h3.1; omega
  refine ⟨hF, hF.set2 v', own_agreeS h2 (fun k hk => ag k _ (own_tyS h2 hk) (by decide) (by decide)), ?_, ?_, ?_, h6⟩
  · rw [show (ls ++ [l]).length = ls.length + 1 by simp]
    exact ownsRow_set_other' ho (fun e' => Ty.ne (own_tyS ho e') hF.ty (by decide) rfl)
  · intro i hi
    by_cases hi2 : i < ls.length
    · obtain ⟨v, hv, hoi⟩ := h4 i hi2
      refine ⟨v, ?_, ?_⟩
      · rw [List.getElem?_append_left (by omega)]; exact hv
      · rw [List.getElem_append_left hi2]
        exact own_agreeS hoi (fun k hk => ag k _ (own_tyS hoi hk) (by decide) (by decide))
    · have hi3 : i = ls.length := by simp at hi; omega
      subst hi3
      refine ⟨v, by rw [List.getElem?_append_right (by omega), hvl]; simp, ?_⟩
      rw [List.getElem_append_right (by omega)]
      simp only [Nat.sub_self, List.getElem_cons_zero]
      exact own_agreeS hl (fun k hk => ag k _ (own_tyS hl hk) (by decide) (by decide))
  · refine (h5.trans (Fr.grown hg) (fun k hk e' => ?_)).trans Fr.set (fun k _ e' => e')
    have := (h3.lt k e').1; omega
end

theorem chunk1_vi {D : List UInt8} {E a : Nat} (h : Pu.vi D a = none) : Pu.chunk1 D E a = none := by simp [Pu.chunk1, h]
theorem chunk1_bad {D : List UInt8} {E a p a1 : Nat} (h : Pu.vi D a = some (p, a1)) (hb : p < 4 ∨ E < p) : Pu.chunk1 D E a = none := by simp only [Pu.chunk1, h]; rw [if_pos hb]
theorem chunk1_vi2 {D : List UInt8} {E a p a1 : Nat} (h : Pu.vi D a = some (p, a1)) (h2 : Pu.vi D a1 = none) : Pu.chunk1 D E a = none := by
  simp only [Pu.chunk1, h, h2]; split <;> rfl
theorem chunk1_bad2 {D : List UInt8} {E a p a1 q a2 : Nat} (h : Pu.vi D a = some (p, a1)) (h2 : Pu.vi D a1 = some (q, a2)) (hb : q < 1 ∨ 50 < q) : Pu.chunk1 D E a = none := by
  simp only [Pu.chunk1, h, h2]; split <;> first | rfl | rw [if_pos hb]
theorem chunk1_yes {D : List UInt8} {E a p a1 q a2 : Nat} (h : Pu.vi D a = some (p, a1)) (hb : ¬ (p < 4 ∨ E < p)) (h2 : Pu.vi D a1 = some (q, a2)) (hb2 : ¬ (q < 1 ∨ 50 < q)) : Pu.chunk1 D E a = some ((p, q), a2) := by
  simp only [Pu.chunk1, h, h2]; rw [if_neg hb, if_neg hb2]
theorem chunksGo_no {D : List UInt8} {E n a : Nat} {out : List (Nat × Nat)} (hn : 0 < n) (h : Pu.chunk1 D E a = none) : Pu.chunksGo D E n a out = none := by
  obtain ⟨m, rfl⟩ : ∃ m, n = m + 1 := ⟨n - 1, by omega⟩
  simp [Pu.chunksGo, h]
theorem chunksGo_yes {D : List UInt8} {E n a a' : Nat} {out : List (Nat × Nat)} {c : Nat × Nat} (hn : 0 < n) (h : Pu.chunk1 D E a = some (c, a')) : Pu.chunksGo D E n a out = Pu.chunksGo D E (n - 1) a' (out ++ [c]) := by
  obtain ⟨m, rfl⟩ : ∃ m, n = m + 1 := ⟨n - 1, by omega⟩
  simp [Pu.chunksGo, h]
theorem grp1_vi {D : List UInt8} {E nc a : Nat} (h : Pu.vi D a = none) : Pu.grp1 D E nc a = none := by simp [Pu.grp1, h]
theorem grp1_bad {D : List UInt8} {E nc a r a1 : Nat} (h : Pu.vi D a = some (r, a1)) (hb : r < 1 ∨ 1000 < r) : Pu.grp1 D E nc a = none := by simp only [Pu.grp1, h]; rw [if_pos hb]
theorem grp1_no {D : List UInt8} {E nc a r a1 : Nat} (h : Pu.vi D a = some (r, a1)) (hc : Pu.chunksGo D E nc a1 [] = none) : Pu.grp1 D E nc a = none := by
  simp only [Pu.grp1, h, hc]; split <;> rfl
theorem grp1_yes {D : List UInt8} {E nc a r a1 a2 : Nat} {l : List (Nat × Nat)} (h : Pu.vi D a = some (r, a1)) (hb : ¬ (r < 1 ∨ 1000 < r)) (hc : Pu.chunksGo D E nc a1 [] = some (l, a2)) : Pu.grp1 D E nc a = some ((r, l), a2) := by
  simp only [Pu.grp1, h, hc]; rw [if_neg hb]
theorem grpsGo_no {D : List UInt8} {E nc n a : Nat} {out : List (Nat × List (Nat × Nat))} (hn : 0 < n) (h : Pu.grp1 D E nc a = none) : Pu.grpsGo D E nc n a out = none := by
  obtain ⟨m, rfl⟩ : ∃ m, n = m + 1 := ⟨n - 1, by omega⟩
  simp [Pu.grpsGo, h]
theorem grpsGo_yes {D : List UInt8} {E nc n a a' : Nat} {out : List (Nat × List (Nat × Nat))} {g : Nat × List (Nat × Nat)} (hn : 0 < n) (h : Pu.grp1 D E nc a = some (g, a')) : Pu.grpsGo D E nc n a out = Pu.grpsGo D E nc (n - 1) a' (out ++ [g]) := by
  obtain ⟨m, rfl⟩ : ∃ m, n = m + 1 := ⟨n - 1, by omega⟩
  simp [Pu.grpsGo, h]

end Go.Proofs.Ytjobhlncllfdmaa

/- The book's lanes, whatever their elements are: what is kept in them, the three steps by which a list is kept. -/
namespace Go.Proofs.Ytjobhlncllfdmaa
open Go.RowKit

/-- one element more, of any size: in place, or in a new block and nothing old turned -/
theorem appendS {P : Program} (w : World) (t ty e : TypeId) (i : TypeInfo) (z : Value) (size bytes B : Nat) (ht : P.underlying t = some (.slice e)) (hi : P.info? e = some i) (hz : i.zero = some z) (hsize : i.size = size) (hby : i.bytes = bytes) (hzs : z.cells.size = size) (_hs0 : 0 < size)
    (v : Value) (n : Nat) (xs : List Value) (hown : w.ownsRow B e size v n xs) (a : Addr) (news : List Value) (hl : news.length = size) (hnews : ∀ j u, news[j]? = some u → w.cell? (a.add j) = some u) (h1 : ∀ u ∈ news, u.oneCell' = true) (c : Nat) (h63 : n + 1 ≤ maxLen) (hbytes : (n + 1) * bytes ≤ 140737488355328) (hB : B ≤ w.heap.size) :
    ∃ g cap w', (Builtin.append_ #[t, t] ty #[v, .slice (some a) 1 c]).run P w = .ok (.slice (some ⟨g, 0, none⟩) (n + 1) cap) w' ∧
      w'.ownsRow B e size (.slice (some ⟨g, 0, none⟩) (n + 1) cap) (n + 1) (xs ++ news) ∧ w.grownBy w' v.ownBlock ∧ (v.ownBlock = some g ∨ g = w.heap.size ∧ w.grownBy w' none) := by
  have hlx : xs.length = n * size := hown.1
  have hlen : (xs ++ news).length = (n + 1) * size := by rw [List.length_append, hlx, hl, Nat.add_mul, Nat.one_mul]
  have hsrc : Src P i.size t (.slice (some a) 1 c) 1 news w := Src.ofSlice w ht a 1 c news (by rw [hsize, hl, Nat.one_mul]) hnews h1
  have grow : ∀ (base : Option Addr) (sc : Nat), (Builtin.firstCells i.size n (.slice base n sc)).run P w.drew = .ok xs.toArray w.drew → sc < n + 1 →
      ∃ g cap w', (Builtin.append_ #[t, t] ty #[.slice base n sc, .slice (some a) 1 c]).run P w = .ok (.slice (some ⟨g, 0, none⟩) (n + 1) cap) w' ∧
      w'.ownsRow B e size (.slice (some ⟨g, 0, none⟩) (n + 1) cap) (n + 1) (xs ++ news) ∧ g = w.heap.size ∧ w.grownBy w' none := by
    intro base sc hold hsc
    have hr := run_append_grow_src w t t ty e i z ht hi hz base n sc xs hold (.slice (some a) 1 c) 1 news hsrc hsc (by unfold maxLen at h63; omega) (by rw [hby]; exact growslice_fits (by omega) hbytes)
    have hge := grownCap_ge w (n + 1) sc e
    have hcm : grownCap w (n + 1) sc e ≤ maxLen := grownCap_le_maxLen w (n + 1) sc e h63
    refine ⟨_, _, _, hr, ⟨hlen, .inr ⟨w.heap.size, _, _, rfl, hB, heap_alloc_new w.drew _, hge, hcm, ?_, ?_⟩⟩, rfl, ⟨rfl, rfl, rfl, by simp, fun k hk _ => Below.heap_alloc w.drew _ k hk⟩⟩
    · simp only [Array.size_append, List.size_toArray, size_zeroCells, hzs]
      rw [hlen, ← Nat.add_mul]
      congr 1; omega
    · simp only [Array.toList_append]
      rw [← hlen]
      exact List.take_left
  rcases hown.2 with ⟨rfl, rfl⟩ | ⟨g, cap, cur, rfl, hbg, hg, hnc, hcm, hcs, htake⟩
  · have hx0 : xs = [] := List.eq_nil_of_length_eq_zero (by rw [hlx]; simp)
    subst hx0
    obtain ⟨g, cap, w', h2, h3, h4, h5⟩ := grow none 0 (by simpa using run_firstCells_none (P := P) w.drew i.size 0 0 0) (by omega)
    exact ⟨g, cap, w', h2, h3, h5, .inr ⟨h4, h5⟩⟩
  · by_cases hroom : n + 1 ≤ cap
    · obtain ⟨w', h2, h3, h4⟩ := run_append_fits w B t ty e i size ht hi hsize g n cap xs hown a 1 c news (by rw [hl, Nat.one_mul]) hnews h1 hroom
      exact ⟨g, cap, w', h2, h3, h4, .inl rfl⟩
    · have holds : ∀ j u, xs[j]? = some u → w.cell? ((⟨g, 0, none⟩ : Addr).add j) = some u := hown.cells (g := g) rfl
      obtain ⟨g', cap', w', h2, h3, h4, h5⟩ := grow (some ⟨g, 0, none⟩) cap (run_firstCells_some w.drew i.size n ⟨g, 0, none⟩ n cap xs (by rw [hsize]; exact hlx) (by simpa using holds)) (by omega)
      refine ⟨g', cap', w', h2, h3, ⟨h5.os, h5.tape, h5.output, h5.size, fun k hk _ => h5.block k hk (by simp)⟩, .inr ⟨h4, h5⟩⟩

/-- a lane: the type of its lists, of their elements (and how many cells one has), of its marks; a further type of blocks; what reads as a mark -/
structure LP where
  E : TypeId
  e : TypeId
  em : TypeId
  ax : TypeId
  sz : Nat
  kd : IntKind
  el : World → (Nat → Prop) → Int → List Value → Prop

structure LPok (P : LP) : Prop where
  Ee : P.E ≠ P.e
  Eem : P.E ≠ P.em
  E31 : P.E ≠ 31
  e31 : P.e ≠ 31
  em31 : P.em ≠ 31
  axE : P.ax ≠ P.E
  axe : P.ax ≠ P.e
  axem : P.ax ≠ P.em
  ax31 : P.ax ≠ 31
  sz0 : 0 < P.sz
  stab : ∀ (w w' : World) (U U' : Nat → Prop) (m : Int) (xs : List Value), P.el w U m xs → (∀ k, U k → Ty w k P.ax → w'.heap[k]? = w.heap[k]?) → (∀ k, U k → U' k) → P.el w' U' m xs
  len : ∀ (w : World) (U : Nat → Prop) (m : Int) (xs : List Value), P.el w U m xs → xs.length = P.sz

/-- n places that read the mark m -/
def AllEl (P : LP) (w : World) (U : Nat → Prop) (m : Int) (n : Nat) (xs : List Value) : Prop := ∀ j, j < n → P.el w U m ((xs.drop (j * P.sz)).take P.sz)

theorem AllEl.agree {P : LP} (ok : LPok P) {w w' : World} {U U' : Nat → Prop} {m : Int} {n : Nat} {xs : List Value} (h : AllEl P w U m n xs) (hx : ∀ k, U k → Ty w k P.ax → w'.heap[k]? = w.heap[k]?) (hU : ∀ k, U k → U' k) : AllEl P w' U' m n xs :=
  fun j hj => ok.stab w w' U U' m _ (h j hj) hx hU

theorem AllEl.take {P : LP} {w : World} {U : Nat → Prop} {m : Int} {n : Nat} {xs ys : List Value} (h : AllEl P w U m n xs) (he : ys.take (n * P.sz) = xs.take (n * P.sz)) : AllEl P w U m n ys := by
  intro j hj
  have hle : (j + 1) * P.sz ≤ n * P.sz := Nat.mul_le_mul_right _ hj
  rw [Nat.succ_mul] at hle
  have e1 : ∀ zs : List Value, (zs.drop (j * P.sz)).take P.sz = ((zs.take (n * P.sz)).drop (j * P.sz)).take P.sz := by
    intro zs
    rw [List.drop_take, List.take_take, Nat.min_eq_left (by omega)]
  rw [e1, he, ← e1]
  exact h j hj

theorem AllEl.mono {P : LP} {w : World} {U : Nat → Prop} {m : Int} {n k : Nat} {xs : List Value} (h : AllEl P w U m n xs) (hk : k ≤ n) : AllEl P w U m k xs := fun j hj => h j (by omega)

theorem AllEl.snoc {P : LP} {w : World} {U : Nat → Prop} {m : Int} {n : Nat} {xs ys : List Value} (h : AllEl P w U m n xs) (hl : xs.length = n * P.sz) (hy : P.el w U m ys) (hyl : ys.length = P.sz) : AllEl P w U m (n + 1) (xs ++ ys) := by
  intro j hj
  by_cases hjn : j < n
  · have hle : (j + 1) * P.sz ≤ n * P.sz := Nat.mul_le_mul_right _ hjn
    rw [Nat.succ_mul] at hle
    rw [List.drop_append_of_le_length (by omega), List.take_append_of_le_length (by rw [List.length_drop]; omega)]
    exact h j hjn
  · obtain rfl : j = n := by omega
    rw [← hl, List.drop_left, List.take_of_length_le (by omega)]
    exact hy

/-- a kept list: it reads m in every place; its block is one of U, and not the one to be avoided -/
def FullG (P : LP) (w : World) (U : Nat → Prop) (av : Option Nat) (v : Value) (m : Int) : Prop :=
  ∃ ao n cap, v = .slice ao n cap ∧ n ≤ maxLen ∧ (n = 0 ∨ ∃ g cur, ao = some ⟨g, 0, none⟩ ∧ U g ∧ av ≠ some g ∧ w.heap[g]? = some (.cells cur P.e (0, 0)) ∧ AllEl P w U m n cur.toList)

theorem FullG.agree {P : LP} (ok : LPok P) {w w' : World} {U U' : Nat → Prop} {av av' : Option Nat} {v : Value} {m : Int} (h : FullG P w U av v m) (hk : ∀ k, Ty w k P.e → U k → av ≠ some k → av' ≠ some k ∧ w'.heap[k]? = w.heap[k]?) (hx : ∀ k, U k → Ty w k P.ax → w'.heap[k]? = w.heap[k]?) (hU : ∀ k, U k → U' k) : FullG P w' U' av' v m := by
  obtain ⟨ao, n, cap, rfl, hm, h⟩ := h
  refine ⟨ao, n, cap, rfl, hm, ?_⟩
  rcases h with h | ⟨g, cur, rfl, h1, h2, h3, h4⟩
  · exact .inl h
  · obtain ⟨k2, k3⟩ := hk g ⟨cur, h3⟩ h1 h2
    exact .inr ⟨g, cur, rfl, hU g h1, k2, by rw [k3]; exact h3, h4.agree ok hx hU⟩

/-- a lane of the book: the row of lists, the row of marks, what was kept -/
def LaneG (P : LP) (w : World) (B : Nat) (U : Nat → Prop) (vr vm : Value) (X Y : List Value) (ps : List (Value × Int)) : Prop :=
  w.ownsRow B P.E 1 vr X.length X ∧ w.ownsRow B P.em 1 vm Y.length Y ∧ (∀ p ∈ ps, FullG P w U vm.ownBlock p.1 p.2) ∧ (∀ k, vr.ownBlock = some k → U k) ∧ (∀ k, vm.ownBlock = some k → U k)

theorem LaneG.agree {P : LP} (ok : LPok P) {w w' : World} {B : Nat} {U U' : Nat → Prop} {vr vm : Value} {X Y : List Value} {ps : List (Value × Int)} (h : LaneG P w B U vr vm X Y ps) (hw : ∀ k, U k → w'.heap[k]? = w.heap[k]?) (hU : ∀ k, U k → U' k) : LaneG P w' B U' vr vm X Y ps := by
  obtain ⟨h1, h2, h3, h4, h5⟩ := h
  exact ⟨own_agreeS h1 (fun k hk => hw k (h4 k hk)), own_agreeS h2 (fun k hk => hw k (h5 k hk)), fun p hp => (h3 p hp).agree ok (fun k _ hu ha => ⟨ha, hw k hu⟩) (fun k hk _ => hw k hk) hU, fun k hk => hU k (h4 k hk), fun k hk => hU k (h5 k hk)⟩

/-- a lane, and the list that is being kept in it -/
def KeepG (P : LP) (w : World) (B : Nat) (U : Nat → Prop) (vr vm : Value) (X Y : List Value) (ps : List (Value × Int)) (vl : Value) (n : Nat) (m : Int) : Prop :=
  LaneG P w B U vr vm X Y ps ∧ (∃ xs, w.ownsRow B P.e P.sz vl n xs ∧ AllEl P w U m n xs) ∧ (∀ k, vl.ownBlock = some k → vm.ownBlock ≠ some k) ∧
    (∀ p ∈ ps, ∀ g j cap, p.1 = .slice (some ⟨g, 0, none⟩) j cap → 0 < j → vl.ownBlock = some g → p.2 = m ∧ j ≤ n)

theorem own_leS {w : World} {B : Nat} {e : TypeId} {size : Nat} {v : Value} {n : Nat} {xs : List Value} (h : w.ownsRow B e size v n xs) : n ≤ maxLen := by
  rcases h.2 with ⟨_, h0⟩ | ⟨g, cap, cur, _, _, _, h1, h2, _⟩
  · omega
  · omega

section
variable {P : LP} {w w1 : World} {o : Obj} {B b j g cap : Nat} {U U' : Nat → Prop} {vr vm vl x u : Value} {X Y : List Value} {ps : List (Value × Int)} {n : Nat} {m : Int}

/-- nothing old has turned -/
theorem KeepG.moved (ok : LPok P) (h : KeepG P w B U vr vm X Y ps vl n m) (hb : Below w.heap.size w w1) (hUs : ∀ k, U k → k < w.heap.size) (hU : ∀ k, U k → U' k) : KeepG P w1 B U' vr vm X Y ps vl n m := by
  obtain ⟨h1, ⟨xs, h2, h3⟩, h4, h5⟩ := h
  exact ⟨h1.agree ok (fun k hk => hb.block k (hUs k hk)) hU, ⟨xs, own_agreeS h2 (fun k hk => hb.block k (own_tyS h2 hk).lt), h3.agree ok (fun k hk _ => hb.block k (hUs k hk)) hU⟩, h4, h5⟩

/-- the row of lists grows -/
theorem KeepG.stepA (ok : LPok P) (h : KeepG P w B U vr vm X Y ps vl n m) (hb : Ty w b 31) (hg : (w.alloc o).grownBy w1 vr.ownBlock)
    (hown : w1.ownsRow B P.E 1 (.slice (some ⟨g, 0, none⟩) (X.length + 1) cap) (X.length + 1) (X ++ [x])) (hat : vr.ownBlock = some g ∨ g = w.heap.size + 1 ∧ (w.alloc o).grownBy w1 none) :
    KeepG P (w1.setCell ⟨b, j, none⟩ u) B (more U w (w1.setCell ⟨b, j, none⟩ u)) (.slice (some ⟨g, 0, none⟩) (X.length + 1) cap) vm (X ++ [x]) Y ps vl n m := by
  obtain ⟨⟨h1, h2, h3, h4, h5⟩, ⟨xs, h6, h6'⟩, h7, h8⟩ := h
  have hgb : g ≠ b := by
    have hb1 : Ty w1 b 31 := by
      obtain ⟨cur, hb⟩ := hb
      exact ⟨cur, by rw [agree_step hg (Ty.lt ⟨cur, hb⟩) (fun e' => Ty.ne (own_tyS h1 e') ⟨cur, hb⟩ ok.E31 rfl)]; exact hb⟩
    exact Ty.ne (own_tyS hown rfl) hb1 ok.E31
  have ag : ∀ k t, Ty w k t → P.E ≠ t → t ≠ 31 → (w1.setCell ⟨b, j, none⟩ u).heap[k]? = w.heap[k]? := fun k t ht hE h31 =>
    agree_set hg ht.lt (fun e' => Ty.ne (own_tyS h1 e') ht hE rfl) (Ty.ne ht hb h31)
  have agx : ∀ k, U k → Ty w k P.ax → (w1.setCell ⟨b, j, none⟩ u).heap[k]? = w.heap[k]? := fun k _ ht => ag k _ ht ok.axE.symm ok.ax31
  refine ⟨⟨?_, own_agreeS h2 (fun k hk => ag k _ (own_tyS h2 hk) ok.Eem ok.em31), fun p hp => (h3 p hp).agree ok (fun k ht hu ha => ⟨ha, ag k _ ht ok.Ee ok.e31⟩) agx (fun k hk => .inl hk), ?_, fun k hk => .inl (h5 k hk)⟩,
    ⟨xs, own_agreeS h6 (fun k hk => ag k _ (own_tyS h6 hk) ok.Ee ok.e31), h6'.agree ok agx (fun k hk => .inl hk)⟩, h7, h8⟩
  · rw [show (X ++ [x]).length = X.length + 1 by simp]
    exact ownsRow_set_other' hown (by simp [Value.ownBlock]; exact hgb)
  · intro k hk
    simp only [Value.ownBlock, Option.some.injEq] at hk
    subst hk
    rcases hat with hat | ⟨hat, _⟩
    · exact .inl (h4 _ hat)
    · refine .inr ⟨by omega, ?_⟩
      rw [size_set]; exact (own_tyS hown rfl).lt

/-- the row of marks grows -/
theorem KeepG.stepB (ok : LPok P) (h : KeepG P w B U vr vm X Y ps vl n m) (hb : Ty w b 31) (hg : (w.alloc o).grownBy w1 vm.ownBlock)
    (hown : w1.ownsRow B P.em 1 (.slice (some ⟨g, 0, none⟩) (Y.length + 1) cap) (Y.length + 1) (Y ++ [x])) (hat : vm.ownBlock = some g ∨ g = w.heap.size + 1 ∧ (w.alloc o).grownBy w1 none) :
    KeepG P (w1.setCell ⟨b, j, none⟩ u) B (more U w (w1.setCell ⟨b, j, none⟩ u)) vr (.slice (some ⟨g, 0, none⟩) (Y.length + 1) cap) X (Y ++ [x]) ps vl n m := by
  obtain ⟨⟨h1, h2, h3, h4, h5⟩, ⟨xs, h6, h6'⟩, h7, h8⟩ := h
  have hgb : g ≠ b := by
    have hb1 : Ty w1 b 31 := by
      obtain ⟨cur, hb⟩ := hb
      exact ⟨cur, by rw [agree_step hg (Ty.lt ⟨cur, hb⟩) (fun e' => Ty.ne (own_tyS h2 e') ⟨cur, hb⟩ ok.em31 rfl)]; exact hb⟩
    exact Ty.ne (own_tyS hown rfl) hb1 ok.em31
  have ag : ∀ k t, Ty w k t → vm.ownBlock ≠ some k → t ≠ 31 → (w1.setCell ⟨b, j, none⟩ u).heap[k]? = w.heap[k]? := fun k t ht hn h31 =>
    agree_set hg ht.lt hn (Ty.ne ht hb h31)
  have agx : ∀ k, U k → Ty w k P.ax → (w1.setCell ⟨b, j, none⟩ u).heap[k]? = w.heap[k]? := fun k _ ht => ag k _ ht (fun e' => Ty.ne (own_tyS h2 e') ht ok.axem.symm rfl) ok.ax31
  have av : ∀ k, Ty w k P.e → vm.ownBlock ≠ some k → (Value.slice (some ⟨g, 0, none⟩) (Y.length + 1) cap).ownBlock ≠ some k := by
    intro k ht hn e'
    simp only [Value.ownBlock, Option.some.injEq] at e'
    subst e'
    rcases hat with hat | ⟨hat, _⟩
    · exact hn hat
    · have := ht.lt; omega
  refine ⟨⟨own_agreeS h1 (fun k hk => ag k _ (own_tyS h1 hk) (fun e' => Ty.ne (own_tyS h1 hk) (own_tyS h2 e') ok.Eem rfl) ok.E31), ?_, fun p hp => (h3 p hp).agree ok (fun k ht hu ha => ⟨av k ht ha, ag k _ ht ha ok.e31⟩) agx (fun k hk => .inl hk), fun k hk => .inl (h4 k hk), ?_⟩,
    ⟨xs, own_agreeS h6 (fun k hk => ag k _ (own_tyS h6 hk) (h7 k hk) ok.e31), h6'.agree ok agx (fun k hk => .inl hk)⟩, fun k hk => av k (own_tyS h6 hk) (h7 k hk), h8⟩
  · rw [show (Y ++ [x]).length = Y.length + 1 by simp]
    exact ownsRow_set_other' hown (by simp [Value.ownBlock]; exact hgb)
  · intro k hk
    simp only [Value.ownBlock, Option.some.injEq] at hk
    subst hk
    rcases hat with hat | ⟨hat, _⟩
    · exact .inl (h5 _ hat)
    · refine .inr ⟨by omega, ?_⟩
      rw [size_set]; exact (own_tyS hown rfl).lt

theorem own_cellsS {w : World} {B : Nat} {e : TypeId} {size : Nat} {v : Value} {n : Nat} {xs : List Value} (h : w.ownsRow B e size v n xs) (hn : 0 < n) :
    ∃ g cap cur, v = .slice (some ⟨g, 0, none⟩) n cap ∧ w.heap[g]? = some (.cells cur e (0, 0)) ∧ cur.toList.take (n * size) = xs := by
  rcases h.2 with ⟨_, h0⟩ | ⟨g, cap, cur, rfl, _, hg, _, _, hcs, ht⟩
  · omega
  · exact ⟨g, cap, cur, rfl, hg, ht⟩

/-- the list itself grows: as it was it is kept -/
theorem KeepG.stepC (ok : LPok P) {news : List Value} (h : KeepG P w B U vr vm X Y ps vl n m) (hg : (w.alloc o).grownBy w1 vl.ownBlock) (hUs : ∀ k, U k → k < w.heap.size) (hel : P.el w U m news)
    (hown : ∀ xs, w.ownsRow B P.e P.sz vl n xs → w1.ownsRow B P.e P.sz (.slice (some ⟨g, 0, none⟩) (n + 1) cap) (n + 1) (xs ++ news)) (hat : vl.ownBlock = some g ∨ g = w.heap.size + 1 ∧ (w.alloc o).grownBy w1 none) :
    KeepG P w1 B (fun k => more U w w1 k ∨ vl.ownBlock = some k) vr vm X Y (ps ++ [(vl, m)]) (.slice (some ⟨g, 0, none⟩) (n + 1) cap) (n + 1) m := by
  obtain ⟨⟨h1, h2, h3, h4, h5⟩, ⟨xs, h6, h6'⟩, h7, h8⟩ := h
  have hown := hown xs h6
  have hnl := ok.len _ _ _ _ hel
  have hxl : xs.length = n * P.sz := h6.1
  have old : ∀ k, k < w.heap.size → vl.ownBlock ≠ some k ∨ g = w.heap.size + 1 ∧ (w.alloc o).grownBy w1 none → w1.heap[k]? = w.heap[k]? := by
    intro k hk hc
    rcases hc with hc | ⟨_, hc⟩
    · exact agree_step hg hk hc
    · exact agree_step hc hk (by simp)
  have hU : ∀ k, U k → more U w w1 k ∨ vl.ownBlock = some k := fun k hk => .inl (.inl hk)
  have agx : ∀ k, U k → Ty w k P.ax → w1.heap[k]? = w.heap[k]? := fun k hk ht => old k (hUs k hk) (.inl (fun e' => Ty.ne (own_tyS h6 e') ht ok.axe.symm rfl))
  have hel1 : P.el w1 (fun k => more U w w1 k ∨ vl.ownBlock = some k) m news := ok.stab _ _ _ _ _ _ hel agx hU
  have hall : AllEl P w1 (fun k => more U w w1 k ∨ vl.ownBlock = some k) m (n + 1) (xs ++ news) := (h6'.agree ok agx hU).snoc hxl hel1 hnl
  obtain ⟨g', cap', cur', he', hgg, hcur⟩ := own_cellsS hown (by omega)
  simp only [Value.slice.injEq, Option.some.injEq, Addr.mk.injEq, and_true, true_and] at he'
  obtain ⟨rfl, rfl⟩ := he'
  have hall' : AllEl P w1 (fun k => more U w w1 k ∨ vl.ownBlock = some k) m (n + 1) cur'.toList := hall.take (by rw [hcur, List.take_of_length_le (by rw [hown.1]; exact Nat.le_refl _)])
  refine ⟨⟨own_agreeS h1 (fun k hk => old k (own_tyS h1 hk).lt (.inl (fun e' => Ty.ne (own_tyS h1 hk) (own_tyS h6 e') ok.Ee rfl))), own_agreeS h2 (fun k hk => old k (own_tyS h2 hk).lt (.inl (fun e' => h7 k e' hk))), ?_, fun k hk => hU k (h4 k hk), fun k hk => hU k (h5 k hk)⟩, ⟨_, hown, hall⟩, ?_, ?_⟩
  · intro p hp
    rw [List.mem_append, List.mem_singleton] at hp
    rcases hp with hp | rfl
    · obtain ⟨ao, j, cp, hv, hm, hf⟩ := h3 p hp
      refine ⟨ao, j, cp, hv, hm, ?_⟩
      rcases hf with hf | ⟨gp, cur, rfl, k1, k2, k3, k4⟩
      · exact .inl hf
      · by_cases hj : j = 0
        · exact .inl hj
        · by_cases hgp : vl.ownBlock = some gp
          · rcases hat with hat | hat
            · rw [hgp] at hat
              simp only [Option.some.injEq] at hat
              subst hat
              obtain ⟨e1, e2⟩ := h8 p hp gp j cp hv (by omega) hgp
              exact .inr ⟨gp, cur', rfl, .inr hgp, k2, hgg, by rw [e1]; exact hall'.mono (by omega)⟩
            · exact .inr ⟨gp, cur, rfl, .inr hgp, k2, by rw [old gp (Ty.lt ⟨cur, k3⟩) (.inr hat)]; exact k3, k4.agree ok agx hU⟩
          · exact .inr ⟨gp, cur, rfl, .inl (.inl k1), k2, by rw [old gp (Ty.lt ⟨cur, k3⟩) (.inl hgp)]; exact k3, k4.agree ok agx hU⟩
    · by_cases hn : n = 0
      · obtain ⟨ao, cp, hv⟩ := slen_of h6
        exact ⟨ao, n, cp, hv, own_leS h6, .inl hn⟩
      · obtain ⟨gl, cpl, cur, hv, hgl, hc⟩ := own_cellsS h6 (by omega)
        have hob : vl.ownBlock = some gl := by rw [hv]; rfl
        refine ⟨some ⟨gl, 0, none⟩, n, cpl, hv, own_leS h6, ?_⟩
        rcases hat with hat | hat
        · rw [hob] at hat
          simp only [Option.some.injEq] at hat
          subst hat
          exact .inr ⟨gl, cur', rfl, .inr hob, h7 gl hob, hgg, hall'.mono (by omega)⟩
        · refine .inr ⟨gl, cur, rfl, .inr hob, h7 gl hob, by rw [old gl (Ty.lt ⟨cur, hgl⟩) (.inr hat)]; exact hgl, ?_⟩
          exact (h6'.agree ok agx hU).take (by rw [hc, List.take_of_length_le (by rw [hxl]; exact Nat.le_refl _)])
  · intro k hk e'
    simp only [Value.ownBlock, Option.some.injEq] at hk
    subst hk
    rcases hat with hat | ⟨hat, _⟩
    · exact h7 _ hat e'
    · have := (own_tyS h2 e').lt; omega
  · intro p hp gp j cp hv hj hgp
    simp only [Value.ownBlock, Option.some.injEq] at hgp
    subst hgp
    rw [List.mem_append, List.mem_singleton] at hp
    rcases hp with hp | rfl
    · rcases hat with hat | ⟨hat, _⟩
      · obtain ⟨e1, e2⟩ := h8 p hp _ j cp hv hj hat
        exact ⟨e1, by omega⟩
      · obtain ⟨ao, j', cp', hv', hm, hf⟩ := h3 p hp
        rw [hv] at hv'
        simp only [Value.slice.injEq] at hv'
        obtain ⟨rfl, rfl, rfl⟩ := hv'
        rcases hf with hf | ⟨gp, cur, ha, _, _, k3, _⟩
        · omega
        · simp only [Option.some.injEq, Addr.mk.injEq, and_true] at ha
          subst ha
          have := Ty.lt ⟨cur, k3⟩; omega
    · obtain ⟨ao, cp', hv'⟩ := slen_of h6
      simp only at hv
      rw [hv'] at hv
      simp only [Value.slice.injEq] at hv
      exact ⟨rfl, by omega⟩

end
end Go.Proofs.Ytjobhlncllfdmaa
