/- The book's lendTable: what holds. -/
import Derived.Test.YtjobhlncllfdmaaM32
namespace Go.Proofs.Ytjobhlncllfdmaa
open Go.RowKit Go.Maps

/-- the column, the cell that stand behind -/
def bh : RC := ([98, 101, 104, 105, 110, 100], 0, false)
def c77 : Pu.Cl := ⟨false, 77, []⟩

/-- k lists have been lent -/
structure LT (w wr : World) (S : Nat) (rs : List RC) (ts : List (List Pu.Cl)) (vc vl vw : Value) (vsl vsw : List Value) (k : Nat) : Prop where
  bel : Below S w wr
  low : S ≤ w.heap.size
  cols : wr.ownsRow S 45 3 vc (rs.length + 2) (rcsV (rs ++ [bh, bh]))
  l : wr.ownsRow S 64 1 vl k vsl
  wh : wr.ownsRow S 64 1 vw k vsw
  each : ∀ i, i < k → (h2 : i < ts.length) → ∃ g c, vsl[i]? = some (.slice (some ⟨g, 0, none⟩) ts[i].length c) ∧ vsw[i]? = some (.slice (some ⟨g, 0, none⟩) (ts[i].length + 2) c) ∧ wr.ownsRow S 66 3 (.slice (some ⟨g, 0, none⟩) (ts[i].length + 2) c) (ts[i].length + 2) (clsV (ts[i] ++ [c77, c77]))
  dis : ∀ (i j : Nat) (v v' : Value) (x : Nat), i ≠ j → vsw[i]? = some v → vsw[j]? = some v' → v.ownBlock = some x → v'.ownBlock ≠ some x
  lw : ∀ x, vl.ownBlock = some x → vw.ownBlock ≠ some x
  kt : k ≤ ts.length

theorem LT.size {w wr : World} {S : Nat} {rs : List RC} {ts : List (List Pu.Cl)} {vc vl vw : Value} {vsl vsw : List Value} {k : Nat} (h : LT w wr S rs ts vc vl vw vsl vsw k) : S ≤ wr.heap.size := Nat.le_trans h.low h.bel.size

/-- what lies in other blocks stays -/
theorem LT.below {w wr w2 : World} {S : Nat} {rs : List RC} {ts : List (List Pu.Cl)} {vc vl vw : Value} {vsl vsw : List Value} {k : Nat} (h : LT w wr S rs ts vc vl vw vsl vsw k) (hb : Below wr.heap.size wr w2) : LT w w2 S rs ts vc vl vw vsl vsw k := by
  refine ⟨h.bel.trans (hb.mono h.size), h.low, own_agreeS h.cols (fun x hx => hb.block x (own_tyS h.cols hx).lt), own_agreeS h.l (fun x hx => hb.block x (own_tyS h.l hx).lt), own_agreeS h.wh (fun x hx => hb.block x (own_tyS h.wh hx).lt), fun i hi h2 => ?_, h.dis, h.lw, h.kt⟩
  obtain ⟨g, c, e1, e2, e3⟩ := h.each i hi h2
  exact ⟨g, c, e1, e2, own_agreeS e3 (fun x hx => hb.block x (own_tyS e3 hx).lt)⟩

/-- one list more: the whole one -/
theorem LT.mid {w w2 w3 : World} {S B : Nat} {rs : List RC} {ts : List (List Pu.Cl)} {vc vl vw vw' : Value} {vsl vsw : List Value} {k g c n : Nat} {xs : List Value} (h : LT w w2 S rs ts vc vl vw vsl vsw k)
    (ho : w2.ownsRow B 66 3 (.slice (some ⟨g, 0, none⟩) n c) n xs) (g3 : w2.grownBy w3 vw.ownBlock) (l3 : ∀ x, vw'.ownBlock = some x → vw.ownBlock = some x ∨ w2.heap.size ≤ x) :
    w3.ownsRow S 64 1 vl k vsl ∧ w3.ownsRow B 66 3 (.slice (some ⟨g, 0, none⟩) n c) n xs ∧ w3.ownsRow S 45 3 vc (rs.length + 2) (rcsV (rs ++ [bh, bh])) ∧ Below S w w3 ∧ (∀ x, vl.ownBlock = some x → vw'.ownBlock ≠ some x) ∧ S ≤ w3.heap.size ∧
    (∀ i, i < k → (h2 : i < ts.length) → ∃ g c, vsl[i]? = some (.slice (some ⟨g, 0, none⟩) ts[i].length c) ∧ vsw[i]? = some (.slice (some ⟨g, 0, none⟩) (ts[i].length + 2) c) ∧ w3.ownsRow S 66 3 (.slice (some ⟨g, 0, none⟩) (ts[i].length + 2) c) (ts[i].length + 2) (clsV (ts[i] ++ [c77, c77]))) := by
  have hs := h.size
  have kp : ∀ x (e : TypeId), Ty w2 x e → e ≠ 64 → w3.heap[x]? = w2.heap[x]? := fun x e hx he => g3.block x hx.lt (fun hv => Ty.ne hx (own_tyS h.wh hv.symm) he rfl)
  refine ⟨own_agreeS h.l (fun x hx => g3.block x (own_tyS h.l hx).lt (fun hv => h.lw x hx hv.symm)), own_agreeS ho (fun x hx => kp x 66 (own_tyS ho hx) (by decide)), own_agreeS h.cols (fun x hx => kp x 45 (own_tyS h.cols hx) (by decide)), h.bel.grown g3 hs (fun x hx => (h.wh.lt x hx).1), fun x hx hv => ?_, Nat.le_trans hs g3.size, fun i hi h2 => ?_⟩
  · rcases l3 x hv with t | t
    · exact h.lw x hx t
    · have := (own_tyS h.l hx).lt; omega
  · obtain ⟨g, c, e1, e2, e3⟩ := h.each i hi h2
    exact ⟨g, c, e1, e2, own_agreeS e3 (fun x hx => kp x 66 (own_tyS e3 hx) (by decide))⟩

theorem LT.step {w w2 w3 w4 : World} {S B : Nat} {rs : List RC} {ts : List (List Pu.Cl)} {vc vl vw vl' vw' : Value} {vsl vsw : List Value} {k g c : Nat} (h : LT w w2 S rs ts vc vl vw vsl vsw k) (hk : k < ts.length) (hB : S ≤ B) (hBn : ∀ (i : Nat) (v : Value) (x : Nat), vsw[i]? = some v → v.ownBlock = some x → x < B)
    (ho : w2.ownsRow B 66 3 (.slice (some ⟨g, 0, none⟩) (ts[k].length + 2) c) (ts[k].length + 2) (clsV (ts[k] ++ [c77, c77]))) (g3 : w2.grownBy w3 vw.ownBlock) (l3 : ∀ x, vw'.ownBlock = some x → vw.ownBlock = some x ∨ w2.heap.size ≤ x)
    (o3 : w3.ownsRow S 64 1 vw' (k + 1) (vsw ++ [.slice (some ⟨g, 0, none⟩) (ts[k].length + 2) c])) (o4 : w4.ownsRow S 64 1 vl' (k + 1) (vsl ++ [.slice (some ⟨g, 0, none⟩) ts[k].length c])) (g4 : w3.grownBy w4 vl.ownBlock) (l4 : ∀ x, vl'.ownBlock = some x → vl.ownBlock = some x ∨ w3.heap.size ≤ x) :
    LT w w4 S rs ts vc vl' vw' (vsl ++ [.slice (some ⟨g, 0, none⟩) ts[k].length c]) (vsw ++ [.slice (some ⟨g, 0, none⟩) (ts[k].length + 2) c]) (k + 1) := by
  obtain ⟨m1, m2, m3, m4, m5, m6, m7⟩ := h.mid ho g3 l3
  have e1 : vsl.length = k := by have := h.l.1; omega
  have e2 : vsw.length = k := by have := h.wh.1; omega
  have kp : ∀ x (e : TypeId), Ty w3 x e → e ≠ 64 → w4.heap[x]? = w3.heap[x]? := fun x e hx he => g4.block x hx.lt (fun hv => Ty.ne hx (own_tyS m1 hv.symm) he rfl)
  refine ⟨m4.grown g4 m6 (fun x hx => (m1.lt x hx).1), h.low, own_agreeS m3 (fun x hx => kp x 45 (own_tyS m3 hx) (by decide)), o4, own_agreeS o3 (fun x hx => g4.block x (own_tyS o3 hx).lt (fun hv => m5 x hv.symm hx)), fun i hi h2 => ?_, fun i j v v' x hij hv hv' hx => ?_, fun x hx hv => ?_, hk⟩
  · by_cases e : i = k
    · subst e
      refine ⟨g, c, ?_, ?_, own_agreeS (m2.mono hB) (fun x hx => kp x 66 (own_tyS m2 hx) (by decide))⟩
      · rw [List.getElem?_append_right (by omega), e1, Nat.sub_self]; rfl
      · rw [List.getElem?_append_right (by omega), e2, Nat.sub_self]; rfl
    · obtain ⟨g', c', q1, q2, q3⟩ := m7 i (by omega) h2
      refine ⟨g', c', ?_, ?_, own_agreeS q3 (fun x hx => kp x 66 (own_tyS q3 hx) (by decide))⟩
      · rw [List.getElem?_append_left (by omega)]; exact q1
      · rw [List.getElem?_append_left (by omega)]; exact q2
  · have hgB : B ≤ g := (ho.lt g rfl).1
    have at' : ∀ i v, (vsw ++ [Value.slice (some ⟨g, 0, none⟩) (ts[k].length + 2) c])[i]? = some v → (i < k ∧ vsw[i]? = some v) ∨ (i = k ∧ v = .slice (some ⟨g, 0, none⟩) (ts[k].length + 2) c) := fun i v hv => by
      by_cases hi : i < k
      · rw [List.getElem?_append_left (by omega)] at hv
        exact .inl ⟨hi, hv⟩
      · rw [List.getElem?_append_right (by omega), e2] at hv
        have hik : i = k := by
          have := (List.getElem?_eq_some_iff.1 hv).1
          simp at this; omega
        subst hik
        simp at hv
        exact .inr ⟨rfl, hv.symm⟩
    rcases at' i v hv with ⟨hi, a1⟩ | ⟨hi, rfl⟩
    · rcases at' j v' hv' with ⟨hj, a2⟩ | ⟨hj, rfl⟩
      · exact h.dis i j v v' x hij a1 a2 hx
      · intro hx'
        simp only [Value.ownBlock, Option.some.injEq] at hx'
        have := hBn i v x a1 hx
        omega
    · rcases at' j v' hv' with ⟨hj, a2⟩ | ⟨hj, rfl⟩
      · intro hx'
        simp only [Value.ownBlock, Option.some.injEq] at hx
        have := hBn j v' x a2 hx'
        omega
      · omega
  · rcases l4 x hx with t | t
    · exact m5 x t hv
    · have := (own_tyS o3 hv).lt; omega

/-- the whole lists lie below -/
theorem LT.under {w wr : World} {S : Nat} {rs : List RC} {ts : List (List Pu.Cl)} {vc vl vw : Value} {vsl vsw : List Value} {k : Nat} (h : LT w wr S rs ts vc vl vw vsl vsw k) : ∀ (i : Nat) (v : Value) (x : Nat), vsw[i]? = some v → v.ownBlock = some x → x < wr.heap.size := fun i v x hv hx => by
  have e2 : vsw.length = k := by have := h.wh.1; omega
  have hi : i < k := by have := (List.getElem?_eq_some_iff.1 hv).1; omega
  obtain ⟨g, c, _, q2, q3⟩ := h.each i hi (Nat.lt_of_lt_of_le hi h.kt)
  rw [hv] at q2
  simp only [Option.some.injEq] at q2
  subst q2
  exact (own_tyS q3 hx).lt
end Go.Proofs.Ytjobhlncllfdmaa

/- The book's lendTable: its appends. -/
namespace Go.Proofs.Ytjobhlncllfdmaa
open Go.RowKit Go.Maps

theorem Src.ofRs {w : World} {sz lb : Nat} {ao : Option Addr} {n cap : Nat} {xs : List Value} {t e : TypeId} (h : Rs w sz lb ao n cap xs) (ht : Try.prog.underlying t = some (.slice e)) (h1 : ∀ u ∈ xs, u.oneCell' = true) : Src Try.prog sz t (.slice ao n cap) n xs w := by
  by_cases h0 : n = 0
  · subst h0
    have hx : xs = [] := List.eq_nil_of_length_eq_zero (by have := h.2.2.1; omega)
    subst hx
    cases ao with
    | none => exact Src.ofNil w ht cap
    | some a => exact Src.ofSlice w ht a 0 cap [] (by simp) (by simp) (by simp)
  · obtain ⟨o, rfl, hc⟩ := h.at (by omega)
    refine Src.ofSlice w ht ⟨lb, o, none⟩ n cap xs h.2.2.1 (fun j u hu => ?_) h1
    obtain ⟨hj, rfl⟩ := List.getElem?_eq_some_iff.1 hu
    have e : (⟨lb, o, none⟩ : Addr).add j = ⟨lb, o + j, none⟩ := by simp [Addr.add]
    rw [e]
    exact hc j hj
theorem one_rcsV (l : List RC) : ∀ u ∈ rcsV l, u.oneCell' = true := fun u hu => by
  obtain ⟨c, _, hc⟩ := List.mem_flatMap.1 hu
  simp only [rcV, List.mem_cons, List.not_mem_nil, or_false] at hc
  rcases hc with rfl | rfl | rfl <;> rfl
theorem one_clsV (l : List Pu.Cl) : ∀ u ∈ clsV l, u.oneCell' = true := fun u hu => by
  obtain ⟨c, _, hc⟩ := List.mem_flatMap.1 hu
  simp only [clV, List.mem_cons, List.not_mem_nil, or_false] at hc
  rcases hc with rfl | rfl | rfl <;> rfl
theorem rcsV_app (a b : List RC) : rcsV (a ++ b) = rcsV a ++ rcsV b := by simp [rcsV]
theorem clsV_app (a b : List Pu.Cl) : clsV (a ++ b) = clsV a ++ clsV b := by simp [clsV]
theorem below_grow {w w1 : World} {row : Option Nat} {B : Nat} (hg : w.grownBy w1 row) (hB : B ≤ w.heap.size) (hr : ∀ k, row = some k → B ≤ k) : Below B w w1 := (Below.refl B w).grown hg hB hr
theorem cap_of {w : World} {B : Nat} {e : TypeId} {sz : Nat} {ao : Option Addr} {n cap : Nat} {xs : List Value} (h : w.ownsRow B e sz (.slice ao n cap) n xs) : n ≤ cap ∧ cap ≤ maxLen := by
  rcases h.2 with ⟨hv, rfl⟩ | ⟨g, cap', cur, hv, _, _, h1, h2, _⟩
  · simp only [Value.slice.injEq] at hv
    obtain ⟨_, _, rfl⟩ := hv
    exact ⟨Nat.le_refl _, by unfold maxLen; omega⟩
  · simp only [Value.slice.injEq, true_and] at hv
    obtain ⟨_, rfl⟩ := hv
    exact ⟨h1, h2⟩

/-- a list and two elements of three cells behind it, in a block of its own -/
theorem lend3 {w : World} {t e : TypeId} {i : TypeInfo} {z : Value} {lb : Nat} {ao : Option Addr} {n cap : Nat} {xs : List Value} (ht : Try.prog.underlying t = some (.slice e)) (hi : Try.prog.info? e = some i) (hz : i.zero = some z) (hsize : i.size = 3) (hby : i.bytes = 32) (hzs : z.cells.size = 3)
    (h : Rs w 3 lb ao n cap xs) (h1 : ∀ u ∈ xs, u.oneCell' = true) (hn : n ≤ 10000000) (news : Array Value) (hnl : news.size = 6) (hn1 : ∀ u ∈ news.toList, u.oneCell' = true) :
    ∃ a1 c1 w1 g c w2, (Builtin.append_ #[t, t] t #[.slice none 0 0, .slice ao n cap]).run Try.prog w = .ok (.slice a1 n c1) w1 ∧
      (Builtin.append_ #[t, t] t #[.slice a1 n c1, .slice (some ⟨w1.heap.size, 0, none⟩) 2 2]).run Try.prog (w1.alloc (.cells news e)) = .ok (.slice (some ⟨g, 0, none⟩) (n + 2) c) w2 ∧
      w2.ownsRow w.heap.size e 3 (.slice (some ⟨g, 0, none⟩) (n + 2) c) (n + 2) (xs ++ news.toList) ∧ Below w.heap.size w w2 ∧ Below w.heap.size w w1 := by
  obtain ⟨v1, w1, r1, o1, g1, l1, _⟩ := appendX (P := Try.prog) w t t t e i z 3 32 w.heap.size ht hi hz hsize hby hzs (.slice none 0 0) 0 [] (World.ownsRow_nil _ _ _ _) (.slice ao n cap) n xs (Src.ofRs h ht h1) (by unfold maxLen; omega) (by omega) (Nat.le_refl _)
  obtain ⟨a1, c1, rfl⟩ := slen_of o1
  rw [Nat.zero_add] at r1 o1 l1
  rw [List.nil_append] at o1
  have b1 : Below w.heap.size w w1 := below_grow g1 (Nat.le_refl _) (fun k hk => by simp [Value.ownBlock] at hk)
  have hsrc : Src Try.prog 3 t (.slice (some ⟨w1.heap.size, 0, none⟩) 2 2) 2 news.toList (w1.alloc (.cells news e)) :=
    Src.ofSlice _ ht _ 2 2 _ (by simp [hnl]) (World.news_of_block (cs := news) (heap_alloc_new w1 _)) hn1
  have hs1 := b1.size
  obtain ⟨v2, w2, r2, o2, g2, l2, hf⟩ := appendX (P := Try.prog) (w1.alloc (.cells news e)) t t t e i z 3 32 w.heap.size ht hi hz hsize hby hzs (.slice a1 n c1) n xs (o1.alloc _) _ 2 _ hsrc (by unfold maxLen; omega) (by omega) (by rw [size_alloc']; omega)
  obtain ⟨g, c, rfl⟩ := hf (by omega)
  have b2 : Below w.heap.size w w2 := (b1.alloc hs1 _).trans (below_grow g2 (by rw [size_alloc']; omega) (fun k hk => (o1.lt k hk).1))
  exact ⟨a1, c1, w1, g, c, w2, r1, r2, o2, b2, b1⟩

theorem LT.round {w wr : World} {S : Nat} {rs : List RC} {ts : List (List Pu.Cl)} {vc : Value} {al aw : Option Addr} {cl cw : Nat} {vsl vsw : List Value} {k : Nat} (h : LT w wr S rs ts vc (.slice al k cl) (.slice aw k cw) vsl vsw k) (hk : k < ts.length) {lbi : Nat} {ai : Option Addr} {ci : Nat} (hr : Rs wr 3 lbi ai ts[k].length ci (clsV ts[k])) (hlen : ts[k].length ≤ 10000000) (hT : ts.length ≤ 10000000) :
    ∃ a1 c1 w1 g c w2 aw' cw' w3 al' cl' w4,
      (Builtin.append_ #[64, 64] 64 #[.slice none 0 0, .slice ai ts[k].length ci]).run Try.prog wr = .ok (.slice a1 ts[k].length c1) w1 ∧
      (Builtin.append_ #[64, 64] 64 #[.slice a1 ts[k].length c1, .slice (some ⟨w1.heap.size, 0, none⟩) 2 2]).run Try.prog (w1.alloc (.cells #[.bool false, .int .i64 77, .string ⟨#[]⟩, .bool false, .int .i64 77, .string ⟨#[]⟩] 66)) = .ok (.slice (some ⟨g, 0, none⟩) (ts[k].length + 2) c) w2 ∧
      (Builtin.append_ #[28, 28] 28 #[.slice aw k cw, .slice (some ⟨w2.heap.size, 0, none⟩) 1 1]).run Try.prog (w2.alloc (.cells #[.slice (some ⟨g, 0, none⟩) (ts[k].length + 2) c] 64)) = .ok (.slice aw' (k + 1) cw') w3 ∧
      (Builtin.append_ #[28, 28] 28 #[.slice al k cl, .slice (some ⟨w3.heap.size, 0, none⟩) 1 1]).run Try.prog (w3.alloc (.cells #[.slice (some ⟨g, 0, none⟩) ts[k].length c] 64)) = .ok (.slice al' (k + 1) cl') w4 ∧
      ts[k].length + 2 ≤ c ∧ c ≤ maxLen ∧ Below S w w3 ∧ ∃ vsl' vsw', LT w w4 S rs ts vc (.slice al' (k + 1) cl') (.slice aw' (k + 1) cw') vsl' vsw' (k + 1) := by
  obtain ⟨i66, a1', a2', a3', a4'⟩ := info_parts Try.info66
  obtain ⟨i64, b1', b2', b3', b4'⟩ := info_parts Try.info64
  obtain ⟨a1, c1, w1, g, c, w2, r1, r2, o2, b2, _⟩ := lend3 Try.underlying64 a1' a2' a3' a4' rfl hr (one_clsV _) hlen #[.bool false, .int .i64 77, .string ⟨#[]⟩, .bool false, .int .i64 77, .string ⟨#[]⟩] rfl (by intro u hu; simp at hu; rcases hu with rfl | rfl | rfl | rfl | rfl | rfl <;> rfl)
  have exs : clsV ts[k] ++ (#[Value.bool false, .int .i64 77, .string ⟨#[]⟩, .bool false, .int .i64 77, .string ⟨#[]⟩] : Array Value).toList = clsV (ts[k] ++ [c77, c77]) := by rw [clsV_app]; rfl
  rw [exs] at o2
  have h2 := h.below b2
  have hs := h.size
  have hs2 := b2.size
  obtain ⟨aw', cw', w3, r3, o3, g3, l3⟩ := own_push (P := Try.prog) Try.underlying28 b1' b2' b3' b4' rfl h2.wh #[.slice (some ⟨g, 0, none⟩) (ts[k].length + 2) c] rfl (by intro u hu; simp at hu; subst hu; rfl) (by unfold maxLen; omega) (by omega) (by omega)
  obtain ⟨m1, m2, m3, m4, m5, m6, m7⟩ := h2.mid o2 g3 l3
  obtain ⟨al', cl', w4, r4, o4, g4, l4⟩ := own_push (P := Try.prog) Try.underlying28 b1' b2' b3' b4' rfl m1 #[.slice (some ⟨g, 0, none⟩) ts[k].length c] rfl (by intro u hu; simp at hu; subst hu; rfl) (by unfold maxLen; omega) (by omega) m6
  obtain ⟨cp1, cp2⟩ := cap_of o2
  exact ⟨a1, c1, w1, g, c, w2, aw', cw', w3, al', cl', w4, r1, r2, r3, r4, cp1, cp2, m4, _, _, h2.step hk hs h.under o2 g3 l3 o3 o4 g4 l4⟩

/-- two empty lists behind -/
theorem LT.last {w wr : World} {S : Nat} {rs : List RC} {ts : List (List Pu.Cl)} {vc : Value} {al aw : Option Addr} {cl cw : Nat} {vsl vsw : List Value} {k : Nat} (h : LT w wr S rs ts vc (.slice al k cl) (.slice aw k cw) vsl vsw k) (hT : ts.length ≤ 10000000) :
    ∃ g c w2, (Builtin.append_ #[28, 28] 28 #[.slice al k cl, .slice (some ⟨wr.heap.size, 0, none⟩) 2 2]).run Try.prog (wr.alloc (.cells #[.slice none 0 0, .slice none 0 0] 64)) = .ok (.slice (some ⟨g, 0, none⟩) (k + 2) c) w2 ∧
      w2.ownsRow S 64 1 (.slice (some ⟨g, 0, none⟩) (k + 2) c) (k + 2) (vsl ++ [.slice none 0 0, .slice none 0 0]) ∧ Below S w w2 ∧ S ≤ w2.heap.size ∧
      w2.ownsRow S 45 3 vc (rs.length + 2) (rcsV (rs ++ [bh, bh])) ∧ w2.ownsRow S 64 1 (.slice aw k cw) k vsw ∧ (∀ x, (Value.slice aw k cw).ownBlock = some x → x ≠ g) ∧ k + 2 ≤ c ∧ c ≤ maxLen ∧
      (∀ i, i < k → (h2 : i < ts.length) → ∃ g c, vsl[i]? = some (.slice (some ⟨g, 0, none⟩) ts[i].length c) ∧ vsw[i]? = some (.slice (some ⟨g, 0, none⟩) (ts[i].length + 2) c) ∧ w2.ownsRow S 66 3 (.slice (some ⟨g, 0, none⟩) (ts[i].length + 2) c) (ts[i].length + 2) (clsV (ts[i] ++ [c77, c77]))) := by
  obtain ⟨i64, b1', b2', b3', b4'⟩ := info_parts Try.info64
  have hs := h.size
  have hkt := h.kt
  have hsrc : Src Try.prog 1 28 (.slice (some ⟨wr.heap.size, 0, none⟩) 2 2) 2 [.slice none 0 0, .slice none 0 0] (wr.alloc (.cells #[.slice none 0 0, .slice none 0 0] 64)) :=
    Src.ofSlice _ Try.underlying28 _ 2 2 _ rfl (World.news_of_block (cs := #[.slice none 0 0, .slice none 0 0]) (heap_alloc_new wr _)) (by intro u hu; simp at hu; subst hu; rfl)
  obtain ⟨v2, w2, r2, o2, g2, l2, hf⟩ := appendX (P := Try.prog) (wr.alloc (.cells #[.slice none 0 0, .slice none 0 0] 64)) 28 28 28 64 i64 _ 1 24 S Try.underlying28 b1' b2' b3' b4' rfl (.slice al k cl) k vsl (h.l.alloc _) _ 2 _ hsrc (by unfold maxLen; omega) (by omega) (by rw [size_alloc']; omega)
  obtain ⟨g, c, rfl⟩ := hf (by omega)
  have hal : Below wr.heap.size wr (wr.alloc (.cells #[.slice none 0 0, .slice none 0 0] 64)) := bbox wr _
  have h' := h.below hal
  have kp : ∀ x, x < wr.heap.size → (Value.slice al k cl).ownBlock ≠ some x → w2.heap[x]? = wr.heap[x]? := fun x hx hne => by
    rw [g2.block x (by rw [size_alloc']; omega) (fun e => hne e.symm)]; exact hal.block x hx
  have kt : ∀ x (e : TypeId), Ty wr x e → e ≠ 64 → w2.heap[x]? = wr.heap[x]? := fun x e hx he => kp x hx.lt (fun hv => Ty.ne hx (own_tyS h.l hv) he rfl)
  obtain ⟨cp1, cp2⟩ := cap_of o2
  refine ⟨g, c, w2, r2, o2, h'.bel.grown g2 h'.size (fun x hx => (h.l.lt x hx).1), by have := g2.size; rw [size_alloc'] at this; omega, own_agreeS h.cols (fun x hx => kt x 45 (own_tyS h.cols hx) (by decide)), own_agreeS h.wh (fun x hx => kp x (own_tyS h.wh hx).lt (fun hv => h.lw x hv hx)), fun x hx e => ?_, cp1, cp2, fun i hi h2 => ?_⟩
  · subst e
    rcases l2 x rfl with t | t
    · exact h.lw x t hx
    · rw [size_alloc'] at t
      have := (own_tyS h.wh hx).lt; omega
  · obtain ⟨g, c, e1, e2, e3⟩ := h.each i hi h2
    exact ⟨g, c, e1, e2, own_agreeS e3 (fun x hx => kt x 66 (own_tyS e3 hx) (by decide))⟩

/-- what has been lent: the columns in gc, the lists in gt, the whole lists -/
structure Lent (w w' : World) (S : Nat) (rs : List RC) (ts : List (List Pu.Cl)) (gc cc gt ct : Nat) (aw : Option Addr) (cw : Nat) (vsl vsw : List Value) : Prop where
  bel : Below S w w'
  size : S ≤ w'.heap.size
  cols : w'.ownsRow S 45 3 (.slice (some ⟨gc, 0, none⟩) (rs.length + 2) cc) (rs.length + 2) (rcsV (rs ++ [bh, bh]))
  l : w'.ownsRow S 64 1 (.slice (some ⟨gt, 0, none⟩) (ts.length + 2) ct) (ts.length + 2) (vsl ++ [.slice none 0 0, .slice none 0 0])
  wh : w'.ownsRow S 64 1 (.slice aw ts.length cw) ts.length vsw
  ne : ∀ x, (Value.slice aw ts.length cw).ownBlock = some x → x ≠ gt
  each : ∀ i, (h2 : i < ts.length) → ∃ g c, vsl[i]? = some (.slice (some ⟨g, 0, none⟩) ts[i].length c) ∧ vsw[i]? = some (.slice (some ⟨g, 0, none⟩) (ts[i].length + 2) c) ∧ w'.ownsRow S 66 3 (.slice (some ⟨g, 0, none⟩) (ts[i].length + 2) c) (ts[i].length + 2) (clsV (ts[i] ++ [c77, c77]))
  dis : ∀ (i j : Nat) (v v' : Value) (x : Nat), i ≠ j → vsw[i]? = some v → vsw[j]? = some v' → v.ownBlock = some x → v'.ownBlock ≠ some x
  ll : vsl.length = ts.length

theorem Lent.below {w w' w2 : World} {S : Nat} {rs : List RC} {ts : List (List Pu.Cl)} {gc cc gt ct : Nat} {aw : Option Addr} {cw : Nat} {vsl vsw : List Value} (h : Lent w w' S rs ts gc cc gt ct aw cw vsl vsw) (hb : Below w'.heap.size w' w2) : Lent w w2 S rs ts gc cc gt ct aw cw vsl vsw := by
  refine ⟨h.bel.trans (hb.mono h.size), Nat.le_trans h.size hb.size, own_agreeS h.cols (fun x hx => hb.block x (own_tyS h.cols hx).lt), own_agreeS h.l (fun x hx => hb.block x (own_tyS h.l hx).lt), own_agreeS h.wh (fun x hx => hb.block x (own_tyS h.wh hx).lt), h.ne, fun i h2 => ?_, h.dis, h.ll⟩
  obtain ⟨g, c, e1, e2, e3⟩ := h.each i h2
  exact ⟨g, c, e1, e2, own_agreeS e3 (fun x hx => hb.block x (own_tyS e3 hx).lt)⟩

theorem Rs.first {w : World} {S : Nat} {e : TypeId} {sz g n m c : Nat} {xs : List Value} (h : w.ownsRow S e sz (.slice (some ⟨g, 0, none⟩) m c) m xs) (hn : n ≤ m) (ys : List Value) (hy : ys = xs.take (n * sz)) : Rs w sz g (some ⟨g, 0, none⟩) n c ys := by
  obtain ⟨c1, c2⟩ := cap_of h
  have hxl := h.1
  have hle : n * sz ≤ m * sz := Nat.mul_le_mul_right _ hn
  refine ⟨by omega, c2, by rw [hy, List.length_take]; omega, .inr ⟨0, rfl, fun j hj => ?_⟩⟩
  subst hy
  rw [List.length_take] at hj
  rw [Nat.zero_add, h.cellAt j (by omega), List.getElem_take, List.getElem?_eq_getElem (by omega)]

/-- a table that was lent is a table -/
theorem Lent.tr {w w' : World} {S : Nat} {rs : List RC} {ts : List (List Pu.Cl)} {gc cc gt ct : Nat} {aw : Option Addr} {cw : Nat} {vsl vsw : List Value} (h : Lent w w' S rs ts gc cc gt ct aw cw vsl vsw) (hnm : ∀ c ∈ rs, c.1.length ≤ 140737488355328) (htx : ∀ t ∈ ts, t.length ≤ 10000000 ∧ ∀ c ∈ t, c.s.length ≤ 140737488355328) :
    TR w' w'.heap.size (some ⟨gc, 0, none⟩) cc (some ⟨gt, 0, none⟩) ct rs ts gc gt vsl := by
  have hl := length_rcsV rs
  refine ⟨Rs.first h.cols (by omega) _ (by rw [rcsV_app, List.take_append_of_le_length (by omega), ← hl, List.take_length]), (own_tyS h.cols rfl).lt, Rs.first h.l (by omega) _ (by rw [Nat.mul_one, List.take_append_of_le_length (by have := h.ll; omega), ← h.ll, List.take_length]), (own_tyS h.l rfl).lt, fun i hi => ?_, hnm, htx⟩
  obtain ⟨g, c, e1, e2, e3⟩ := h.each i hi
  have hcl := length_clsV ts[i]
  exact ⟨_, c, g, e1, Rs.first e3 (by omega) _ (by rw [clsV_app, List.take_append_of_le_length (by omega), ← hcl, List.take_length]), (own_tyS e3 rfl).lt⟩
end Go.Proofs.Ytjobhlncllfdmaa
