/- A table under way: what holds in table.Read. -/
import Derived.Test.YtjobhlncllfdmaaGreatM39
namespace Go.Proofs.YtjobhlncllfdmaaGreat
open Go.RowKit

/-- the lists of a table, each in memory of its own -/
def TabD (W : World) (B : Nat) (v : Value) (ts : List (List Pu.Cl)) : Prop :=
  ∃ vs, W.ownsRow B 47 1 v ts.length vs ∧ (∀ i, (h : i < ts.length) → ∃ ai ci, vs[i]? = some (.slice ai ts[i].length ci) ∧ W.ownsRow B 57 3 (.slice ai ts[i].length ci) ts[i].length (clsV ts[i])) ∧ ∀ (i j : Nat) (x y : Value) (k : Nat), i ≠ j → vs[i]? = some x → vs[j]? = some y → x.ownBlock = some k → y.ownBlock ≠ some k

theorem TabD.tab {W : World} {B : Nat} {v : Value} {ts : List (List Pu.Cl)} (h : TabD W B v ts) : Tab W B v ts := by
  obtain ⟨vs, h1, h2, _⟩ := h
  exact ⟨vs, h1, h2⟩

theorem TabD.kept {W W' : World} {B : Nat} {v : Value} {ts : List (List Pu.Cl)} (h : TabD W B v ts) (hw : ∀ k, Ty W k 47 ∨ Ty W k 57 → W'.heap[k]? = W.heap[k]?) : TabD W' B v ts := by
  obtain ⟨vs, h1, h2, h3⟩ := h
  refine ⟨vs, own_agreeS h1 (fun k hk => hw k (.inl (own_tyS h1 hk))), fun i hi => ?_, h3⟩
  obtain ⟨ai, ci, g1, g2⟩ := h2 i hi
  exact ⟨ai, ci, g1, own_agreeS g2 (fun k hk => hw k (.inr (own_tyS g2 hk)))⟩

theorem own_set1 {W : World} {B g n cap i : Nat} {e : TypeId} {xs : List Value} (h : W.ownsRow B e 1 (.slice (some ⟨g, 0, none⟩) n cap) n xs) (_hi : i < n) (u : Value) : (W.setCell ⟨g, i, none⟩ u).ownsRow B e 1 (.slice (some ⟨g, 0, none⟩) n cap) n (xs.set i u) := by
  obtain ⟨hl, ⟨h1, _⟩ | ⟨g', cap', cur, h1, h2, h3, h4, h5, h6, h7⟩⟩ := h
  · cases h1
  · simp only [Value.slice.injEq, Option.some.injEq, Addr.mk.injEq, true_and, and_true] at h1
    obtain ⟨rfl, rfl⟩ := h1
    refine ⟨by rw [List.length_set]; exact hl, .inr ⟨g, cap, cur.setIfInBounds i u, rfl, h2, row_set h3 _, h4, h5, by simpa using h6, ?_⟩⟩
    rw [← h7, Array.toList_setIfInBounds, List.take_set]

/-- a list of the table has grown -/
theorem TabD.app {W W1 : World} {B g n cap i : Nat} {ts : List (List Pu.Cl)} {l : List Pu.Cl} {ai a5 : Option Addr} {ci k5 : Nat} (h : TabD W B (.slice (some ⟨g, 0, none⟩) n cap) ts) (hn : n = ts.length) (hi : i < ts.length) (hc : W.cell? ⟨g, i, none⟩ = some (.slice ai ts[i].length ci))
    (hown : W1.ownsRow B 57 3 (.slice a5 (ts[i].length + l.length) k5) (ts[i].length + l.length) (clsV ts[i] ++ clsV l)) (hg : W.grownBy W1 (Value.slice ai ts[i].length ci).ownBlock) (hat : (Value.slice a5 (ts[i].length + l.length) k5).ownBlock = (Value.slice ai ts[i].length ci).ownBlock ∨ (Value.slice a5 (ts[i].length + l.length) k5).ownBlock = some W.heap.size ∧ W.grownBy W1 none) :
    TabD (W1.setCell ⟨g, i, none⟩ (.slice a5 (ts[i].length + l.length) k5)) B (.slice (some ⟨g, 0, none⟩) n cap) (ts.set i (ts.getD i [] ++ l)) := by
  obtain ⟨vs, h1, h2, h3⟩ := h
  subst hn
  have hgd : ts.getD i [] = ts[i] := by rw [List.getD_eq_getElem?_getD, List.getElem?_eq_getElem hi]; rfl
  rw [hgd]
  have hvl : vs.length = ts.length := by have := h1.1; omega
  have hvi : vs[i]? = some (.slice ai ts[i].length ci) := by
    have := h1.cellAt i (by omega)
    rw [hc] at this
    rw [← this]
  have hgW : g < W.heap.size := (own_tyS h1 rfl).lt
  have hgty : Ty W g 47 := own_tyS h1 rfl
  have hne : some g ≠ (Value.slice ai ts[i].length ci).ownBlock := fun e => by
    obtain ⟨ai', ci', g1, g2⟩ := h2 i hi
    rw [hvi] at g1
    simp only [Option.some.injEq] at g1
    rw [g1] at e
    exact Ty.ne (own_tyS g2 e.symm) hgty (by decide) rfl
  have o1 : W1.ownsRow B 47 1 (.slice (some ⟨g, 0, none⟩) ts.length cap) ts.length vs := own_agreeS h1 (fun k hk => by
    simp only [Value.ownBlock, Option.some.injEq] at hk
    subst hk
    exact hg.block g hgW hne)
  have hg1 : Ty W1 g 47 := own_tyS o1 rfl
  have ne5 : (Value.slice a5 (ts[i].length + l.length) k5).ownBlock ≠ some g := fun e => Ty.ne (own_tyS hown e) hg1 (by decide) rfl
  refine ⟨vs.set i (.slice a5 (ts[i].length + l.length) k5), ?_, fun j hj => ?_, ?_⟩
  · rw [List.length_set]
    exact own_set1 o1 hi _
  · rw [List.length_set] at hj
    by_cases hji : j = i
    · subst hji
      refine ⟨a5, k5, ?_, ?_⟩
      · rw [List.getElem?_set_self (by omega)]
        simp
      · simp only [List.getElem_set_self, List.length_append]
        rw [show clsV (ts[j] ++ l) = clsV ts[j] ++ clsV l by simp [clsV]]
        exact ownsRow_set_other' hown ne5
    · obtain ⟨aj, cj, g1, g2⟩ := h2 j hj
      have e1 : (ts.set i (ts[i] ++ l))[j]'(by rw [List.length_set]; exact hj) = ts[j] := by rw [List.getElem_set_ne (fun e => hji e.symm)]
      simp only [e1]
      refine ⟨aj, cj, ?_, ?_⟩
      · rw [List.getElem?_set_ne (fun e => hji e.symm)]; exact g1
      · refine ownsRow_set_other' (own_agreeS g2 (fun k hk => hg.block k (own_tyS g2 hk).lt (fun e => ?_))) (fun e => Ty.ne (own_tyS g2 e) hgty (by decide) rfl)
        exact h3 j i _ _ k hji g1 hvi hk e.symm
  · intro a b x y k hab ha hb hx hy
    have low : ∀ j z, j ≠ i → vs[j]? = some z → z.ownBlock = some k → k < W.heap.size ∧ (Value.slice ai ts[i].length ci).ownBlock ≠ some k := fun j z hj hz hzk => by
      have hjl : j < ts.length := by have := (List.getElem?_eq_some_iff.1 hz).1; omega
      obtain ⟨aj, cj, g1, g2⟩ := h2 j hjl
      rw [hz] at g1
      simp only [Option.some.injEq] at g1
      subst g1
      exact ⟨(own_tyS g2 hzk).lt, h3 j i _ _ k hj hz hvi hzk⟩
    have new : (Value.slice a5 (ts[i].length + l.length) k5).ownBlock = some k → ∀ j z, j ≠ i → vs[j]? = some z → z.ownBlock ≠ some k := fun e j z hj hz hzk => by
      obtain ⟨q1, q2⟩ := low j z hj hz hzk
      rcases hat with hat | ⟨hat, _⟩
      · rw [hat] at e; exact q2 e
      · rw [hat] at e
        simp only [Option.some.injEq] at e
        omega
    by_cases ea : a = i
    · subst ea
      rw [List.getElem?_set_self (by omega)] at ha
      simp only [Option.some.injEq] at ha
      subst ha
      rw [List.getElem?_set_ne hab] at hb
      exact new hx b y (fun e => hab e.symm) hb hy
    · rw [List.getElem?_set_ne (fun e => ea e.symm)] at ha
      by_cases eb : b = i
      · subst eb
        rw [List.getElem?_set_self (by omega)] at hb
        simp only [Option.some.injEq] at hb
        subst hb
        exact new hy a x ea ha hx
      · rw [List.getElem?_set_ne (fun e => eb e.symm)] at hb
        exact h3 a b x y k hab ha hb hx hy

structure TS (w : World) (lb : Nat) (ao : Option Addr) (cap : Nat) (D : List UInt8) (T4 F7 K T10 : Nat) (vc vr vt : Value) (E left : Nat) (cs : List Pu.Col) (ws : List (Nat × Value)) (gs : List (Nat × List (Nat × Nat))) (ts : List (List Pu.Cl)) (W : World) : Prop where
  rs : Rest W lb ao cap D
  hlb : lb < w.heap.size
  r4 : W.heap[T4]? = some (.cells #[.slice none 0 0, .slice none 0 0] 36 (0, 0))
  r7 : W.heap[F7]? = some (.cells #[vc, vr, .int .i64 (E : Int)] 77 (0, 0))
  rK : W.heap[K]? = some (.cells #[.int .i64 (left : Int)] 81 (0, 0))
  r10 : W.heap[T10]? = some (.cells #[vc, vt] 36 (0, 0))
  oc : W.ownsRow w.heap.size 54 3 vc cs.length (colsV cs)
  og : W.ownsRow w.heap.size 84 2 vr ws.length (grsV ws)
  gl : GL W w.heap.size ws gs
  tb : TabD W w.heap.size vt ts
  bl : Below w.heap.size w W
  n4 : w.heap.size ≤ T4
  nK : w.heap.size ≤ K

section
variable {w : World} {lb : Nat} {ao : Option Addr} {cap : Nat} {D : List UInt8} {T4 F7 K T10 : Nat} {vc vr vt : Value} {E left : Nat} {cs : List Pu.Col} {ws : List (Nat × Value)} {gs : List (Nat × List (Nat × Nat))} {ts : List (List Pu.Cl)} {W W' : World}
theorem TS.step {left' : Nat} (h : TS w lb ao cap D T4 F7 K T10 vc vr vt E left cs ws gs ts W) (hf : Fr (fun j => j = K ∨ W.heap.size ≤ j) W W') (hp : W'.heap[K]? = some (.cells #[.int .i64 (left' : Int)] 81 (0, 0))) : TS w lb ao cap D T4 F7 K T10 vc vr vt E left' cs ws gs ts W' := by
  have tK : Ty W K 81 := ⟨_, h.rK⟩
  have hs := h.bl.size
  have kp : ∀ k, k < W.heap.size → k ≠ K → W'.heap[k]? = W.heap[k]? := fun k hk hne => hf.block k hk (fun e => by rcases e with e | e; exact hne e; omega)
  have kt : ∀ k e, Ty W k e → e ≠ 81 → W'.heap[k]? = W.heap[k]? := fun k e hk hne => kp k hk.lt (Ty.ne hk tK hne)
  have h1 := h.hlb
  have h2 := h.nK
  exact ⟨h.rs.kept (kp lb (by omega) (by omega)), h.hlb, by rw [kt T4 36 ⟨_, h.r4⟩ (by decide)]; exact h.r4, by rw [kt F7 77 ⟨_, h.r7⟩ (by decide)]; exact h.r7, hp, by rw [kt T10 36 ⟨_, h.r10⟩ (by decide)]; exact h.r10, own_agreeS h.oc (fun k hk => kt k 54 (own_tyS h.oc hk) (by decide)), own_agreeS h.og (fun k hk => kt k 84 (own_tyS h.og hk) (by decide)), h.gl.kept (fun k hk => kt k 86 hk (by decide)), h.tb.kept (fun k hk => by rcases hk with hk | hk; exact kt k 47 hk (by decide); exact kt k 57 hk (by decide)), h.bl.trans (hf.below hs (fun k e => by rcases e with e | e <;> omega)), h.n4, h.nK⟩
theorem TS.below (h : TS w lb ao cap D T4 F7 K T10 vc vr vt E left cs ws gs ts W) (hb : Below W.heap.size W W') : TS w lb ao cap D T4 F7 K T10 vc vr vt E left cs ws gs ts W' :=
  h.step (Fr.of_below _ hb) (by rw [hb.block K (Array.getElem?_eq_some_iff.1 h.rK).1]; exact h.rK)

/-- cells are put behind a list -/
theorem TS.app {W1 : World} {g n c i : Nat} {l : List Pu.Cl} {ai a5 : Option Addr} {ci k5 : Nat} (h : TS w lb ao cap D T4 F7 K T10 vc vr (.slice (some ⟨g, 0, none⟩) n c) E left cs ws gs ts W) (hn : n = ts.length) (hi : i < ts.length) (hc : W.cell? ⟨g, i, none⟩ = some (.slice ai ts[i].length ci)) (hoi : W.ownsRow w.heap.size 57 3 (.slice ai ts[i].length ci) ts[i].length (clsV ts[i]))
    (hown : W1.ownsRow w.heap.size 57 3 (.slice a5 (ts[i].length + l.length) k5) (ts[i].length + l.length) (clsV ts[i] ++ clsV l)) (hg : W.grownBy W1 (Value.slice ai ts[i].length ci).ownBlock) (hat : (Value.slice a5 (ts[i].length + l.length) k5).ownBlock = (Value.slice ai ts[i].length ci).ownBlock ∨ (Value.slice a5 (ts[i].length + l.length) k5).ownBlock = some W.heap.size ∧ W.grownBy W1 none) :
    TS w lb ao cap D T4 F7 K T10 vc vr (.slice (some ⟨g, 0, none⟩) n c) E left cs ws gs (ts.set i (ts.getD i [] ++ l)) (W1.setCell ⟨g, i, none⟩ (.slice a5 (ts[i].length + l.length) k5)) := by
  obtain ⟨vs, q1, q2, q3⟩ := h.tb
  have tg : Ty W g 47 := own_tyS (hn ▸ q1) rfl
  have hgB : w.heap.size ≤ g := (q1.lt g rfl).1
  have hs := h.bl.size
  have h1 := h.hlb
  have kp : ∀ k, k < W.heap.size → k ≠ g → (Value.slice ai ts[i].length ci).ownBlock ≠ some k → (W1.setCell ⟨g, i, none⟩ (.slice a5 (ts[i].length + l.length) k5)).heap[k]? = W.heap[k]? := fun k hk hkg hko => by
    rw [row_off hkg, hg.block k hk (fun e => hko e.symm)]
  have kt : ∀ k e, Ty W k e → e ≠ 47 → e ≠ 57 → (W1.setCell ⟨g, i, none⟩ (.slice a5 (ts[i].length + l.length) k5)).heap[k]? = W.heap[k]? := fun k e hk h47 h57 =>
    kp k hk.lt (Ty.ne hk tg h47) (fun e' => Ty.ne hk (own_tyS hoi e') h57 rfl)
  refine ⟨h.rs.kept (kp lb (by omega) (by omega) (fun e => by have := (hoi.lt lb e).1; omega)), h.hlb, by rw [kt T4 36 ⟨_, h.r4⟩ (by decide) (by decide)]; exact h.r4, by rw [kt F7 77 ⟨_, h.r7⟩ (by decide) (by decide)]; exact h.r7, by rw [kt K 81 ⟨_, h.rK⟩ (by decide) (by decide)]; exact h.rK, by rw [kt T10 36 ⟨_, h.r10⟩ (by decide) (by decide)]; exact h.r10, own_agreeS h.oc (fun k hk => kt k 54 (own_tyS h.oc hk) (by decide) (by decide)), own_agreeS h.og (fun k hk => kt k 84 (own_tyS h.og hk) (by decide) (by decide)), h.gl.kept (fun k hk => kt k 86 hk (by decide) (by decide)), h.tb.app hn hi hc hown hg hat, ?_, h.n4, h.nK⟩
  exact (Below.grown h.bl hg hs (fun k e => (hoi.lt k e).1)).setCell hgB _
end
end Go.Proofs.YtjobhlncllfdmaaGreat

/- table.Read: its contract; the ways on which nothing is read. -/
namespace Go.Proofs.YtjobhlncllfdmaaGreat
open Go.RowKit

def TrAns (w : World) (r : Except Nat (List Pu.Col × List (List Pu.Cl) × Nat)) (e : Ending) (w' : World) : Prop :=
  Below w.heap.size w w' ∧
  match r with
  | .error k => e = .returned (.tuple #[.agg #[.slice none 0 0, .slice none 0 0], .int .i64 0, .int .i64 (k : Int)])
  | .ok (cs, ts, u) => ∃ vc vt, e = .returned (.tuple #[.agg #[vc, vt], .int .i64 (u : Int), .int .i64 0]) ∧ w'.ownsRow w.heap.size 54 3 vc cs.length (colsV cs) ∧ TabD w' w.heap.size vt ts ∧ ts.length = cs.length ∧ cs.length ≤ 20 ∧ ∀ x ∈ ts, x.length ≤ 1000000

theorem setTwo_row {w : World} {b : Nat} {T : TypeId} {x y : Value} (h : w.heap[b]? = some (.cells #[x, y] T (0, 0))) (u v : Value) : ((w.setCell ⟨b, 0, none⟩ u).setCell ⟨b, 1, none⟩ v).heap[b]? = some (.cells #[u, v] T (0, 0)) := by
  rw [row_set (row_set h _) _]; rfl

set_option maxHeartbeats 4000000 in
set_option maxRecDepth 100000 in
theorem tableRead_arg (ao : Option Addr) (n cap : Nat) (bd : Int) (w : World) (hb : bd < 0 ∨ 1073741824 < bd) :
    Calls Tryz.prog 17 #[.slice ao n cap, .int .i64 bd] w fun e w' => TrAns w (.error 1) e w' := by
  have r0 : (w.alloc (.cells #[.slice none 0 0, .slice none 0 0] 36)).heap[w.heap.size]? = some (.cells #[.slice none 0 0, .slice none 0 0] 36 (0, 0)) := heap_alloc_new w _
  have FF := r0
  have q0 := cell_of_row _ _ 0 _ _ _ FF
  have q1 := cell_of_row _ _ 1 _ _ _ FF
  simp only [List.getElem?_toArray, List.getElem?_cons_zero, List.getElem?_cons_succ] at q0 q1
  clear FF r0
  have HB : Hid (Below w.heap.size w (w.alloc (.cells #[.slice none 0 0, .slice none 0 0] 36))) := bbox w _
  by_cases h1 : bd < 0
  · have hd : decide (bd < 0) = true := by simpa using h1
    clear hb h1
    go_enter Tryz.func17, Tryz.ntmps17
    go_wp2
    exact bodyPost_ret (v := .tuple #[.agg #[.slice none 0 0, .slice none 0 0], .int .i64 0, .int .i64 1]) (by simp [results, Tryz.results17, go_sem, q0, q1]) rfl ⟨HB.out, rfl⟩
  · have hd : decide (bd < 0) = false := by simpa using h1
    have hd2 : decide (1073741824 < bd) = true := by simp; omega
    clear hb h1
    go_enter Tryz.func17, Tryz.ntmps17
    go_wp2
    exact bodyPost_ret (v := .tuple #[.agg #[.slice none 0 0, .slice none 0 0], .int .i64 0, .int .i64 1]) (by simp [results, Tryz.results17, go_sem, q0, q1]) rfl ⟨HB.out, rfl⟩

theorem row_in {w W : World} {o : Obj} {C : Array Value} {T : TypeId} (ho : o = .cells C T (0, 0)) (hb : Below (w.heap.size + 1) (w.alloc o) W) : W.heap[w.heap.size]? = some (.cells C T (0, 0)) := by
  rw [hb.block w.heap.size (by omega), ho]; exact heap_alloc_new w _

set_option maxHeartbeats 4000000 in
set_option maxRecDepth 100000 in
theorem tableRead_bad (ao : Option Addr) (n cap b k : Nat) (w : World) (hb : b ≤ 1073741824) (hk : k ≠ 0) (FR : Hid (Calls Tryz.prog 33 #[.slice ao n cap] (w.alloc (.cells #[.slice none 0 0, .slice none 0 0] 36)) fun e w' => FootAns (w.heap.size + 1) (.bad k) e w' ∧ Below (w.heap.size + 1) (w.alloc (.cells #[.slice none 0 0, .slice none 0 0] 36)) w')) :
    Calls Tryz.prog 17 #[.slice ao n cap, .int .i64 (b : Int)] w fun e w' => TrAns w (.error k) e w' := by
  have hd : decide ((b : Int) < 0) = false := by simp
  have hd2 : decide (1073741824 < (b : Int)) = false := by simp; omega
  have hd3 : decide (1073741824 < b) = false := by simp; omega
  have hkd : ((k : Int) != 0) = true := by simp; omega
  clear hk
  go_enter Tryz.func17, Tryz.ntmps17
  go_wp2_with fail
  refine FR.out.mono ?_
  rintro e w2 ⟨rfl, hb2⟩
  have r2 := row_in rfl hb2
  have HB2 : Hid (Below w.heap.size w w2) := (bbox w _).trans (hb2.mono (by omega))
  have k0 : w2.cell? ⟨w.heap.size, 0, none⟩ = some (.slice none 0 0) := by rw [cell_of_row _ _ 0 _ _ _ r2]; rfl
  have k1 : w2.cell? ⟨w.heap.size, 1, none⟩ = some (.slice none 0 0) := by rw [cell_of_row _ _ 1 _ _ _ r2]; rfl
  have g0 := frozen_of_row _ _ 0 _ _ r2
  have g1 := frozen_of_row _ _ 1 _ _ r2
  have hlt : w.heap.size < w2.heap.size := (Array.getElem?_eq_some_iff.1 r2).1
  have FF := setTwo_row (row_alloc r2 (.cells #[.slice none 0 0, .slice none 0 0, .int .i64 0] 77)) (.slice none 0 0) (.slice none 0 0)
  have FF2 := row_alloc (setTwo_row r2 (.slice none 0 0) (.slice none 0 0)) (.cells #[.slice none 0 0, .slice none 0 0, .int .i64 0] 77)
  have q0 := cell_of_row _ _ 0 _ _ _ FF
  have q1 := cell_of_row _ _ 1 _ _ _ FF
  have p0 := cell_of_row _ _ 0 _ _ _ FF2
  have p1 := cell_of_row _ _ 1 _ _ _ FF2
  simp only [List.getElem?_toArray, List.getElem?_cons_zero, List.getElem?_cons_succ] at q0 q1 p0 p1
  clear FF FF2 r2 hb2
  go_wp2
  refine bodyPost_ret (v := .tuple #[.agg #[.slice none 0 0, .slice none 0 0], .int .i64 0, .int .i64 (k : Int)]) (by simp [results, Tryz.results17, go_sem, p0, p1]) rfl ⟨?_, rfl⟩
  first
    | exact ((HB2.out.setCell (Nat.le_refl _) _).setCell (Nat.le_refl _) _).alloc (by rw [size_set, size_set]; omega) _
    | exact ((HB2.out.alloc (by omega) _).setCell (Nat.le_refl _) _).setCell (Nat.le_refl _) _
end Go.Proofs.YtjobhlncllfdmaaGreat

/- table.Read: what the walk takes: the empty lists, the table at its start, groups and columns as numbers. -/
namespace Go.Proofs.YtjobhlncllfdmaaGreat
open Go.RowKit

theorem make_lists (n : Nat) (hn : n ≤ 100000) : ∃ cs : Array Value, (cs.size = n ∧ ∀ j, j < n → cs[j]? = some (.slice none 0 0)) ∧ ∀ w2 : World, (Instr.makeSlice 29 (.int .i64 (n : Int)) (.int .i64 (n : Int))).run Tryz.prog w2 = .ok (.slice (some ⟨w2.heap.size, 0, none⟩) n n) (w2.alloc (.cells cs 47)) := by
  obtain ⟨i0, hi, hz0, hz1, hz2⟩ := info_parts Tryz.info47
  refine ⟨madeCells (Value.slice none 0 0).cells (n * i0.size), ⟨?_, fun j hj => ?_⟩, fun w2 => ?_⟩
  · rw [size_madeCells, hz1, Nat.mul_one]
  · rw [hz1, Nat.mul_one]
    unfold madeCells
    rw [Array.getElem?_map, Array.getElem?_eq_getElem (by simpa using hj)]
    simp [Value.cells, Nat.mod_one]
  · have := run_make (P := Tryz.prog) w2 29 47 i0 (.slice none 0 0) Tryz.underlying29 hi hz0 .i64 .i64 n n (by omega) (by omega) (by rw [hz2]; omega) (by omega)
    simpa using this

theorem tabD_start {W : World} {B M n : Nat} {mc : Array Value} (h : W.heap[M]? = some (.cells mc 47 (0, 0))) (hB : B ≤ M) (hn : n ≤ 100000) (hmc : mc.size = n ∧ ∀ j, j < n → mc[j]? = some (.slice none 0 0)) : TabD W B (.slice (some ⟨M, 0, none⟩) n n) (List.replicate n []) := by
  refine ⟨mc.toList, ?_, fun i hi => ?_, ?_⟩
  · rw [List.length_replicate]
    refine ⟨by simp [hmc.1], .inr ⟨M, n, mc, rfl, hB, h, Nat.le_refl _, by unfold maxLen; omega, by rw [hmc.1, Nat.mul_one], ?_⟩⟩
    rw [Nat.mul_one]
    exact List.take_of_length_le (by simp [hmc.1])
  · rw [List.length_replicate] at hi
    refine ⟨none, 0, ?_, ?_⟩
    · rw [Array.getElem?_toList, hmc.2 i hi]
      simp
    · simp only [List.getElem_replicate]
      exact ⟨rfl, .inl ⟨rfl, rfl⟩⟩
  · intro i j x y k _ hi _ hx
    have hil : i < n := by have := (List.getElem?_eq_some_iff.1 hi).1; rw [Array.length_toList, hmc.1] at this; exact this
    rw [Array.getElem?_toList, hmc.2 i hil] at hi
    simp only [Option.some.injEq] at hi
    subst hi
    cases hx

theorem ts_start {w w2 W : World} {lb : Nat} {ao : Option Addr} {cap : Nat} {D : List UInt8} {T10 M n : Nat} {vc vr : Value} {E b : Nat} {cs : List Pu.Col} {ws : List (Nat × Value)} {gs : List (Nat × List (Nat × Nat))} {mc : Array Value} (hrs : Rest w lb ao cap D) (hlb : lb < w.heap.size) (hb2 : Below (w.heap.size + 1) (w.alloc (.cells #[.slice none 0 0, .slice none 0 0] 36)) w2) (oc : w2.ownsRow (w.heap.size + 1) 54 3 vc cs.length (colsV cs)) (og : w2.ownsRow (w.heap.size + 1) 84 2 vr ws.length (grsV ws)) (gl : GL w2 (w.heap.size + 1) ws gs)
    (hb : Below w2.heap.size w2 W) (h1 : W.heap[w2.heap.size]? = some (.cells #[vc, vr, .int .i64 (E : Int)] 77 (0, 0))) (h2 : W.heap[w2.heap.size + 1]? = some (.cells #[.int .i64 (b : Int)] 81 (0, 0))) (h3 : W.heap[T10]? = some (.cells #[vc, .slice (some ⟨M, 0, none⟩) n n] 36 (0, 0))) (h4 : W.heap[M]? = some (.cells mc 47 (0, 0))) (hM : w2.heap.size ≤ M) (hn : n ≤ 100000) (hmc : mc.size = n ∧ ∀ j, j < n → mc[j]? = some (.slice none 0 0)) :
    TS w lb ao cap D w.heap.size w2.heap.size (w2.heap.size + 1) T10 vc vr (.slice (some ⟨M, 0, none⟩) n n) E b cs ws gs (List.replicate n []) W := by
  have B2 : Below w.heap.size w w2 := (bbox w _).trans (hb2.mono (by omega))
  have s2 := B2.size
  have r2 := row_in rfl hb2
  have hlt : w.heap.size < w2.heap.size := (Array.getElem?_eq_some_iff.1 r2).1
  have BW : Below w.heap.size w W := B2.trans (hb.mono (by omega))
  exact ⟨hrs.kept (BW.block lb hlb), hlb, by rw [hb.block _ hlt]; exact r2, h1, h2, h3, (own_below oc hb).mono (by omega), (own_below og hb).mono (by omega), (gl.kept (fun k hk => hb.block k hk.lt)).mono (by omega), tabD_start h4 (by omega) hn hmc, BW, Nat.le_refl _, by omega⟩

theorem rows4 (w : World) (a b c d : Obj) : Below w.heap.size w ((((w.alloc a).alloc b).alloc c).alloc d).drew ∧ ((((w.alloc a).alloc b).alloc c).alloc d).drew.heap[w.heap.size]? = (w.alloc a).heap[w.heap.size]? ∧ ((((w.alloc a).alloc b).alloc c).alloc d).drew.heap[w.heap.size + 1]? = ((w.alloc a).alloc b).heap[w.heap.size + 1]? ∧ ((((w.alloc a).alloc b).alloc c).alloc d).drew.heap[w.heap.size + 2]? = (((w.alloc a).alloc b).alloc c).heap[w.heap.size + 2]? := by
  refine ⟨?_, ?_, ?_, ?_⟩
  · exact (((((Below.refl _ _).alloc (Nat.le_refl _) _).alloc (by simp) _).alloc (by simp <;> omega) _).alloc (by simp <;> omega) _).drew
  · show ((((w.alloc a).alloc b).alloc c).alloc d).heap[w.heap.size]? = _
    rw [Below.heap_alloc _ _ _ (by simp <;> omega), Below.heap_alloc _ _ _ (by simp <;> omega), Below.heap_alloc _ _ _ (by simp)]
  · show ((((w.alloc a).alloc b).alloc c).alloc d).heap[w.heap.size + 1]? = _
    rw [Below.heap_alloc _ _ _ (by simp <;> omega), Below.heap_alloc _ _ _ (by simp)]
  · show ((((w.alloc a).alloc b).alloc c).alloc d).heap[w.heap.size + 2]? = _
    rw [Below.heap_alloc _ _ _ (by simp)]

theorem ts_startA {w w2 : World} {lb : Nat} {ao : Option Addr} {cap : Nat} {D : List UInt8} {n : Nat} {vc vr : Value} {E b : Nat} {cs : List Pu.Col} {ws : List (Nat × Value)} {gs : List (Nat × List (Nat × Nat))} {mc : Array Value} (hrs : Rest w lb ao cap D) (hlb : lb < w.heap.size) (hb2 : Below (w.heap.size + 1) (w.alloc (.cells #[.slice none 0 0, .slice none 0 0] 36)) w2) (oc : w2.ownsRow (w.heap.size + 1) 54 3 vc cs.length (colsV cs)) (og : w2.ownsRow (w.heap.size + 1) 84 2 vr ws.length (grsV ws)) (gl : GL w2 (w.heap.size + 1) ws gs) (hn : n ≤ 100000) (hmc : mc.size = n ∧ ∀ j, j < n → mc[j]? = some (.slice none 0 0)) :
    TS w lb ao cap D w.heap.size w2.heap.size (w2.heap.size + 1) (w2.heap.size + 1 + 1 + 1) vc vr (.slice (some ⟨w2.heap.size + 1 + 1, 0, none⟩) n n) E b cs ws gs (List.replicate n []) ((((w2.alloc (.cells #[vc, vr, .int .i64 (E : Int)] 77)).alloc (.cells #[.int .i64 (b : Int)] 81)).alloc (.cells mc 47)).alloc (.cells #[vc, .slice (some ⟨w2.heap.size + 1 + 1, 0, none⟩) n n] 36)).drew := by
  obtain ⟨q0, q1, q2, q3⟩ := rows4 w2 (.cells #[vc, vr, .int .i64 (E : Int)] 77) (.cells #[.int .i64 (b : Int)] 81) (.cells mc 47) (.cells #[vc, .slice (some ⟨w2.heap.size + 1 + 1, 0, none⟩) n n] 36)
  refine ts_start hrs hlb hb2 oc og gl q0 (by rw [q1]; exact heap_alloc_new w2 _) (by rw [q2]; have := heap_alloc_new (w2.alloc (.cells #[vc, vr, .int .i64 (E : Int)] 77)) (.cells #[.int .i64 (b : Int)] 81); rw [size_alloc'] at this; exact this) ?_ (by rw [q3]; have := heap_alloc_new ((w2.alloc (.cells #[vc, vr, .int .i64 (E : Int)] 77)).alloc (.cells #[.int .i64 (b : Int)] 81)) (.cells mc 47); rw [size_alloc', size_alloc'] at this; exact this) (by omega) hn hmc
  have := heap_alloc_new (((w2.alloc (.cells #[vc, vr, .int .i64 (E : Int)] 77)).alloc (.cells #[.int .i64 (b : Int)] 81)).alloc (.cells mc 47)) (.cells #[vc, .slice (some ⟨w2.heap.size + 1 + 1, 0, none⟩) n n] 36)
  rw [size_alloc', size_alloc', size_alloc'] at this
  exact this

theorem ts_startB {w w2 : World} {lb : Nat} {ao : Option Addr} {cap : Nat} {D : List UInt8} {n : Nat} {vc vr : Value} {E b : Nat} {cs : List Pu.Col} {ws : List (Nat × Value)} {gs : List (Nat × List (Nat × Nat))} {mc : Array Value} (hrs : Rest w lb ao cap D) (hlb : lb < w.heap.size) (hb2 : Below (w.heap.size + 1) (w.alloc (.cells #[.slice none 0 0, .slice none 0 0] 36)) w2) (oc : w2.ownsRow (w.heap.size + 1) 54 3 vc cs.length (colsV cs)) (og : w2.ownsRow (w.heap.size + 1) 84 2 vr ws.length (grsV ws)) (gl : GL w2 (w.heap.size + 1) ws gs) (hn : n ≤ 100000) (hmc : mc.size = n ∧ ∀ j, j < n → mc[j]? = some (.slice none 0 0)) :
    TS w lb ao cap D w.heap.size w2.heap.size (w2.heap.size + 1) (w2.heap.size + 1 + 1) vc vr (.slice (some ⟨w2.heap.size + 1 + 1 + 1, 0, none⟩) n n) E b cs ws gs (List.replicate n []) ((((w2.alloc (.cells #[vc, vr, .int .i64 (E : Int)] 77)).alloc (.cells #[.int .i64 (b : Int)] 81)).alloc (.cells #[vc, .slice (some ⟨w2.heap.size + 1 + 1 + 1, 0, none⟩) n n] 36)).alloc (.cells mc 47)).drew := by
  obtain ⟨q0, q1, q2, q3⟩ := rows4 w2 (.cells #[vc, vr, .int .i64 (E : Int)] 77) (.cells #[.int .i64 (b : Int)] 81) (.cells #[vc, .slice (some ⟨w2.heap.size + 1 + 1 + 1, 0, none⟩) n n] 36) (.cells mc 47)
  refine ts_start hrs hlb hb2 oc og gl q0 (by rw [q1]; exact heap_alloc_new w2 _) (by rw [q2]; have := heap_alloc_new (w2.alloc (.cells #[vc, vr, .int .i64 (E : Int)] 77)) (.cells #[.int .i64 (b : Int)] 81); rw [size_alloc'] at this; exact this) (by rw [q3]; have := heap_alloc_new ((w2.alloc (.cells #[vc, vr, .int .i64 (E : Int)] 77)).alloc (.cells #[.int .i64 (b : Int)] 81)) (.cells #[vc, .slice (some ⟨w2.heap.size + 1 + 1 + 1, 0, none⟩) n n] 36); rw [size_alloc', size_alloc'] at this; exact this) ?_ (by omega) hn hmc
  have := heap_alloc_new (((w2.alloc (.cells #[vc, vr, .int .i64 (E : Int)] 77)).alloc (.cells #[.int .i64 (b : Int)] 81)).alloc (.cells #[vc, .slice (some ⟨w2.heap.size + 1 + 1 + 1, 0, none⟩) n n] 36)) (.cells mc 47)
  rw [size_alloc', size_alloc', size_alloc'] at this
  exact this

/-- the table's answer -/
def finR (cs : List Pu.Col) (r : Except Nat (Nat × List (List Pu.Cl))) : Except Nat (List Pu.Col × List (List Pu.Cl) × Nat) :=
  match r with
  | .error e => .error e
  | .ok (u, ts) => .ok (cs, ts, u)

/-- the rest of a group, then the other groups -/
def restR (D : List UInt8) (E b rows : Nat) (cs : List Pu.Col) (zs : List (Pu.Col × (Nat × Nat))) (i u : Nat) (ts : List (List Pu.Cl)) (gs : List (Nat × List (Nat × Nat))) : Except Nat (List Pu.Col × List (List Pu.Cl) × Nat) :=
  match Pu.colsR D E b rows zs i u ts with
  | .error e => .error e
  | .ok (u', ts') => finR cs (Pu.grpsR D E b cs gs u' ts')

theorem fin_group (D : List UInt8) (E b : Nat) (cs : List Pu.Col) (gs : List (Nat × List (Nat × Nat))) (k u : Nat) (ts : List (List Pu.Cl)) (g : Nat × List (Nat × Nat)) (hg : gs[k]? = some g) :
    finR cs (Pu.grpsR D E b cs (gs.drop k) u ts) = restR D E b g.1 cs ((cs.zip g.2).drop 0) 0 u ts (gs.drop (k + 1)) := by
  obtain ⟨hk, hgk⟩ := List.getElem?_eq_some_iff.1 hg
  rw [List.drop_eq_getElem_cons hk, hgk, List.drop_zero]
  unfold restR
  conv => lhs; unfold Pu.grpsR
  cases Pu.colsR D E b g.1 (cs.zip g.2) 0 u ts with
  | error e => rfl
  | ok q => rfl

theorem rest_end (D : List UInt8) (E b rows : Nat) (cs : List Pu.Col) (i u : Nat) (ts : List (List Pu.Cl)) (gs : List (Nat × List (Nat × Nat))) : restR D E b rows cs [] i u ts gs = finR cs (Pu.grpsR D E b cs gs u ts) := rfl

theorem rest_part (D : List UInt8) (E b rows : Nat) (cs : List Pu.Col) (pl : List (Nat × Nat)) (i u : Nat) (ts : List (List Pu.Cl)) (gs : List (Nat × List (Nat × Nat))) (c : Pu.Col) (p : Nat × Nat) (hc : cs[i]? = some c) (hp : pl[i]? = some p) :
    restR D E b rows cs ((cs.zip pl).drop i) i u ts gs = match Pu.part D E b c rows p u with
      | .error e => .error e
      | .ok (u', l) => restR D E b rows cs ((cs.zip pl).drop (i + 1)) (i + 1) u' (ts.set i (ts.getD i [] ++ l)) gs := by
  have hz : (cs.zip pl)[i]? = some (c, p) := by rw [List.getElem?_zip_eq_some]; exact ⟨hc, hp⟩
  obtain ⟨hk, hzk⟩ := List.getElem?_eq_some_iff.1 hz
  rw [List.drop_eq_getElem_cons hk, hzk]
  conv => lhs; unfold restR Pu.colsR
  cases Pu.part D E b c rows p u with
  | error e => rfl
  | ok q => rfl
end Go.Proofs.YtjobhlncllfdmaaGreat
