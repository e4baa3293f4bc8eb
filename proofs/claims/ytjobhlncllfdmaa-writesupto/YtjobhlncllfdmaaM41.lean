/- The reference's pages: the four lists that it makes. -/
import Derived.Test.YtjobhlncllfdmaaM38
import Derived.Test.YtjobhlncllfdmaaM39
import Derived.Test.YtjobhlncllfdmaaM40
import Derived.Lib.ItoaNum
namespace Go.Proofs.Ytjobhlncllfdmaa
open Go.RowKit Go.Maps

/-- two values have no block in common -/
def Sep (a b : Value) : Prop := ∀ k, a.ownBlock = some k → b.ownBlock ≠ some k
theorem Sep.symm {a b : Value} (h : Sep a b) : Sep b a := fun k hk e => h k e hk
theorem Sep.push {v v' b : Value} {n : Nat} (h : Sep v b) (hb : ∀ k, b.ownBlock = some k → k < n) (lies : ∀ k, v'.ownBlock = some k → v.ownBlock = some k ∨ n ≤ k) : Sep v' b := fun k hk e => by
  rcases lies k hk with h' | h'
  · exact h k h' e
  · have := hb k e; omega

/-- the lists of pages, while they are made -/
structure PS (S : Nat) (w : World) (box : Obj) (vl : Value) (nl : Nat) (lv : List Nat) (vv : Value) (nv : Nat) (vals : List Pu.Cl) (vd : Value) (nd : Nat) (ds : List Pu.Cl) (vi : Value) (ni : Nat) (is : List Nat) (wr : World) : Prop where
  bx : wr.heap[S]? = some box
  ol : wr.ownsRow (S + 1) 3 1 vl nl (ints lv)
  ov : wr.ownsRow (S + 1) 66 3 vv nv (clsV vals)
  od : wr.ownsRow (S + 1) 66 3 vd nd (clsV ds)
  oi : wr.ownsRow (S + 1) 3 1 vi ni (ints is)
  lv' : Sep vl vv
  ld : Sep vl vd
  li : Sep vl vi
  vd' : Sep vv vd
  vi' : Sep vv vi
  di : Sep vd vi
  below : Below S w wr
  sz : S + 1 ≤ wr.heap.size
  s0 : S ≤ w.heap.size

section
variable {S : Nat} {w wr w1 : World} {box : Obj} {vl : Value} {nl : Nat} {lv : List Nat} {vv : Value} {nv : Nat} {vals : List Pu.Cl} {vd : Value} {nd : Nat} {ds : List Pu.Cl} {vi : Value} {ni : Nat} {is : List Nat}

theorem PS.later (h : PS S w box vl nl lv vv nv vals vd nd ds vi ni is wr) (hb : Below wr.heap.size wr w1) : PS S w box vl nl lv vv nv vals vd nd ds vi ni is w1 := by
  have sz := h.sz
  have hs := hb.size
  exact ⟨by rw [hb.block S (by omega)]; exact h.bx, own_agreeS h.ol (fun k hk => hb.block k (h.ol.lt k hk).2), own_agreeS h.ov (fun k hk => hb.block k (h.ov.lt k hk).2), own_agreeS h.od (fun k hk => hb.block k (h.od.lt k hk).2), own_agreeS h.oi (fun k hk => hb.block k (h.oi.lt k hk).2), h.lv', h.ld, h.li, h.vd', h.vi', h.di, h.below.trans (hb.mono (by omega)), by omega, h.s0⟩

theorem PS.drewN (h : PS S w box vl nl lv vv nv vals vd nd ds vi ni is wr) (n : Nat) : PS S w box vl nl lv vv nv vals vd nd ds vi ni is (wr.drewN n) := h.later (below_drewN (Below.refl _ _) n)

theorem PS.pushL (h : PS S w box vl nl lv vv nv vals vd nd ds vi ni is wr) {v' : Value} {n' : Nat} {xs' : List Nat} (hg : wr.grownBy w1 vl.ownBlock) (ho : w1.ownsRow (S + 1) 3 1 v' n' (ints xs')) (lies : ∀ k, v'.ownBlock = some k → vl.ownBlock = some k ∨ wr.heap.size ≤ k) :
    PS S w box v' n' xs' vv nv vals vd nd ds vi ni is w1 := by
  have sz := h.sz
  have hs := hg.size
  have kp : ∀ k, k < wr.heap.size → vl.ownBlock ≠ some k → w1.heap[k]? = wr.heap[k]? := fun k hk hn => hg.block k hk (fun e => hn e.symm)
  exact ⟨by rw [kp S (by omega) (fun e => by have := (h.ol.lt S e).1; omega)]; exact h.bx, ho, own_agreeS h.ov (fun k hk => kp k (h.ov.lt k hk).2 (h.lv'.symm k hk)), own_agreeS h.od (fun k hk => kp k (h.od.lt k hk).2 (h.ld.symm k hk)), own_agreeS h.oi (fun k hk => kp k (h.oi.lt k hk).2 (h.li.symm k hk)), h.lv'.push (fun k hk => (h.ov.lt k hk).2) lies, h.ld.push (fun k hk => (h.od.lt k hk).2) lies, h.li.push (fun k hk => (h.oi.lt k hk).2) lies, h.vd', h.vi', h.di, h.below.grown hg (by omega) (fun k hk => by have := (h.ol.lt k hk).1; omega), by omega, h.s0⟩

theorem PS.pushV (h : PS S w box vl nl lv vv nv vals vd nd ds vi ni is wr) {v' : Value} {n' : Nat} {xs' : List Pu.Cl} (hg : wr.grownBy w1 vv.ownBlock) (ho : w1.ownsRow (S + 1) 66 3 v' n' (clsV xs')) (lies : ∀ k, v'.ownBlock = some k → vv.ownBlock = some k ∨ wr.heap.size ≤ k) :
    PS S w box vl nl lv v' n' xs' vd nd ds vi ni is w1 := by
  have sz := h.sz
  have hs := hg.size
  have kp : ∀ k, k < wr.heap.size → vv.ownBlock ≠ some k → w1.heap[k]? = wr.heap[k]? := fun k hk hn => hg.block k hk (fun e => hn e.symm)
  exact ⟨by rw [kp S (by omega) (fun e => by have := (h.ov.lt S e).1; omega)]; exact h.bx, own_agreeS h.ol (fun k hk => kp k (h.ol.lt k hk).2 (h.lv' k hk)), ho, own_agreeS h.od (fun k hk => kp k (h.od.lt k hk).2 (h.vd'.symm k hk)), own_agreeS h.oi (fun k hk => kp k (h.oi.lt k hk).2 (h.vi'.symm k hk)), (h.lv'.symm.push (fun k hk => (h.ol.lt k hk).2) lies).symm, h.ld, h.li, h.vd'.push (fun k hk => (h.od.lt k hk).2) lies, h.vi'.push (fun k hk => (h.oi.lt k hk).2) lies, h.di, h.below.grown hg (by omega) (fun k hk => by have := (h.ov.lt k hk).1; omega), by omega, h.s0⟩

theorem PS.pushD (h : PS S w box vl nl lv vv nv vals vd nd ds vi ni is wr) {v' : Value} {n' : Nat} {xs' : List Pu.Cl} (hg : wr.grownBy w1 vd.ownBlock) (ho : w1.ownsRow (S + 1) 66 3 v' n' (clsV xs')) (lies : ∀ k, v'.ownBlock = some k → vd.ownBlock = some k ∨ wr.heap.size ≤ k) :
    PS S w box vl nl lv vv nv vals v' n' xs' vi ni is w1 := by
  have sz := h.sz
  have hs := hg.size
  have kp : ∀ k, k < wr.heap.size → vd.ownBlock ≠ some k → w1.heap[k]? = wr.heap[k]? := fun k hk hn => hg.block k hk (fun e => hn e.symm)
  exact ⟨by rw [kp S (by omega) (fun e => by have := (h.od.lt S e).1; omega)]; exact h.bx, own_agreeS h.ol (fun k hk => kp k (h.ol.lt k hk).2 (h.ld k hk)), own_agreeS h.ov (fun k hk => kp k (h.ov.lt k hk).2 (h.vd' k hk)), ho, own_agreeS h.oi (fun k hk => kp k (h.oi.lt k hk).2 (h.di.symm k hk)), h.lv', (h.ld.symm.push (fun k hk => (h.ol.lt k hk).2) lies).symm, h.li, (h.vd'.symm.push (fun k hk => (h.ov.lt k hk).2) lies).symm, h.vi', h.di.push (fun k hk => (h.oi.lt k hk).2) lies, h.below.grown hg (by omega) (fun k hk => by have := (h.od.lt k hk).1; omega), by omega, h.s0⟩

theorem PS.pushI (h : PS S w box vl nl lv vv nv vals vd nd ds vi ni is wr) {v' : Value} {n' : Nat} {xs' : List Nat} (hg : wr.grownBy w1 vi.ownBlock) (ho : w1.ownsRow (S + 1) 3 1 v' n' (ints xs')) (lies : ∀ k, v'.ownBlock = some k → vi.ownBlock = some k ∨ wr.heap.size ≤ k) :
    PS S w box vl nl lv vv nv vals vd nd ds v' n' xs' w1 := by
  have sz := h.sz
  have hs := hg.size
  have kp : ∀ k, k < wr.heap.size → vi.ownBlock ≠ some k → w1.heap[k]? = wr.heap[k]? := fun k hk hn => hg.block k hk (fun e => hn e.symm)
  exact ⟨by rw [kp S (by omega) (fun e => by have := (h.oi.lt S e).1; omega)]; exact h.bx, own_agreeS h.ol (fun k hk => kp k (h.ol.lt k hk).2 (h.li k hk)), own_agreeS h.ov (fun k hk => kp k (h.ov.lt k hk).2 (h.vi' k hk)), own_agreeS h.od (fun k hk => kp k (h.od.lt k hk).2 (h.di k hk)), ho, h.lv', h.ld, (h.li.symm.push (fun k hk => (h.ol.lt k hk).2) lies).symm, h.vd', (h.vi'.symm.push (fun k hk => (h.ov.lt k hk).2) lies).symm, (h.di.symm.push (fun k hk => (h.od.lt k hk).2) lies).symm, h.below.grown hg (by omega) (fun k hk => by have := (h.oi.lt k hk).1; omega), by omega, h.s0⟩
end

/-- a row of one's own, as a slice that lies in the heap -/
theorem Rs.ofOwnLt {w : World} {B : Nat} {e : TypeId} {sz : Nat} {ao : Option Addr} {n cap : Nat} {xs : List Value} (h : w.ownsRow B e sz (.slice ao n cap) n xs) (h0 : 0 < w.heap.size) : ∃ lb, Rs w sz lb ao n cap xs ∧ lb < w.heap.size := by
  rcases h.2 with ⟨hv, rfl⟩ | ⟨g, cap', cur, hv, hB, hg, h1, h2, h3, h4⟩
  · simp only [Value.slice.injEq] at hv
    obtain ⟨rfl, _, rfl⟩ := hv
    exact ⟨0, ⟨Nat.le_refl _, by unfold maxLen; omega, h.1, .inl rfl⟩, h0⟩
  · obtain ⟨lb, hr, hk⟩ := Rs.ofOwn h
    have hv' := hv
    simp only [Value.slice.injEq, true_and] at hv
    obtain ⟨rfl, rfl⟩ := hv
    have := hk g rfl
    subst this
    exact ⟨g, hr, (Array.getElem?_eq_some_iff.1 hg).1⟩

theorem widL_spec {n : Nat} (h : n ≤ 100000) : n ≤ pow2 (widL n) ∧ ∀ k, k < widL n → pow2 k < n := by
  unfold widL pow2 Lib.bitLen
  by_cases h0 : n - 1 = 0
  · rw [h0, Lib.bitLenAux_zero]
    exact ⟨by simp; omega, fun k hk => by omega⟩
  · obtain ⟨h1, h2, h3⟩ := Lib.bitLenAux_bounds 64 (n - 1) (by omega) h0
    refine ⟨by omega, fun k hk => ?_⟩
    have : 2 ^ k ≤ 2 ^ (Lib.bitLenAux 64 (n - 1) - 1) := Nat.pow_le_pow_right (by omega) (by omega)
    omega

theorem ix_get : ∀ (ws : List Pu.Cl) (s : List UInt8) (k : Nat) (h : k < ws.length), k < ix ws s → ws[k].s ≠ s
  | [], _, k, h, _ => by simp at h
  | c :: r, s, 0, _, h => by
    unfold ix at h
    by_cases e : c.s = s
    · rw [if_pos e] at h; omega
    · simpa using e
  | c :: r, s, k + 1, hl, h => by
    unfold ix at h
    by_cases e : c.s = s
    · rw [if_pos e] at h; omega
    · rw [if_neg e] at h
      have := ix_get r s k (by simpa using hl) (by omega)
      simpa using this
theorem ix_stop : ∀ (ws : List Pu.Cl) (s : List UInt8) (k : Nat) (h : k < ws.length), k = ix ws s → ws[k].s = s
  | [], _, k, h, _ => by simp at h
  | c :: r, s, k, hl, h => by
    unfold ix at h
    by_cases e : c.s = s
    · rw [if_pos e] at h
      subst h
      simpa using e
    · rw [if_neg e] at h
      subst h
      have := ix_stop r s _ (by simpa using hl) rfl
      simpa using this

theorem dic_snoc (l : List Pu.Cl) (c : Pu.Cl) : dic (l ++ [c]) = dicStep (dic l) c := by unfold dic; rw [List.foldl_append]; rfl
theorem dic_lens (l : List Pu.Cl) : (dic l).1.length ≤ l.length ∧ (dic l).2.length = l.length := by
  have := dic_len l l.length (Nat.le_refl _)
  rw [List.take_length] at this
  exact this
end Go.Proofs.Ytjobhlncllfdmaa
