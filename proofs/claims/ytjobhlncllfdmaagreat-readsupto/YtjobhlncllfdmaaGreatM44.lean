/- stratalaw.sealed. -/
import Derived.Test.YtjobhlncllfdmaaGreatM43
import Derived.Test.YtjobhlncllfdmaaGreatM41
import Derived.Test.YtjobhlncllfdmaaGreatM16
import Derived.Test.YtjobhlncllfdmaaGreatM23
import Derived.Test.YtjobhlncllfdmaaGreatM11
import Derived.Maps.AppendAt
namespace Go.Proofs.YtjobhlncllfdmaaGreat
open Go.RowKit

set_option maxHeartbeats 2000000 in
set_option maxRecDepth 100000 in
theorem heads_nil (ao : Option Addr) (cap : Nat) (w : World) : Calls Tryz.prog 12 #[.slice ao 0 cap] w fun e w' => e = .returned (.string ⟨(heads []).toArray⟩) ∧ Below w.heap.size w w' := by
  have HV0 : Hid (Calls Tryz.prog 13 #[.int .i64 0] w fun e w' => e = .returned (.string ⟨(vb 0).toArray⟩) ∧ Below w.heap.size w w') := varintB_any 0 w (by omega)
  obtain ⟨t0, ht0⟩ : ∃ t0 : ByteArray, t0 = ⟨(vb 0).toArray⟩ := ⟨_, rfl⟩
  rw [← ht0] at HV0
  have HT : Hid (t0.data.toList = heads []) := by rw [Hid, ht0]; simp [heads]
  clear ht0
  go_enter Tryz.func12, Tryz.ntmps12
  go_wp2_with fail
  refine HV0.out.mono ?_
  rintro e w1 ⟨rfl, hb1⟩
  go_wp2
  go_loopw [3, 4] (fun s3 i wr => i = .int .i64 0 ∧ s3 = .string t0 ∧ wr = w1) (fun _ _ _ => 0)
  case atStart => exact ⟨rfl, rfl, rfl⟩
  case round =>
    obtain ⟨rfl, rfl, rfl⟩ := hrel
    go_wp2
    go_ret
    exact ⟨congrArg (fun t => Ending.returned (.string t)) (bytes_ext HT.out), hb1⟩

set_option maxHeartbeats 2000000 in
set_option maxRecDepth 100000 in
theorem sealed_of (p gr : ByteArray) (vc : Value) (th : List UInt8) (w : World) (H : Hid (∀ W : World, Below w.heap.size w W → Calls Tryz.prog 12 #[vc] W fun e w' => e = .returned (.string ⟨th.toArray⟩) ∧ Below W.heap.size W w')) (hp : p.size ≤ 10000000) (hg : gr.size ≤ 10000000) (hth : th.length ≤ 10000000) :
    Calls Tryz.prog 10 #[.string p, vc, .string gr] w fun e w' => ∃ t, e = .returned (.string t) ∧ t.size ≤ 1073741824 ∧ Below w.heap.size w w' := by
  obtain ⟨t0, ht0⟩ : ∃ t0 : ByteArray, t0 = ⟨th.toArray⟩ := ⟨_, rfl⟩
  rw [← ht0] at H
  have hz0 : t0.size ≤ 10000000 := by rw [ht0, ← len_data]; simpa using hth
  have HC : Hid (Calls Tryz.prog 12 #[vc] w fun e w' => e = .returned (.string t0) ∧ Below w.heap.size w w') := H.out w (Below.refl _ _)
  have EN : Hid (∀ W : World, ∃ t2 : ByteArray, t2.size ≤ 20000012 ∧ Calls Tryz.prog 16 #[.string (t0 ++ gr)] W fun e w' => e = .returned (.string t2) ∧ Below W.heap.size W w') := fun W => by
    refine ⟨⟨(endL (t0 ++ gr).data.toList).toArray⟩, ?_, ending_any _ W (by rw [ByteArray.size_append]; omega)⟩
    rw [← len_data]
    simp only [size_endL, len_data, ByteArray.size_append]
    omega
  clear ht0 H hth
  go_enter Tryz.func10, Tryz.ntmps10
  go_wp2_with fail
  refine HC.out.mono ?_
  rintro e w1 ⟨rfl, hb1⟩
  obtain ⟨t2, hz2, EN2⟩ := EN.out w1
  have HE : Hid (Calls Tryz.prog 16 #[.string (t0 ++ gr)] w1 fun e w' => e = .returned (.string t2) ∧ Below w1.heap.size w1 w') := EN2
  clear EN2 EN HC
  go_wp2_with fail
  refine HE.out.mono ?_
  rintro e w2 ⟨rfl, hb2⟩
  go_wp2
  go_ret
  refine ⟨_, rfl, ?_, hb1.trans (hb2.mono hb1.size)⟩
  simp only [ByteArray.size_append]
  show 4 + p.size + t2.size ≤ 1073741824
  omega

theorem sealed_any (p gr : ByteArray) (gb go cap : Nat) (cl : List RawC) (w : World) (h : RawAt w gb go cl) (hn : cl.length ≤ 1048576) (hsum : (heads cl).length ≤ 10000000) (hp : p.size ≤ 10000000) (hg : gr.size ≤ 10000000) :
    Calls Tryz.prog 10 #[.string p, .slice (some ⟨gb, go, none⟩) cl.length cap, .string gr] w fun e w' => ∃ t, e = .returned (.string t) ∧ t.size ≤ 1073741824 ∧ Below w.heap.size w w' :=
  sealed_of p gr _ (heads cl) w (fun W hW => heads_any gb go cap cl W (h.below hW) hn hsum) hp hg hsum
theorem sealed_nil (p gr : ByteArray) (ao : Option Addr) (cap : Nat) (w : World) (hp : p.size ≤ 10000000) (hg : gr.size ≤ 10000000) :
    Calls Tryz.prog 10 #[.string p, .slice ao 0 cap, .string gr] w fun e w' => ∃ t, e = .returned (.string t) ∧ t.size ≤ 1073741824 ∧ Below w.heap.size w w' :=
  sealed_of p gr _ (heads []) w (fun W _ => heads_nil ao cap W) hp hg (by unfold heads; simp [vb_small])
end Go.Proofs.YtjobhlncllfdmaaGreat

/- Values of the document's cells. -/
namespace Go.Proofs.YtjobhlncllfdmaaGreat
open Go.RowKit

def exVals : List UInt8 := leB 8 1 ++ leB 8 2

/-- two cells in memory: 1, 2 -/
def TwoC (W : World) (gl : Nat) : Prop := gl < W.heap.size ∧ W.cell? ⟨gl, 1, none⟩ = some (.int .i64 1) ∧ W.cell? ⟨gl, 4, none⟩ = some (.int .i64 2)
theorem TwoC.below {W W' : World} {gl : Nat} (h : TwoC W gl) (hb : Below W.heap.size W W') : TwoC W' gl := by
  have c : ∀ k, W'.cell? ⟨gl, k, none⟩ = W.cell? ⟨gl, k, none⟩ := fun k => World.cell?_of_block (hb.block gl h.1)
  exact ⟨Nat.lt_of_lt_of_le h.1 hb.size, by rw [c]; exact h.2.1, by rw [c]; exact h.2.2⟩

set_option maxHeartbeats 4000000 in
set_option maxRecDepth 100000 in
theorem values_ex (gl cap : Nat) (w : World) (h : TwoC w gl) :
    Calls Tryz.prog 29 #[.int .i64 1, .slice (some ⟨gl, 0, none⟩) 2 cap] w fun e w' => e = .returned (.string ⟨exVals.toArray⟩) ∧ Below w.heap.size w w' := by
  obtain ⟨t1, ht1⟩ : ∃ t1 : ByteArray, t1 = ⟨(leB 8 1).toArray⟩ := ⟨_, rfl⟩
  obtain ⟨t2, ht2⟩ : ∃ t2 : ByteArray, t2 = ⟨(leB 8 2).toArray⟩ := ⟨_, rfl⟩
  have L1 : Hid (∀ W : World, Calls Tryz.prog 31 #[.int .i64 1, .int .i64 8] W fun e w' => e = .returned (.string t1) ∧ Below W.heap.size W w') := fun W => by rw [ht1]; exact refLow_any 1 8 W (by omega) (by omega) (by omega)
  have L2 : Hid (∀ W : World, Calls Tryz.prog 31 #[.int .i64 2, .int .i64 8] W fun e w' => e = .returned (.string t2) ∧ Below W.heap.size W w') := fun W => by rw [ht2]; exact refLow_any 2 8 W (by omega) (by omega) (by omega)
  have z1 : t1.size = 8 := by rw [ht1, ← len_data]; simp [length_leB]
  have z2 : t2.size = 8 := by rw [ht2, ← len_data]; simp [length_leB]
  have HP : Hid (t1.data.toList ++ t2.data.toList = exVals) := by rw [Hid, ht1, ht2]; rfl
  have HC : Hid (TwoC w gl) := h
  clear h ht1 ht2
  go_enter Tryz.func29, Tryz.ntmps29
  go_wp2
  go_loopw [5, 8] (fun s5 i wr => ∃ (k : Nat) (t : ByteArray), k ≤ 2 ∧ i = .int .i64 k ∧ s5 = .string t ∧ Hid ((k = 0 → t.data.toList = []) ∧ (k = 1 → t.data.toList = t1.data.toList) ∧ (k = 2 → t.data.toList = exVals)) ∧ t.size ≤ 16 ∧ Hid (Below w.heap.size w wr)) (fun _ i _ => 2 - (intOf i).toNat)
  case atStart => exact ⟨0, ⟨#[]⟩, Nat.zero_le _, rfl, rfl, ⟨fun _ => rfl, fun e => by omega, fun e => by omega⟩, by decide, Below.refl _ _⟩
  case round =>
    obtain ⟨k, t, hk, rfl, rfl, HT, hts, HB⟩ := hrel
    obtain ⟨_, c1, c4⟩ := HC.out.below HB.out
    by_cases hk2 : k < 2
    · rcases (show k = 0 ∨ k = 1 by omega) with rfl | rfl
      · have HE := HT.out.1 rfl
        have htz : t.size = 0 := by rw [← len_data, HE]; rfl
        go_wp2_with fail
        refine (L1.out _).mono ?_
        rintro e w2 ⟨rfl, hb2⟩
        go_wp2
        go_roundw
        case rel => exact ⟨1, t ++ t1, by omega, by go_num, rfl, ⟨fun e => by omega, fun _ => by simp only [ByteArray.data_append, Array.toList_append, HE, List.nil_append], fun e => by omega⟩, by rw [ByteArray.size_append]; omega, HB.out.trans (hb2.mono HB.out.size)⟩
        case measure => simp [intOf]
      · have HE := HT.out.2.1 rfl
        have htz : t.size = 8 := by rw [← len_data, HE, len_data]; exact z1
        go_wp2_with fail
        refine (L2.out _).mono ?_
        rintro e w2 ⟨rfl, hb2⟩
        go_wp2
        go_roundw
        case rel => exact ⟨2, t ++ t2, by omega, by go_num, rfl, ⟨fun e => by omega, fun e => by omega, fun _ => by rw [← HP.out]; simp only [ByteArray.data_append, Array.toList_append, HE]⟩, by rw [ByteArray.size_append]; omega, HB.out.trans (hb2.mono HB.out.size)⟩
        case measure => simp [intOf]
    · obtain rfl : k = 2 := by omega
      have HE := HT.out.2.2 rfl
      go_wp2
      go_ret
      exact ⟨congrArg (fun t => Ending.returned (.string t)) (bytes_ext (by rw [HE])), HB.out⟩
end Go.Proofs.YtjobhlncllfdmaaGreat

/- strataref.pages of the document's cells. -/
namespace Go.Proofs.YtjobhlncllfdmaaGreat
open Go.RowKit

/-- the document's two cells in memory -/
def ExL (W : World) (gl : Nat) : Prop := W.heap[gl]? = some (.cells #[.bool false, .int .i64 1, .string ⟨#[]⟩, .bool false, .int .i64 2, .string ⟨#[]⟩] 57 (0, 0))
theorem ExL.below {W W' : World} {gl : Nat} (h : ExL W gl) (hb : Below W.heap.size W W') : ExL W' gl := by
  unfold ExL; rw [hb.block _ (Array.getElem?_eq_some_iff.1 h).1]; exact h
theorem ExL.cells {W : World} {gl : Nat} (h : ExL W gl) : W.cell? ⟨gl, 0, none⟩ = some (.bool false) ∧ W.cell? ⟨gl, 1, none⟩ = some (.int .i64 1) ∧ W.cell? ⟨gl, 2, none⟩ = some (.string ⟨#[]⟩) ∧ W.cell? ⟨gl, 3, none⟩ = some (.bool false) ∧ W.cell? ⟨gl, 4, none⟩ = some (.int .i64 2) ∧ W.cell? ⟨gl, 5, none⟩ = some (.string ⟨#[]⟩) := by
  refine ⟨?_, ?_, ?_, ?_, ?_, ?_⟩ <;> (rw [cell_of_row _ _ _ _ _ _ h]; rfl)

def c1V : List Value := [.bool false, .int .i64 1, .string ⟨#[]⟩]
def c2V : List Value := [.bool false, .int .i64 2, .string ⟨#[]⟩]

/-- what holds behind k cells -/
def PgEx (w : World) (T2 gl k : Nat) (lv va di wh : Value) (W : World) : Prop :=
  W.heap[T2]? = some (.cells #[.string ⟨#[97]⟩, .int .i64 1, .bool false] 54 (0, 0)) ∧ ExL W gl ∧ Below w.heap.size w W ∧
  W.ownsRow w.heap.size 3 1 lv k (List.replicate k (.int .i64 1)) ∧
  W.ownsRow w.heap.size 57 3 va k ((c1V ++ c2V).take (3 * k)) ∧
  W.ownsRow w.heap.size 57 3 di (min k 1) (c1V.take (3 * min k 1)) ∧
  W.ownsRow w.heap.size 3 1 wh k (List.replicate k (.int .i64 0)) ∧
  (∀ x, lv.ownBlock = some x → wh.ownBlock ≠ some x) ∧ (∀ x, va.ownBlock = some x → di.ownBlock ≠ some x ∧ x ≠ gl) ∧ (∀ x, di.ownBlock = some x → x ≠ gl) ∧ gl < w.heap.size
end Go.Proofs.YtjobhlncllfdmaaGreat

/- strataref.pages of the document's cells: the walk. -/
namespace Go.Proofs.YtjobhlncllfdmaaGreat
open Go.RowKit

theorem own_other {W w1 : World} {o : Obj} {B : Nat} {e2 : TypeId} {sz2 m : Nat} {u : Value} {ys : List Value} {row : Option Nat} (hu : W.ownsRow B e2 sz2 u m ys) (hg : (W.alloc o).grownBy w1 row) (hne : ∀ k, u.ownBlock = some k → row ≠ some k) : w1.ownsRow B e2 sz2 u m ys :=
  own_agreeS hu (fun k hk => agree_step hg (own_tyS hu hk).lt (hne k hk))

structure PE (w : World) (gl k1 k2 k3 k4 : Nat) (lv va di wh : Value) (W : World) : Prop where
  r2 : W.heap[w.heap.size]? = some (.cells #[.string ⟨#[97]⟩, .int .i64 1, .bool false] 54 (0, 0))
  ex : ExL W gl
  bl : Below w.heap.size w W
  hl : gl < w.heap.size
  o1 : ∃ xs, W.ownsRow w.heap.size 3 1 lv k1 xs
  o2 : W.ownsRow w.heap.size 57 3 va k2 ((c1V ++ c2V).take (3 * k2))
  o3 : W.ownsRow w.heap.size 57 3 di k3 (c1V.take (3 * k3))
  o4 : ∃ xs, W.ownsRow w.heap.size 3 1 wh k4 xs
  d1 : ∀ x, lv.ownBlock = some x → wh.ownBlock ≠ some x
  d2 : ∀ x, va.ownBlock = some x → di.ownBlock ≠ some x

section
variable {w : World} {gl k1 k2 k3 k4 : Nat} {lv va di wh : Value} {W w1 : World}
theorem PE.below (h : PE w gl k1 k2 k3 k4 lv va di wh W) (hb : Below W.heap.size W w1) : PE w gl k1 k2 k3 k4 lv va di wh w1 := by
  obtain ⟨x1, hx1⟩ := h.o1
  obtain ⟨x4, hx4⟩ := h.o4
  exact ⟨by rw [hb.block _ (Array.getElem?_eq_some_iff.1 h.r2).1]; exact h.r2, h.ex.below hb, h.bl.trans (hb.mono h.bl.size), h.hl, ⟨x1, own_below hx1 hb⟩, own_below h.o2 hb, own_below h.o3 hb, ⟨x4, own_below hx4 hb⟩, h.d1, h.d2⟩

/-- what a push of one list leaves of the rest -/
theorem PE.rest {o : Obj} {row : Option Nat} (h : PE w gl k1 k2 k3 k4 lv va di wh W) (hg : (W.alloc o).grownBy w1 row) (hr : ∀ k, row = some k → w.heap.size ≤ k ∧ (Ty W k 3 ∨ Ty W k 57)) :
    w1.heap[w.heap.size]? = some (.cells #[.string ⟨#[97]⟩, .int .i64 1, .bool false] 54 (0, 0)) ∧ ExL w1 gl ∧ Below w.heap.size w w1 := by
  have t2 : Ty W w.heap.size 54 := ⟨_, h.r2⟩
  have hg2 : gl < W.heap.size := Nat.lt_of_lt_of_le h.hl h.bl.size
  refine ⟨?_, ?_, ?_⟩
  · rw [agree_step hg t2.lt (fun e => by
      rcases (hr _ e).2 with t | t
      · exact Ty.ne t2 t (by decide) rfl
      · exact Ty.ne t2 t (by decide) rfl)]
    exact h.r2
  · unfold ExL
    rw [agree_step hg hg2 (fun e => by have := (hr _ e).1; have := h.hl; omega)]
    exact h.ex
  · exact below_append h.bl (Nat.le_refl _) hg (fun k e => (hr k e).1)

theorem PE.lvl {o : Obj} {v' : Value} {y : Value} (h : PE w gl k1 k2 k3 k4 lv va di wh W) {xs : List Value} (hx : W.ownsRow w.heap.size 3 1 lv k1 xs) (ho : w1.ownsRow w.heap.size 3 1 v' (k1 + 1) (xs ++ [y])) (hg : (W.alloc o).grownBy w1 lv.ownBlock) (ha : v'.ownBlock = lv.ownBlock ∨ v'.ownBlock = some (W.heap.size + 1)) : PE w gl (k1 + 1) k2 k3 k4 v' va di wh w1 := by
  obtain ⟨r1, r2, r3⟩ := h.rest hg (fun k e => ⟨(hx.lt k e).1, .inl (own_tyS hx e)⟩)
  obtain ⟨x4, hx4⟩ := h.o4
  refine ⟨r1, r2, r3, h.hl, ⟨_, ho⟩, own_other h.o2 hg (fun k hk e => Ty.ne (own_tyS hx e) (own_tyS h.o2 hk) (by decide) rfl), own_other h.o3 hg (fun k hk e => Ty.ne (own_tyS hx e) (own_tyS h.o3 hk) (by decide) rfl), ⟨x4, own_other hx4 hg (fun k hk e => h.d1 k e hk)⟩, fun x hv hw => ?_, h.d2⟩
  rcases ha with ha | ha
  · rw [ha] at hv; exact h.d1 x hv hw
  · rw [ha] at hv
    simp only [Option.some.injEq] at hv
    have := (own_tyS hx4 hw).lt
    omega
theorem PE.whi {o : Obj} {v' : Value} {y : Value} (h : PE w gl k1 k2 k3 k4 lv va di wh W) {xs : List Value} (hx : W.ownsRow w.heap.size 3 1 wh k4 xs) (ho : w1.ownsRow w.heap.size 3 1 v' (k4 + 1) (xs ++ [y])) (hg : (W.alloc o).grownBy w1 wh.ownBlock) (ha : v'.ownBlock = wh.ownBlock ∨ v'.ownBlock = some (W.heap.size + 1)) : PE w gl k1 k2 k3 (k4 + 1) lv va di v' w1 := by
  obtain ⟨r1, r2, r3⟩ := h.rest hg (fun k e => ⟨(hx.lt k e).1, .inl (own_tyS hx e)⟩)
  obtain ⟨x1, hx1⟩ := h.o1
  refine ⟨r1, r2, r3, h.hl, ⟨x1, own_other hx1 hg (fun k hk e => h.d1 k hk e)⟩, own_other h.o2 hg (fun k hk e => Ty.ne (own_tyS hx e) (own_tyS h.o2 hk) (by decide) rfl), own_other h.o3 hg (fun k hk e => Ty.ne (own_tyS hx e) (own_tyS h.o3 hk) (by decide) rfl), ⟨_, ho⟩, fun x hv hw => ?_, h.d2⟩
  rcases ha with ha | ha
  · rw [ha] at hw; exact h.d1 x hv hw
  · rw [ha] at hw
    simp only [Option.some.injEq] at hw
    have := (own_tyS hx1 hv).lt
    omega
theorem PE.val {o : Obj} {v' : Value} (h : PE w gl k1 k2 k3 k4 lv va di wh W) (ho : w1.ownsRow w.heap.size 57 3 v' (k2 + 1) ((c1V ++ c2V).take (3 * (k2 + 1)))) (hg : (W.alloc o).grownBy w1 va.ownBlock) (ha : v'.ownBlock = va.ownBlock ∨ v'.ownBlock = some (W.heap.size + 1)) : PE w gl k1 (k2 + 1) k3 k4 lv v' di wh w1 := by
  obtain ⟨r1, r2, r3⟩ := h.rest hg (fun k e => ⟨(h.o2.lt k e).1, .inr (own_tyS h.o2 e)⟩)
  obtain ⟨x1, hx1⟩ := h.o1
  obtain ⟨x4, hx4⟩ := h.o4
  refine ⟨r1, r2, r3, h.hl, ⟨x1, own_other hx1 hg (fun k hk e => Ty.ne (own_tyS h.o2 e) (own_tyS hx1 hk) (by decide) rfl)⟩, ho, own_other h.o3 hg (fun k hk e => h.d2 k e hk), ⟨x4, own_other hx4 hg (fun k hk e => Ty.ne (own_tyS h.o2 e) (own_tyS hx4 hk) (by decide) rfl)⟩, h.d1, fun x hv hw => ?_⟩
  rcases ha with ha | ha
  · rw [ha] at hv; exact h.d2 x hv hw
  · rw [ha] at hv
    simp only [Option.some.injEq] at hv
    have := (own_tyS h.o3 hw).lt
    omega
theorem PE.dic {o : Obj} {v' : Value} (h : PE w gl k1 k2 k3 k4 lv va di wh W) (ho : w1.ownsRow w.heap.size 57 3 v' (k3 + 1) (c1V.take (3 * (k3 + 1)))) (hg : (W.alloc o).grownBy w1 di.ownBlock) (ha : v'.ownBlock = di.ownBlock ∨ v'.ownBlock = some (W.heap.size + 1)) : PE w gl k1 k2 (k3 + 1) k4 lv va v' wh w1 := by
  obtain ⟨r1, r2, r3⟩ := h.rest hg (fun k e => ⟨(h.o3.lt k e).1, .inr (own_tyS h.o3 e)⟩)
  obtain ⟨x1, hx1⟩ := h.o1
  obtain ⟨x4, hx4⟩ := h.o4
  refine ⟨r1, r2, r3, h.hl, ⟨x1, own_other hx1 hg (fun k hk e => Ty.ne (own_tyS h.o3 e) (own_tyS hx1 hk) (by decide) rfl)⟩, own_other h.o2 hg (fun k hk e => h.d2 k hk e), ho, ⟨x4, own_other hx4 hg (fun k hk e => Ty.ne (own_tyS h.o3 e) (own_tyS hx4 hk) (by decide) rfl)⟩, h.d1, fun x hv hw => ?_⟩
  rcases ha with ha | ha
  · rw [ha] at hw; exact h.d2 x hv hw
  · rw [ha] at hw
    simp only [Option.some.injEq] at hw
    have := (own_tyS h.o2 hv).lt
    omega
end
end Go.Proofs.YtjobhlncllfdmaaGreat

/- strataref.pages of the document's cells: the walk. -/
namespace Go.Proofs.YtjobhlncllfdmaaGreat
open Go.RowKit

set_option maxHeartbeats 8000000 in
set_option maxRecDepth 100000 in
theorem pages_ex (gl cap : Nat) (tp : ByteArray) (w : World) (h : ExL w gl) (PG : Hid (∀ W : World, Calls Tryz.prog 28 #[.int .i64 0, .int .i64 2, .string ⟨exVals.toArray⟩] W fun e w' => e = .returned (.string tp) ∧ Below W.heap.size W w')) (_hcap : 2 ≤ cap) (_hcm : cap ≤ 9223372036854775807) :
    Calls Tryz.prog 15 #[.agg #[.string ⟨#[97]⟩, .int .i64 1, .bool false], .slice (some ⟨gl, 0, none⟩) 2 cap] w fun e w' => e = .returned (.tuple #[.string tp, .int .i64 1]) ∧ Below w.heap.size w w' := by
  obtain ⟨tv, htv⟩ : ∃ tv : ByteArray, tv = ⟨exVals.toArray⟩ := ⟨_, rfl⟩
  rw [← htv] at PG
  have hz : tv.size = 16 := by rw [htv, ← len_data]; simp [exVals, length_leB]
  have hem : (⟨#[]⟩ : ByteArray) ++ tv = tv := bytes_ext (by simp)
  have VX : Hid (∀ (g c : Nat) (W : World), TwoC W g → Calls Tryz.prog 29 #[.int .i64 1, .slice (some ⟨g, 0, none⟩) 2 c] W fun e w' => e = .returned (.string tv) ∧ Below W.heap.size W w') := fun g c W hh => by rw [htv]; exact values_ex g c W hh
  have H0 : Hid (PE w gl 0 0 0 0 (.slice none 0 0) (.slice none 0 0) (.slice none 0 0) (.slice none 0 0) (w.alloc (.cells #[.string ⟨#[97]⟩, .int .i64 1, .bool false] 54))) := ⟨heap_alloc_new w _, h.below (bbox w _), bbox w _, (Array.getElem?_eq_some_iff.1 h).1, ⟨[], World.ownsRow_nil _ _ _ _⟩, World.ownsRow_nil _ _ _ _, World.ownsRow_nil _ _ _ _, ⟨[], World.ownsRow_nil _ _ _ _⟩, fun x hx => (by cases hx), fun x hx => (by cases hx)⟩
  obtain ⟨i3, hi3, y0, y1, y2⟩ := info_parts Tryz.info3
  obtain ⟨i5, hi5, v0, v1, v2⟩ := info_parts Tryz.info57
  clear h htv
  go_enter Tryz.func15, Tryz.ntmps15
  go_wp2
  go_loopw [6, 7, 8, 9, 10] (fun s6 s7 s8 s9 i wr => ∃ k : Nat, k ≤ 2 ∧ i = .int .i64 k ∧ Hid (PE w gl k k (min k 1) k s6 s7 s8 s9 wr)) (fun _ _ _ _ i _ => 2 - (intOf i).toNat)
  case atStart => exact ⟨0, Nat.zero_le _, rfl, H0⟩
  case round =>
    clear H0
    obtain ⟨k, hk, rfl, HE⟩ := hrel
    obtain ⟨b0, b1, b2, b3, b4, b5⟩ := HE.out.ex.cells
    obtain ⟨x1, o1⟩ := HE.out.o1
    obtain ⟨a1, c1, rfl⟩ := slen_of o1
    obtain ⟨a2, c2, rfl⟩ := slen_of HE.out.o2
    obtain ⟨a3, c3, rfl⟩ := slen_of HE.out.o3
    obtain ⟨x4, o4⟩ := HE.out.o4
    obtain ⟨a4, c4, rfl⟩ := slen_of o4
    clear o4
    by_cases hk2 : k < 2
    · rcases (show k = 0 ∨ k = 1 by omega) with rfl | rfl
      · go_wp2_with (first
          | (at_builtin; refine wpList_append_own_at _ rfl _ _ 27 rfl w.heap.size 3 i3 (.int .i64 0) 1 8 Tryz.underlying27 hi3 y0 y1 y2 rfl (by decide) _ _ _ rfl (o1.alloc _) ⟨_, 0, none⟩ 1 1 [.int .i64 1] rfl rfl ?c1 ?c2 ?c3 ?c4 ?c5 ?_)
          | go_in)
        case c1 => exact one_new rfl
        case c2 => exact one_cell
        case c3 => unfold maxLen; omega
        case c4 => omega
        case c5 => rw [size_alloc']; have := HE.out.bl.size; omega
        intro v1' w1 hown hg _ hat
        have HE1 : Hid (PE w gl 1 0 0 0 v1' (.slice a2 0 c2) (.slice a3 0 c3) (.slice a4 0 c4) w1) := HE.out.lvl o1 hown hg hat
        obtain ⟨b0, b1, b2, b3, b4, b5⟩ := HE1.out.ex.cells
        have q2 := HE1.out.o2
        clear hown hg hat o1 HE
        go_wp2_with (first
          | (at_builtin; refine wpList_append_own_at _ rfl _ _ 47 rfl w.heap.size 57 i5 (.agg #[.bool false, .int .i64 0, .string ByteArray.empty]) 3 32 Tryz.underlying47 hi5 v0 v1 v2 rfl (by decide) _ _ _ rfl (q2.alloc _) ⟨_, 0, none⟩ 1 1 [.bool false, .int .i64 1, .string ⟨#[]⟩] rfl rfl ?c1 ?c2 ?c3 ?c4 ?c5 ?_)
          | go_in)
        case c1 => exact three_new rfl
        case c2 => exact cl_cells
        case c3 => unfold maxLen; omega
        case c4 => omega
        case c5 => rw [size_alloc']; have := HE1.out.bl.size; omega
        intro v2' w2 hown hg _ hat
        have HE2 : Hid (PE w gl 1 1 0 0 v1' v2' (.slice a3 0 c3) (.slice a4 0 c4) w2) := HE1.out.val hown hg hat
        clear hown hg hat q2 HE1 b0 b1 b2 b3 b4 b5
        obtain ⟨x1', p1⟩ := HE2.out.o1
        obtain ⟨e1, f1, rfl⟩ := slen_of p1
        have p2 := HE2.out.o2
        obtain ⟨e2, f2, rfl⟩ := slen_of p2
        clear p1 p2
        go_wp2
        go_loopw [11] (fun i wr => i = .int .i64 0 ∧ wr = w2) (fun _ _ => 0)
        case atStart => exact ⟨rfl, rfl⟩
        case round =>
          obtain ⟨rfl, hwr⟩ := hrel
          subst hwr
          go_wp2
          go_quiet (fail)
          obtain ⟨w5, hw5⟩ : ∃ w5, w5 = wr.drewN nq := ⟨_, rfl⟩
          rw [← hw5]
          have HE5 : Hid (PE w gl 1 1 0 0 (.slice e1 1 f1) (.slice e2 1 f2) (.slice a3 0 c3) (.slice a4 0 c4) w5) := by rw [hw5]; exact HE2.out.below (below_drewN (Below.refl _ _) nq)
          clear hw5 HE2
          obtain ⟨b0, b1, b2, b3, b4, b5⟩ := HE5.out.ex.cells
          have q3 := HE5.out.o3
          go_wp2_with (first
            | (at_builtin; refine wpList_append_own_at _ rfl _ _ 47 rfl w.heap.size 57 i5 (.agg #[.bool false, .int .i64 0, .string ByteArray.empty]) 3 32 Tryz.underlying47 hi5 v0 v1 v2 rfl (by decide) _ _ _ rfl (q3.alloc _) ⟨_, 0, none⟩ 1 1 [.bool false, .int .i64 1, .string ⟨#[]⟩] rfl rfl ?c1 ?c2 ?c3 ?c4 ?c5 ?_)
            | go_in)
          case c1 => exact three_new rfl
          case c2 => exact cl_cells
          case c3 => unfold maxLen; omega
          case c4 => omega
          case c5 => rw [size_alloc']; have := HE5.out.bl.size; omega
          intro v3' w6 hown hg _ hat
          have HE6 : Hid (PE w gl 1 1 1 0 (.slice e1 1 f1) (.slice e2 1 f2) v3' (.slice a4 0 c4) w6) := HE5.out.dic hown hg hat
          obtain ⟨x4', p4⟩ := HE6.out.o4
          clear hown hg hat q3 HE5 b0 b1 b2 b3 b4 b5
          go_wp2_with (first
            | (at_builtin; refine wpList_append_own_at _ rfl _ _ 27 rfl w.heap.size 3 i3 (.int .i64 0) 1 8 Tryz.underlying27 hi3 y0 y1 y2 rfl (by decide) _ _ _ rfl (p4.alloc _) ⟨_, 0, none⟩ 1 1 [.int .i64 0] rfl rfl ?c1 ?c2 ?c3 ?c4 ?c5 ?_)
            | go_in)
          case c1 => exact one_new rfl
          case c2 => exact one_cell
          case c3 => unfold maxLen; omega
          case c4 => omega
          case c5 => rw [size_alloc']; have := HE6.out.bl.size; omega
          intro v4' w7 hown hg _ hat
          have HE7 : Hid (PE w gl 1 1 1 1 (.slice e1 1 f1) (.slice e2 1 f2) v3' v4' w7) := HE6.out.whi p4 hown hg hat
          clear hown hg hat p4 HE6
          go_wp2
          go_roundw
          case rel => exact ⟨1, by omega, by go_num, HE7⟩
          case measure => simp [intOf]
      · go_wp2_with (first
          | (at_builtin; refine wpList_append_own_at _ rfl _ _ 27 rfl w.heap.size 3 i3 (.int .i64 0) 1 8 Tryz.underlying27 hi3 y0 y1 y2 rfl (by decide) _ _ _ rfl (o1.alloc _) ⟨_, 0, none⟩ 1 1 [.int .i64 1] rfl rfl ?c1 ?c2 ?c3 ?c4 ?c5 ?_)
          | go_in)
        case c1 => exact one_new rfl
        case c2 => exact one_cell
        case c3 => unfold maxLen; omega
        case c4 => omega
        case c5 => rw [size_alloc']; have := HE.out.bl.size; omega
        intro v1' w1 hown hg _ hat
        have HE1 : Hid (PE w gl 2 1 1 1 v1' (.slice a2 1 c2) (.slice a3 1 c3) (.slice a4 1 c4) w1) := HE.out.lvl o1 hown hg hat
        obtain ⟨b0, b1, b2, b3, b4, b5⟩ := HE1.out.ex.cells
        have q2 := HE1.out.o2
        clear hown hg hat o1 HE
        go_wp2_with (first
          | (at_builtin; refine wpList_append_own_at _ rfl _ _ 47 rfl w.heap.size 57 i5 (.agg #[.bool false, .int .i64 0, .string ByteArray.empty]) 3 32 Tryz.underlying47 hi5 v0 v1 v2 rfl (by decide) _ _ _ rfl (q2.alloc _) ⟨_, 0, none⟩ 1 1 [.bool false, .int .i64 2, .string ⟨#[]⟩] rfl rfl ?c1 ?c2 ?c3 ?c4 ?c5 ?_)
          | go_in)
        case c1 => exact three_new rfl
        case c2 => exact cl_cells
        case c3 => unfold maxLen; omega
        case c4 => omega
        case c5 => rw [size_alloc']; have := HE1.out.bl.size; omega
        intro v2' w2 hown hg _ hat
        have HE2 : Hid (PE w gl 2 2 1 1 v1' v2' (.slice a3 1 c3) (.slice a4 1 c4) w2) := HE1.out.val hown hg hat
        clear hown hg hat q2 HE1 b0 b1 b2 b3 b4 b5
        obtain ⟨x1', p1⟩ := HE2.out.o1
        obtain ⟨e1, f1, rfl⟩ := slen_of p1
        have p2 := HE2.out.o2
        obtain ⟨e2, f2, rfl⟩ := slen_of p2
        clear p1 p2
        go_wp2
        go_loopw [11] (fun i wr => i = .int .i64 0 ∧ wr = w2) (fun _ _ => 0)
        case atStart => exact ⟨rfl, rfl⟩
        case round =>
          obtain ⟨rfl, hwr⟩ := hrel
          subst hwr
          have o3' := HE2.out.o3
          obtain ⟨gd, cd, he, _, _⟩ := o3'.form (by omega)
          simp only [Value.slice.injEq] at he
          obtain ⟨rfl, _, rfl⟩ := he
          have dd : wr.cell? ⟨gd, 2, none⟩ = some (.string ⟨#[]⟩) := by rw [o3'.cellAt 2 (by decide)]; rfl
          obtain ⟨b0, b1, b2, b3, b4, b5⟩ := HE2.out.ex.cells
          go_wp2
          go_quiet (fail)
          obtain ⟨w5, hw5⟩ : ∃ w5, w5 = wr.drewN nq := ⟨_, rfl⟩
          rw [← hw5]
          have HE5 : Hid (PE w gl 2 2 1 1 (.slice e1 2 f1) (.slice e2 2 f2) (.slice (some ⟨gd, 0, none⟩) 1 c3) (.slice a4 1 c4) w5) := by rw [hw5]; exact HE2.out.below (below_drewN (Below.refl _ _) nq)
          clear hw5 HE2 dd o3' b0 b1 b2 b3 b4 b5
          obtain ⟨b0, b1, b2, b3, b4, b5⟩ := HE5.out.ex.cells
          have q3 := HE5.out.o3
          obtain ⟨x4', p4⟩ := HE5.out.o4
          go_wp2_with (first
            | (at_builtin; refine wpList_append_own_at _ rfl _ _ 27 rfl w.heap.size 3 i3 (.int .i64 0) 1 8 Tryz.underlying27 hi3 y0 y1 y2 rfl (by decide) _ _ _ rfl (p4.alloc _) ⟨_, 0, none⟩ 1 1 [.int .i64 0] rfl rfl ?c1 ?c2 ?c3 ?c4 ?c5 ?_)
            | go_in)
          case c1 => exact one_new rfl
          case c2 => exact one_cell
          case c3 => unfold maxLen; omega
          case c4 => omega
          case c5 => rw [size_alloc']; have := HE5.out.bl.size; omega
          intro v4' w7 hown hg _ hat
          have HE7 : Hid (PE w gl 2 2 1 2 (.slice e1 2 f1) (.slice e2 2 f2) (.slice (some ⟨gd, 0, none⟩) 1 c3) v4' w7) := HE5.out.whi p4 hown hg hat
          clear hown hg hat p4 HE5
          go_wp2
          go_roundw
          case rel => exact ⟨2, by omega, by go_num, HE7⟩
          case measure => simp [intOf]
    · obtain rfl : k = 2 := by omega
      have q2 := HE.out.o2
      obtain ⟨gv, cv, he, _, _⟩ := q2.form (by omega)
      simp only [Value.slice.injEq] at he
      obtain ⟨rfl, _, rfl⟩ := he
      have T2 : Hid (TwoC wr gv) := ⟨(own_tyS q2 rfl).lt, by rw [q2.cellAt 1 (by decide)]; rfl, by rw [q2.cellAt 4 (by decide)]; rfl⟩
      have r0 : wr.cell? ⟨w.heap.size, 1, none⟩ = some (.int .i64 1) := by rw [cell_of_row _ _ 1 _ _ _ HE.out.r2]; rfl
      have r1 : wr.cell? ⟨w.heap.size, 2, none⟩ = some (.bool false) := by rw [cell_of_row _ _ 2 _ _ _ HE.out.r2]; rfl
      have HB : Hid (Below w.heap.size w wr) := HE.out.bl
      clear q2 o1 HE b0 b1 b2 b3 b4 b5
      go_wp2_with fail
      refine (VX.out gv c2 _ T2.out).mono ?_
      rintro e w2 ⟨rfl, hb2⟩
      go_wp2_with fail
      refine (PG.out _).mono ?_
      rintro e w3 ⟨rfl, hb3⟩
      go_wp2
      go_ret2
      exact ⟨rfl, (HB.out.trans (hb2.mono HB.out.size)).trans (hb3.mono (Nat.le_trans HB.out.size hb2.size))⟩
end Go.Proofs.YtjobhlncllfdmaaGreat
