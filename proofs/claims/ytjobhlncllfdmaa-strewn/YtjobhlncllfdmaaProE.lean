/- The state of the program's reader of runs; contract of equal. -/
import Derived.Test.YtjobhlncllfdmaaProD
import Derived.Deep.RegionWith
namespace Go.Proofs.Ytjobhlncllfdmaa
open Go.RowKit

/-- the reader in block R: what is left, the width, the count, the numbers -/
def Blk (w : World) (R : Nat) (r : Value) (W C : Nat) (v : Value) : Prop :=
  w.heap[R]? = some (.cells #[r, .int .i64 W, .int .i64 C, v] 90 (0, 0))

theorem Blk.c0 {w : World} {R : Nat} {r v : Value} {W C : Nat} (h : Blk w R r W C v) : w.cell? ⟨R, 0, none⟩ = some r := by rw [cell_of_row w R 0 _ _ _ h]; rfl
theorem Blk.c1 {w : World} {R : Nat} {r v : Value} {W C : Nat} (h : Blk w R r W C v) : w.cell? ⟨R, 1, none⟩ = some (.int .i64 W) := by rw [cell_of_row w R 1 _ _ _ h]; rfl
theorem Blk.c2 {w : World} {R : Nat} {r v : Value} {W C : Nat} (h : Blk w R r W C v) : w.cell? ⟨R, 2, none⟩ = some (.int .i64 C) := by rw [cell_of_row w R 2 _ _ _ h]; rfl
theorem Blk.c3 {w : World} {R : Nat} {r v : Value} {W C : Nat} (h : Blk w R r W C v) : w.cell? ⟨R, 3, none⟩ = some v := by rw [cell_of_row w R 3 _ _ _ h]; rfl
theorem Blk.fz {w : World} {R : Nat} {r v : Value} {W C : Nat} (h : Blk w R r W C v) (j : Nat) : w.frozen? ⟨R, j, none⟩ = false := frozen_of_row w R j _ _ h
theorem Blk.lt {w : World} {R : Nat} {r v : Value} {W C : Nat} (h : Blk w R r W C v) : R < w.heap.size := (Array.getElem?_eq_some_iff.1 h).1
theorem Blk.set0 {w : World} {R : Nat} {r v : Value} {W C : Nat} (h : Blk w R r W C v) (u : Value) : Blk (w.setCell ⟨R, 0, none⟩ u) R u W C v := by
  unfold Blk; rw [heap_setCell_same w R 0 _ _ u h]; rfl
theorem Blk.set3 {w : World} {R : Nat} {r v : Value} {W C : Nat} (h : Blk w R r W C v) (u : Value) : Blk (w.setCell ⟨R, 3, none⟩ u) R r W C u := by
  unfold Blk; rw [heap_setCell_same w R 3 _ _ u h]; rfl
theorem Blk.kept {w w' : World} {R : Nat} {r v : Value} {W C : Nat} (h : Blk w R r W C v) (hw : w'.heap[R]? = w.heap[R]?) : Blk w' R r W C v := by
  unfold Blk; rw [hw]; exact h

/-- the whole state: at place a of D, the numbers xs gathered -/
def RSt (w : World) (R lb B : Nat) (D : List UInt8) (W C a : Nat) (xs : List Nat) : Prop :=
  ∃ ao cap v, Blk w R (.slice ao (D.length - a) cap) W C v ∧ a ≤ D.length ∧ Rest w lb ao cap (D.drop a) ∧ w.ownsRow B 3 1 v xs.length (ints xs) ∧ v.ownBlock ≠ some R ∧ lb < B ∧ B ≤ R

theorem ownsRow_set_other {w : World} {base : Nat} {e : TypeId} {size : Nat} {v : Value} {n : Nat} {xs : List Value} (h : w.ownsRow base e size v n xs) {R j : Nat} (hv : v.ownBlock ≠ some R) (u : Value) :
    (w.setCell ⟨R, j, none⟩ u).ownsRow base e size v n xs := by
  refine h.kept (row := some R) ⟨rfl, rfl, rfl, by simp, fun k _ hk => heap_setCell_other w _ k u (fun e => hk (by rw [e]))⟩ (Or.inr hv)

theorem RSt.drewN {w : World} {R lb B : Nat} {D : List UInt8} {W C a : Nat} {xs : List Nat} (h : RSt w R lb B D W C a xs) (q : Nat) : RSt (w.drewN q) R lb B D W C a xs := h

theorem RSt.lt {w : World} {R lb B : Nat} {D : List UInt8} {W C a : Nat} {xs : List Nat} (h : RSt w R lb B D W C a xs) : R < w.heap.size := by
  obtain ⟨_, _, _, hb, _⟩ := h; exact hb.lt

/-- n bytes further -/
theorem RSt.skip {w : World} {R lb B : Nat} {D : List UInt8} {W C a n : Nat} {xs : List Nat} {ao : Option Addr} {cap : Nat} {v : Value}
    (hb : Blk w R (.slice ao (D.length - a) cap) W C v) (ha : a + n ≤ D.length) (hr : Rest w lb ao cap (D.drop a)) (ho : w.ownsRow B 3 1 v xs.length (ints xs)) (hv : v.ownBlock ≠ some R) (hl : lb < B) (hB : B ≤ R) :
    RSt (w.setCell ⟨R, 0, none⟩ (.slice (cutA ao cap n) (D.length - a - n) (cap - n))) R lb B D W C (a + n) xs := by
  have hr2 := hr.drop n (by simp; omega)
  rw [List.drop_drop] at hr2
  exact ⟨cutA ao cap n, cap - n, v, by rw [show D.length - (a + n) = D.length - a - n by omega]; exact hb.set0 _, ha, hr2.kept (heap_setCell_other w _ _ _ (by simp only []; omega)), ownsRow_set_other ho hv _, hv, hl, hB⟩

theorem own_ne {w : World} {R B n : Nat} {r v u : Value} {W C : Nat} {xs : List Value} (h : w.ownsRow B 3 1 v n xs) (hb : Blk w R r W C u) : v.ownBlock ≠ some R := by
  rcases h.2 with ⟨rfl, _⟩ | ⟨g, cap, cur, rfl, _, hg, _⟩
  · simp [Value.ownBlock]
  · intro e
    simp only [Value.ownBlock, Option.some.injEq] at e
    subst e
    rw [hb] at hg
    simp at hg

/-- one number more: behind the append and the store -/
theorem RSt.push {w w1 : World} {R lb B : Nat} {D : List UInt8} {W C a x : Nat} {xs : List Nat} {ao : Option Addr} {cap : Nat} {v v' : Value} {o : Obj}
    (hb : Blk w R (.slice ao (D.length - a) cap) W C v) (ha : a ≤ D.length) (hr : Rest w lb ao cap (D.drop a)) (ho : w.ownsRow B 3 1 v xs.length (ints xs)) (hl : lb < B) (hB : B ≤ R)
    (hg : (w.alloc o).grownBy w1 v.ownBlock) (ho' : w1.ownsRow B 3 1 v' (xs.length + 1) (ints xs ++ [.int .i64 x])) :
    Blk w1 R (.slice ao (D.length - a) cap) W C v ∧ RSt (w1.setCell ⟨R, 3, none⟩ v') R lb B D W C a (xs ++ [x]) := by
  have hlt := hb.lt
  have hR : w1.heap[R]? = w.heap[R]? := by
    rw [hg.block R (by rw [size_alloc']; omega) (fun e => own_ne ho hb e.symm)]
    exact Below.heap_alloc w o R hlt
  have hlbR : w1.heap[lb]? = w.heap[lb]? := by
    have : lb < w.heap.size := by omega
    rw [hg.block lb (by rw [size_alloc']; omega) (fun e => by have := (ho.lt lb e.symm).1; omega)]
    exact Below.heap_alloc w o lb this
  have hb1 := hb.kept hR
  refine ⟨hb1, ao, cap, v', hb1.set3 v', ha, (hr.kept hlbR).kept (heap_setCell_other w1 _ _ _ (by simp only []; omega)), ?_, own_ne ho' hb1, hl, hB⟩
  rw [ints_snoc] at ho'
  have : (xs ++ [x]).length = xs.length + 1 := by simp
  rw [this]
  exact ownsRow_set_other ho' (own_ne ho' hb1) _

theorem below_push {w w0 w1 : World} {R B n : Nat} {v v' : Value} {o : Obj} {xs : List Value} (hbel : Below B w0 w) (hB : B ≤ w.heap.size) (hR : B ≤ R) (ho : w.ownsRow B 3 1 v n xs) (hg : (w.alloc o).grownBy w1 v.ownBlock) : Below B w0 (w1.setCell ⟨R, 3, none⟩ v') :=
  ((hbel.alloc hB o).grown hg (by rw [size_alloc']; omega) (fun k e => (ho.lt k e).1)).setCell hR v'

theorem wrap7 (W : Nat) (hW : W ≤ 24) : IntKind.i64.wrap ((IntKind.i64.wrap ((W : Int) + 7)).tdiv 8) = (((W + 7) / 8 : Nat) : Int) := by
  rw [IntWalk.i64_in ((W : Int) + 7) (by omega), IntWalk.i64_quo _ _ (by omega)]; omega

theorem lo_none {D : List UInt8} {a n : Nat} (h : Pu.lo D a n = none) : D.length < a + n := by
  unfold Pu.lo at h; split at h
  · cases h
  · omega
theorem lo_some {D : List UInt8} {a n x : Nat} (h : Pu.lo D a n = some x) : a + n ≤ D.length ∧ x = Pu.le ((D.drop a).take n) := by
  unfold Pu.lo at h; split at h
  · simp only [Option.some.injEq] at h
    exact ⟨by assumption, h.symm⟩
  · cases h

theorem shr_ne (x W : Nat) (h : 2 ^ W ≤ x) : ((x : Int) / 2 ^ W != 0) = true := by
  have e : (x : Int) / 2 ^ W = ((x / 2 ^ W : Nat) : Int) := by simp
  have : 0 < x / 2 ^ W := Nat.div_pos h (Nat.two_pow_pos W)
  rw [e, bne_iff_ne]; omega
theorem shr_eq (x W : Nat) (h : x < 2 ^ W) : ((x : Int) / 2 ^ W != 0) = false := by
  have e : (x : Int) / 2 ^ W = ((x / 2 ^ W : Nat) : Int) := by simp
  rw [e, Nat.div_eq_of_lt h]; rfl

set_option maxHeartbeats 1000000 in
set_option maxRecDepth 100000 in
theorem equal_no (R lb B : Nat) (D : List UInt8) (W C a n : Nat) (xs : List Nat) (w : World) (h : RSt w R lb B D W C a xs) (hW : W ≤ 24) (hl : Pu.lo D a ((W + 7) / 8) = none) :
    Calls Try.prog 63 #[.pointer (some ⟨R, 0, none⟩), .int .i64 n] w fun e w' => e = .returned (.bool false) ∧ Below B w w' := by
  obtain ⟨ao, cap, v, hb, ha, hr, ho, hv, hlb, hB⟩ := h
  have hlen := lo_none hl
  have Hr : Hid (Rest w lb ao cap (D.drop a)) := hr
  have c0 := hb.c0
  have C0 : Hid (w.cell? ⟨R, 0, none⟩ = some (.slice ao (D.drop a).length cap)) := by rw [Hid, List.length_drop]; exact c0
  have c1 := hb.c1
  have Hl : Hid ((D.drop a).length < (W + 7) / 8) := by rw [Hid, List.length_drop]; omega
  have E7 : Hid _ := wrap7 W hW
  clear hr hl
  go_enter Try.func63, Try.ntmps63
  go_wp2
  go_region_with (go_at_call 78; rw [E7.out]; refine (number_no R 0 ((W + 7) / 8) lb ao cap (D.drop a) w.drew Hr.out C0.out (by omega) Hl.out).mono ?_; rintro e w' ⟨rfl, rfl⟩)
  all_goals
    go_wp2
    go_ret
    exact ⟨rfl, (Below.refl _ _).drew⟩

set_option maxHeartbeats 1000000 in
set_option maxRecDepth 100000 in
theorem equal_bad (R lb B : Nat) (D : List UInt8) (W C a n x : Nat) (xs : List Nat) (w : World) (h : RSt w R lb B D W C a xs) (hW : W ≤ 24) (hC : C ≤ 100000) (hx : xs.length ≤ C) (hl : Pu.lo D a ((W + 7) / 8) = some x) (_hn : n ≤ 2147483648) (hbad : 2 ^ W ≤ x ∨ C - xs.length < n) :
    Calls Try.prog 63 #[.pointer (some ⟨R, 0, none⟩), .int .i64 n] w fun e w' => e = .returned (.bool false) ∧ Below B w w' := by
  obtain ⟨ao, cap, v, hb, ha, hr, ho, hv, hlb, hB⟩ := h
  obtain ⟨hlen, hxe⟩ := lo_some hl
  have Hr : Hid (Rest w lb ao cap (D.drop a)) := hr
  have c0 := hb.c0
  have C0 : Hid (w.cell? ⟨R, 0, none⟩ = some (.slice ao (D.drop a).length cap)) := by rw [Hid, List.length_drop]; exact c0
  have c1 := hb.c1
  have Hl : Hid ((W + 7) / 8 ≤ (D.drop a).length) := by rw [Hid, List.length_drop]; omega
  have E7 : Hid _ := wrap7 W hW
  have f0 := hb.fz 0
  have Hx : Hid (Pu.le ((D.drop a).take ((W + 7) / 8)) = x) := hxe.symm
  clear hr hl hxe
  go_enter Try.func63, Try.ntmps63
  go_wp2
  go_region_with (go_at_call 78; rw [E7.out]; refine (number_yes R 0 ((W + 7) / 8) lb ao cap (D.drop a) w.drew Hr.out C0.out f0 (by omega) (by omega) Hl.out).mono ?_; rintro e w' ⟨rfl, rfl⟩; rw [Hx.out])
  by_cases hA : 2 ^ W ≤ x
  · have hsh : ((x : Int) / 2 ^ W != 0) = true := shr_ne x W hA
    go_wp2
    go_ret
    exact ⟨rfl, ((Below.refl _ _).setCell hB _).drew⟩
  · have hsh : ((x : Int) / 2 ^ W != 0) = false := shr_eq x W (by omega)
    have hbn : C - xs.length < n := by omega
    obtain ⟨ao3, cap3, rfl⟩ := slen_of ho
    have hb1 := hb.set0 (.slice (cutA ao cap ((W + 7) / 8)) (D.length - a - (W + 7) / 8) (cap - (W + 7) / 8))
    have M2 : Hid _ := hb1.c2
    have M3 : Hid _ := hb1.c3
    clear hb1
    go_wp2_with fail
    refine (missing_any R C ao3 xs.length cap3 _ (by exact M2.out) (by exact M3.out) hC hx).mono ?_
    rintro e w' ⟨rfl, q, rfl⟩
    go_wp2
    go_ret
    exact ⟨rfl, below_drewN ((Below.refl _ _).setCell hB _) _⟩

set_option maxHeartbeats 1000000 in
set_option maxRecDepth 100000 in
theorem equal_yes (R lb B : Nat) (D : List UInt8) (W C a n x : Nat) (xs : List Nat) (w : World) (h : RSt w R lb B D W C a xs) (hBs : B ≤ w.heap.size) (hW : W ≤ 24) (hC : C ≤ 100000) (hx : xs.length ≤ C) (hl : Pu.lo D a ((W + 7) / 8) = some x) (hn : n ≤ 2147483648) (hok : ¬ (2 ^ W ≤ x ∨ C - xs.length < n)) :
    Calls Try.prog 63 #[.pointer (some ⟨R, 0, none⟩), .int .i64 n] w fun e w' => e = .returned (.bool true) ∧ RSt w' R lb B D W C (a + (W + 7) / 8) (xs ++ List.replicate n x) ∧ Below B w w' := by
  obtain ⟨ao, cap, v, hb, ha, hr, ho, hv, hlb, hB⟩ := h
  obtain ⟨hlen, hxe⟩ := lo_some hl
  have Hr : Hid (Rest w lb ao cap (D.drop a)) := hr
  have c0 := hb.c0
  have C0 : Hid (w.cell? ⟨R, 0, none⟩ = some (.slice ao (D.drop a).length cap)) := by rw [Hid, List.length_drop]; exact c0
  have c1 := hb.c1
  have Hl : Hid ((W + 7) / 8 ≤ (D.drop a).length) := by rw [Hid, List.length_drop]; omega
  have E7 : Hid _ := wrap7 W hW
  have f0 := hb.fz 0
  have Hx : Hid (Pu.le ((D.drop a).take ((W + 7) / 8)) = x) := hxe.symm
  have HS : Hid _ := RSt.skip hb hlen hr ho hv hlb hB
  have hsh : ((x : Int) / 2 ^ W != 0) = false := shr_eq x W (by omega)
  have hbn : n ≤ C - xs.length := by omega
  have hdd : decide (C - xs.length < n) = false := by simp; omega
  have hP : x ≤ 16777216 := by have : 2 ^ W ≤ 2 ^ 24 := Nat.pow_le_pow_right (by omega) hW
                               omega
  clear hr hl hxe
  obtain ⟨ao3, cap3, rfl⟩ := slen_of ho
  have hb1 := hb.set0 (.slice (cutA ao cap ((W + 7) / 8)) (D.length - a - (W + 7) / 8) (cap - (W + 7) / 8))
  have M2 : Hid _ := hb1.c2
  have M3 : Hid _ := hb1.c3
  have hbel : Below B w (w.setCell ⟨R, 0, none⟩ (.slice (cutA ao cap ((W + 7) / 8)) (D.length - a - (W + 7) / 8) (cap - (W + 7) / 8))) := (Below.refl _ _).setCell hB _
  clear hb1
  go_enter Try.func63, Try.ntmps63
  go_wp2
  go_region_with (go_at_call 78; rw [E7.out]; refine (number_yes R 0 ((W + 7) / 8) lb ao cap (D.drop a) w.drew Hr.out C0.out f0 (by omega) (by omega) Hl.out).mono ?_; rintro e w' ⟨rfl, rfl⟩; rw [Hx.out])
  go_wp2_with fail
  refine (missing_any R C ao3 xs.length cap3 _ (by exact M2.out) (by exact M3.out) hC hx).mono ?_
  rintro e w' ⟨rfl, q, rfl⟩
  go_wp2
  go_loopw [38] (fun i wr => ∃ k : Nat, k ≤ n ∧ i = .int .i64 k ∧ RSt wr R lb B D W C (a + (W + 7) / 8) (xs ++ List.replicate k x) ∧ Below B w wr)
    (fun i _ => n - (intOf i).toNat)
  case atStart => exact ⟨0, Nat.zero_le _, rfl, by rw [List.replicate_zero, List.append_nil]; exact HS.out, below_drewN hbel _⟩
  case round =>
    obtain ⟨k, hk, rfl, hS, hbel2⟩ := hrel
    by_cases hk2 : k < n
    · obtain ⟨ao2, cap2, v2, hb2, ha2, hr2, ho2, hv2, _, _⟩ := hS
      obtain ⟨ao4, cap4, rfl⟩ := slen_of ho2
      have c3 := hb2.c3
      have hll : (xs ++ List.replicate k x).length = xs.length + k := by simp
      have Hll : Hid ((xs ++ List.replicate k x).length = xs.length + k) := hll
      rw [hll] at c3 ho2 hb2
      have Hr2 : Hid _ := hr2
      clear hll hr2
      obtain ⟨i0, hi, hz0, hz1, hz2⟩ := info_parts Try.info3
      go_wp2_with (first
        | (at_builtin; refine wpList_append_own _ rfl _ _ 26 rfl B 3 i0 (.int .i64 0) 1 8 Try.underlying26 hi hz0 hz1 hz2 rfl (by decide) _ _ _ rfl (ho2.alloc _) ⟨_, 0, none⟩ 1 1 [.int .i64 x] rfl rfl ?c1 ?c2 ?c3 ?c4 ?c5 ?_)
        | go_in)
      case c1 => exact one_new rfl
      case c2 => exact one_cell
      case c3 => unfold maxLen; omega
      case c4 => omega
      case c5 => rw [size_alloc']; have := hbel2.size; omega
      intro v' w1 ho3 hg hnn
      clear hnn
      obtain ⟨ao5, cap5, hv5⟩ := slen_of ho3
      rw [hv5] at ho3 ⊢
      clear hv5 v'
      rw [← Hll.out] at ho3 ho2 hb2
      rw [← Hll.out] at hg
      have hp := RSt.push hb2 ha2 Hr2.out ho2 hlb hB hg ho3
      rw [rep_snoc, Hll.out] at hp
      have hbel3 : Below B w (w1.setCell ⟨R, 3, none⟩ (.slice ao5 (xs.length + k + 1) cap5)) := below_push hbel2 (by have := hbel2.size; omega) hB ho2 hg
      have c3' := hp.1.c3
      have f3' := hp.1.fz 3
      have HP : Hid _ := hp.2
      clear hp hg ho2 ho3 hb2 hbel2 c3 Hr2 ha2
      go_wp2
      go_roundw
      case rel => exact ⟨k + 1, by omega, by go_num, HP.out, hbel3⟩
      case measure => simp [intOf]; omega
    · obtain rfl : k = n := by omega
      go_wp2
      go_ret
      exact ⟨rfl, hS, hbel2⟩
end Go.Proofs.Ytjobhlncllfdmaa
