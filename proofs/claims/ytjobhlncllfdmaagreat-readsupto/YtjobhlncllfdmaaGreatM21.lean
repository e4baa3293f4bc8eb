/- Contract of the reference's Unpack, all arguments. -/
import Derived.Test.YtjobhlncllfdmaaGreatM20
import Derived.Test.YtjobhlncllfdmaaGreatM15
import Derived.Test.YtjobhlncllfdmaaGreatM16
import Derived.Deep.RegionWith
namespace Go.Proofs.YtjobhlncllfdmaaGreat
open Go.RowKit

/-- what the reference's Unpack answers -/
def RefU (p : List UInt8 × Nat) (e : Ending) : Prop := e = .returned (.tuple #[strV p.1, .int .i64 p.2])

set_option maxHeartbeats 1000000 in
set_option maxRecDepth 100000 in
theorem refUnpack_any (s : ByteArray) (most : Int) (w : World) (hs : s.size ≤ 140737488355000) (hm : (Lit.int .i64 most).wf = true) :
    Calls Tryz.prog 55 #[.string s, .int .i64 most] w fun e w' => RefU (Pu.unpack s.data.toList most) e ∧ Below w.heap.size w w' := by
  have hlen : s.data.toList.length = s.size := by simp
  by_cases hbad : most < 0 ∨ 1048576 < most
  · have HA : Hid (Pu.unpack s.data.toList most = ([], 1)) := by unfold Hid Pu.unpack; rw [if_pos hbad]
    by_cases h0 : most < 0
    · go_enter Tryz.func55, Tryz.ntmps55
      go_wp2
      go_ret2
      exact ⟨by rw [HA.out]; rfl, Below.refl _ _⟩
    · have h1 : 1048576 < most := by omega
      go_enter Tryz.func55, Tryz.ntmps55
      go_wp2
      go_ret2
      exact ⟨by rw [HA.out]; rfl, Below.refl _ _⟩
  · obtain ⟨mo', rfl⟩ := Int.eq_ofNat_of_zero_le (show 0 ≤ most by omega)
    have hmo : mo' ≤ 1048576 := by omega
    cases hvi : Pu.vi s.data.toList 0 with
    | none =>
      have HA : Hid (Pu.unpack s.data.toList (mo' : Int) = ([], 2)) := by unfold Hid Pu.unpack; rw [if_neg hbad, hvi]
      have V : Hid (Calls Tryz.prog 54 #[.string s, .int .i64 0] w fun e w' => ∃ h nx : Int, e = .returned (.tuple #[.int .i64 h, .int .i64 nx, .bool false]) ∧ w' = w) := varint_no s 0 w hs (Nat.zero_le _) hvi
      clear hvi hlen hm
      go_enter Tryz.func55, Tryz.ntmps55
      go_wp2_with fail
      refine V.out.mono ?_
      rintro e w' ⟨h, nx, rfl, rfl⟩
      go_wp2
      go_ret2
      exact ⟨by rw [HA.out]; rfl, Below.refl _ _⟩
    | some pr =>
      obtain ⟨n, a0⟩ := pr
      by_cases hn : mo' < n
      · have HA : Hid (Pu.unpack s.data.toList (mo' : Int) = ([], 3)) := by unfold Hid Pu.unpack; rw [if_neg hbad, hvi]; simp only []; rw [if_pos (by omega)]
        have hv3 := (Pu.vi_lt hvi).2.2
        have V : Hid (Calls Tryz.prog 54 #[.string s, .int .i64 0] w fun e w' => e = .returned (.tuple #[.int .i64 n, .int .i64 a0, .bool true]) ∧ w' = w) := varint_yes s 0 n a0 w hs (Nat.zero_le _) hvi
        clear hvi hlen hm
        go_enter Tryz.func55, Tryz.ntmps55
        go_wp2_with fail
        refine V.out.mono ?_
        rintro e w' ⟨rfl, rfl⟩
        go_wp2
        go_ret2
        exact ⟨by rw [HA.out]; rfl, Below.refl _ _⟩
      · refine (refUnpack_good s mo' n a0 w hs hmo hvi (by omega)).mono ?_
        rintro e w' ⟨h1, h2⟩
        refine ⟨?_, h2⟩
        unfold Pu.unpack
        rw [if_neg hbad, hvi]
        simp only []
        rw [if_neg (by omega), hlen]
        cases hun : Pu.un s.data.toList n s.size a0 [] with
        | none => rw [hun] at h1; exact h1
        | some o => rw [hun] at h1; exact h1

end Go.Proofs.YtjobhlncllfdmaaGreat

/- The state of the program's reader of runs; contract of equal. -/
namespace Go.Proofs.YtjobhlncllfdmaaGreat
open Go.RowKit

/-- the reader in block R: what is left, the width, the count, the numbers -/
def Blk (w : World) (R : Nat) (r : Value) (W C : Nat) (v : Value) : Prop :=
  w.heap[R]? = some (.cells #[r, .int .i64 W, .int .i64 C, v] 207 (0, 0))

theorem Blk.c0 {w : World} {R : Nat} {r v : Value} {W C : Nat} (h : Blk w R r W C v) : w.cell? ⟨R, 0, none⟩ = some r := by rw [cell_of_row w R 0 _ _ _ h]; rfl
theorem Blk.c1 {w : World} {R : Nat} {r v : Value} {W C : Nat} (h : Blk w R r W C v) : w.cell? ⟨R, 1, none⟩ = some (.int .i64 W) := by rw [cell_of_row w R 1 _ _ _ h]; rfl
theorem Blk.c2 {w : World} {R : Nat} {r v : Value} {W C : Nat} (h : Blk w R r W C v) : w.cell? ⟨R, 2, none⟩ = some (.int .i64 C) := by rw [cell_of_row w R 2 _ _ _ h]; rfl
theorem Blk.c3 {w : World} {R : Nat} {r v : Value} {W C : Nat} (h : Blk w R r W C v) : w.cell? ⟨R, 3, none⟩ = some v := by rw [cell_of_row w R 3 _ _ _ h]; rfl
theorem Blk.fz {w : World} {R : Nat} {r v : Value} {W C : Nat} (h : Blk w R r W C v) (j : Nat) : w.frozen? ⟨R, j, none⟩ = false := frozen_of_row w R j _ _ h
theorem Blk.lt {w : World} {R : Nat} {r v : Value} {W C : Nat} (h : Blk w R r W C v) : R < w.heap.size := (Array.getElem?_eq_some_iff.1 h).1
theorem Blk.set0 {w : World} {R : Nat} {r v : Value} {W C : Nat} (h : Blk w R r W C v) (u : Value) : Blk (w.setCell ⟨R, 0, none⟩ u) R u W C v := by
  unfold Blk; rw [heap_setCell_same w R 0 _ _ u h]; rfl
theorem Blk.set3 {w : World} {R : Nat} {r v : Value} {W C : Nat} (h : Blk w R r W C v) (u : Value) : Blk (w.setCell ⟨R, 3, none⟩ u) R r W C u := by
  unfold Blk; rw [heap_setCell_same w R 3 _ _ u h]; rfl
theorem Blk.kept {w w' : World} {R : Nat} {r v : Value} {W C : Nat} (h : Blk w R r W C v) (hw : w'.heap[R]? = w.heap[R]?) : Blk w' R r W C v := by
  unfold Blk; rw [hw]; exact h

/-- the whole state: at place a of D, the numbers xs gathered -/
def RSt (w : World) (R lb B : Nat) (D : List UInt8) (W C a : Nat) (xs : List Nat) : Prop :=
  ∃ ao cap v, Blk w R (.slice ao (D.length - a) cap) W C v ∧ a ≤ D.length ∧ Rest w lb ao cap (D.drop a) ∧ w.ownsRow B 3 1 v xs.length (ints xs) ∧ v.ownBlock ≠ some R ∧ lb < B ∧ B ≤ R

theorem ownsRow_set_other {w : World} {base : Nat} {e : TypeId} {size : Nat} {v : Value} {n : Nat} {xs : List Value} (h : w.ownsRow base e size v n xs) {R j : Nat} (hv : v.ownBlock ≠ some R) (u : Value) :
    (w.setCell ⟨R, j, none⟩ u).ownsRow base e size v n xs := by
  refine h.kept (row := some R) ⟨rfl, rfl, rfl, by simp, fun k _ hk => heap_setCell_other w _ k u (fun e => hk (by rw [e]))⟩ (Or.inr hv)

theorem RSt.drewN {w : World} {R lb B : Nat} {D : List UInt8} {W C a : Nat} {xs : List Nat} (h : RSt w R lb B D W C a xs) (q : Nat) : RSt (w.drewN q) R lb B D W C a xs := h

theorem RSt.lt {w : World} {R lb B : Nat} {D : List UInt8} {W C a : Nat} {xs : List Nat} (h : RSt w R lb B D W C a xs) : R < w.heap.size := by
  obtain ⟨_, _, _, hb, _⟩ := h; exact hb.lt

/-- n bytes further -/
theorem RSt.skip {w : World} {R lb B : Nat} {D : List UInt8} {W C a n : Nat} {xs : List Nat} {ao : Option Addr} {cap : Nat} {v : Value}
    (hb : Blk w R (.slice ao (D.length - a) cap) W C v) (ha : a + n ≤ D.length) (hr : Rest w lb ao cap (D.drop a)) (ho : w.ownsRow B 3 1 v xs.length (ints xs)) (hv : v.ownBlock ≠ some R) (hl : lb < B) (hB : B ≤ R) :
    RSt (w.setCell ⟨R, 0, none⟩ (.slice (cutA ao cap n) (D.length - a - n) (cap - n))) R lb B D W C (a + n) xs := by
  have hr2 := hr.drop n (by simp; omega)
  rw [List.drop_drop] at hr2
  exact ⟨cutA ao cap n, cap - n, v, by rw [show D.length - (a + n) = D.length - a - n by omega]; exact hb.set0 _, ha, hr2.kept (heap_setCell_other w _ _ _ (by simp only []; omega)), ownsRow_set_other ho hv _, hv, hl, hB⟩

theorem own_ne {w : World} {R B n : Nat} {r v u : Value} {W C : Nat} {xs : List Value} (h : w.ownsRow B 3 1 v n xs) (hb : Blk w R r W C u) : v.ownBlock ≠ some R := by
  rcases h.2 with ⟨rfl, _⟩ | ⟨g, cap, cur, rfl, _, hg, _⟩
  · simp [Value.ownBlock]
  · intro e
    simp only [Value.ownBlock, Option.some.injEq] at e
    subst e
    rw [hb] at hg
    simp at hg

/-- one number more: behind the append and the store -/
theorem RSt.push {w w1 : World} {R lb B : Nat} {D : List UInt8} {W C a x : Nat} {xs : List Nat} {ao : Option Addr} {cap : Nat} {v v' : Value} {o : Obj}
    (hb : Blk w R (.slice ao (D.length - a) cap) W C v) (ha : a ≤ D.length) (hr : Rest w lb ao cap (D.drop a)) (ho : w.ownsRow B 3 1 v xs.length (ints xs)) (hl : lb < B) (hB : B ≤ R)
    (hg : (w.alloc o).grownBy w1 v.ownBlock) (ho' : w1.ownsRow B 3 1 v' (xs.length + 1) (ints xs ++ [.int .i64 x])) :
    Blk w1 R (.slice ao (D.length - a) cap) W C v ∧ RSt (w1.setCell ⟨R, 3, none⟩ v') R lb B D W C a (xs ++ [x]) := by
  have hlt := hb.lt
  have hR : w1.heap[R]? = w.heap[R]? := by
    rw [hg.block R (by rw [size_alloc']; omega) (fun e => own_ne ho hb e.symm)]
    exact Below.heap_alloc w o R hlt
  have hlbR : w1.heap[lb]? = w.heap[lb]? := by
    have : lb < w.heap.size := by omega
    rw [hg.block lb (by rw [size_alloc']; omega) (fun e => by have := (ho.lt lb e.symm).1; omega)]
    exact Below.heap_alloc w o lb this
  have hb1 := hb.kept hR
  refine ⟨hb1, ao, cap, v', hb1.set3 v', ha, (hr.kept hlbR).kept (heap_setCell_other w1 _ _ _ (by simp only []; omega)), ?_, own_ne ho' hb1, hl, hB⟩
  rw [ints_snoc] at ho'
  have : (xs ++ [x]).length = xs.length + 1 := by simp
  rw [this]
  exact ownsRow_set_other ho' (own_ne ho' hb1) _

theorem below_push {w w0 w1 : World} {R B n : Nat} {v v' : Value} {o : Obj} {xs : List Value} (hbel : Below B w0 w) (hB : B ≤ w.heap.size) (hR : B ≤ R) (ho : w.ownsRow B 3 1 v n xs) (hg : (w.alloc o).grownBy w1 v.ownBlock) : Below B w0 (w1.setCell ⟨R, 3, none⟩ v') :=
  ((hbel.alloc hB o).grown hg (by rw [size_alloc']; omega) (fun k e => (ho.lt k e).1)).setCell hR v'

theorem wrap7 (W : Nat) (hW : W ≤ 24) : IntKind.i64.wrap ((IntKind.i64.wrap ((W : Int) + 7)).tdiv 8) = (((W + 7) / 8 : Nat) : Int) := by
  rw [IntWalk.i64_in ((W : Int) + 7) (by omega), IntWalk.i64_quo _ _ (by omega)]; omega

theorem lo_none {D : List UInt8} {a n : Nat} (h : Pu.lo D a n = none) : D.length < a + n := by
  unfold Pu.lo at h; split at h
  · cases h
  · omega
theorem lo_some {D : List UInt8} {a n x : Nat} (h : Pu.lo D a n = some x) : a + n ≤ D.length ∧ x = Pu.le ((D.drop a).take n) := by
  unfold Pu.lo at h; split at h
  · simp only [Option.some.injEq] at h
    exact ⟨by assumption, h.symm⟩
  · cases h

theorem shr_ne (x W : Nat) (h : 2 ^ W ≤ x) : ((x : Int) / 2 ^ W != 0) = true := by
  have e : (x : Int) / 2 ^ W = ((x / 2 ^ W : Nat) : Int) := by simp
  have : 0 < x / 2 ^ W := Nat.div_pos h (Nat.two_pow_pos W)
  rw [e, bne_iff_ne]; omega
theorem shr_eq (x W : Nat) (h : x < 2 ^ W) : ((x : Int) / 2 ^ W != 0) = false := by
  have e : (x : Int) / 2 ^ W = ((x / 2 ^ W : Nat) : Int) := by simp
  rw [e, Nat.div_eq_of_lt h]; rfl

set_option maxHeartbeats 1000000 in
set_option maxRecDepth 100000 in
theorem equal_no (R lb B : Nat) (D : List UInt8) (W C a n : Nat) (xs : List Nat) (w : World) (h : RSt w R lb B D W C a xs) (hW : W ≤ 24) (hl : Pu.lo D a ((W + 7) / 8) = none) :
    Calls Tryz.prog 113 #[.pointer (some ⟨R, 0, none⟩), .int .i64 n] w fun e w' => e = .returned (.bool false) ∧ Below B w w' := by
  obtain ⟨ao, cap, v, hb, ha, hr, ho, hv, hlb, hB⟩ := h
  have hlen := lo_none hl
  have Hr : Hid (Rest w lb ao cap (D.drop a)) := hr
  have c0 := hb.c0
  have C0 : Hid (w.cell? ⟨R, 0, none⟩ = some (.slice ao (D.drop a).length cap)) := by rw [Hid, List.length_drop]; exact c0
  have c1 := hb.c1
  have Hl : Hid ((D.drop a).length < (W + 7) / 8) := by rw [Hid, List.length_drop]; omega
  have E7 : Hid _ := wrap7 W hW
  clear hr hl
  go_enter Tryz.func113, Tryz.ntmps113
  go_wp2
  go_region_with (go_at_call 59; rw [E7.out]; refine (number_no R 0 ((W + 7) / 8) lb ao cap (D.drop a) w.drew Hr.out C0.out (by omega) Hl.out).mono ?_; rintro e w' ⟨rfl, rfl⟩)
  all_goals
    go_wp2
    go_ret
    exact ⟨rfl, (Below.refl _ _).drew⟩

set_option maxHeartbeats 1000000 in
set_option maxRecDepth 100000 in
theorem equal_bad (R lb B : Nat) (D : List UInt8) (W C a n x : Nat) (xs : List Nat) (w : World) (h : RSt w R lb B D W C a xs) (hW : W ≤ 24) (hC : C ≤ 100000) (hx : xs.length ≤ C) (hl : Pu.lo D a ((W + 7) / 8) = some x) (_hn : n ≤ 2147483648) (hbad : 2 ^ W ≤ x ∨ C - xs.length < n) :
    Calls Tryz.prog 113 #[.pointer (some ⟨R, 0, none⟩), .int .i64 n] w fun e w' => e = .returned (.bool false) ∧ Below B w w' := by
  obtain ⟨ao, cap, v, hb, ha, hr, ho, hv, hlb, hB⟩ := h
  obtain ⟨hlen, hxe⟩ := lo_some hl
  have Hr : Hid (Rest w lb ao cap (D.drop a)) := hr
  have c0 := hb.c0
  have C0 : Hid (w.cell? ⟨R, 0, none⟩ = some (.slice ao (D.drop a).length cap)) := by rw [Hid, List.length_drop]; exact c0
  have c1 := hb.c1
  have Hl : Hid ((W + 7) / 8 ≤ (D.drop a).length) := by rw [Hid, List.length_drop]; omega
  have E7 : Hid _ := wrap7 W hW
  have f0 := hb.fz 0
  have Hx : Hid (Pu.le ((D.drop a).take ((W + 7) / 8)) = x) := hxe.symm
  clear hr hl hxe
  go_enter Tryz.func113, Tryz.ntmps113
  go_wp2
  go_region_with (go_at_call 59; rw [E7.out]; refine (number_yes R 0 ((W + 7) / 8) lb ao cap (D.drop a) w.drew Hr.out C0.out f0 (by omega) (by omega) Hl.out).mono ?_; rintro e w' ⟨rfl, rfl⟩; rw [Hx.out])
  by_cases hA : 2 ^ W ≤ x
  · have hsh : ((x : Int) / 2 ^ W != 0) = true := shr_ne x W hA
    go_wp2
    go_ret
    exact ⟨rfl, ((Below.refl _ _).setCell hB _).drew⟩
  · have hsh : ((x : Int) / 2 ^ W != 0) = false := shr_eq x W (by omega)
    have hbn : C - xs.length < n := by omega
    obtain ⟨ao3, cap3, rfl⟩ := slen_of ho
    have hb1 := hb.set0 (.slice (cutA ao cap ((W + 7) / 8)) (D.length - a - (W + 7) / 8) (cap - (W + 7) / 8))
    have M2 : Hid _ := hb1.c2
    have M3 : Hid _ := hb1.c3
    clear hb1
    go_wp2_with fail
    refine (missing_any R C ao3 xs.length cap3 _ (by exact M2.out) (by exact M3.out) hC hx).mono ?_
    rintro e w' ⟨rfl, q, rfl⟩
    go_wp2
    go_ret
    exact ⟨rfl, below_drewN ((Below.refl _ _).setCell hB _) _⟩

set_option maxHeartbeats 1000000 in
set_option maxRecDepth 100000 in
theorem equal_yes (R lb B : Nat) (D : List UInt8) (W C a n x : Nat) (xs : List Nat) (w : World) (h : RSt w R lb B D W C a xs) (hBs : B ≤ w.heap.size) (hW : W ≤ 24) (hC : C ≤ 100000) (hx : xs.length ≤ C) (hl : Pu.lo D a ((W + 7) / 8) = some x) (hn : n ≤ 2147483648) (hok : ¬ (2 ^ W ≤ x ∨ C - xs.length < n)) :
    Calls Tryz.prog 113 #[.pointer (some ⟨R, 0, none⟩), .int .i64 n] w fun e w' => e = .returned (.bool true) ∧ RSt w' R lb B D W C (a + (W + 7) / 8) (xs ++ List.replicate n x) ∧ Below B w w' := by
  obtain ⟨ao, cap, v, hb, ha, hr, ho, hv, hlb, hB⟩ := h
  obtain ⟨hlen, hxe⟩ := lo_some hl
  have Hr : Hid (Rest w lb ao cap (D.drop a)) := hr
  have c0 := hb.c0
  have C0 : Hid (w.cell? ⟨R, 0, none⟩ = some (.slice ao (D.drop a).length cap)) := by rw [Hid, List.length_drop]; exact c0
  have c1 := hb.c1
  have Hl : Hid ((W + 7) / 8 ≤ (D.drop a).length) := by rw [Hid, List.length_drop]; omega
  have E7 : Hid _ := wrap7 W hW
  have f0 := hb.fz 0
  have Hx : Hid (Pu.le ((D.drop a).take ((W + 7) / 8)) = x) := hxe.symm
  have HS : Hid _ := RSt.skip hb hlen hr ho hv hlb hB
  have hsh : ((x : Int) / 2 ^ W != 0) = false := shr_eq x W (by omega)
  have hbn : n ≤ C - xs.length := by omega
  have hdd : decide (C - xs.length < n) = false := by simp; omega
  have hP : x ≤ 16777216 := by have : 2 ^ W ≤ 2 ^ 24 := Nat.pow_le_pow_right (by omega) hW
                               omega
  clear hr hl hxe
  obtain ⟨ao3, cap3, rfl⟩ := slen_of ho
  have hb1 := hb.set0 (.slice (cutA ao cap ((W + 7) / 8)) (D.length - a - (W + 7) / 8) (cap - (W + 7) / 8))
  have M2 : Hid _ := hb1.c2
  have M3 : Hid _ := hb1.c3
  have hbel : Below B w (w.setCell ⟨R, 0, none⟩ (.slice (cutA ao cap ((W + 7) / 8)) (D.length - a - (W + 7) / 8) (cap - (W + 7) / 8))) := (Below.refl _ _).setCell hB _
  clear hb1
  go_enter Tryz.func113, Tryz.ntmps113
  go_wp2
  go_region_with (go_at_call 59; rw [E7.out]; refine (number_yes R 0 ((W + 7) / 8) lb ao cap (D.drop a) w.drew Hr.out C0.out f0 (by omega) (by omega) Hl.out).mono ?_; rintro e w' ⟨rfl, rfl⟩; rw [Hx.out])
  go_wp2_with fail
  refine (missing_any R C ao3 xs.length cap3 _ (by exact M2.out) (by exact M3.out) hC hx).mono ?_
  rintro e w' ⟨rfl, q, rfl⟩
  go_wp2
  go_loopw [38] (fun i wr => ∃ k : Nat, k ≤ n ∧ i = .int .i64 k ∧ RSt wr R lb B D W C (a + (W + 7) / 8) (xs ++ List.replicate k x) ∧ Below B w wr)
    (fun i _ => n - (intOf i).toNat)
  case atStart => exact ⟨0, Nat.zero_le _, rfl, by rw [List.replicate_zero, List.append_nil]; exact HS.out, below_drewN hbel _⟩
  case round =>
    obtain ⟨k, hk, rfl, hS, hbel2⟩ := hrel
    by_cases hk2 : k < n
    · obtain ⟨ao2, cap2, v2, hb2, ha2, hr2, ho2, hv2, _, _⟩ := hS
      obtain ⟨ao4, cap4, rfl⟩ := slen_of ho2
      have c3 := hb2.c3
      have hll : (xs ++ List.replicate k x).length = xs.length + k := by simp
      have Hll : Hid ((xs ++ List.replicate k x).length = xs.length + k) := hll
      rw [hll] at c3 ho2 hb2
      have Hr2 : Hid _ := hr2
      clear hll hr2
      obtain ⟨i0, hi, hz0, hz1, hz2⟩ := info_parts Tryz.info3
      go_wp2_with (first
        | (at_builtin; refine wpList_append_own _ rfl _ _ 27 rfl B 3 i0 (.int .i64 0) 1 8 Tryz.underlying27 hi hz0 hz1 hz2 rfl (by decide) _ _ _ rfl (ho2.alloc _) ⟨_, 0, none⟩ 1 1 [.int .i64 x] rfl rfl ?c1 ?c2 ?c3 ?c4 ?c5 ?_)
        | go_in)
      case c1 => exact one_new rfl
      case c2 => exact one_cell
      case c3 => unfold maxLen; omega
      case c4 => omega
      case c5 => rw [size_alloc']; have := hbel2.size; omega
      intro v' w1 ho3 hg hnn
      clear hnn
      obtain ⟨ao5, cap5, hv5⟩ := slen_of ho3
      rw [hv5] at ho3 ⊢
      clear hv5 v'
      rw [← Hll.out] at ho3 ho2 hb2
      rw [← Hll.out] at hg
      have hp := RSt.push hb2 ha2 Hr2.out ho2 hlb hB hg ho3
      rw [rep_snoc, Hll.out] at hp
      have hbel3 : Below B w (w1.setCell ⟨R, 3, none⟩ (.slice ao5 (xs.length + k + 1) cap5)) := below_push hbel2 (by have := hbel2.size; omega) hB ho2 hg
      have c3' := hp.1.c3
      have f3' := hp.1.fz 3
      have HP : Hid _ := hp.2
      clear hp hg ho2 ho3 hb2 hbel2 c3 Hr2 ha2
      go_wp2
      go_roundw
      case rel => exact ⟨k + 1, by omega, by go_num, HP.out, hbel3⟩
      case measure => simp [intOf]; omega
    · obtain rfl : k = n := by omega
      go_wp2
      go_ret
      exact ⟨rfl, hS, hbel2⟩
end Go.Proofs.YtjobhlncllfdmaaGreat

/- The program's reader of a footer: contracts of columns, place. -/
namespace Go.Proofs.YtjobhlncllfdmaaGreat
open Go.RowKit

theorem num_some {D : List UInt8} {a l m n nx : Nat} (h : Pu.num D a l m = some (n, nx)) : Pu.vi D a = some (n, nx) ∧ l ≤ n ∧ n ≤ m ∧ a < nx ∧ nx ≤ D.length := by
  unfold Pu.num at h
  cases hv : Pu.vi D a with
  | none => simp [hv] at h
  | some q =>
    obtain ⟨y, ny⟩ := q
    simp only [hv] at h
    split at h
    · cases h
    · simp only [Option.some.injEq, Prod.mk.injEq] at h
      obtain ⟨rfl, rfl⟩ := h
      have := Pu.vi_lt hv
      exact ⟨rfl, by omega, by omega, this.1, this.2.1⟩
theorem num_none {D : List UInt8} {a l m n nx : Nat} (h : Pu.num D a l m = none) (hv : Pu.vi D a = some (n, nx)) : n < l ∨ m < n := by
  unfold Pu.num at h
  simp only [hv] at h
  split at h
  · assumption
  · cases h
theorem cols_num (D : List UInt8) : Pu.cols D = match Pu.num D 0 1 20 with | none => none | some (n, a) => Pu.colsGo D n a [] := by
  unfold Pu.cols Pu.num
  cases Pu.vi D 0 with
  | none => rfl
  | some q =>
    obtain ⟨n, a⟩ := q
    simp only
    split <;> rfl

def ColsAnsP (R lb B : Nat) (D : List UInt8) (E : Nat) (ws : List (Nat × Value)) (vr : Value) (r : Option (List Pu.Col × Nat)) (e : Ending) (w' : World) : Prop :=
  match r with
  | none => e = .returned (.bool false)
  | some (cs, a') => e = .returned (.bool true) ∧ FSt w' R lb B D E a' cs ws vr

set_option maxHeartbeats 2000000 in
set_option maxRecDepth 100000 in
theorem fcolumns (R lb B : Nat) (D : List UInt8) (E : Nat) (ws : List (Nat × Value)) (vr : Value) (w : World) (h : FSt w R lb B D E 0 [] ws vr) :
    Calls Tryz.prog 61 #[.pointer (some ⟨R, 0, none⟩)] w fun e w' => ColsAnsP R lb B D E ws vr (Pu.cols D) e w' ∧ Below B w w' := by
  have V : Hid (Calls Tryz.prog 77 #[.pointer (some ⟨R, 0, none⟩), .int .i64 1, .int .i64 20] w fun e w' => NumAns R lb B D E [] ws vr (Pu.num D 0 1 20) e w' ∧ Below B w w') := fnumber R lb B D E 0 1 20 [] ws vr w h (by omega) (by omega)
  have HC : Hid (Pu.cols D = match Pu.num D 0 1 20 with | none => none | some (n, a) => Pu.colsGo D n a []) := cols_num D
  clear h
  cases hn : Pu.num D 0 1 20 with
  | none =>
    have HX : Hid (Pu.cols D = none) := by rw [Hid, HC.out, hn]
    rw [hn] at V
    clear hn HC
    go_enter Tryz.func61, Tryz.ntmps61
    go_wp2_with fail
    refine V.out.mono ?_
    rintro e w' ⟨rfl, hbel⟩
    go_wp2
    go_ret
    exact ⟨by rw [HX.out]; rfl, hbel⟩
  | some pr =>
    obtain ⟨N, a0⟩ := pr
    have HX : Hid (Pu.cols D = Pu.colsGo D N a0 []) := by rw [Hid, HC.out, hn]
    obtain ⟨_, hN1, hN2, _, _⟩ := num_some hn
    rw [hn] at V
    clear hn HC
    go_enter Tryz.func61, Tryz.ntmps61
    go_wp2_with fail
    refine V.out.mono ?_
    rintro e w1 ⟨⟨rfl, hS⟩, hbel⟩
    have HS : Hid (FSt w1 R lb B D E a0 [] ws vr) := hS
    clear hS
    go_wp2
    go_loopw [13] (fun i wr => ∃ (a : Nat) (cs : List Pu.Col), cs.length ≤ N ∧ i = .int .i64 cs.length ∧ Hid (Pu.cols D = Pu.colsGo D (N - cs.length) a cs) ∧ Hid (FSt wr R lb B D E a cs ws vr) ∧ Hid (Below B w wr)) (fun i _ => N - (intOf i).toNat)
    case atStart => exact ⟨a0, [], by simp, rfl, HX, HS, hbel⟩
    case round =>
      obtain ⟨a, cs, hcl, rfl, HG, HF, HB⟩ := hrel
      by_cases hk : cs.length < N
      · have CO : Hid (Calls Tryz.prog 78 #[.pointer (some ⟨R, 0, none⟩)] wr fun e w' => ColAns R lb B D E cs ws vr (Pu.col1 D a cs) e w' ∧ Below B wr w') := fcolumn R lb B D E a cs ws vr wr HF.out (by omega)
        cases hc : Pu.col1 D a cs with
        | none =>
          have HY : Hid (Pu.cols D = none) := by rw [Hid, HG.out]; exact colsGo_no (by omega) hc
          rw [hc] at CO
          clear hc
          go_wp2_with fail
          refine CO.out.mono ?_
          rintro e w2 ⟨rfl, hb2⟩
          have hb3 := HB.out.trans hb2
          clear hb2
          go_wp2
          go_ret
          exact ⟨by rw [HY.out]; rfl, hb3⟩
        | some p =>
          obtain ⟨c, a'⟩ := p
          have HY : Hid (Pu.cols D = Pu.colsGo D (N - (cs ++ [c]).length) a' (cs ++ [c])) := by rw [Hid, HG.out, colsGo_yes (by omega) hc]; simp [Nat.sub_sub]
          rw [hc] at CO
          clear hc
          go_wp2_with fail
          refine CO.out.mono ?_
          rintro e w2 ⟨⟨rfl, hS2⟩, hb2⟩
          have HS2 : Hid (FSt w2 R lb B D E a' (cs ++ [c]) ws vr) := hS2
          have HB2 : Hid (Below B w w2) := HB.out.trans hb2
          clear hb2 hS2
          go_wp2
          go_roundw
          case rel => exact ⟨a', cs ++ [c], by simp; omega, by simp, HY, HS2, HB2⟩
          case measure => simp [intOf]; omega
      · obtain rfl : cs.length = N := by omega
        have HY : Hid (Pu.cols D = some (cs, a)) := by rw [Hid, HG.out, Nat.sub_self]; rfl
        go_wp2
        go_ret
        rw [HY.out]
        exact ⟨⟨rfl, HF.out⟩, HB.out⟩

theorem chunk_num (D : List UInt8) (E a : Nat) : Pu.chunk1 D E a = match Pu.num D a 4 E with | none => none | some (p, a1) => (match Pu.num D a1 1 50 with | none => none | some (q, a2) => some ((p, q), a2)) := by
  unfold Pu.chunk1 Pu.num
  cases Pu.vi D a with
  | none => rfl
  | some q =>
    obtain ⟨n, a1⟩ := q
    simp only
    by_cases h : n < 4 ∨ E < n
    · rw [if_pos h, if_pos h]
    · rw [if_neg h, if_neg h]
      simp only
      cases Pu.vi D a1 with
      | none => rfl
      | some q =>
        obtain ⟨m, a2⟩ := q
        simp only
        split <;> rfl

/-- places as cells -/
def plV (p : Nat × Nat) : List Value := [.int .i64 (p.1 : Int), .int .i64 (p.2 : Int)]
def plsV (l : List (Nat × Nat)) : List Value := l.flatMap plV
theorem plsV_snoc (l : List (Nat × Nat)) (p : Nat × Nat) : plsV (l ++ [p]) = plsV l ++ plV p := by simp [plsV]

def PlAns (R lb B : Nat) (D : List UInt8) (E : Nat) (cs : List Pu.Col) (ws : List (Nat × Value)) (vr : Value) (r : Option ((Nat × Nat) × Nat)) (e : Ending) (w' : World) : Prop :=
  match r with
  | none => ∃ x y : Int, e = .returned (.tuple #[.agg #[.int .i64 x, .int .i64 y], .bool false])
  | some (p, a') => e = .returned (.tuple #[.agg #[.int .i64 (p.1 : Int), .int .i64 (p.2 : Int)], .bool true]) ∧ FSt w' R lb B D E a' cs ws vr

theorem set2_row {w : World} {b : Nat} {x y : Value} {t : TypeId} (h : w.heap[b]? = some (.cells #[x, y] t (0, 0))) (x' y' : Value) : ((w.setCell ⟨b, 0, none⟩ x').setCell ⟨b, 1, none⟩ y').heap[b]? = some (.cells #[x', y'] t (0, 0)) := by
  have h1 := heap_setCell_same w b 0 _ _ x' h
  have h2 := heap_setCell_same _ b 1 _ _ y' h1
  rw [h2]; rfl
theorem set2_other {w : World} {b k : Nat} (h : k ≠ b) (x y : Value) : ((w.setCell ⟨b, 0, none⟩ x).setCell ⟨b, 1, none⟩ y).heap[k]? = w.heap[k]? := by
  rw [heap_setCell_other _ _ k _ h, heap_setCell_other _ _ k _ h]

/-- another block's cells are turned -/
theorem FSt.off {w w1 : World} {R lb B : Nat} {D : List UInt8} {E a : Nat} {cs : List Pu.Col} {ws : List (Nat × Value)} {vr : Value} (h : FSt w R lb B D E a cs ws vr) {K : Nat} (ht : Ty w K 86) (hK : B ≤ K) (hw : ∀ k, k < w.heap.size → k ≠ K → w1.heap[k]? = w.heap[k]?) : FSt w1 R lb B D E a cs ws vr := by
  obtain ⟨ao, cap, vc, h1, h2, h3, h4, h5, h6, h7⟩ := h
  exact ⟨ao, cap, vc, h1.kept (hw R h1.ty.lt (Ty.ne h1.ty ht (by decide))), h2, h3.kept (hw lb (by have := h1.ty.lt; omega) (by omega)), own_agreeS h4 (fun k hk => hw k (own_tyS h4 hk).lt (Ty.ne (own_tyS h4 hk) ht (by decide))), own_agreeS h5 (fun k hk => hw k (own_tyS h5 hk).lt (Ty.ne (own_tyS h5 hk) ht (by decide))), h6, h7⟩

/-- what place's ending wants of a world behind its calls -/
theorem place_end {w W : World} {R lb B : Nat} {D : List UInt8} {E a : Nat} {cs : List Pu.Col} {ws : List (Nat × Value)} {vr : Value} {o : Obj} (hR : R < w.heap.size) (hB : B ≤ w.heap.size) (hb : Below B (w.alloc o) W) (hK : KeepR R (w.alloc o) W) (ho : o = .cells #[.int .i64 0, .int .i64 0] 86 (0, 0)) (x y : Value) :
    W.heap[w.heap.size]? = some (.cells #[.int .i64 0, .int .i64 0] 86 (0, 0)) ∧ Below B w ((W.setCell ⟨w.heap.size, 0, none⟩ x).setCell ⟨w.heap.size, 1, none⟩ y) ∧ KeepR R w ((W.setCell ⟨w.heap.size, 0, none⟩ x).setCell ⟨w.heap.size, 1, none⟩ y) ∧
      (FSt W R lb B D E a cs ws vr → FSt ((W.setCell ⟨w.heap.size, 0, none⟩ x).setCell ⟨w.heap.size, 1, none⟩ y) R lb B D E a cs ws vr) := by
  have r : W.heap[w.heap.size]? = some (.cells #[.int .i64 0, .int .i64 0] 86 (0, 0)) := by
    rw [hK _ (by rw [size_alloc']; omega) (by omega), heap_alloc_new, ho]
  refine ⟨r, ((((Below.refl _ _).alloc hB _).trans hb).setCell hB _).setCell hB _, fun k hk hk2 => ?_, fun hF => hF.off ⟨_, r⟩ hB (fun k _ hk2 => set2_other hk2 _ _)⟩
  rw [set2_other (by omega), hK k (by rw [size_alloc']; omega) hk2]
  exact Below.heap_alloc _ _ _ hk

set_option maxHeartbeats 2000000 in
set_option maxRecDepth 100000 in
theorem fplace (R lb B : Nat) (D : List UInt8) (E a : Nat) (cs : List Pu.Col) (ws : List (Nat × Value)) (vr : Value) (w : World) (h : FSt w R lb B D E a cs ws vr) (hE : E ≤ 140737488355328) :
    Calls Tryz.prog 92 #[.pointer (some ⟨R, 0, none⟩)] w fun e w' => PlAns R lb B D E cs ws vr (Pu.chunk1 D E a) e w' ∧ Below B w w' ∧ KeepR R w w' := by
  have hR := h.lt
  have hB : B ≤ w.heap.size := Nat.le_trans h.base (Nat.le_of_lt hR)
  have hA : FSt (w.alloc (.cells #[.int .i64 0, .int .i64 0] 86)) R lb B D E a cs ws vr := h.below ((Below.refl _ _).alloc (Nat.le_refl _) _)
  have V : Hid (Calls Tryz.prog 77 #[.pointer (some ⟨R, 0, none⟩), .int .i64 4, .int .i64 (E : Int)] (w.alloc (.cells #[.int .i64 0, .int .i64 0] 86)) fun e w' => NumAns R lb B D E cs ws vr (Pu.num D a 4 E) e w' ∧ Below B (w.alloc (.cells #[.int .i64 0, .int .i64 0] 86)) w' ∧ KeepR R (w.alloc (.cells #[.int .i64 0, .int .i64 0] 86)) w') := fnumberK R lb B D E a 4 E cs ws vr _ hA (by omega) hE
  have HC : Hid (Pu.chunk1 D E a = match Pu.num D a 4 E with | none => none | some (p, a1) => (match Pu.num D a1 1 50 with | none => none | some (q, a2) => some ((p, q), a2))) := chunk_num D E a
  have c3 : (w.alloc (.cells #[.int .i64 0, .int .i64 0] 86)).cell? ⟨R, 3, none⟩ = some (.int .i64 (E : Int)) := by obtain ⟨_, _, _, hb, _⟩ := hA; exact hb.c3
  have FE : Hid (∀ (W : World) (x y : Value) (b : Nat), Below B (w.alloc (.cells #[.int .i64 0, .int .i64 0] 86)) W → KeepR R (w.alloc (.cells #[.int .i64 0, .int .i64 0] 86)) W → W.heap[w.heap.size]? = some (.cells #[.int .i64 0, .int .i64 0] 86 (0, 0)) ∧ Below B w ((W.setCell ⟨w.heap.size, 0, none⟩ x).setCell ⟨w.heap.size, 1, none⟩ y) ∧ KeepR R w ((W.setCell ⟨w.heap.size, 0, none⟩ x).setCell ⟨w.heap.size, 1, none⟩ y) ∧
      (FSt W R lb B D E b cs ws vr → FSt ((W.setCell ⟨w.heap.size, 0, none⟩ x).setCell ⟨w.heap.size, 1, none⟩ y) R lb B D E b cs ws vr)) := fun W x y b h1 h2 => place_end hR hB h1 h2 rfl x y
  clear h hA
  cases hn : Pu.num D a 4 E with
  | none =>
    have HX : Hid (Pu.chunk1 D E a = none) := by rw [Hid, HC.out, hn]
    rw [hn] at V
    clear hn HC
    go_enter Tryz.func92, Tryz.ntmps92
    go_wp2_with fail
    refine V.out.mono ?_
    rintro e w1 ⟨rfl, hbel, hkp⟩
    obtain ⟨r1, B1, K1, _⟩ := FE.out w1 (.int .i64 0) (.int .i64 0) 0 hbel hkp
    have k0 : w1.cell? ⟨w.heap.size, 0, none⟩ = some (.int .i64 0) := by rw [cell_of_row _ _ 0 _ _ _ r1]; rfl
    have k1 : w1.cell? ⟨w.heap.size, 1, none⟩ = some (.int .i64 0) := by rw [cell_of_row _ _ 1 _ _ _ r1]; rfl
    have g0 := frozen_of_row _ _ 0 _ _ r1
    have g1 := frozen_of_row _ _ 1 _ _ r1
    have FF := set2_row r1 (.int .i64 0) (.int .i64 0)
    have q0 := cell_of_row _ _ 0 _ _ _ FF
    have q1 := cell_of_row _ _ 1 _ _ _ FF
    simp only [List.getElem?_toArray, List.getElem?_cons_zero, List.getElem?_cons_succ] at q0 q1
    have HB1 : Hid (Below B w ((w1.setCell ⟨w.heap.size, 0, none⟩ (.int .i64 0)).setCell ⟨w.heap.size, 1, none⟩ (.int .i64 0)) ∧ KeepR R w ((w1.setCell ⟨w.heap.size, 0, none⟩ (.int .i64 0)).setCell ⟨w.heap.size, 1, none⟩ (.int .i64 0))) := ⟨B1, K1⟩
    clear FF r1 hbel hkp B1 K1 FE V
    go_wp2
    exact bodyPost_ret (v := .tuple #[.agg #[.int .i64 0, .int .i64 0], .bool false]) (by simp [results, Tryz.results92, go_sem, q0, q1]) rfl ⟨by rw [HX.out]; exact ⟨0, 0, rfl⟩, HB1.out⟩
  | some pr =>
    obtain ⟨p, a1⟩ := pr
    rw [hn] at V
    have HC2 : Hid (Pu.chunk1 D E a = match Pu.num D a1 1 50 with | none => none | some (q, a2) => some ((p, q), a2)) := by rw [Hid, HC.out, hn]
    clear hn HC
    go_enter Tryz.func92, Tryz.ntmps92
    go_wp2_with fail
    refine V.out.mono ?_
    rintro e w1 ⟨⟨rfl, hS⟩, hbel, hkp⟩
    have hsz : w.heap.size < w1.heap.size := by have := hbel.size; rw [size_alloc'] at this; omega
    have HBK : Hid (∀ W, Below B w1 W → KeepR R w1 W → Below B (w.alloc (.cells #[.int .i64 0, .int .i64 0] 86)) W ∧ KeepR R (w.alloc (.cells #[.int .i64 0, .int .i64 0] 86)) W) := fun W h1 h2 => ⟨hbel.trans h1, hkp.trans hbel.size h2⟩
    have V2 : Hid (Calls Tryz.prog 77 #[.pointer (some ⟨R, 0, none⟩), .int .i64 1, .int .i64 50] w1 fun e w' => NumAns R lb B D E cs ws vr (Pu.num D a1 1 50) e w' ∧ Below B w1 w' ∧ KeepR R w1 w') := fnumberK R lb B D E a1 1 50 cs ws vr w1 hS (by omega) (by omega)
    clear hS hbel hkp V
    cases hq : Pu.num D a1 1 50 with
    | none =>
      have HX : Hid (Pu.chunk1 D E a = none) := by rw [Hid, HC2.out, hq]
      rw [hq] at V2
      clear hq HC2
      go_wp2_with fail
      refine V2.out.mono ?_
      rintro e w2 ⟨rfl, hb2, hk2⟩
      obtain ⟨b3, k3⟩ := HBK.out w2 hb2 hk2
      obtain ⟨r1, B1, K1, _⟩ := FE.out w2 (.int .i64 (p : Int)) (.int .i64 0) 0 b3 k3
      have k0 : w2.cell? ⟨w.heap.size, 0, none⟩ = some (.int .i64 0) := by rw [cell_of_row _ _ 0 _ _ _ r1]; rfl
      have k1 : w2.cell? ⟨w.heap.size, 1, none⟩ = some (.int .i64 0) := by rw [cell_of_row _ _ 1 _ _ _ r1]; rfl
      have g0 := frozen_of_row _ _ 0 _ _ r1
      have g1 := frozen_of_row _ _ 1 _ _ r1
      have FF := set2_row r1 (.int .i64 (p : Int)) (.int .i64 0)
      have q0 := cell_of_row _ _ 0 _ _ _ FF
      have q1 := cell_of_row _ _ 1 _ _ _ FF
      simp only [List.getElem?_toArray, List.getElem?_cons_zero, List.getElem?_cons_succ] at q0 q1
      have HB1 : Hid (Below B w ((w2.setCell ⟨w.heap.size, 0, none⟩ (.int .i64 (p : Int))).setCell ⟨w.heap.size, 1, none⟩ (.int .i64 0)) ∧ KeepR R w ((w2.setCell ⟨w.heap.size, 0, none⟩ (.int .i64 (p : Int))).setCell ⟨w.heap.size, 1, none⟩ (.int .i64 0))) := ⟨B1, K1⟩
      clear FF r1 hb2 hk2 b3 k3 B1 K1 FE V2 HBK hsz
      go_wp2
      exact bodyPost_ret (v := .tuple #[.agg #[.int .i64 (p : Int), .int .i64 0], .bool false]) (by simp [results, Tryz.results92, go_sem, q0, q1]) rfl ⟨by rw [HX.out]; exact ⟨_, _, rfl⟩, HB1.out⟩
    | some q =>
      obtain ⟨q, a2⟩ := q
      have HX : Hid (Pu.chunk1 D E a = some ((p, q), a2)) := by rw [Hid, HC2.out, hq]
      rw [hq] at V2
      clear hq HC2
      go_wp2_with fail
      refine V2.out.mono ?_
      rintro e w2 ⟨⟨rfl, hS2⟩, hb2, hk2⟩
      obtain ⟨b3, k3⟩ := HBK.out w2 hb2 hk2
      obtain ⟨r1, B1, K1, F1⟩ := FE.out w2 (.int .i64 (p : Int)) (.int .i64 (q : Int)) a2 b3 k3
      have k0 : w2.cell? ⟨w.heap.size, 0, none⟩ = some (.int .i64 0) := by rw [cell_of_row _ _ 0 _ _ _ r1]; rfl
      have k1 : w2.cell? ⟨w.heap.size, 1, none⟩ = some (.int .i64 0) := by rw [cell_of_row _ _ 1 _ _ _ r1]; rfl
      have g0 := frozen_of_row _ _ 0 _ _ r1
      have g1 := frozen_of_row _ _ 1 _ _ r1
      have FF := set2_row r1 (.int .i64 (p : Int)) (.int .i64 (q : Int))
      have q0 := cell_of_row _ _ 0 _ _ _ FF
      have q1 := cell_of_row _ _ 1 _ _ _ FF
      simp only [List.getElem?_toArray, List.getElem?_cons_zero, List.getElem?_cons_succ] at q0 q1
      have HF1 : Hid (FSt ((w2.setCell ⟨w.heap.size, 0, none⟩ (.int .i64 (p : Int))).setCell ⟨w.heap.size, 1, none⟩ (.int .i64 (q : Int))) R lb B D E a2 cs ws vr) := F1 hS2
      have HB1 : Hid (Below B w ((w2.setCell ⟨w.heap.size, 0, none⟩ (.int .i64 (p : Int))).setCell ⟨w.heap.size, 1, none⟩ (.int .i64 (q : Int))) ∧ KeepR R w ((w2.setCell ⟨w.heap.size, 0, none⟩ (.int .i64 (p : Int))).setCell ⟨w.heap.size, 1, none⟩ (.int .i64 (q : Int)))) := ⟨B1, K1⟩
      clear FF r1 hb2 hk2 b3 k3 B1 K1 F1 FE V2 HBK hsz hS2
      go_wp2
      exact bodyPost_ret (v := .tuple #[.agg #[.int .i64 (p : Int), .int .i64 (q : Int)], .bool true]) (by simp [results, Tryz.results92, go_sem, q0, q1]) rfl ⟨by rw [HX.out]; exact ⟨rfl, HF1.out⟩, HB1.out⟩

end Go.Proofs.YtjobhlncllfdmaaGreat
