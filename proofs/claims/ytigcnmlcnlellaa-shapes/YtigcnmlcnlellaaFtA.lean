/- The program's reader of a footer: its block, its state; contracts of number, name, has. -/
import Derived.Test.YtigcnmlcnlellaaProD
import Derived.Test.YtigcnmlcnlellaaLkF
import Derived.Deep.RegionWith
import Derived.Deep.RegionLaw
namespace Go.Proofs.Ytigcnmlcnlellaa
open Go.RowKit

/-- the reader in block R: what is left, where the footer begins, the columns, the rows -/
def Rd (w : World) (R : Nat) (r : Value) (E : Nat) (vc vr : Value) : Prop := w.heap[R]? = some (.cells #[r, .int .i64 (E : Int), vc, vr] 89 (0, 0))
section
variable {w w' : World} {R E : Nat} {r vc vr : Value}
theorem Rd.c0 (h : Rd w R r E vc vr) : w.cell? ⟨R, 0, none⟩ = some r := by rw [cell_of_row w R 0 _ _ _ h]; rfl
theorem Rd.c1 (h : Rd w R r E vc vr) : w.cell? ⟨R, 1, none⟩ = some (.int .i64 (E : Int)) := by rw [cell_of_row w R 1 _ _ _ h]; rfl
theorem Rd.c2 (h : Rd w R r E vc vr) : w.cell? ⟨R, 2, none⟩ = some vc := by rw [cell_of_row w R 2 _ _ _ h]; rfl
theorem Rd.c3 (h : Rd w R r E vc vr) : w.cell? ⟨R, 3, none⟩ = some vr := by rw [cell_of_row w R 3 _ _ _ h]; rfl
theorem Rd.fz (h : Rd w R r E vc vr) (j : Nat) : w.frozen? ⟨R, j, none⟩ = false := frozen_of_row w R j _ _ h
theorem Rd.ty (h : Rd w R r E vc vr) : Ty w R 89 := ⟨_, h⟩
theorem Rd.kept (h : Rd w R r E vc vr) (hw : w'.heap[R]? = w.heap[R]?) : Rd w' R r E vc vr := by unfold Rd; rw [hw]; exact h
theorem Rd.set0 (h : Rd w R r E vc vr) (u : Value) : Rd (w.setCell ⟨R, 0, none⟩ u) R u E vc vr := by unfold Rd; rw [heap_setCell_same w R 0 _ _ _ h]; rfl
theorem Rd.set2 (h : Rd w R r E vc vr) (u : Value) : Rd (w.setCell ⟨R, 2, none⟩ u) R r E u vr := by unfold Rd; rw [heap_setCell_same w R 2 _ _ _ h]; rfl
theorem Rd.set3 (h : Rd w R r E vc vr) (u : Value) : Rd (w.setCell ⟨R, 3, none⟩ u) R r E vc u := by unfold Rd; rw [heap_setCell_same w R 3 _ _ _ h]; rfl
end

/-- the whole state: at place a of the footer D, the columns cs and the rows rs told -/
def FSt (w : World) (R lb B : Nat) (D : List UInt8) (E a : Nat) (cs : List Pu.Col) (rs : List Nat) : Prop :=
  ∃ ao cap vc vr, Rd w R (.slice ao (D.length - a) cap) E vc vr ∧ a ≤ D.length ∧ Rest w lb ao cap (D.drop a) ∧ w.ownsRow B 45 3 vc cs.length (colsV cs) ∧ w.ownsRow B 3 1 vr rs.length (ints rs) ∧ lb < B ∧ B ≤ R

section
variable {w w1 : World} {R lb B : Nat} {D : List UInt8} {E a n : Nat} {cs : List Pu.Col} {rs : List Nat} {ao : Option Addr} {cap : Nat} {vc vr : Value}

theorem FSt.lt (h : FSt w R lb B D E a cs rs) : R < w.heap.size := by
  obtain ⟨_, _, _, _, hb, _⟩ := h; exact hb.ty.lt
theorem FSt.base (h : FSt w R lb B D E a cs rs) : B ≤ R := by
  obtain ⟨_, _, _, _, _, _, _, _, _, _, hB⟩ := h; exact hB
theorem FSt.le (h : FSt w R lb B D E a cs rs) : a ≤ D.length := by
  obtain ⟨_, _, _, _, _, ha, _⟩ := h; exact ha

/-- nothing old has turned -/
theorem FSt.below (h : FSt w R lb B D E a cs rs) (hb : Below w.heap.size w w1) : FSt w1 R lb B D E a cs rs := by
  have hR := h.lt
  obtain ⟨ao, cap, vc, vr, h1, h2, h3, h4, h5, h6, h7⟩ := h
  exact ⟨ao, cap, vc, vr, h1.kept (hb.block R hR), h2, h3.kept (hb.block lb (by omega)), own_agreeS h4 (fun k hk => hb.block k (own_tyS h4 hk).lt), own_agreeS h5 (fun k hk => hb.block k (own_tyS h5 hk).lt), h6, h7⟩

/-- n bytes further -/
theorem FSt.skip (hb : Rd w R (.slice ao (D.length - a) cap) E vc vr) (ha : a + n ≤ D.length) (hr : Rest w lb ao cap (D.drop a)) (hc : w.ownsRow B 45 3 vc cs.length (colsV cs)) (ho : w.ownsRow B 3 1 vr rs.length (ints rs)) (hl : lb < B) (hB : B ≤ R) :
    FSt (w.setCell ⟨R, 0, none⟩ (.slice (cutA ao cap n) (D.length - a - n) (cap - n))) R lb B D E (a + n) cs rs := by
  have hr2 := hr.drop n (by simp; omega)
  rw [List.drop_drop] at hr2
  exact ⟨cutA ao cap n, cap - n, vc, vr, by rw [show D.length - (a + n) = D.length - a - n by omega]; exact hb.set0 _, ha, hr2.kept (heap_setCell_other w _ _ _ (by simp only []; omega)), ownsRow_set_other' hc (fun e' => Ty.ne (own_tyS hc e') hb.ty (by decide) rfl), ownsRow_set_other' ho (fun e' => Ty.ne (own_tyS ho e') hb.ty (by decide) rfl), hl, hB⟩
end

/-- a number from least to most -/
def Pu.num (D : List UInt8) (a least most : Nat) : Option (Nat × Nat) :=
  match Pu.vi D a with
  | none => none
  | some (n, nx) => if n < least ∨ most < n then none else some (n, nx)

def NumAns (R lb B : Nat) (D : List UInt8) (E : Nat) (cs : List Pu.Col) (rs : List Nat) (r : Option (Nat × Nat)) (e : Ending) (w' : World) : Prop :=
  match r with
  | none => e = .returned (.tuple #[.int .i64 0, .bool false])
  | some (n, nx) => e = .returned (.tuple #[.int .i64 (n : Int), .bool true]) ∧ FSt w' R lb B D E nx cs rs

set_option maxHeartbeats 2000000 in
set_option maxRecDepth 100000 in
theorem fnumber (R lb B : Nat) (D : List UInt8) (E a least most : Nat) (cs : List Pu.Col) (rs : List Nat) (w : World) (h : FSt w R lb B D E a cs rs) (_hl : least ≤ 140737488355328) (_hm : most ≤ 140737488355328) :
    Calls Try.prog 55 #[.pointer (some ⟨R, 0, none⟩), .int .i64 (least : Int), .int .i64 (most : Int)] w fun e w' => NumAns R lb B D E cs rs (Pu.num D a least most) e w' ∧ Below B w w' := by
  obtain ⟨ao, cap, vc, vr, hb, ha, hr, hc, ho, hlb, hB⟩ := h
  have V : Hid (Calls Try.prog 40 #[.pointer (some ⟨R, 0, none⟩)] w fun e w' => VAns D a R 0 ao (D.length - a) cap w e w') := varintP_any D a R 0 lb ao cap w ha hr hb.c0 (hb.fz 0)
  cases hvi : Pu.vi D a with
  | none =>
    have HX : Hid (Pu.num D a least most = none) := by simp [Hid, Pu.num, hvi]
    unfold VAns at V
    rw [hvi] at V
    clear hvi hr ho hc hb
    go_enter Try.func55, Try.ntmps55
    go_wp2_with fail
    refine V.out.mono ?_
    rintro e w' ⟨rfl, hw'⟩
    subst w'
    go_wp2
    go_ret2
    exact ⟨by rw [HX.out]; rfl, Below.refl _ _⟩
  | some pr =>
    obtain ⟨n, nx⟩ := pr
    obtain ⟨hv1, hv2, hv3⟩ := Pu.vi_lt hvi
    unfold VAns at V
    rw [hvi] at V
    have hS := FSt.skip (n := nx - a) hb (by omega) hr hc ho hlb hB
    rw [show a + (nx - a) = nx by omega] at hS
    have hbel : Below B w (w.setCell ⟨R, 0, none⟩ (.slice (cutA ao cap (nx - a)) (D.length - a - (nx - a)) (cap - (nx - a)))) := (Below.refl _ _).setCell hB _
    obtain ⟨w1, hw1⟩ : ∃ w1, w1 = (w.setCell ⟨R, 0, none⟩ (.slice (cutA ao cap (nx - a)) (D.length - a - (nx - a)) (cap - (nx - a)))) := ⟨_, rfl⟩
    have V2 : Hid (Calls Try.prog 40 #[.pointer (some ⟨R, 0, none⟩)] w fun e w' => e = .returned (.tuple #[.int .u32 (n : Int), .bool true]) ∧ w' = w1) := by rw [hw1]; exact V.out
    rw [← hw1] at hS hbel
    have HS : Hid (FSt w1 R lb B D E nx cs rs) := hS
    clear V hw1 hS hr ho hc hb
    by_cases hbad : n < least ∨ most < n
    · have HX : Hid (Pu.num D a least most = none) := by simp only [Hid, Pu.num, hvi]; rw [if_pos hbad]
      clear hvi
      by_cases h1 : n < least
      · clear hbad
        go_enter Try.func55, Try.ntmps55
        go_wp2_with fail
        refine V2.out.mono ?_
        rintro e w' ⟨rfl, hw'⟩
        subst w'
        go_wp2
        go_ret2
        exact ⟨by rw [HX.out]; rfl, hbel⟩
      · have h2 : most < n := by omega
        clear hbad
        go_enter Try.func55, Try.ntmps55
        go_wp2_with fail
        refine V2.out.mono ?_
        rintro e w' ⟨rfl, hw'⟩
        subst w'
        go_wp2
        go_ret2
        exact ⟨by rw [HX.out]; rfl, hbel⟩
    · have HX : Hid (Pu.num D a least most = some (n, nx)) := by simp only [Hid, Pu.num, hvi]; rw [if_neg hbad]
      have h1 : least ≤ n := by omega
      have h2 : n ≤ most := by omega
      clear hvi hbad
      go_enter Try.func55, Try.ntmps55
      go_wp2_with fail
      refine V2.out.mono ?_
      rintro e w' ⟨rfl, hw'⟩
      subst w'
      go_wp2
      go_ret2
      exact ⟨by rw [HX.out]; exact ⟨rfl, HS.out⟩, hbel⟩

/-- a name -/
def Pu.nameAt (D : List UInt8) (a : Nat) : Option (List UInt8 × Nat) :=
  match Pu.num D a 1 20 with
  | none => none
  | some (z, nx) => if D.length < nx + z then none else some (Pu.piece D nx z, nx + z)

def NmAns (R lb B : Nat) (D : List UInt8) (E : Nat) (cs : List Pu.Col) (rs : List Nat) (r : Option (List UInt8 × Nat)) (e : Ending) (w' : World) : Prop :=
  match r with
  | none => e = .returned (.tuple #[.string ⟨#[]⟩, .bool false])
  | some (nm, nx) => e = .returned (.tuple #[.string ⟨nm.toArray⟩, .bool true]) ∧ FSt w' R lb B D E nx cs rs

/-- the text of bytes that are read -/
theorem text_of_rest {w : World} {lb : Nat} {ao : Option Addr} {cap : Nat} {L : List UInt8} (h : Rest w lb ao cap L) (h0 : 0 < L.length) : (convert 24 9 (.slice ao L.length cap)).run Try.prog w = .ok (.string ⟨L.toArray⟩) w := by
  obtain ⟨_, _, h3⟩ := h
  rcases h3 with rfl | ⟨o, rfl, hc⟩
  · simp at h0
  · exact run_convert_bytes_back (P := Try.prog) w 24 9 5 ⟨lb, o, none⟩ cap L Try.underlying24 Try.underlying5 Try.underlying9 (fun j hj => by
      rw [show (⟨lb, o, none⟩ : Addr).add j = ⟨lb, o + j, none⟩ from by unfold Addr.add; split <;> simp_all, hc j hj]
      simp only [Pu.byteAt, List.getD_eq_getElem?_getD, List.getElem?_eq_getElem hj, Option.getD_some])

end Go.Proofs.Ytigcnmlcnlellaa
