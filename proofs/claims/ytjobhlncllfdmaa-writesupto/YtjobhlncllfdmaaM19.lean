/- The program's reader of a footer: its block, its state; contracts of number, name, has. -/
import Derived.Test.YtjobhlncllfdmaaM15
import Derived.Test.YtjobhlncllfdmaaM12
import Derived.Deep.RegionWith
import Derived.Deep.RegionLaw
import Derived.Laws.BytesArg
namespace Go.Proofs.Ytjobhlncllfdmaa
open Go.RowKit

/-- the reader in block R: what is left, the columns, the groups, where the footer begins -/
def Rd (w : World) (R : Nat) (r : Value) (E : Nat) (vc vr : Value) : Prop := w.heap[R]? = some (.cells #[r, vc, vr, .int .i64 (E : Int)] 135 (0, 0))
section
variable {w w' : World} {R E : Nat} {r vc vr : Value}
theorem Rd.c0 (h : Rd w R r E vc vr) : w.cell? ⟨R, 0, none⟩ = some r := by rw [cell_of_row w R 0 _ _ _ h]; rfl
theorem Rd.c1 (h : Rd w R r E vc vr) : w.cell? ⟨R, 1, none⟩ = some vc := by rw [cell_of_row w R 1 _ _ _ h]; rfl
theorem Rd.c2 (h : Rd w R r E vc vr) : w.cell? ⟨R, 2, none⟩ = some vr := by rw [cell_of_row w R 2 _ _ _ h]; rfl
theorem Rd.c3 (h : Rd w R r E vc vr) : w.cell? ⟨R, 3, none⟩ = some (.int .i64 (E : Int)) := by rw [cell_of_row w R 3 _ _ _ h]; rfl
theorem Rd.fz (h : Rd w R r E vc vr) (j : Nat) : w.frozen? ⟨R, j, none⟩ = false := frozen_of_row w R j _ _ h
theorem Rd.ty (h : Rd w R r E vc vr) : Ty w R 135 := ⟨_, h⟩
theorem Rd.kept (h : Rd w R r E vc vr) (hw : w'.heap[R]? = w.heap[R]?) : Rd w' R r E vc vr := by unfold Rd; rw [hw]; exact h
theorem Rd.set0 (h : Rd w R r E vc vr) (u : Value) : Rd (w.setCell ⟨R, 0, none⟩ u) R u E vc vr := by unfold Rd; rw [heap_setCell_same w R 0 _ _ _ h]; rfl
theorem Rd.set1 (h : Rd w R r E vc vr) (u : Value) : Rd (w.setCell ⟨R, 1, none⟩ u) R r E u vr := by unfold Rd; rw [heap_setCell_same w R 1 _ _ _ h]; rfl
theorem Rd.set2 (h : Rd w R r E vc vr) (u : Value) : Rd (w.setCell ⟨R, 2, none⟩ u) R r E vc u := by unfold Rd; rw [heap_setCell_same w R 2 _ _ _ h]; rfl
end

/-- groups as cells: how many rows, and the slice of places -/
def grV (g : Nat × Value) : List Value := [.int .i64 (g.1 : Int), g.2]
def grsV (ws : List (Nat × Value)) : List Value := ws.flatMap grV
theorem grsV_snoc (ws : List (Nat × Value)) (g : Nat × Value) : grsV (ws ++ [g]) = grsV ws ++ grV g := by simp [grsV]

/-- but for block R, nothing old has turned -/
def KeepR (R : Nat) (w w' : World) : Prop := ∀ k, k < w.heap.size → k ≠ R → w'.heap[k]? = w.heap[k]?
theorem KeepR.refl (R : Nat) (w : World) : KeepR R w w := fun _ _ _ => rfl
theorem KeepR.set (R : Nat) (w : World) (j : Nat) (u : Value) : KeepR R w (w.setCell ⟨R, j, none⟩ u) := fun k _ hk => heap_setCell_other w ⟨R, j, none⟩ k u hk
theorem KeepR.trans {R : Nat} {w w1 w2 : World} (h : KeepR R w w1) (hs : w.heap.size ≤ w1.heap.size) (h2 : KeepR R w1 w2) : KeepR R w w2 := fun k hk hR => by rw [h2 k (by omega) hR]; exact h k hk hR

/-- the whole state: at place a of the footer D, the columns cs and the rows ws told -/
def FSt (w : World) (R lb B : Nat) (D : List UInt8) (E a : Nat) (cs : List Pu.Col) (ws : List (Nat × Value)) (vr : Value) : Prop :=
  ∃ ao cap vc, Rd w R (.slice ao (D.length - a) cap) E vc vr ∧ a ≤ D.length ∧ Rest w lb ao cap (D.drop a) ∧ w.ownsRow B 45 3 vc cs.length (colsV cs) ∧ w.ownsRow B 105 2 vr ws.length (grsV ws) ∧ lb < B ∧ B ≤ R

section
variable {w w1 : World} {R lb B : Nat} {D : List UInt8} {E a n : Nat} {cs : List Pu.Col} {ws : List (Nat × Value)} {ao : Option Addr} {cap : Nat} {vc vr : Value}

theorem FSt.lt (h : FSt w R lb B D E a cs ws vr) : R < w.heap.size := by
  obtain ⟨_, _, _, hb, _⟩ := h; exact hb.ty.lt
theorem FSt.base (h : FSt w R lb B D E a cs ws vr) : B ≤ R := by
  obtain ⟨_, _, _, _, _, _, _, _, _, hB⟩ := h; exact hB
theorem FSt.le (h : FSt w R lb B D E a cs ws vr) : a ≤ D.length := by
  obtain ⟨_, _, _, _, ha, _⟩ := h; exact ha

/-- nothing old has turned -/
theorem FSt.below (h : FSt w R lb B D E a cs ws vr) (hb : Below w.heap.size w w1) : FSt w1 R lb B D E a cs ws vr := by
  have hR := h.lt
  obtain ⟨ao, cap, vc, h1, h2, h3, h4, h5, h6, h7⟩ := h
  exact ⟨ao, cap, vc, h1.kept (hb.block R hR), h2, h3.kept (hb.block lb (by omega)), own_agreeS h4 (fun k hk => hb.block k (own_tyS h4 hk).lt), own_agreeS h5 (fun k hk => hb.block k (own_tyS h5 hk).lt), h6, h7⟩

/-- n bytes further -/
theorem FSt.skip (hb : Rd w R (.slice ao (D.length - a) cap) E vc vr) (ha : a + n ≤ D.length) (hr : Rest w lb ao cap (D.drop a)) (hc : w.ownsRow B 45 3 vc cs.length (colsV cs)) (ho : w.ownsRow B 105 2 vr ws.length (grsV ws)) (hl : lb < B) (hB : B ≤ R) :
    FSt (w.setCell ⟨R, 0, none⟩ (.slice (cutA ao cap n) (D.length - a - n) (cap - n))) R lb B D E (a + n) cs ws vr := by
  have hr2 := hr.drop n (by simp; omega)
  rw [List.drop_drop] at hr2
  exact ⟨cutA ao cap n, cap - n, vc, by rw [show D.length - (a + n) = D.length - a - n by omega]; exact hb.set0 _, ha, hr2.kept (heap_setCell_other w _ _ _ (by simp only []; omega)), ownsRow_set_other' hc (fun e' => Ty.ne (own_tyS hc e') hb.ty (by decide) rfl), ownsRow_set_other' ho (fun e' => Ty.ne (own_tyS ho e') hb.ty (by decide) rfl), hl, hB⟩
end

/-- a number from least to most -/
def Pu.num (D : List UInt8) (a least most : Nat) : Option (Nat × Nat) :=
  match Pu.vi D a with
  | none => none
  | some (n, nx) => if n < least ∨ most < n then none else some (n, nx)

def NumAns (R lb B : Nat) (D : List UInt8) (E : Nat) (cs : List Pu.Col) (ws : List (Nat × Value)) (vr : Value) (r : Option (Nat × Nat)) (e : Ending) (w' : World) : Prop :=
  match r with
  | none => e = .returned (.tuple #[.int .i64 0, .bool false])
  | some (n, nx) => e = .returned (.tuple #[.int .i64 (n : Int), .bool true]) ∧ FSt w' R lb B D E nx cs ws vr

set_option maxHeartbeats 2000000 in
set_option maxRecDepth 100000 in
theorem fnumberK (R lb B : Nat) (D : List UInt8) (E a least most : Nat) (cs : List Pu.Col) (ws : List (Nat × Value)) (vr : Value) (w : World) (h : FSt w R lb B D E a cs ws vr) (_hl : least ≤ 140737488355328) (_hm : most ≤ 140737488355328) :
    Calls Try.prog 96 #[.pointer (some ⟨R, 0, none⟩), .int .i64 (least : Int), .int .i64 (most : Int)] w fun e w' => NumAns R lb B D E cs ws vr (Pu.num D a least most) e w' ∧ Below B w w' ∧ KeepR R w w' := by
  obtain ⟨ao, cap, vc, hb, ha, hr, hc, ho, hlb, hB⟩ := h
  have V : Hid (Calls Try.prog 62 #[.pointer (some ⟨R, 0, none⟩)] w fun e w' => VAns D a R 0 ao (D.length - a) cap w e w') := varintP_any D a R 0 lb ao cap w ha hr hb.c0 (hb.fz 0)
  cases hvi : Pu.vi D a with
  | none =>
    have HX : Hid (Pu.num D a least most = none) := by simp [Hid, Pu.num, hvi]
    unfold VAns at V
    rw [hvi] at V
    clear hvi hr ho hc hb
    go_enter Try.func96, Try.ntmps96
    go_wp2_with fail
    refine V.out.mono ?_
    rintro e w' ⟨rfl, hw'⟩
    subst w'
    go_wp2
    go_ret2
    exact ⟨by rw [HX.out]; rfl, Below.refl _ _, KeepR.refl _ _⟩
  | some pr =>
    obtain ⟨n, nx⟩ := pr
    obtain ⟨hv1, hv2, hv3⟩ := Pu.vi_lt hvi
    unfold VAns at V
    rw [hvi] at V
    have hS := FSt.skip (n := nx - a) hb (by omega) hr hc ho hlb hB
    rw [show a + (nx - a) = nx by omega] at hS
    have hbel : Below B w (w.setCell ⟨R, 0, none⟩ (.slice (cutA ao cap (nx - a)) (D.length - a - (nx - a)) (cap - (nx - a)))) := (Below.refl _ _).setCell hB _
    obtain ⟨w1, hw1⟩ : ∃ w1, w1 = (w.setCell ⟨R, 0, none⟩ (.slice (cutA ao cap (nx - a)) (D.length - a - (nx - a)) (cap - (nx - a)))) := ⟨_, rfl⟩
    have V2 : Hid (Calls Try.prog 62 #[.pointer (some ⟨R, 0, none⟩)] w fun e w' => e = .returned (.tuple #[.int .u32 (n : Int), .bool true]) ∧ w' = w1) := by rw [hw1]; exact V.out
    rw [← hw1] at hS hbel
    have HS : Hid (FSt w1 R lb B D E nx cs ws vr) := hS
    have HKp : Hid (KeepR R w w1) := by rw [hw1]; exact KeepR.set _ _ _ _
    clear V hw1 hS hr ho hc hb
    by_cases hbad : n < least ∨ most < n
    · have HX : Hid (Pu.num D a least most = none) := by simp only [Hid, Pu.num, hvi]; rw [if_pos hbad]
      clear hvi
      by_cases h1 : n < least
      · clear hbad
        go_enter Try.func96, Try.ntmps96
        go_wp2_with fail
        refine V2.out.mono ?_
        rintro e w' ⟨rfl, hw'⟩
        subst w'
        go_wp2
        go_ret2
        exact ⟨by rw [HX.out]; rfl, hbel, HKp.out⟩
      · have h2 : most < n := by omega
        clear hbad
        go_enter Try.func96, Try.ntmps96
        go_wp2_with fail
        refine V2.out.mono ?_
        rintro e w' ⟨rfl, hw'⟩
        subst w'
        go_wp2
        go_ret2
        exact ⟨by rw [HX.out]; rfl, hbel, HKp.out⟩
    · have HX : Hid (Pu.num D a least most = some (n, nx)) := by simp only [Hid, Pu.num, hvi]; rw [if_neg hbad]
      have h1 : least ≤ n := by omega
      have h2 : n ≤ most := by omega
      clear hvi hbad
      go_enter Try.func96, Try.ntmps96
      go_wp2_with fail
      refine V2.out.mono ?_
      rintro e w' ⟨rfl, hw'⟩
      subst w'
      go_wp2
      go_ret2
      exact ⟨by rw [HX.out]; exact ⟨rfl, HS.out⟩, hbel, HKp.out⟩

theorem fnumber (R lb B : Nat) (D : List UInt8) (E a least most : Nat) (cs : List Pu.Col) (ws : List (Nat × Value)) (vr : Value) (w : World) (h : FSt w R lb B D E a cs ws vr) (hl : least ≤ 140737488355328) (hm : most ≤ 140737488355328) :
    Calls Try.prog 96 #[.pointer (some ⟨R, 0, none⟩), .int .i64 (least : Int), .int .i64 (most : Int)] w fun e w' => NumAns R lb B D E cs ws vr (Pu.num D a least most) e w' ∧ Below B w w' :=
  (fnumberK R lb B D E a least most cs ws vr w h hl hm).mono fun _ _ h => ⟨h.1, h.2.1⟩

/-- a name -/
def Pu.nameAt (D : List UInt8) (a : Nat) : Option (List UInt8 × Nat) :=
  match Pu.num D a 1 20 with
  | none => none
  | some (z, nx) => if D.length < nx + z then none else some (Pu.piece D nx z, nx + z)

def NmAns (R lb B : Nat) (D : List UInt8) (E : Nat) (cs : List Pu.Col) (ws : List (Nat × Value)) (vr : Value) (r : Option (List UInt8 × Nat)) (e : Ending) (w' : World) : Prop :=
  match r with
  | none => e = .returned (.tuple #[.string ⟨#[]⟩, .bool false])
  | some (nm, nx) => e = .returned (.tuple #[.string ⟨nm.toArray⟩, .bool true]) ∧ FSt w' R lb B D E nx cs ws vr

/-- the text of bytes that are read -/
theorem text_of_rest {w : World} {lb : Nat} {ao : Option Addr} {cap : Nat} {L : List UInt8} (h : Rest w lb ao cap L) (h0 : 0 < L.length) : (convert 24 9 (.slice ao L.length cap)).run Try.prog w = .ok (.string ⟨L.toArray⟩) w := by
  obtain ⟨_, _, h3⟩ := h
  rcases h3 with rfl | ⟨o, rfl, hc⟩
  · simp at h0
  · exact run_convert_bytes_back (P := Try.prog) w 24 9 5 ⟨lb, o, none⟩ cap L Try.underlying24 Try.underlying5 Try.underlying9 (fun j hj => by
      rw [show (⟨lb, o, none⟩ : Addr).add j = ⟨lb, o + j, none⟩ from by unfold Addr.add; split <;> simp_all, hc j hj]
      simp only [Pu.byteAt, List.getD_eq_getElem?_getD, List.getElem?_eq_getElem hj, Option.getD_some])

end Go.Proofs.Ytjobhlncllfdmaa

/- The program's reader of a footer: contracts of name, has. -/
namespace Go.Proofs.Ytjobhlncllfdmaa
open Go.RowKit

theorem kind_bits : ∀ b : Fin 256, (((b.val = 3 ∨ 6 < b.val) → (2 : Int) < bits .andNot .u32 (b.val : Int) 4) ∧ (¬ (b.val = 3 ∨ 6 < b.val) → bits .andNot .u32 (b.val : Int) 4 = ((b.val % 4 : Nat) : Int) ∧ (bits .and .u32 (b.val : Int) 4 != 0) = decide (4 ≤ b.val))) ∧ (0 ≤ bits .andNot .u32 (b.val : Int) 4 ∧ bits .andNot .u32 (b.val : Int) 4 < 256) := by decide +kernel

set_option maxHeartbeats 2000000 in
set_option maxRecDepth 100000 in
theorem fname (R lb B : Nat) (D : List UInt8) (E a : Nat) (cs : List Pu.Col) (ws : List (Nat × Value)) (vr : Value) (w : World) (h : FSt w R lb B D E a cs ws vr) :
    Calls Try.prog 104 #[.pointer (some ⟨R, 0, none⟩)] w fun e w' => NmAns R lb B D E cs ws vr (Pu.nameAt D a) e w' ∧ Below B w w' := by
  have V : Hid (Calls Try.prog 96 #[.pointer (some ⟨R, 0, none⟩), .int .i64 1, .int .i64 20] w fun e w' => NumAns R lb B D E cs ws vr (Pu.num D a 1 20) e w' ∧ Below B w w') := fnumber R lb B D E a 1 20 cs ws vr w h (by omega) (by omega)
  have hBR := h.base
  clear h
  cases hn : Pu.num D a 1 20 with
  | none =>
    have HX : Hid (Pu.nameAt D a = none) := by simp [Hid, Pu.nameAt, hn]
    rw [hn] at V
    clear hn
    go_enter Try.func104, Try.ntmps104
    go_wp2_with fail
    refine V.out.mono ?_
    rintro e w' ⟨rfl, hbel⟩
    go_wp2
    go_ret2
    exact ⟨by rw [HX.out]; rfl, hbel⟩
  | some pr =>
    obtain ⟨z, nx⟩ := pr
    have hz : 1 ≤ z ∧ z ≤ 20 := by
      unfold Pu.num at hn
      cases hv : Pu.vi D a with
      | none => simp [hv] at hn
      | some q =>
        obtain ⟨y, ny⟩ := q
        simp only [hv] at hn
        split at hn
        · cases hn
        · simp only [Option.some.injEq, Prod.mk.injEq] at hn; omega
    obtain ⟨hz1, hz2⟩ := hz
    rw [hn] at V
    by_cases hfit : D.length < nx + z
    · have HX : Hid (Pu.nameAt D a = none) := by simp only [Hid, Pu.nameAt, hn]; rw [if_pos hfit]
      clear hn
      go_enter Try.func104, Try.ntmps104
      go_wp2_with fail
      refine V.out.mono ?_
      rintro e w1 ⟨⟨rfl, hS⟩, hbel⟩
      have T : Hid (Calls Try.prog 79 #[.pointer (some ⟨R, 0, none⟩), .int .i64 (z : Int)] w1 fun e w' => e = .returned (.tuple #[.slice none 0 0, .bool false]) ∧ w' = w1) := by
        obtain ⟨ao, cap, vc, hb, ha, hr, hc, ho, hlb, hB⟩ := hS
        exact take_no R 0 z ao (D.length - nx) cap w1 hb.c0 (by omega) (by have := hr.1; have := hr.2.1; rw [List.length_drop] at *; omega)
      have CV : (convert 24 9 (.slice none 0 0)).run Try.prog w1 = .ok (.string ⟨#[]⟩) w1 := run_convert_bytes_nil (P := Try.prog) w1 24 5 Try.underlying24 Try.underlying5 0 0 9 Try.underlying9
      clear hS
      go_wp2_with fail
      refine T.out.mono ?_
      rintro e w' ⟨rfl, hw'⟩
      subst w'
      go_wp2
      go_ret2
      exact ⟨by rw [HX.out]; rfl, hbel⟩
    · have HX : Hid (Pu.nameAt D a = some (Pu.piece D nx z, nx + z)) := by simp only [Hid, Pu.nameAt, hn]; rw [if_neg hfit]
      clear hn
      go_enter Try.func104, Try.ntmps104
      go_wp2_with fail
      refine V.out.mono ?_
      rintro e w1 ⟨⟨rfl, hS⟩, hbel⟩
      have T : Hid (∃ ao w2, Calls Try.prog 79 #[.pointer (some ⟨R, 0, none⟩), .int .i64 (z : Int)] w1 (fun e w' => e = .returned (.tuple #[.slice ao z z, .bool true]) ∧ w' = w2) ∧ (convert 24 9 (.slice ao z z)).run Try.prog w2 = .ok (.string ⟨(Pu.piece D nx z).toArray⟩) w2 ∧ FSt w2 R lb B D E (nx + z) cs ws vr ∧ Below B w w2) := by
        obtain ⟨ao, cap, vc, hb, ha, hr, hc, ho, hlb, hB⟩ := hS
        have hlen : (D.drop nx).length = D.length - nx := List.length_drop
        refine ⟨ao, _, take_yes R 0 z ao (D.length - nx) cap w1 hb.c0 (hb.fz 0) (by omega) (by have := hr.1; omega) hr.2.1, ?_, FSt.skip hb (by omega) hr hc ho hlb hB, hbel.setCell hB _⟩
        have hr2 := (hr.take z (by omega)).kept (w' := w1.setCell ⟨R, 0, none⟩ (.slice (cutA ao cap z) (D.length - nx - z) (cap - z))) (heap_setCell_other w1 _ _ _ (by simp only []; omega))
        have hl2 : ((D.drop nx).take z).length = z := by rw [List.length_take]; omega
        have := text_of_rest hr2 (by omega)
        rw [hl2] at this
        exact this
      obtain ⟨ao, w2, T1, T2, T3, T4⟩ := T.out
      have HT1 : Hid (Calls Try.prog 79 #[.pointer (some ⟨R, 0, none⟩), .int .i64 (z : Int)] w1 (fun e w' => e = .returned (.tuple #[.slice ao z z, .bool true]) ∧ w' = w2)) := T1
      have HT3 : Hid (FSt w2 R lb B D E (nx + z) cs ws vr) := T3
      clear hS T T1 T3
      go_wp2_with fail
      refine HT1.out.mono ?_
      rintro e w' ⟨rfl, hw'⟩
      subst w'
      go_wp2
      go_ret2
      exact ⟨by rw [HX.out]; exact ⟨rfl, HT3.out⟩, T4⟩

set_option maxHeartbeats 2000000 in
set_option maxRecDepth 100000 in
theorem fhas (R lb B : Nat) (D : List UInt8) (E a : Nat) (cs : List Pu.Col) (ws : List (Nat × Value)) (vr : Value) (s : ByteArray) (w : World) (h : FSt w R lb B D E a cs ws vr) (hcs : cs.length ≤ 20) :
    Calls Try.prog 105 #[.pointer (some ⟨R, 0, none⟩), .string s] w fun e w' => e = .returned (.bool (Pu.hasName cs s.data.toList)) ∧ Below w.heap.size w w' := by
  obtain ⟨ao, cap, vc, hb, ha, hr, hc, ho, hlb, hB⟩ := h
  obtain ⟨av, cv, rfl⟩ := slen_of hc
  have k2 := hb.c1
  have HC : Hid (∀ k, (hk : k < cs.length) → ∃ g, av = some ⟨g, 0, none⟩ ∧ w.cell? ⟨g, k * 3, none⟩ = some (strV cs[k].name) ∧ w.cell? ⟨g, k * 3 + 1, none⟩ = some (.int .i64 (cs[k].kind : Int)) ∧ w.cell? ⟨g, k * 3 + 2, none⟩ = some (.bool cs[k].opt)) := cols_cell hc
  have HG : Hid (∀ g, av = some ⟨g, 0, none⟩ → g < w.heap.size) := fun g hg => (own_tyS hc (k := g) (by rw [hg]; rfl)).lt
  have HN : Hid (∀ k, (hk : k < cs.length) → Pu.hasName (cs.take (k + 1)) s.data.toList = (Pu.hasName (cs.take k) s.data.toList || cs[k].name == s.data.toList)) := fun k hk => hasName_snoc cs k _ hk
  have HE : Hid (Pu.hasName (cs.take cs.length) s.data.toList = Pu.hasName cs s.data.toList) := by rw [Hid, List.take_length]
  have HT : Hid (∀ k, (hk : k < cs.length) → (⟨cs[k].name.toArray⟩ : ByteArray) = s → Pu.hasName cs s.data.toList = true) := fun k hk he => by
    unfold Pu.hasName
    rw [List.any_eq_true]
    exact ⟨cs[k], List.getElem_mem hk, by rw [(str_eq_iff _ _).1 he]; simp⟩
  clear hb hr hc ho
  go_enter Try.func105, Try.ntmps105
  go_wp2
  go_loopw [13] (fun i wr => ∃ k : Nat, k ≤ cs.length ∧ i = .int .i64 k ∧ Hid (Pu.hasName (cs.take k) s.data.toList = false) ∧ Hid (Below w.heap.size w wr)) (fun i _ => cs.length - (intOf i).toNat)
  case atStart => exact ⟨0, Nat.zero_le _, rfl, rfl, Below.refl _ _⟩
  case round =>
    obtain ⟨k, hk, rfl, Hk, Hb⟩ := hrel
    by_cases hk2 : k < cs.length
    · obtain ⟨g, rfl, d1, d2, d3⟩ := HC.out k hk2
      have hgl := HG.out g rfl
      rw [← World.cell?_of_block (w := w) (w' := wr) (Hb.out.block g hgl)] at d1 d2 d3
      unfold strV at d1
      have Hb2 : Hid (∀ o, Below w.heap.size w (wr.alloc o)) := fun o => Hb.out.alloc Hb.out.size o
      by_cases he : (⟨cs[k].name.toArray⟩ : ByteArray) = s
      · have Hr : Hid (Pu.hasName cs s.data.toList = true) := HT.out k hk2 he
        rw [he] at d1
        clear he
        generalize cs[k].kind = y at *
        generalize cs[k].opt = z at *
        go_wp2
        go_ret
        exact ⟨by rw [Hr.out]; rfl, Hb2.out _⟩
      · have Hn : Hid (Pu.hasName (cs.take (k + 1)) s.data.toList = false) := by
          rw [Hid, HN.out k hk2, Hk.out, Bool.false_or, beq_eq_false_iff_ne]
          exact fun e => he ((str_eq_iff _ _).2 e)
        have hd := str_ne he
        generalize (⟨cs[k].name.toArray⟩ : ByteArray) = t at *
        generalize cs[k].kind = y at *
        generalize cs[k].opt = z at *
        go_wp2
        go_roundw
        case rel => exact ⟨k + 1, by omega, by go_num, Hn, Hb2.out _⟩
        case measure => simp [intOf]; omega
    · obtain rfl : k = cs.length := by omega
      go_wp2
      go_ret
      exact ⟨by rw [← HE.out, Hk.out]; rfl, Hb.out⟩

end Go.Proofs.Ytjobhlncllfdmaa
