/- Contracts of the program's Varint (any reader) and numberAt. -/
import Derived.Test.YtjobhlncllfdmaaGreatM14
import Derived.Test.YtjobhlncllfdmaaGreatM07
import Derived.Deep.RegionWith
import Derived.Deep.RegionLaw
import Derived.Laws.BytesArg
namespace Go.Proofs.YtjobhlncllfdmaaGreat
open Go.RowKit

set_option maxHeartbeats 1000000 in
set_option maxRecDepth 100000 in
theorem varintP_empty (R o cap : Nat) (ao : Option Addr) (w : World)
    (hc : w.cell? ⟨R, o, none⟩ = some (.slice ao 0 cap)) :
    Calls Tryz.prog 89 #[.pointer (some ⟨R, o, none⟩)] w fun e w' => e = .returned (.tuple #[.int .u32 0, .bool false]) ∧ w' = w := by
  go_enter Tryz.func89, Tryz.ntmps89
  go_wp2
  go_loop [4, 12] (fun n i => n = .int .u32 0 ∧ i = .int .i64 0) (fun _ _ => 0)
  case atStart => exact ⟨rfl, rfl⟩
  case round =>
    obtain ⟨rfl, rfl⟩ := hrel
    go_wp2
    go_ret2
    exact ⟨rfl, rfl⟩

theorem varintP_any (D : List UInt8) (a R o lb : Nat) (ao : Option Addr) (cap : Nat) (w : World) (ha : a ≤ D.length) (hr : Rest w lb ao cap (D.drop a))
    (hc : w.cell? ⟨R, o, none⟩ = some (.slice ao (D.length - a) cap)) (hf : w.frozen? ⟨R, o, none⟩ = false) :
    Calls Tryz.prog 89 #[.pointer (some ⟨R, o, none⟩)] w fun e w' => VAns D a R o ao (D.length - a) cap w e w' := by
  obtain ⟨h1, h2, h3⟩ := hr
  rw [List.length_drop] at h1
  have hempty : D.length - a = 0 → Calls Tryz.prog 89 #[.pointer (some ⟨R, o, none⟩)] w fun e w' => VAns D a R o ao (D.length - a) cap w e w' := by
    intro h0
    rw [h0] at hc ⊢
    refine (varintP_empty R o cap ao w hc).mono ?_
    rintro e w' ⟨rfl, rfl⟩
    refine VAns.no ?_
    rw [show Pu.vi D a = Pu.viGo D a (5 - 0) 0 0 from rfl]
    exact vi_out (k := 0) (m := 0) (by omega) rfl
  rcases h3 with h3 | ⟨off, rfl, hcell⟩
  · exact hempty (by have := congrArg List.length h3; simpa using this)
  · rw [List.length_drop] at hcell
    exact varintP_row D a R o lb off cap (D.length - a) w rfl ha h1 h2 hc hf (fun j hj => by rw [← byteAt_drop]; exact hcell j hj)

theorem i64_or_small (a b : Nat) (ha : a < 2 ^ 62) (hb : b < 2 ^ 62) : bits .or .i64 (a : Int) (b : Int) = ((a ||| b : Nat) : Int) :=
  (bits_nat .i64 62 (by decide) (fun n h0 h1 => IntWalk.i64_in n ⟨by omega, by omega⟩) a b ha hb).2

theorem and1 (b : Nat) (hb : b < 256) : bits .and .u8 (b : Int) 1 = ((b % 2 : Nat) : Int) := by
  have := u8_and_nat b 1 hb (by omega)
  rw [Nat.and_two_pow_sub_one_eq_mod b 1] at this
  exact this

theorem orn (x b s k : Nat) (hx : x < 2 ^ k) (hk : k ≤ 24) (hb : b < 256) :
    bits .or .i64 (x : Int) (wrap64 (wrap64 (bits .and .u8 ((b : Int) / 2 ^ s) 1) * 2 ^ k)) = ((x + 2 ^ k * (b / 2 ^ s % 2) : Nat) : Int) := by
  have e1 : (b : Int) / 2 ^ s = ((b / 2 ^ s : Nat) : Int) := by simp
  have h1 : b / 2 ^ s ≤ b := Nat.div_le_self _ _
  have h2 : 2 ^ k ≤ 16777216 := Nat.le_trans (Nat.pow_le_pow_right (by omega) hk) (by decide)
  have h5 : b / 2 ^ s % 2 < 2 := Nat.mod_lt _ (by omega)
  rw [e1, and1 _ (by omega), IntWalk.wrap64_in ((b / 2 ^ s % 2 : Nat) : Int) (by omega)]
  have e2 : ((b / 2 ^ s % 2 : Nat) : Int) * 2 ^ k = ((b / 2 ^ s % 2 * 2 ^ k : Nat) : Int) := by simp
  rw [e2]
  have h3 : b / 2 ^ s % 2 * 2 ^ k ≤ 1 * 2 ^ k := Nat.mul_le_mul_right _ (by omega)
  have h4 : b / 2 ^ s % 2 * 2 ^ k ≤ 16777216 := by omega
  rw [IntWalk.wrap64_in _ (by generalize b / 2 ^ s % 2 * 2 ^ k = z at *; omega), i64_or_small _ _ (by omega) (by omega), Nat.or_comm, or_shift _ _ _ hx, Nat.add_comm, Nat.mul_comm]

set_option maxHeartbeats 1000000 in
set_option maxRecDepth 100000 in
theorem numberAt_row (L : List UInt8) (lb o cap q W : Nat) (w : World) (hW : W ≤ 24) (hq : q + W ≤ 8 * L.length) (hL : L.length ≤ 1000000000000)
    (hrow : ∀ j, j < L.length → w.cell? ⟨lb, o + j, none⟩ = some (.int .u8 (Pu.byteAt L j : Int))) :
    Calls Tryz.prog 115 #[.slice (some ⟨lb, o, none⟩) L.length cap, .int .i64 q, .int .i64 W] w fun e w' => e = .returned (.int .i64 (Pu.nAt L q W)) ∧ w' = w := by
  have Hrow : Hid (∀ j, j < L.length → w.cell? ⟨lb, o + j, none⟩ = some (.int .u8 (Pu.byteAt L j : Int))) := hrow
  clear hrow
  go_enter Tryz.func115, Tryz.ntmps115
  go_wp2
  go_loop [7, 12] (fun n i => ∃ k x : Nat, k ≤ W ∧ Hid (x = Pu.nAt L q k) ∧ n = .int .i64 x ∧ i = .int .i64 k) (fun _ i => W - (intOf i).toNat)
  case atStart => exact ⟨0, 0, Nat.zero_le _, rfl, rfl, rfl⟩
  case round =>
    obtain ⟨k, x, hk, Hx, rfl, rfl⟩ := hrel
    by_cases hkW : k < W
    · have HB : ∃ b, Hid (b = Pu.byteAt L ((q + k) / 8)) ∧ b < 256 ∧ w.cell? ⟨lb, o + (q + k) / 8, none⟩ = some (.int .u8 (b : Int)) := ⟨_, rfl, Pu.byteAt_lt _ _, Hrow.out _ (by omega)⟩
      obtain ⟨b, HB, hb, hcb⟩ := HB
      have hor := orn x b ((q + k) % 8) k (by rw [Hx.out]; exact Pu.nAt_lt L q k) (by omega) hb
      have HN : Hid (x + 2 ^ k * (b / 2 ^ ((q + k) % 8) % 2) = Pu.nAt L q (k + 1)) := by
        rw [Hid, Pu.nAt, Hx.out, HB.out]; rfl
      obtain ⟨y, hy⟩ : ∃ y, y = x + 2 ^ k * (b / 2 ^ ((q + k) % 8) % 2) := ⟨_, rfl⟩
      rw [← hy] at hor
      have HN2 : Hid (y = Pu.nAt L q (k + 1)) := by rw [Hid, hy]; exact HN.out
      clear hy HN
      go_wp2
      go_round
      case rel => exact ⟨k + 1, y, by omega, HN2, by rw [← hor], by go_num⟩
      case measure => simp [intOf]; omega
    · obtain rfl : k = W := by omega
      go_wp2
      go_ret
      exact ⟨ret_int (by rw [Hx.out]), rfl⟩

set_option maxHeartbeats 1000000 in
theorem numberAt_zero (v : Value) (q : Int) (w : World) :
    Calls Tryz.prog 115 #[v, .int .i64 q, .int .i64 0] w fun e w' => e = .returned (.int .i64 0) ∧ w' = w := by
  go_enter Tryz.func115, Tryz.ntmps115
  go_wp2
  go_loop [7, 12] (fun n i => n = .int .i64 0 ∧ i = .int .i64 0) (fun _ _ => 0)
  case atStart => exact ⟨rfl, rfl⟩
  case round =>
    obtain ⟨rfl, rfl⟩ := hrel
    go_wp2
    go_ret
    exact ⟨rfl, rfl⟩

theorem numberAt_any (L : List UInt8) (lb : Nat) (ao : Option Addr) (cap q W : Nat) (w : World) (hW : W ≤ 24) (hq : q + W ≤ 8 * L.length) (hL : L.length ≤ 1000000000000) (hr : Rest w lb ao cap L) :
    Calls Tryz.prog 115 #[.slice ao L.length cap, .int .i64 q, .int .i64 W] w fun e w' => e = .returned (.int .i64 (Pu.nAt L q W)) ∧ w' = w := by
  obtain ⟨_, _, h3⟩ := hr
  rcases h3 with rfl | ⟨o, rfl, hc⟩
  · have : W = 0 := by simp at hq; omega
    subst this
    exact numberAt_zero _ _ w
  · exact numberAt_row L lb o cap q W w hW hq hL hc

end Go.Proofs.YtjobhlncllfdmaaGreat

/- The program's reader of a footer: its block, its state; contracts of number, name, has. -/
namespace Go.Proofs.YtjobhlncllfdmaaGreat
open Go.RowKit

/-- the reader in block R: what is left, the columns, the groups, where the footer begins -/
def Rd (w : World) (R : Nat) (r : Value) (E : Nat) (vc vr : Value) : Prop := w.heap[R]? = some (.cells #[r, vc, vr, .int .i64 (E : Int)] 126 (0, 0))
section
variable {w w' : World} {R E : Nat} {r vc vr : Value}
theorem Rd.c0 (h : Rd w R r E vc vr) : w.cell? ⟨R, 0, none⟩ = some r := by rw [cell_of_row w R 0 _ _ _ h]; rfl
theorem Rd.c1 (h : Rd w R r E vc vr) : w.cell? ⟨R, 1, none⟩ = some vc := by rw [cell_of_row w R 1 _ _ _ h]; rfl
theorem Rd.c2 (h : Rd w R r E vc vr) : w.cell? ⟨R, 2, none⟩ = some vr := by rw [cell_of_row w R 2 _ _ _ h]; rfl
theorem Rd.c3 (h : Rd w R r E vc vr) : w.cell? ⟨R, 3, none⟩ = some (.int .i64 (E : Int)) := by rw [cell_of_row w R 3 _ _ _ h]; rfl
theorem Rd.fz (h : Rd w R r E vc vr) (j : Nat) : w.frozen? ⟨R, j, none⟩ = false := frozen_of_row w R j _ _ h
theorem Rd.ty (h : Rd w R r E vc vr) : Ty w R 126 := ⟨_, h⟩
theorem Rd.kept (h : Rd w R r E vc vr) (hw : w'.heap[R]? = w.heap[R]?) : Rd w' R r E vc vr := by unfold Rd; rw [hw]; exact h
theorem Rd.set0 (h : Rd w R r E vc vr) (u : Value) : Rd (w.setCell ⟨R, 0, none⟩ u) R u E vc vr := by unfold Rd; rw [heap_setCell_same w R 0 _ _ _ h]; rfl
theorem Rd.set1 (h : Rd w R r E vc vr) (u : Value) : Rd (w.setCell ⟨R, 1, none⟩ u) R r E u vr := by unfold Rd; rw [heap_setCell_same w R 1 _ _ _ h]; rfl
theorem Rd.set2 (h : Rd w R r E vc vr) (u : Value) : Rd (w.setCell ⟨R, 2, none⟩ u) R r E vc u := by unfold Rd; rw [heap_setCell_same w R 2 _ _ _ h]; rfl
end

/-- groups as cells: how many rows, and the slice of places -/
def grV (g : Nat × Value) : List Value := [.int .i64 (g.1 : Int), g.2]
def grsV (ws : List (Nat × Value)) : List Value := ws.flatMap grV
theorem grsV_snoc (ws : List (Nat × Value)) (g : Nat × Value) : grsV (ws ++ [g]) = grsV ws ++ grV g := by simp [grsV]

/-- but for block R, nothing old has turned -/
def KeepR (R : Nat) (w w' : World) : Prop := ∀ k, k < w.heap.size → k ≠ R → w'.heap[k]? = w.heap[k]?
theorem KeepR.refl (R : Nat) (w : World) : KeepR R w w := fun _ _ _ => rfl
theorem KeepR.set (R : Nat) (w : World) (j : Nat) (u : Value) : KeepR R w (w.setCell ⟨R, j, none⟩ u) := fun k _ hk => heap_setCell_other w ⟨R, j, none⟩ k u hk
theorem KeepR.trans {R : Nat} {w w1 w2 : World} (h : KeepR R w w1) (hs : w.heap.size ≤ w1.heap.size) (h2 : KeepR R w1 w2) : KeepR R w w2 := fun k hk hR => by rw [h2 k (by omega) hR]; exact h k hk hR

/-- the whole state: at place a of the footer D, the columns cs and the rows ws told -/
def FSt (w : World) (R lb B : Nat) (D : List UInt8) (E a : Nat) (cs : List Pu.Col) (ws : List (Nat × Value)) (vr : Value) : Prop :=
  ∃ ao cap vc, Rd w R (.slice ao (D.length - a) cap) E vc vr ∧ a ≤ D.length ∧ Rest w lb ao cap (D.drop a) ∧ w.ownsRow B 54 3 vc cs.length (colsV cs) ∧ w.ownsRow B 84 2 vr ws.length (grsV ws) ∧ lb < B ∧ B ≤ R

section
variable {w w1 : World} {R lb B : Nat} {D : List UInt8} {E a n : Nat} {cs : List Pu.Col} {ws : List (Nat × Value)} {ao : Option Addr} {cap : Nat} {vc vr : Value}

theorem FSt.lt (h : FSt w R lb B D E a cs ws vr) : R < w.heap.size := by
  obtain ⟨_, _, _, hb, _⟩ := h; exact hb.ty.lt
theorem FSt.base (h : FSt w R lb B D E a cs ws vr) : B ≤ R := by
  obtain ⟨_, _, _, _, _, _, _, _, _, hB⟩ := h; exact hB
theorem FSt.le (h : FSt w R lb B D E a cs ws vr) : a ≤ D.length := by
  obtain ⟨_, _, _, _, ha, _⟩ := h; exact ha

/-- nothing old has turned -/
theorem FSt.below (h : FSt w R lb B D E a cs ws vr) (hb : Below w.heap.size w w1) : FSt w1 R lb B D E a cs ws vr := by
  have hR := h.lt
  obtain ⟨ao, cap, vc, h1, h2, h3, h4, h5, h6, h7⟩ := h
  exact ⟨ao, cap, vc, h1.kept (hb.block R hR), h2, h3.kept (hb.block lb (by omega)), own_agreeS h4 (fun k hk => hb.block k (own_tyS h4 hk).lt), own_agreeS h5 (fun k hk => hb.block k (own_tyS h5 hk).lt), h6, h7⟩

/-- n bytes further -/
theorem FSt.skip (hb : Rd w R (.slice ao (D.length - a) cap) E vc vr) (ha : a + n ≤ D.length) (hr : Rest w lb ao cap (D.drop a)) (hc : w.ownsRow B 54 3 vc cs.length (colsV cs)) (ho : w.ownsRow B 84 2 vr ws.length (grsV ws)) (hl : lb < B) (hB : B ≤ R) :
    FSt (w.setCell ⟨R, 0, none⟩ (.slice (cutA ao cap n) (D.length - a - n) (cap - n))) R lb B D E (a + n) cs ws vr := by
  have hr2 := hr.drop n (by simp; omega)
  rw [List.drop_drop] at hr2
  exact ⟨cutA ao cap n, cap - n, vc, by rw [show D.length - (a + n) = D.length - a - n by omega]; exact hb.set0 _, ha, hr2.kept (heap_setCell_other w _ _ _ (by simp only []; omega)), ownsRow_set_other' hc (fun e' => Ty.ne (own_tyS hc e') hb.ty (by decide) rfl), ownsRow_set_other' ho (fun e' => Ty.ne (own_tyS ho e') hb.ty (by decide) rfl), hl, hB⟩
end

/-- a number from least to most -/
def Pu.num (D : List UInt8) (a least most : Nat) : Option (Nat × Nat) :=
  match Pu.vi D a with
  | none => none
  | some (n, nx) => if n < least ∨ most < n then none else some (n, nx)

def NumAns (R lb B : Nat) (D : List UInt8) (E : Nat) (cs : List Pu.Col) (ws : List (Nat × Value)) (vr : Value) (r : Option (Nat × Nat)) (e : Ending) (w' : World) : Prop :=
  match r with
  | none => e = .returned (.tuple #[.int .i64 0, .bool false])
  | some (n, nx) => e = .returned (.tuple #[.int .i64 (n : Int), .bool true]) ∧ FSt w' R lb B D E nx cs ws vr

set_option maxHeartbeats 2000000 in
set_option maxRecDepth 100000 in
theorem fnumberK (R lb B : Nat) (D : List UInt8) (E a least most : Nat) (cs : List Pu.Col) (ws : List (Nat × Value)) (vr : Value) (w : World) (h : FSt w R lb B D E a cs ws vr) (_hl : least ≤ 140737488355328) (_hm : most ≤ 140737488355328) :
    Calls Tryz.prog 77 #[.pointer (some ⟨R, 0, none⟩), .int .i64 (least : Int), .int .i64 (most : Int)] w fun e w' => NumAns R lb B D E cs ws vr (Pu.num D a least most) e w' ∧ Below B w w' ∧ KeepR R w w' := by
  obtain ⟨ao, cap, vc, hb, ha, hr, hc, ho, hlb, hB⟩ := h
  have V : Hid (Calls Tryz.prog 89 #[.pointer (some ⟨R, 0, none⟩)] w fun e w' => VAns D a R 0 ao (D.length - a) cap w e w') := varintP_any D a R 0 lb ao cap w ha hr hb.c0 (hb.fz 0)
  cases hvi : Pu.vi D a with
  | none =>
    have HX : Hid (Pu.num D a least most = none) := by simp [Hid, Pu.num, hvi]
    unfold VAns at V
    rw [hvi] at V
    clear hvi hr ho hc hb
    go_enter Tryz.func77, Tryz.ntmps77
    go_wp2_with fail
    refine V.out.mono ?_
    rintro e w' ⟨rfl, hw'⟩
    subst w'
    go_wp2
    go_ret2
    exact ⟨by rw [HX.out]; rfl, Below.refl _ _, KeepR.refl _ _⟩
  | some pr =>
    obtain ⟨n, nx⟩ := pr
    obtain ⟨hv1, hv2, hv3⟩ := Pu.vi_lt hvi
    unfold VAns at V
    rw [hvi] at V
    have hS := FSt.skip (n := nx - a) hb (by omega) hr hc ho hlb hB
    rw [show a + (nx - a) = nx by omega] at hS
    have hbel : Below B w (w.setCell ⟨R, 0, none⟩ (.slice (cutA ao cap (nx - a)) (D.length - a - (nx - a)) (cap - (nx - a)))) := (Below.refl _ _).setCell hB _
    obtain ⟨w1, hw1⟩ : ∃ w1, w1 = (w.setCell ⟨R, 0, none⟩ (.slice (cutA ao cap (nx - a)) (D.length - a - (nx - a)) (cap - (nx - a)))) := ⟨_, rfl⟩
    have V2 : Hid (Calls Tryz.prog 89 #[.pointer (some ⟨R, 0, none⟩)] w fun e w' => e = .returned (.tuple #[.int .u32 (n : Int), .bool true]) ∧ w' = w1) := by rw [hw1]; exact V.out
    rw [← hw1] at hS hbel
    have HS : Hid (FSt w1 R lb B D E nx cs ws vr) := hS
    have HKp : Hid (KeepR R w w1) := by rw [hw1]; exact KeepR.set _ _ _ _
    clear V hw1 hS hr ho hc hb
    by_cases hbad : n < least ∨ most < n
    · have HX : Hid (Pu.num D a least most = none) := by simp only [Hid, Pu.num, hvi]; rw [if_pos hbad]
      clear hvi
      by_cases h1 : n < least
      · clear hbad
        go_enter Tryz.func77, Tryz.ntmps77
        go_wp2_with fail
        refine V2.out.mono ?_
        rintro e w' ⟨rfl, hw'⟩
        subst w'
        go_wp2
        go_ret2
        exact ⟨by rw [HX.out]; rfl, hbel, HKp.out⟩
      · have h2 : most < n := by omega
        clear hbad
        go_enter Tryz.func77, Tryz.ntmps77
        go_wp2_with fail
        refine V2.out.mono ?_
        rintro e w' ⟨rfl, hw'⟩
        subst w'
        go_wp2
        go_ret2
        exact ⟨by rw [HX.out]; rfl, hbel, HKp.out⟩
    · have HX : Hid (Pu.num D a least most = some (n, nx)) := by simp only [Hid, Pu.num, hvi]; rw [if_neg hbad]
      have h1 : least ≤ n := by omega
      have h2 : n ≤ most := by omega
      clear hvi hbad
      go_enter Tryz.func77, Tryz.ntmps77
      go_wp2_with fail
      refine V2.out.mono ?_
      rintro e w' ⟨rfl, hw'⟩
      subst w'
      go_wp2
      go_ret2
      exact ⟨by rw [HX.out]; exact ⟨rfl, HS.out⟩, hbel, HKp.out⟩

theorem fnumber (R lb B : Nat) (D : List UInt8) (E a least most : Nat) (cs : List Pu.Col) (ws : List (Nat × Value)) (vr : Value) (w : World) (h : FSt w R lb B D E a cs ws vr) (hl : least ≤ 140737488355328) (hm : most ≤ 140737488355328) :
    Calls Tryz.prog 77 #[.pointer (some ⟨R, 0, none⟩), .int .i64 (least : Int), .int .i64 (most : Int)] w fun e w' => NumAns R lb B D E cs ws vr (Pu.num D a least most) e w' ∧ Below B w w' :=
  (fnumberK R lb B D E a least most cs ws vr w h hl hm).mono fun _ _ h => ⟨h.1, h.2.1⟩

/-- a name -/
def Pu.nameAt (D : List UInt8) (a : Nat) : Option (List UInt8 × Nat) :=
  match Pu.num D a 1 20 with
  | none => none
  | some (z, nx) => if D.length < nx + z then none else some (Pu.piece D nx z, nx + z)

def NmAns (R lb B : Nat) (D : List UInt8) (E : Nat) (cs : List Pu.Col) (ws : List (Nat × Value)) (vr : Value) (r : Option (List UInt8 × Nat)) (e : Ending) (w' : World) : Prop :=
  match r with
  | none => e = .returned (.tuple #[.string ⟨#[]⟩, .bool false])
  | some (nm, nx) => e = .returned (.tuple #[.string ⟨nm.toArray⟩, .bool true]) ∧ FSt w' R lb B D E nx cs ws vr

/-- the text of bytes that are read -/
theorem text_of_rest {w : World} {lb : Nat} {ao : Option Addr} {cap : Nat} {L : List UInt8} (h : Rest w lb ao cap L) (h0 : 0 < L.length) : (convert 25 9 (.slice ao L.length cap)).run Tryz.prog w = .ok (.string ⟨L.toArray⟩) w := by
  obtain ⟨_, _, h3⟩ := h
  rcases h3 with rfl | ⟨o, rfl, hc⟩
  · simp at h0
  · exact run_convert_bytes_back (P := Tryz.prog) w 25 9 5 ⟨lb, o, none⟩ cap L Tryz.underlying25 Tryz.underlying5 Tryz.underlying9 (fun j hj => by
      rw [show (⟨lb, o, none⟩ : Addr).add j = ⟨lb, o + j, none⟩ from by unfold Addr.add; split <;> simp_all, hc j hj]
      simp only [Pu.byteAt, List.getD_eq_getElem?_getD, List.getElem?_eq_getElem hj, Option.getD_some])

end Go.Proofs.YtjobhlncllfdmaaGreat

/- The program's reader of a footer: contracts of name, has. -/
namespace Go.Proofs.YtjobhlncllfdmaaGreat
open Go.RowKit

theorem kind_bits : ∀ b : Fin 256, (((b.val = 3 ∨ 6 < b.val) → (2 : Int) < bits .andNot .u32 (b.val : Int) 4) ∧ (¬ (b.val = 3 ∨ 6 < b.val) → bits .andNot .u32 (b.val : Int) 4 = ((b.val % 4 : Nat) : Int) ∧ (bits .and .u32 (b.val : Int) 4 != 0) = decide (4 ≤ b.val))) ∧ (0 ≤ bits .andNot .u32 (b.val : Int) 4 ∧ bits .andNot .u32 (b.val : Int) 4 < 256) := by decide +kernel

set_option maxHeartbeats 2000000 in
set_option maxRecDepth 100000 in
theorem fname (R lb B : Nat) (D : List UInt8) (E a : Nat) (cs : List Pu.Col) (ws : List (Nat × Value)) (vr : Value) (w : World) (h : FSt w R lb B D E a cs ws vr) :
    Calls Tryz.prog 90 #[.pointer (some ⟨R, 0, none⟩)] w fun e w' => NmAns R lb B D E cs ws vr (Pu.nameAt D a) e w' ∧ Below B w w' := by
  have V : Hid (Calls Tryz.prog 77 #[.pointer (some ⟨R, 0, none⟩), .int .i64 1, .int .i64 20] w fun e w' => NumAns R lb B D E cs ws vr (Pu.num D a 1 20) e w' ∧ Below B w w') := fnumber R lb B D E a 1 20 cs ws vr w h (by omega) (by omega)
  have hBR := h.base
  clear h
  cases hn : Pu.num D a 1 20 with
  | none =>
    have HX : Hid (Pu.nameAt D a = none) := by simp [Hid, Pu.nameAt, hn]
    rw [hn] at V
    clear hn
    go_enter Tryz.func90, Tryz.ntmps90
    go_wp2_with fail
    refine V.out.mono ?_
    rintro e w' ⟨rfl, hbel⟩
    go_wp2
    go_ret2
    exact ⟨by rw [HX.out]; rfl, hbel⟩
  | some pr =>
    obtain ⟨z, nx⟩ := pr
    have hz : 1 ≤ z ∧ z ≤ 20 := by
      unfold Pu.num at hn
      cases hv : Pu.vi D a with
      | none => simp [hv] at hn
      | some q =>
        obtain ⟨y, ny⟩ := q
        simp only [hv] at hn
        split at hn
        · cases hn
        · simp only [Option.some.injEq, Prod.mk.injEq] at hn; omega
    obtain ⟨hz1, hz2⟩ := hz
    rw [hn] at V
    by_cases hfit : D.length < nx + z
    · have HX : Hid (Pu.nameAt D a = none) := by simp only [Hid, Pu.nameAt, hn]; rw [if_pos hfit]
      clear hn
      go_enter Tryz.func90, Tryz.ntmps90
      go_wp2_with fail
      refine V.out.mono ?_
      rintro e w1 ⟨⟨rfl, hS⟩, hbel⟩
      have T : Hid (Calls Tryz.prog 75 #[.pointer (some ⟨R, 0, none⟩), .int .i64 (z : Int)] w1 fun e w' => e = .returned (.tuple #[.slice none 0 0, .bool false]) ∧ w' = w1) := by
        obtain ⟨ao, cap, vc, hb, ha, hr, hc, ho, hlb, hB⟩ := hS
        exact take_no R 0 z ao (D.length - nx) cap w1 hb.c0 (by omega) (by have := hr.1; have := hr.2.1; rw [List.length_drop] at *; omega)
      have CV : (convert 25 9 (.slice none 0 0)).run Tryz.prog w1 = .ok (.string ⟨#[]⟩) w1 := run_convert_bytes_nil (P := Tryz.prog) w1 25 5 Tryz.underlying25 Tryz.underlying5 0 0 9 Tryz.underlying9
      clear hS
      go_wp2_with fail
      refine T.out.mono ?_
      rintro e w' ⟨rfl, hw'⟩
      subst w'
      go_wp2
      go_ret2
      exact ⟨by rw [HX.out]; rfl, hbel⟩
    · have HX : Hid (Pu.nameAt D a = some (Pu.piece D nx z, nx + z)) := by simp only [Hid, Pu.nameAt, hn]; rw [if_neg hfit]
      clear hn
      go_enter Tryz.func90, Tryz.ntmps90
      go_wp2_with fail
      refine V.out.mono ?_
      rintro e w1 ⟨⟨rfl, hS⟩, hbel⟩
      have T : Hid (∃ ao w2, Calls Tryz.prog 75 #[.pointer (some ⟨R, 0, none⟩), .int .i64 (z : Int)] w1 (fun e w' => e = .returned (.tuple #[.slice ao z z, .bool true]) ∧ w' = w2) ∧ (convert 25 9 (.slice ao z z)).run Tryz.prog w2 = .ok (.string ⟨(Pu.piece D nx z).toArray⟩) w2 ∧ FSt w2 R lb B D E (nx + z) cs ws vr ∧ Below B w w2) := by
        obtain ⟨ao, cap, vc, hb, ha, hr, hc, ho, hlb, hB⟩ := hS
        have hlen : (D.drop nx).length = D.length - nx := List.length_drop
        refine ⟨ao, _, take_yes R 0 z ao (D.length - nx) cap w1 hb.c0 (hb.fz 0) (by omega) (by have := hr.1; omega) hr.2.1, ?_, FSt.skip hb (by omega) hr hc ho hlb hB, hbel.setCell hB _⟩
        have hr2 := (hr.take z (by omega)).kept (w' := w1.setCell ⟨R, 0, none⟩ (.slice (cutA ao cap z) (D.length - nx - z) (cap - z))) (heap_setCell_other w1 _ _ _ (by simp only []; omega))
        have hl2 : ((D.drop nx).take z).length = z := by rw [List.length_take]; omega
        have := text_of_rest hr2 (by omega)
        rw [hl2] at this
        exact this
      obtain ⟨ao, w2, T1, T2, T3, T4⟩ := T.out
      have HT1 : Hid (Calls Tryz.prog 75 #[.pointer (some ⟨R, 0, none⟩), .int .i64 (z : Int)] w1 (fun e w' => e = .returned (.tuple #[.slice ao z z, .bool true]) ∧ w' = w2)) := T1
      have HT3 : Hid (FSt w2 R lb B D E (nx + z) cs ws vr) := T3
      clear hS T T1 T3
      go_wp2_with fail
      refine HT1.out.mono ?_
      rintro e w' ⟨rfl, hw'⟩
      subst w'
      go_wp2
      go_ret2
      exact ⟨by rw [HX.out]; exact ⟨rfl, HT3.out⟩, T4⟩

set_option maxHeartbeats 2000000 in
set_option maxRecDepth 100000 in
theorem fhas (R lb B : Nat) (D : List UInt8) (E a : Nat) (cs : List Pu.Col) (ws : List (Nat × Value)) (vr : Value) (s : ByteArray) (w : World) (h : FSt w R lb B D E a cs ws vr) (hcs : cs.length ≤ 20) :
    Calls Tryz.prog 91 #[.pointer (some ⟨R, 0, none⟩), .string s] w fun e w' => e = .returned (.bool (Pu.hasName cs s.data.toList)) ∧ Below w.heap.size w w' := by
  obtain ⟨ao, cap, vc, hb, ha, hr, hc, ho, hlb, hB⟩ := h
  obtain ⟨av, cv, rfl⟩ := slen_of hc
  have k2 := hb.c1
  have HC : Hid (∀ k, (hk : k < cs.length) → ∃ g, av = some ⟨g, 0, none⟩ ∧ w.cell? ⟨g, k * 3, none⟩ = some (strV cs[k].name) ∧ w.cell? ⟨g, k * 3 + 1, none⟩ = some (.int .i64 (cs[k].kind : Int)) ∧ w.cell? ⟨g, k * 3 + 2, none⟩ = some (.bool cs[k].opt)) := cols_cell hc
  have HG : Hid (∀ g, av = some ⟨g, 0, none⟩ → g < w.heap.size) := fun g hg => (own_tyS hc (k := g) (by rw [hg]; rfl)).lt
  have HN : Hid (∀ k, (hk : k < cs.length) → Pu.hasName (cs.take (k + 1)) s.data.toList = (Pu.hasName (cs.take k) s.data.toList || cs[k].name == s.data.toList)) := fun k hk => hasName_snoc cs k _ hk
  have HE : Hid (Pu.hasName (cs.take cs.length) s.data.toList = Pu.hasName cs s.data.toList) := by rw [Hid, List.take_length]
  have HT : Hid (∀ k, (hk : k < cs.length) → (⟨cs[k].name.toArray⟩ : ByteArray) = s → Pu.hasName cs s.data.toList = true) := fun k hk he => by
    unfold Pu.hasName
    rw [List.any_eq_true]
    exact ⟨cs[k], List.getElem_mem hk, by rw [(str_eq_iff _ _).1 he]; simp⟩
  clear hb hr hc ho
  go_enter Tryz.func91, Tryz.ntmps91
  go_wp2
  go_loopw [13] (fun i wr => ∃ k : Nat, k ≤ cs.length ∧ i = .int .i64 k ∧ Hid (Pu.hasName (cs.take k) s.data.toList = false) ∧ Hid (Below w.heap.size w wr)) (fun i _ => cs.length - (intOf i).toNat)
  case atStart => exact ⟨0, Nat.zero_le _, rfl, rfl, Below.refl _ _⟩
  case round =>
    obtain ⟨k, hk, rfl, Hk, Hb⟩ := hrel
    by_cases hk2 : k < cs.length
    · obtain ⟨g, rfl, d1, d2, d3⟩ := HC.out k hk2
      have hgl := HG.out g rfl
      rw [← World.cell?_of_block (w := w) (w' := wr) (Hb.out.block g hgl)] at d1 d2 d3
      unfold strV at d1
      have Hb2 : Hid (∀ o, Below w.heap.size w (wr.alloc o)) := fun o => Hb.out.alloc Hb.out.size o
      by_cases he : (⟨cs[k].name.toArray⟩ : ByteArray) = s
      · have Hr : Hid (Pu.hasName cs s.data.toList = true) := HT.out k hk2 he
        rw [he] at d1
        clear he
        generalize cs[k].kind = y at *
        generalize cs[k].opt = z at *
        go_wp2
        go_ret
        exact ⟨by rw [Hr.out]; rfl, Hb2.out _⟩
      · have Hn : Hid (Pu.hasName (cs.take (k + 1)) s.data.toList = false) := by
          rw [Hid, HN.out k hk2, Hk.out, Bool.false_or, beq_eq_false_iff_ne]
          exact fun e => he ((str_eq_iff _ _).2 e)
        have hd := str_ne he
        generalize (⟨cs[k].name.toArray⟩ : ByteArray) = t at *
        generalize cs[k].kind = y at *
        generalize cs[k].opt = z at *
        go_wp2
        go_roundw
        case rel => exact ⟨k + 1, by omega, by go_num, Hn, Hb2.out _⟩
        case measure => simp [intOf]; omega
    · obtain rfl : k = cs.length := by omega
      go_wp2
      go_ret
      exact ⟨by rw [← HE.out, Hk.out]; rfl, Hb.out⟩

end Go.Proofs.YtjobhlncllfdmaaGreat
