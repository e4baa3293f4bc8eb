/- A reader of bytes that lies anywhere in a block: its steps. -/
import Derived.Test.YtjobhlncllfdmaaGreatM21
import Derived.Test.YtjobhlncllfdmaaGreatM11
import Derived.Test.YtjobhlncllfdmaaGreatM12
import Derived.Test.YtjobhlncllfdmaaGreatM18
namespace Go.Proofs.YtjobhlncllfdmaaGreat
open Go.RowKit

/-- the reader at place a of F: the cell o of the row C in block R -/
def InSt (w : World) (R o : Nat) (C : Array Value) (T : TypeId) (lb : Nat) (F : List UInt8) (a : Nat) : Prop :=
  w.heap[R]? = some (.cells C T (0, 0)) ∧ a ≤ F.length ∧ R ≠ lb ∧ ∃ ao cap, C[o]? = some (.slice ao (F.length - a) cap) ∧ Rest w lb ao cap (F.drop a)

/-- two rows that are alike but for a cell -/
def SameBut (o : Nat) (C C' : Array Value) : Prop := C'.size = C.size ∧ ∀ j, j ≠ o → C'[j]? = C[j]?
theorem SameBut.refl (o : Nat) (C : Array Value) : SameBut o C C := ⟨rfl, fun _ _ => rfl⟩
theorem SameBut.trans {o : Nat} {C C' C'' : Array Value} (h : SameBut o C C') (h' : SameBut o C' C'') : SameBut o C C'' := ⟨h'.1.trans h.1, fun j hj => (h'.2 j hj).trans (h.2 j hj)⟩
theorem SameBut.set (o : Nat) (C : Array Value) (v : Value) : SameBut o C (C.setIfInBounds o v) := ⟨by simp, fun j hj => by rw [Array.getElem?_setIfInBounds]; rw [if_neg (fun e => hj e.symm)]⟩

section
variable {w w' : World} {R o : Nat} {C : Array Value} {T : TypeId} {lb : Nat} {F : List UInt8} {a : Nat}
theorem InSt.lt (h : InSt w R o C T lb F a) : R < w.heap.size := (Array.getElem?_eq_some_iff.1 h.1).1
theorem InSt.le (h : InSt w R o C T lb F a) : a ≤ F.length := h.2.1
theorem InSt.ty (h : InSt w R o C T lb F a) : Ty w R T := ⟨C, h.1⟩
theorem InSt.cell (h : InSt w R o C T lb F a) (j : Nat) : w.cell? ⟨R, j, none⟩ = C[j]? := cell_of_row w R j _ _ _ h.1
theorem InSt.fz (h : InSt w R o C T lb F a) (j : Nat) : w.frozen? ⟨R, j, none⟩ = false := frozen_of_row w R j _ _ h.1
theorem InSt.kept (h : InSt w R o C T lb F a) (h1 : w'.heap[R]? = w.heap[R]?) (h2 : w'.heap[lb]? = w.heap[lb]?) : InSt w' R o C T lb F a := by
  obtain ⟨g1, g2, g3, ao, cap, g4, g5⟩ := h
  exact ⟨by rw [h1]; exact g1, g2, g3, ao, cap, g4, g5.kept h2⟩
theorem InSt.below (h : InSt w R o C T lb F a) (hl : lb < w.heap.size) (hb : Below w.heap.size w w') : InSt w' R o C T lb F a := h.kept (hb.block R h.lt) (hb.block lb hl)

/-- n bytes further -/
theorem InSt.skip {ao : Option Addr} {cap n : Nat} (h : w.heap[R]? = some (.cells C T (0, 0))) (hc : C[o]? = some (.slice ao (F.length - a) cap)) (ha : a + n ≤ F.length) (hne : R ≠ lb) (hr : Rest w lb ao cap (F.drop a)) :
    InSt (w.setCell ⟨R, o, none⟩ (.slice (cutA ao cap n) (F.length - a - n) (cap - n))) R o (C.setIfInBounds o (.slice (cutA ao cap n) (F.length - a - n) (cap - n))) T lb F (a + n) := by
  have hr2 := hr.drop n (by simp; omega)
  rw [List.drop_drop] at hr2
  have ho : o < C.size := (Array.getElem?_eq_some_iff.1 hc).1
  refine ⟨heap_setCell_same w R o _ _ _ h, ha, hne, cutA ao cap n, cap - n, ?_, hr2.kept (heap_setCell_other w _ _ _ (by simp only []; exact fun e => hne e.symm))⟩
  rw [Array.getElem?_setIfInBounds_self_of_lt ho, show F.length - (a + n) = F.length - a - n by omega]

/-- a step: a number, a varint or a piece that is there -/
structure Step (w : World) (R o : Nat) (C : Array Value) (T : TypeId) (lb : Nat) (F : List UInt8) (b : Nat) (w1 : World) (C1 : Array Value) : Prop where
  st : InSt w1 R o C1 T lb F b
  same : SameBut o C C1
  fr : Fr (fun k => k = R) w w1
  size : w1.heap.size = w.heap.size

theorem in_step {ao : Option Addr} {cap n : Nat} (h : w.heap[R]? = some (.cells C T (0, 0))) (hc : C[o]? = some (.slice ao (F.length - a) cap)) (ha : a + n ≤ F.length) (hne : R ≠ lb) (hr : Rest w lb ao cap (F.drop a)) :
    Step w R o C T lb F (a + n) (w.setCell ⟨R, o, none⟩ (.slice (cutA ao cap n) (F.length - a - n) (cap - n))) (C.setIfInBounds o (.slice (cutA ao cap n) (F.length - a - n) (cap - n))) :=
  ⟨InSt.skip h hc ha hne hr, SameBut.set _ _ _, Fr.set, size_set _ _ _⟩
end

/-- numbers -/
theorem in_number (R o : Nat) (C : Array Value) (T : TypeId) (lb : Nat) (F : List UInt8) (a k : Nat) (w : World) (h : InSt w R o C T lb F a) (hk : k ≤ 4) :
    (F.length < a + k ∧ Calls Tryz.prog 59 #[.pointer (some ⟨R, o, none⟩), .int .i64 (k : Int)] w fun e w' => e = .returned (.tuple #[.int .u32 0, .bool false]) ∧ w' = w) ∨
    (a + k ≤ F.length ∧ ∃ w1 C1, (Calls Tryz.prog 59 #[.pointer (some ⟨R, o, none⟩), .int .i64 (k : Int)] w fun e w' => e = .returned (.tuple #[.int .u32 ((Pu.le ((F.drop a).take k) : Nat) : Int), .bool true]) ∧ w' = w1) ∧ Step w R o C T lb F (a + k) w1 C1) := by
  have hc := h.cell o
  have hf := h.fz o
  obtain ⟨h1, ha, hne, ao, cap, hco, hr⟩ := h
  have hlen : (F.drop a).length = F.length - a := List.length_drop
  rw [hco] at hc
  have hc' : w.cell? ⟨R, o, none⟩ = some (.slice ao (F.drop a).length cap) := by rw [hlen]; exact hc
  by_cases hfit : F.length < a + k
  · exact .inl ⟨hfit, number_no R o k lb ao cap (F.drop a) w hr hc' hk (by rw [hlen]; omega)⟩
  · refine .inr ⟨by omega, _, _, ?_, in_step h1 hco (by omega) hne hr⟩
    have := number_yes R o k lb ao cap (F.drop a) w hr hc' hf hne hk (by rw [hlen]; omega)
    rw [hlen] at this
    exact this

theorem in_varint (R o : Nat) (C : Array Value) (T : TypeId) (lb : Nat) (F : List UInt8) (a : Nat) (w : World) (h : InSt w R o C T lb F a) :
    (Pu.vi F a = none ∧ Calls Tryz.prog 89 #[.pointer (some ⟨R, o, none⟩)] w fun e w' => e = .returned (.tuple #[.int .u32 0, .bool false]) ∧ w' = w) ∨
    (∃ n nx w1 C1, Pu.vi F a = some (n, nx) ∧ (Calls Tryz.prog 89 #[.pointer (some ⟨R, o, none⟩)] w fun e w' => e = .returned (.tuple #[.int .u32 (n : Int), .bool true]) ∧ w' = w1) ∧ Step w R o C T lb F nx w1 C1) := by
  have hc := h.cell o
  have hf := h.fz o
  obtain ⟨h1, ha, hne, ao, cap, hco, hr⟩ := h
  rw [hco] at hc
  have V := varintP_any F a R o lb ao cap w ha hr hc hf
  unfold VAns at V
  cases hv : Pu.vi F a with
  | none => rw [hv] at V; exact .inl ⟨rfl, V⟩
  | some p =>
    obtain ⟨n, nx⟩ := p
    obtain ⟨v1, v2, v3⟩ := Pu.vi_lt hv
    rw [hv] at V
    have S := in_step (n := nx - a) h1 hco (by omega) hne hr
    rw [show a + (nx - a) = nx by omega] at S
    exact .inr ⟨n, nx, _, _, rfl, V, S⟩

theorem in_take (R o : Nat) (C : Array Value) (T : TypeId) (lb : Nat) (F : List UInt8) (a n : Nat) (w : World) (h : InSt w R o C T lb F a) :
    (F.length < a + n ∧ Calls Tryz.prog 75 #[.pointer (some ⟨R, o, none⟩), .int .i64 (n : Int)] w fun e w' => e = .returned (.tuple #[.slice none 0 0, .bool false]) ∧ w' = w) ∨
    (a + n ≤ F.length ∧ ∃ w1 C1 ap, (Calls Tryz.prog 75 #[.pointer (some ⟨R, o, none⟩), .int .i64 (n : Int)] w fun e w' => e = .returned (.tuple #[.slice ap n n, .bool true]) ∧ w' = w1) ∧ Step w R o C T lb F (a + n) w1 C1 ∧ Rest w1 lb ap n (Pu.piece F a n)) := by
  have hc := h.cell o
  have hf := h.fz o
  obtain ⟨h1, ha, hne, ao, cap, hco, hr⟩ := h
  have hlen : (F.drop a).length = F.length - a := List.length_drop
  rw [hco] at hc
  have hl1 := hr.1
  have hl2 := hr.2.1
  rw [hlen] at hl1
  by_cases hfit : F.length < a + n
  · exact .inl ⟨hfit, take_no R o n ao (F.length - a) cap w hc (by omega) (by omega)⟩
  · refine .inr ⟨by omega, _, _, ao, take_yes R o n ao (F.length - a) cap w hc hf (by omega) hl1 hl2, in_step h1 hco (by omega) hne hr, ?_⟩
    exact (hr.take n (by rw [hlen]; omega)).kept (heap_setCell_other w _ _ _ (by simp only []; exact fun e => hne e.symm))

theorem in_left (R o : Nat) (C : Array Value) (T : TypeId) (lb : Nat) (F : List UInt8) (a : Nat) (w : World) (h : InSt w R o C T lb F a) :
    Calls Tryz.prog 63 #[.pointer (some ⟨R, o, none⟩)] w fun e w' => e = .returned (.int .i64 ((F.length - a : Nat) : Int)) ∧ w' = w := by
  have hc := h.cell o
  obtain ⟨h1, ha, hne, ao, cap, hco, hr⟩ := h
  rw [hco] at hc
  exact left_any R o ao (F.length - a) cap w hc

end Go.Proofs.YtjobhlncllfdmaaGreat

/- package page: sizes. -/
namespace Go.Proofs.YtjobhlncllfdmaaGreat
open Go.RowKit

/-- three varints, and the place behind them -/
def Pu.three (F : List UInt8) (a : Nat) : Option (Nat × Nat × Nat × Nat) :=
  match Pu.vi F a with
  | none => none
  | some (c, b1) => match Pu.vi F b1 with
    | none => none
    | some (st, b2) => match Pu.vi F b2 with
      | none => none
      | some (z, b3) => some (c, st, z, b3)

/-- k of them have been read -/
def P3 (F : List UInt8) (a k x0 x1 x2 b : Nat) : Prop :=
  (k = 0 ∧ b = a) ∨ (k = 1 ∧ Pu.vi F a = some (x0, b)) ∨ (k = 2 ∧ ∃ b1, Pu.vi F a = some (x0, b1) ∧ Pu.vi F b1 = some (x1, b)) ∨ (k = 3 ∧ Pu.three F a = some (x0, x1, x2, b))

theorem P3.no {F : List UInt8} {a k x0 x1 x2 b : Nat} (h : P3 F a k x0 x1 x2 b) (hk : k < 3) (hv : Pu.vi F b = none) : Pu.three F a = none := by
  unfold Pu.three
  rcases h with ⟨_, rfl⟩ | ⟨_, h⟩ | ⟨_, b1, h, h'⟩ | ⟨h, _⟩
  · rw [hv]
  · simp [h, hv]
  · simp [h, h', hv]
  · omega
theorem P3.n0 {F : List UInt8} {a x0 x1 x2 b n nx : Nat} (h : P3 F a 0 x0 x1 x2 b) (hv : Pu.vi F b = some (n, nx)) : P3 F a 1 n x1 x2 nx := by
  rcases h with ⟨_, rfl⟩ | ⟨h, _⟩ | ⟨h, _⟩ | ⟨h, _⟩
  · exact .inr (.inl ⟨rfl, hv⟩)
  all_goals omega
theorem P3.n1 {F : List UInt8} {a x0 x1 x2 b n nx : Nat} (h : P3 F a 1 x0 x1 x2 b) (hv : Pu.vi F b = some (n, nx)) : P3 F a 2 x0 n x2 nx := by
  rcases h with ⟨h, _⟩ | ⟨_, h⟩ | ⟨h, _⟩ | ⟨h, _⟩
  · omega
  · exact .inr (.inr (.inl ⟨rfl, b, h, hv⟩))
  all_goals omega
theorem P3.n2 {F : List UInt8} {a x0 x1 x2 b n nx : Nat} (h : P3 F a 2 x0 x1 x2 b) (hv : Pu.vi F b = some (n, nx)) : P3 F a 3 x0 x1 n nx := by
  rcases h with ⟨h, _⟩ | ⟨h, _⟩ | ⟨_, b1, h, h'⟩ | ⟨h, _⟩
  · omega
  · omega
  · exact .inr (.inr (.inr ⟨rfl, by simp [Pu.three, h, h', hv]⟩))
  · omega
theorem P3.n3 {F : List UInt8} {a x0 x1 x2 b : Nat} (h : P3 F a 3 x0 x1 x2 b) : Pu.three F a = some (x0, x1, x2, b) := by
  rcases h with ⟨h, _⟩ | ⟨h, _⟩ | ⟨h, _⟩ | ⟨_, h⟩
  · omega
  · omega
  · omega
  · exact h

/-- the row of a page that is being read -/
def pgRow (so c z : Nat) (pk : Bool) (y : Nat) (v : Value) : Array Value := #[.int .u32 (so : Int), .int .i64 (c : Int), .int .i64 (z : Int), .bool pk, .int .u32 (y : Int), v]

def SzAns (w : World) (K R o : Nat) (C : Array Value) (T : TypeId) (lb : Nat) (F : List UInt8) (so : Nat) (pk : Bool) (r : Option (Nat × Nat × Nat × Nat)) (e : Ending) (w' : World) : Prop :=
  match r with
  | none => e = .returned (.tuple #[.int .i64 0, .bool false]) ∧ Fr (fun k => k = R ∨ k = K) w w'
  | some (c, st, z, b) => e = .returned (.tuple #[.int .i64 (st : Int), .bool (if pk = true then decide (z ≤ 1048576) else decide (z = st))]) ∧ w'.heap[K]? = some (.cells (pgRow so c z pk 0 (.slice none 0 0)) 146 (0, 0)) ∧ Fr (fun k => k = R ∨ k = K) w w' ∧ ∃ C', InSt w' R o C' T lb F b ∧ SameBut o C C'

/-- a cell of a block is set -/
theorem row_set {w : World} {b j : Nat} {C : Array Value} {T : TypeId} (h : w.heap[b]? = some (.cells C T (0, 0))) (v : Value) : (w.setCell ⟨b, j, none⟩ v).heap[b]? = some (.cells (C.setIfInBounds j v) T (0, 0)) := heap_setCell_same w b j _ _ _ h
theorem row_off {w : World} {b k j : Nat} (h : k ≠ b) (v : Value) : (w.setCell ⟨b, j, none⟩ v).heap[k]? = w.heap[k]? := heap_setCell_other w ⟨b, j, none⟩ k v h
theorem Fr.set' {T : Nat → Prop} {w : World} {b j : Nat} {u : Value} (h : T b) : Fr T w (w.setCell ⟨b, j, none⟩ u) := Fr.set.mono (fun k e => by rw [e]; exact h)
theorem Fr.alloc' {T : Nat → Prop} {w : World} {o : Obj} : Fr T w (w.alloc o) := Fr.of_below T (bbox w o)
theorem Fr.drew' {T : Nat → Prop} {w w' : World} (h : Fr T w w') : Fr T w w'.drew := ⟨h.os, h.tape, h.output, h.size, h.block⟩
theorem Fr.drewN' {T : Nat → Prop} {w w' : World} (h : Fr T w w') (q : Nat) : Fr T w (w'.drewN q) := ⟨h.os, h.tape, h.output, h.size, h.block⟩

/-- the loop's state -/
def SzSt (w : World) (K R o : Nat) (C : Array Value) (T : TypeId) (lb : Nat) (F : List UInt8) (a so : Nat) (pk : Bool) (k x0 x1 x2 b : Nat) (wr : World) : Prop :=
  P3 F a k x0 x1 x2 b ∧ wr.heap[w.heap.size]? = some (.cells #[.int .i64 (x0 : Int), .int .i64 (x1 : Int), .int .i64 (x2 : Int)] 185 (0, 0)) ∧ wr.heap[K]? = some (.cells (pgRow so 0 0 pk 0 (.slice none 0 0)) 146 (0, 0)) ∧ Fr (fun j => j = R) w wr ∧ ∃ C', InSt wr R o C' T lb F b ∧ SameBut o C C'

theorem SzSt.step {w : World} {K R o : Nat} {C C' : Array Value} {T : TypeId} {lb : Nat} {F : List UInt8} {a so : Nat} {pk : Bool} {x0 x1 x2 nx : Nat} {wr w1 : World} {C1 : Array Value} (hK : K < w.heap.size) (hKR : K ≠ R) (hR : R < w.heap.size) (h2 : wr.heap[w.heap.size]? = some (.cells #[.int .i64 (x0 : Int), .int .i64 (x1 : Int), .int .i64 (x2 : Int)] 185 (0, 0))) (h3 : wr.heap[K]? = some (.cells (pgRow so 0 0 pk 0 (.slice none 0 0)) 146 (0, 0))) (h4 : Fr (fun j => j = R) w wr) (hs : SameBut o C C') (hS : Step wr R o C' T lb F nx w1 C1) (hlb : lb < w.heap.size) :
    w1.heap[w.heap.size]? = some (.cells #[.int .i64 (x0 : Int), .int .i64 (x1 : Int), .int .i64 (x2 : Int)] 185 (0, 0)) ∧
    ∀ (j k' y0 y1 y2 : Nat) (v : Value), (#[Value.int .i64 (x0 : Int), .int .i64 (x1 : Int), .int .i64 (x2 : Int)].setIfInBounds j v) = #[.int .i64 (y0 : Int), .int .i64 (y1 : Int), .int .i64 (y2 : Int)] → P3 F a k' y0 y1 y2 nx → SzSt w K R o C T lb F a so pk k' y0 y1 y2 nx (w1.setCell ⟨w.heap.size, j, none⟩ v) := by
  have hsl : w.heap.size < wr.heap.size := (Array.getElem?_eq_some_iff.1 h2).1
  have e1 : w1.heap[w.heap.size]? = wr.heap[w.heap.size]? := hS.fr.block _ hsl (by omega)
  have e2 : w1.heap[K]? = wr.heap[K]? := hS.fr.block _ (by have := h4.size; omega) hKR
  refine ⟨by rw [e1]; exact h2, fun j k' y0 y1 y2 v hy hP => ⟨hP, ?_, ?_, ?_, C1, ?_, hs.trans hS.same⟩⟩
  · rw [row_set (by rw [e1]; exact h2) v, hy]
  · rw [row_off (by omega), e2]; exact h3
  · exact (h4.trans hS.fr (fun _ _ h => h)).trans (Fr.set' (T := fun j => j = w.heap.size) rfl) (fun k hk e => by omega)
  · exact hS.st.kept (row_off (by omega) _) (row_off (by omega) _)

set_option maxHeartbeats 4000000 in
set_option maxRecDepth 100000 in
theorem sizes_any (K R o : Nat) (C : Array Value) (T : TypeId) (lb : Nat) (F : List UInt8) (a so : Nat) (pk : Bool) (w : World) (h : InSt w R o C T lb F a) (hKrow : w.heap[K]? = some (.cells (pgRow so 0 0 pk 0 (.slice none 0 0)) 146 (0, 0))) (hKR : K ≠ R) (hKl : K ≠ lb) (hlb : lb < w.heap.size) :
    Calls Tryz.prog 80 #[.pointer (some ⟨K, 0, none⟩), .pointer (some ⟨R, o, none⟩)] w fun e w' => SzAns w K R o C T lb F so pk (Pu.three F a) e w' := by
  have hR := h.lt
  have hK : K < w.heap.size := (Array.getElem?_eq_some_iff.1 hKrow).1
  have HS0 : Hid (∀ o' : Obj, o' = .cells #[.int .i64 ((0 : Nat) : Int), .int .i64 ((0 : Nat) : Int), .int .i64 ((0 : Nat) : Int)] 185 → SzSt w K R o C T lb F a so pk 0 0 0 0 a (w.alloc o')) := fun o' ho => by
    subst ho
    exact ⟨.inl ⟨rfl, rfl⟩, heap_alloc_new w _, by rw [Below.heap_alloc _ _ _ hK]; exact hKrow, Fr.alloc', C, h.below hlb (bbox w _), SameBut.refl _ _⟩
  clear h hKrow
  go_enter Tryz.func80, Tryz.ntmps80
  go_wp2
  go_loopw [11] (fun i wr => ∃ k x0 x1 x2 b : Nat, k ≤ 3 ∧ i = .int .i64 k ∧ x0 ≤ 4294967295 ∧ x1 ≤ 4294967295 ∧ x2 ≤ 4294967295 ∧ Hid (SzSt w K R o C T lb F a so pk k x0 x1 x2 b wr)) (fun i _ => 3 - (intOf i).toNat)
  case atStart => exact ⟨0, 0, 0, 0, a, by omega, rfl, by omega, by omega, by omega, HS0.out _ rfl⟩
  case round =>
    clear HS0
    obtain ⟨k, x0, x1, x2, b, hk, rfl, hx0, hx1, hx2, HS⟩ := hrel
    obtain ⟨hP, hsr, hkr, hfr, C', hin, hsb⟩ := HS.out
    by_cases hk3 : k < 3
    · rcases in_varint R o C' T lb F b wr hin with ⟨hv, hc⟩ | ⟨n, nx, w1, C1, hv, hc, hS⟩
      · have HX : Hid (Pu.three F a = none) := hP.no hk3 hv
        have V : Hid (Calls Tryz.prog 89 #[.pointer (some ⟨R, o, none⟩)] wr fun e w' => e = .returned (.tuple #[.int .u32 0, .bool false]) ∧ w' = wr) := hc
        have Hfr : Hid (Fr (fun j => j = R ∨ j = K) w wr) := hfr.mono (fun _ h => .inl h)
        have hkd : decide ((k : Int) < 3) = true := by simp; omega
        clear hc hv hP hsr hkr hfr hin hsb HS
        go_wp2_with fail
        refine V.out.mono ?_
        rintro e w' ⟨rfl, hw'⟩
        subst w'
        go_wp2
        go_ret2
        rw [HX.out]
        exact ⟨rfl, Hfr.out⟩
      · have hvl := (Pu.vi_lt hv).2.2
        have V : Hid (Calls Tryz.prog 89 #[.pointer (some ⟨R, o, none⟩)] wr fun e w' => e = .returned (.tuple #[.int .u32 (n : Int), .bool true]) ∧ w' = w1) := hc
        obtain ⟨hr1, hstep⟩ := SzSt.step hK hKR hR hsr hkr hfr hsb hS hlb
        have f1 : ∀ j, w1.frozen? ⟨w.heap.size, j, none⟩ = false := fun j => frozen_of_row _ _ _ _ _ hr1
        have q0 : w1.cell? ⟨w.heap.size, 0, none⟩ = some (.int .i64 (x0 : Int)) := by rw [cell_of_row _ _ 0 _ _ _ hr1]; rfl
        have q1 : w1.cell? ⟨w.heap.size, 1, none⟩ = some (.int .i64 (x1 : Int)) := by rw [cell_of_row _ _ 1 _ _ _ hr1]; rfl
        have q2 : w1.cell? ⟨w.heap.size, 2, none⟩ = some (.int .i64 (x2 : Int)) := by rw [cell_of_row _ _ 2 _ _ _ hr1]; rfl
        have hkc : k = 0 ∨ k = 1 ∨ k = 2 := by omega
        rcases hkc with rfl | rfl | rfl
        · have HN : Hid (SzSt w K R o C T lb F a so pk 1 n x1 x2 nx (w1.setCell ⟨w.heap.size, 0, none⟩ (.int .i64 (n : Int)))) := hstep 0 1 n x1 x2 _ rfl (hP.n0 hv)
          clear hstep hr1 hS hc hv hP hsr hkr hfr hin hsb HS
          go_wp2_with fail
          refine V.out.mono ?_
          rintro e w' ⟨rfl, hw'⟩
          subst w'
          go_wp2
          go_roundw
          case rel => exact ⟨1, n, x1, x2, nx, by omega, rfl, by omega, by omega, by omega, HN⟩
          case measure => simp [intOf]
        · have HN : Hid (SzSt w K R o C T lb F a so pk 2 x0 n x2 nx (w1.setCell ⟨w.heap.size, 1, none⟩ (.int .i64 (n : Int)))) := hstep 1 2 x0 n x2 _ rfl (hP.n1 hv)
          clear hstep hr1 hS hc hv hP hsr hkr hfr hin hsb HS
          go_wp2_with fail
          refine V.out.mono ?_
          rintro e w' ⟨rfl, hw'⟩
          subst w'
          go_wp2
          go_roundw
          case rel => exact ⟨2, x0, n, x2, nx, by omega, rfl, by omega, by omega, by omega, HN⟩
          case measure => simp [intOf]
        · have HN : Hid (SzSt w K R o C T lb F a so pk 3 x0 x1 n nx (w1.setCell ⟨w.heap.size, 2, none⟩ (.int .i64 (n : Int)))) := hstep 2 3 x0 x1 n _ rfl (hP.n2 hv)
          clear hstep hr1 hS hc hv hP hsr hkr hfr hin hsb HS
          go_wp2_with fail
          refine V.out.mono ?_
          rintro e w' ⟨rfl, hw'⟩
          subst w'
          go_wp2
          go_roundw
          case rel => exact ⟨3, x0, x1, n, nx, by omega, rfl, by omega, by omega, by omega, HN⟩
          case measure => simp [intOf]
    · obtain rfl : k = 3 := by omega
      have HX : Hid (Pu.three F a = some (x0, x1, x2, b)) := hP.n3
      have s0 : wr.cell? ⟨w.heap.size, 0, none⟩ = some (.int .i64 (x0 : Int)) := by rw [cell_of_row _ _ 0 _ _ _ hsr]; rfl
      have s1 : wr.cell? ⟨w.heap.size, 1, none⟩ = some (.int .i64 (x1 : Int)) := by rw [cell_of_row _ _ 1 _ _ _ hsr]; rfl
      have s2 : wr.cell? ⟨w.heap.size, 2, none⟩ = some (.int .i64 (x2 : Int)) := by rw [cell_of_row _ _ 2 _ _ _ hsr]; rfl
      have f : ∀ j, wr.frozen? ⟨K, j, none⟩ = false := fun j => frozen_of_row _ _ _ _ _ hkr
      have p1 : wr.cell? ⟨K, 1, none⟩ = some (.int .i64 0) := by rw [cell_of_row _ _ 1 _ _ _ hkr]; rfl
      have p2 : wr.cell? ⟨K, 2, none⟩ = some (.int .i64 0) := by rw [cell_of_row _ _ 2 _ _ _ hkr]; rfl
      have p3 : wr.cell? ⟨K, 3, none⟩ = some (.bool pk) := by rw [cell_of_row _ _ 3 _ _ _ hkr]; rfl
      have hKS : K ≠ w.heap.size := by omega
      have hSK : w.heap.size ≠ K := by omega
      have FIN : Hid (∀ (W : World) (ok : Bool), W.heap = ((wr.setCell ⟨K, 1, none⟩ (.int .i64 (x0 : Int))).setCell ⟨K, 2, none⟩ (.int .i64 (x2 : Int))).heap ∨ W.heap = ((wr.setCell ⟨K, 2, none⟩ (.int .i64 (x2 : Int))).setCell ⟨K, 1, none⟩ (.int .i64 (x0 : Int))).heap → Fr (fun j => j = R ∨ j = K) w W → ok = (if pk = true then decide (x2 ≤ 1048576) else decide (x2 = x1)) → SzAns w K R o C T lb F so pk (Pu.three F a) (.returned (.tuple #[.int .i64 (x1 : Int), .bool ok])) W) := fun W ok hW hF hok => by
        rw [HX.out]
        refine ⟨by rw [hok], ?_, hF, C', hin.kept ?_ ?_, hsb⟩
        · rcases hW with hW | hW
          · rw [hW, row_set (row_set hkr _) _]; rfl
          · rw [hW, row_set (row_set hkr _) _]; rfl
        · rcases hW with hW | hW <;> rw [hW, row_off (fun e => hKR e.symm), row_off (fun e => hKR e.symm)]
        · rcases hW with hW | hW <;> rw [hW, row_off (fun e => hKl e.symm), row_off (fun e => hKl e.symm)]
      have FRN : Hid (Fr (fun j => j = R ∨ j = K) w wr) := hfr.mono (fun _ h => .inl h)
      clear hP hsr hkr hfr hin hsb HS
      cases pk with
      | true =>
        have hok : (if (true : Bool) = true then decide (x2 ≤ 1048576) else decide (x2 = x1)) = decide ((x2 : Int) ≤ 1048576) := by
          rw [if_pos rfl, decide_eq_decide]; omega
        have Hok : Hid (decide ((x2 : Int) ≤ 1048576) = (if (true : Bool) = true then decide (x2 ≤ 1048576) else decide (x2 = x1))) := hok.symm
        clear hok
        go_wp2
        go_region
        all_goals
          go_wp2
          go_quiet (fail)
          go_wp2
          go_ret2
          first
          | exact FIN.out _ _ (.inl rfl) ((((FRN.out).trans (Fr.set' (T := fun j => j = R ∨ j = K) (.inr rfl)) (fun _ _ h => h)).trans (Fr.set' (T := fun j => j = R ∨ j = K) (.inr rfl)) (fun _ _ h => h)).drew'.drewN' _) Hok.out
          | exact FIN.out _ _ (.inr rfl) ((((FRN.out).trans (Fr.set' (T := fun j => j = R ∨ j = K) (.inr rfl)) (fun _ _ h => h)).trans (Fr.set' (T := fun j => j = R ∨ j = K) (.inr rfl)) (fun _ _ h => h)).drew'.drewN' _) Hok.out
      | false =>
        have Hok : Hid (((x2 : Int) == (x1 : Int)) = (if (false : Bool) = true then decide (x2 ≤ 1048576) else decide (x2 = x1))) := by
          unfold Hid
          rw [if_neg (by simp)]
          by_cases e : x2 = x1
          · subst e; simp
          · rw [decide_eq_false e, beq_eq_false_iff_ne]; omega
        go_wp2
        go_region
        all_goals
          go_wp2
          go_quiet (fail)
          go_wp2
          go_ret2
          first
          | exact FIN.out _ _ (.inl rfl) ((((FRN.out).trans (Fr.set' (T := fun j => j = R ∨ j = K) (.inr rfl)) (fun _ _ h => h)).trans (Fr.set' (T := fun j => j = R ∨ j = K) (.inr rfl)) (fun _ _ h => h)).drew'.drewN' _) Hok.out
          | exact FIN.out _ _ (.inr rfl) ((((FRN.out).trans (Fr.set' (T := fun j => j = R ∨ j = K) (.inr rfl)) (fun _ _ h => h)).trans (Fr.set' (T := fun j => j = R ∨ j = K) (.inr rfl)) (fun _ _ h => h)).drew'.drewN' _) Hok.out
end Go.Proofs.YtjobhlncllfdmaaGreat

/- (*Reader).page: its contract. -/
namespace Go.Proofs.YtjobhlncllfdmaaGreat
open Go.RowKit

/-- the reference's reader of a column, and what it knows -/
def RSta (w : World) (r B : Nat) (nm : ByteArray) (kind : Nat) (opt : Bool) (st : Pu.Sta) : Prop :=
  ∃ vd vc, RB w r nm kind opt st.left vd st.known vc ∧ w.ownsRow B 57 3 vd st.dict.length (clsV st.dict) ∧ w.ownsRow B 57 3 vc st.cells.length (clsV st.cells) ∧ (∀ k, vd.ownBlock = some k → vc.ownBlock ≠ some k) ∧ B ≤ r

theorem RB.ty {w : World} {r kind left : Nat} {nm : ByteArray} {opt known : Bool} {vd vc : Value} (h : RB w r nm kind opt left vd known vc) : Ty w r 104 := ⟨_, h⟩
theorem RB.fz {w : World} {r kind left : Nat} {nm : ByteArray} {opt known : Bool} {vd vc : Value} (h : RB w r nm kind opt left vd known vc) (j : Nat) : w.frozen? ⟨r, j, none⟩ = false := frozen_of_row w r j _ _ h
theorem RB.kept {w w' : World} {r kind left : Nat} {nm : ByteArray} {opt known : Bool} {vd vc : Value} (h : RB w r nm kind opt left vd known vc) (hw : w'.heap[r]? = w.heap[r]?) : RB w' r nm kind opt left vd known vc := by unfold RB; rw [hw]; exact h

theorem RSta.below {w w' : World} {r B : Nat} {nm : ByteArray} {kind : Nat} {opt : Bool} {st : Pu.Sta} (h : RSta w r B nm kind opt st) (hb : Below w.heap.size w w') : RSta w' r B nm kind opt st := by
  obtain ⟨vd, vc, h1, h2, h3, h4, h5⟩ := h
  exact ⟨vd, vc, h1.below hb, own_below h2 hb, own_below h3 hb, h4, h5⟩
theorem RSta.lt {w : World} {r B : Nat} {nm : ByteArray} {kind : Nat} {opt : Bool} {st : Pu.Sta} (h : RSta w r B nm kind opt st) : r < w.heap.size := by
  obtain ⟨vd, vc, h1, _⟩ := h; exact h1.lt

/-- the dictionary is kept -/
theorem RSta.dict {w : World} {r B : Nat} {nm : ByteArray} {kind : Nat} {opt : Bool} {st : Pu.Sta} {l : List Pu.Cl} {v : Value} {B2 : Nat} (h : RSta w r B nm kind opt st) (hl : w.ownsRow B2 57 3 v l.length (clsV l)) (hB : B ≤ B2) (hn : ∀ vd vc, RB w r nm kind opt st.left vd st.known vc → ∀ k, vc.ownBlock = some k → k < B2) :
    RSta ((w.setCell ⟨r, 4, none⟩ v).setCell ⟨r, 5, none⟩ (.bool true)) r B nm kind opt ⟨st.left, l, true, st.cells⟩ := by
  obtain ⟨vd, vc, h1, h2, h3, h4, h5⟩ := h
  have hv : v.ownBlock ≠ some r := fun e => Ty.ne (own_tyS hl e) h1.ty (by decide) rfl
  have hc : vc.ownBlock ≠ some r := fun e => Ty.ne (own_tyS h3 e) h1.ty (by decide) rfl
  refine ⟨v, vc, ?_, ownsRow_set_other' (ownsRow_set_other' (hl.mono hB) hv) hv, ownsRow_set_other' (ownsRow_set_other' h3 hc) hc, fun k hk e => ?_, h5⟩
  · unfold RB
    rw [row_set (row_set h1 _) _]; rfl
  · have := hn vd vc h1 k e
    have := (hl.lt k hk).1
    omega

/-- cells are kept -/
theorem RSta.cells {w w1 : World} {r B : Nat} {nm : ByteArray} {kind : Nat} {opt : Bool} {st : Pu.Sta} {vd vc v' : Value} {l : List Pu.Cl} {N : Nat} (h1 : RB w r nm kind opt st.left vd st.known vc) (h2 : w.ownsRow B 57 3 vd st.dict.length (clsV st.dict)) (h3 : w.ownsRow B 57 3 vc st.cells.length (clsV st.cells)) (h4 : ∀ k, vd.ownBlock = some k → vc.ownBlock ≠ some k) (h5 : B ≤ r)
    (hown : w1.ownsRow B 57 3 v' (st.cells.length + l.length) (clsV st.cells ++ clsV l)) (hg : w.grownBy w1 vc.ownBlock) (hat : v'.ownBlock = vc.ownBlock ∨ v'.ownBlock = some w.heap.size ∧ w.grownBy w1 none) (_hN : N = st.left - l.length) :
    RB w1 r nm kind opt st.left vd st.known vc ∧ RSta ((w1.setCell ⟨r, 6, none⟩ v').setCell ⟨r, 3, none⟩ (.int .i64 (N : Int))) r B nm kind opt ⟨N, st.dict, st.known, st.cells ++ l⟩ ∧ Below B w ((w1.setCell ⟨r, 6, none⟩ v').setCell ⟨r, 3, none⟩ (.int .i64 (N : Int))) := by
  have hcr : vc.ownBlock ≠ some r := fun e => Ty.ne (own_tyS h3 e) h1.ty (by decide) rfl
  have hb1 : RB w1 r nm kind opt st.left vd st.known vc := h1.kept (hg.block r h1.lt (fun e => hcr e.symm))
  have hv : v'.ownBlock ≠ some r := fun e => Ty.ne (own_tyS hown e) hb1.ty (by decide) rfl
  have hd1 : w1.ownsRow B 57 3 vd st.dict.length (clsV st.dict) := own_agreeS h2 (fun k hk => hg.block k (own_tyS h2 hk).lt (fun e => h4 k hk e.symm))
  have hd : vd.ownBlock ≠ some r := fun e => Ty.ne (own_tyS hd1 e) hb1.ty (by decide) rfl
  have hBw : B ≤ w.heap.size := by have := h1.lt; omega
  refine ⟨hb1, ⟨vd, v', ?_, ownsRow_set_other' (ownsRow_set_other' hd1 hd) hd, ?_, fun k hk e => ?_, h5⟩, ?_⟩
  · unfold RB
    rw [row_set (row_set hb1 _) _]; rfl
  · rw [List.length_append, show clsV (st.cells ++ l) = clsV st.cells ++ clsV l by simp [clsV]]
    exact ownsRow_set_other' (ownsRow_set_other' hown hv) hv
  · rcases hat with hat | ⟨hat, _⟩
    · rw [hat] at e; exact h4 k hk e
    · rw [hat] at e
      simp only [Option.some.injEq] at e
      have := (own_tyS h2 hk).lt
      omega
  · exact ((Below.grown (Below.refl B w) hg hBw (fun k e => (h3.lt k e).1)).setCell h5 _).setCell h5 _

def PgAns (w : World) (r B : Nat) (nm : ByteArray) (kind : Nat) (opt : Bool) (res : Except Nat (Nat × Pu.Sta)) (e : Ending) (w' : World) : Prop :=
  match res with
  | .error k => e = .returned (.tuple #[.int .i64 0, .int .i64 (k : Int)]) ∧ Below B w w'
  | .ok (u, st) => e = .returned (.tuple #[.int .i64 (u : Int), .int .i64 0]) ∧ Below B w w' ∧ RSta w' r B nm kind opt st

end Go.Proofs.YtjobhlncllfdmaaGreat
