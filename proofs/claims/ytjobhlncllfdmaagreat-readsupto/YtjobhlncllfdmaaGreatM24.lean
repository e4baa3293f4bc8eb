/- package page: Next. -/
import Derived.Test.YtjobhlncllfdmaaGreatM22
namespace Go.Proofs.YtjobhlncllfdmaaGreat
open Go.RowKit

/-- a page at place a of F (a sort that is one) -/
def Pu.headT (F : List UInt8) (a : Nat) : Option (Pu.Pg × Nat) :=
  if F.length < a + 2 then none else
  match Pu.three F (a + 2) with
  | none => none
  | some (c, st, z, b) =>
    if F.length < b + 4 + st then none else
    if 2 < Pu.byteAt F a ∨ 1 < Pu.byteAt F (a + 1) ∨ ¬ (if Pu.byteAt F (a + 1) = 1 then z ≤ 1048576 else z = st) then none else
    some (⟨Pu.byteAt F a, c, decide (Pu.byteAt F (a + 1) = 1), z, Pu.le (Pu.piece F b 4), Pu.piece F (b + 4) st⟩, b + 4 + st)

def NxAns (w : World) (R o : Nat) (C : Array Value) (T : TypeId) (lb : Nat) (F : List UInt8) (r : Option (Pu.Pg × Nat)) (e : Ending) (w' : World) : Prop :=
  match r with
  | none => (∃ (so c z : Nat) (pk : Bool) (y : Nat), e = .returned (.tuple #[.agg (pgRow so c z pk y (.slice none 0 0)), .bool false])) ∧ Fr (fun k => k = R) w w'
  | some (p, nx) => ∃ ap, e = .returned (.tuple #[.agg (pgRow p.sort p.cells p.size p.packed p.sum (.slice ap p.body.length p.body.length)), .bool true]) ∧ Rest w' lb ap p.body.length p.body ∧ Fr (fun k => k = R) w w' ∧ ∃ C', InSt w' R o C' T lb F nx ∧ SameBut o C C'

def set6 (w : World) (b : Nat) (y0 y1 y2 y3 y4 y5 : Value) : World := (((((w.setCell ⟨b, 0, none⟩ y0).setCell ⟨b, 1, none⟩ y1).setCell ⟨b, 2, none⟩ y2).setCell ⟨b, 3, none⟩ y3).setCell ⟨b, 4, none⟩ y4).setCell ⟨b, 5, none⟩ y5

theorem set6_row {w : World} {b : Nat} {x0 x1 x2 x3 x4 x5 : Value} {t : TypeId} (h : w.heap[b]? = some (.cells #[x0, x1, x2, x3, x4, x5] t (0, 0))) (y0 y1 y2 y3 y4 y5 : Value) :
    (set6 w b y0 y1 y2 y3 y4 y5).heap[b]? = some (.cells #[y0, y1, y2, y3, y4, y5] t (0, 0)) := by
  unfold set6
  rw [row_set (row_set (row_set (row_set (row_set (row_set h _) _) _) _) _) _]
  rfl
theorem set6_off {w : World} {b k : Nat} (h : k ≠ b) (y0 y1 y2 y3 y4 y5 : Value) : (set6 w b y0 y1 y2 y3 y4 y5).heap[k]? = w.heap[k]? := by
  unfold set6
  rw [row_off h, row_off h, row_off h, row_off h, row_off h, row_off h]
theorem set6_fr {w W : World} {R b : Nat} (h : Fr (fun k => k = R) w W) (hb : w.heap.size ≤ b) (y0 y1 y2 y3 y4 y5 : Value) : Fr (fun k => k = R) w (set6 W b y0 y1 y2 y3 y4 y5) := by
  have key : ∀ (X : World) (j : Nat) (u : Value), Fr (fun k => k = R) w X → Fr (fun k => k = R) w (X.setCell ⟨b, j, none⟩ u) := fun X j u hX => hX.trans (Fr.set' (T := fun k => k = b) rfl) (fun k hk e => by omega)
  unfold set6
  exact key _ _ _ (key _ _ _ (key _ _ _ (key _ _ _ (key _ _ _ (key _ _ _ h)))))

/-- the cells of the answer, and that they may be written -/
structure Six (W : World) (b : Nat) (x0 x1 x2 x3 x4 x5 : Value) : Prop where
  k0 : W.cell? ⟨b, 0, none⟩ = some x0
  k1 : W.cell? ⟨b, 1, none⟩ = some x1
  k2 : W.cell? ⟨b, 2, none⟩ = some x2
  k3 : W.cell? ⟨b, 3, none⟩ = some x3
  k4 : W.cell? ⟨b, 4, none⟩ = some x4
  k5 : W.cell? ⟨b, 5, none⟩ = some x5
  fz : ∀ j, W.frozen? ⟨b, j, none⟩ = false
theorem six_of {W : World} {b : Nat} {x0 x1 x2 x3 x4 x5 : Value} {t : TypeId} (h : W.heap[b]? = some (.cells #[x0, x1, x2, x3, x4, x5] t (0, 0))) : Six W b x0 x1 x2 x3 x4 x5 :=
  ⟨by rw [cell_of_row _ _ 0 _ _ _ h]; rfl, by rw [cell_of_row _ _ 1 _ _ _ h]; rfl, by rw [cell_of_row _ _ 2 _ _ _ h]; rfl, by rw [cell_of_row _ _ 3 _ _ _ h]; rfl, by rw [cell_of_row _ _ 4 _ _ _ h]; rfl, by rw [cell_of_row _ _ 5 _ _ _ h]; rfl, fun j => frozen_of_row _ _ _ _ _ h⟩

theorem le_one' (F : List UInt8) (a : Nat) (h : a < F.length) : Pu.le ((F.drop a).take 1) = Pu.byteAt F a := le_one F a h

theorem headT_short {F : List UInt8} {a : Nat} (h : F.length < a + 2) : Pu.headT F a = none := by unfold Pu.headT; rw [if_pos h]
theorem headT_three {F : List UInt8} {a : Nat} (h : Pu.three F (a + 2) = none) : Pu.headT F a = none := by unfold Pu.headT; split <;> simp [h]
theorem headT_some {F : List UInt8} {a c st z b : Nat} (h0 : ¬ F.length < a + 2) (h : Pu.three F (a + 2) = some (c, st, z, b)) : Pu.headT F a = if F.length < b + 4 + st then none else
    if 2 < Pu.byteAt F a ∨ 1 < Pu.byteAt F (a + 1) ∨ ¬ (if Pu.byteAt F (a + 1) = 1 then z ≤ 1048576 else z = st) then none else
    some (⟨Pu.byteAt F a, c, decide (Pu.byteAt F (a + 1) = 1), z, Pu.le (Pu.piece F b 4), Pu.piece F (b + 4) st⟩, b + 4 + st) := by unfold Pu.headT; rw [if_neg h0, h]
theorem headT_sort {F : List UInt8} {a : Nat} (h : 2 < Pu.byteAt F a) : Pu.headT F a = none := by
  unfold Pu.headT
  split
  · rfl
  · split
    · rfl
    · split
      · rfl
      · rw [if_pos (.inl h)]
theorem headT_packed {F : List UInt8} {a : Nat} (h : 1 < Pu.byteAt F (a + 1)) : Pu.headT F a = none := by
  unfold Pu.headT
  split
  · rfl
  · split
    · rfl
    · split
      · rfl
      · rw [if_pos (.inr (.inl h))]

theorem three_le {F : List UInt8} {a c st z b : Nat} (h : Pu.three F a = some (c, st, z, b)) : b ≤ F.length ∧ c ≤ 4294967295 ∧ st ≤ 4294967295 ∧ z ≤ 4294967295 := by
  unfold Pu.three at h
  cases h1 : Pu.vi F a with
  | none => simp [h1] at h
  | some p1 =>
    obtain ⟨c1, b1⟩ := p1
    simp only [h1] at h
    cases h2 : Pu.vi F b1 with
    | none => simp [h2] at h
    | some p2 =>
      obtain ⟨c2, b2⟩ := p2
      simp only [h2] at h
      cases h3 : Pu.vi F b2 with
      | none => simp [h3] at h
      | some p3 =>
        obtain ⟨c3, b3⟩ := p3
        simp only [h3, Option.some.injEq, Prod.mk.injEq] at h
        obtain ⟨rfl, rfl, rfl, rfl⟩ := h
        exact ⟨(Pu.vi_lt h3).2.1, (Pu.vi_lt h1).2.2, (Pu.vi_lt h2).2.2, (Pu.vi_lt h3).2.2⟩

set_option maxHeartbeats 8000000 in
set_option maxRecDepth 100000 in
theorem next_page (R o : Nat) (C : Array Value) (T : TypeId) (lb : Nat) (F : List UInt8) (a : Nat) (w : World) (h : InSt w R o C T lb F a) (hlb : lb < w.heap.size) :
    Calls Tryz.prog 64 #[.pointer (some ⟨R, o, none⟩)] w fun e w' => NxAns w R o C T lb F (Pu.headT F a) e w' := by
  have hR := h.lt
  obtain ⟨W0, hW0⟩ : ∃ W0, W0 = w.alloc (.cells #[.int .u32 0, .int .i64 0, .int .i64 0, .bool false, .int .u32 0, .slice none 0 0] 146) := ⟨_, rfl⟩
  have r0 : W0.heap[w.heap.size]? = some (.cells #[.int .u32 0, .int .i64 0, .int .i64 0, .bool false, .int .u32 0, .slice none 0 0] 146 (0, 0)) := by rw [hW0]; exact heap_alloc_new w _
  have F0 : Fr (fun k => k = R) w W0 := by rw [hW0]; exact Fr.alloc'
  have I0 : InSt W0 R o C T lb F a := by rw [hW0]; exact h.below hlb (bbox w _)
  have s0 : W0.heap.size = w.heap.size + 1 := by rw [hW0, size_alloc']
  have Hs0 : Hid (W0.heap.size = w.heap.size + 1) := s0
  clear h
  rcases in_number R o C T lb F a 1 W0 I0 (by omega) with ⟨hb1, hc1⟩ | ⟨hf1, w1, C1, hc1, hS1⟩
  · have HX : Hid (Pu.headT F a = none) := headT_short (by omega)
    have N1 : Hid (Calls Tryz.prog 59 #[.pointer (some ⟨R, o, none⟩), .int .i64 1] (w.alloc (.cells #[.int .u32 0, .int .i64 0, .int .i64 0, .bool false, .int .u32 0, .slice none 0 0] 146)) fun e w' => e = .returned (.tuple #[.int .u32 0, .bool false]) ∧ w' = W0) := by
      have := hc1; rw [hW0] at this ⊢; exact this
    clear hc1 hW0 I0 s0
    go_enter Tryz.func64, Tryz.ntmps64
    go_wp2_with fail
    refine N1.out.mono ?_
    rintro e w' ⟨rfl, hw'⟩
    subst w'
    have SX := six_of r0
    obtain ⟨k0, k1, k2, k3, k4, k5, kf⟩ := SX
    have QX := six_of (set6_row r0 (.int .u32 0) (.int .i64 0) (.int .i64 0) (.bool false) (.int .u32 0) (.slice none 0 0))
    unfold set6 at QX
    obtain ⟨q0, q1, q2, q3, q4, q5, _⟩ := QX
    have HF : Hid (Fr (fun k => k = R) w (set6 W0 w.heap.size (.int .u32 0) (.int .i64 0) (.int .i64 0) (.bool false) (.int .u32 0) (.slice none 0 0))) := set6_fr F0 (Nat.le_refl _) _ _ _ _ _ _
    clear r0
    go_wp2
    exact bodyPost_ret (v := .tuple #[.agg #[.int .u32 0, .int .i64 0, .int .i64 0, .bool false, .int .u32 0, .slice none 0 0], .bool false]) (by simp [results, Tryz.results64, go_sem, q0, q1, q2, q3, q4, q5]) rfl (by rw [HX.out]; exact ⟨⟨0, 0, 0, false, 0, rfl⟩, HF.out⟩)
  · obtain ⟨b0, hb0⟩ : ∃ b0, b0 = Pu.byteAt F a := ⟨_, rfl⟩
    have HB0 : Hid (b0 = Pu.byteAt F a) := hb0
    have hb0l : b0 < 256 := by rw [hb0]; exact Pu.byteAt_lt _ _
    have N1 : Hid (Calls Tryz.prog 59 #[.pointer (some ⟨R, o, none⟩), .int .i64 1] (w.alloc (.cells #[.int .u32 0, .int .i64 0, .int .i64 0, .bool false, .int .u32 0, .slice none 0 0] 146)) fun e w' => e = .returned (.tuple #[.int .u32 (b0 : Int), .bool true]) ∧ w' = w1) := by
      have := hc1
      rw [le_one F a (by omega), ← hb0, hW0] at this
      exact this
    have r1 : w1.heap[w.heap.size]? = some (.cells #[.int .u32 0, .int .i64 0, .int .i64 0, .bool false, .int .u32 0, .slice none 0 0] 146 (0, 0)) := by rw [hS1.fr.block _ (by omega) (by omega)]; exact r0
    have F1 : Fr (fun k => k = R) w w1 := F0.trans hS1.fr (fun _ _ h => h)
    have s1 : w1.heap.size = w.heap.size + 1 := by rw [hS1.size]; exact s0
    have I1 := hS1.st
    have B1 := hS1.same
    clear hc1 hW0 I0 r0 F0 hS1 hb0 s0
    by_cases hso : 2 < b0
    · have HX : Hid (Pu.headT F a = none) := headT_sort (by rw [← HB0.out]; exact hso)
      have hsd : decide ((2 : Int) < (b0 : Int)) = true := by simp; omega
      clear I1 s1
      go_enter Tryz.func64, Tryz.ntmps64
      go_wp2_with fail
      refine N1.out.mono ?_
      rintro e w' ⟨rfl, hw'⟩
      subst w'
      have SX := six_of r1
      obtain ⟨k0, k1, k2, k3, k4, k5, kf⟩ := SX
      have QX := six_of (set6_row r1 (.int .u32 0) (.int .i64 0) (.int .i64 0) (.bool false) (.int .u32 0) (.slice none 0 0))
      unfold set6 at QX
      obtain ⟨q0, q1, q2, q3, q4, q5, _⟩ := QX
      have HF : Hid (Fr (fun k => k = R) w (set6 w1 w.heap.size (.int .u32 0) (.int .i64 0) (.int .i64 0) (.bool false) (.int .u32 0) (.slice none 0 0))) := set6_fr F1 (Nat.le_refl _) _ _ _ _ _ _
      clear r1
      go_wp2
      exact bodyPost_ret (v := .tuple #[.agg #[.int .u32 0, .int .i64 0, .int .i64 0, .bool false, .int .u32 0, .slice none 0 0], .bool false]) (by simp [results, Tryz.results64, go_sem, q0, q1, q2, q3, q4, q5]) rfl (by rw [HX.out]; exact ⟨⟨0, 0, 0, false, 0, rfl⟩, HF.out⟩)
    · have hsd : decide ((2 : Int) < (b0 : Int)) = false := by simp; omega
      rcases in_number R o C1 T lb F (a + 1) 1 w1 I1 (by omega) with ⟨hb2, hc2⟩ | ⟨hf2, w2, C2, hc2, hS2⟩
      · have HX : Hid (Pu.headT F a = none) := headT_short (by omega)
        have N2 : Hid (Calls Tryz.prog 59 #[.pointer (some ⟨R, o, none⟩), .int .i64 1] w1 fun e w' => e = .returned (.tuple #[.int .u32 0, .bool false]) ∧ w' = w1) := hc2
        clear hc2 I1 s1
        go_enter Tryz.func64, Tryz.ntmps64
        go_wp2_with fail
        refine N1.out.mono ?_
        rintro e w' ⟨rfl, hw'⟩
        subst w'
        go_wp2_with fail
        refine N2.out.mono ?_
        rintro e w' ⟨rfl, hw'⟩
        subst w'
        have SX := six_of r1
        obtain ⟨k0, k1, k2, k3, k4, k5, kf⟩ := SX
        have QX := six_of (set6_row r1 (.int .u32 0) (.int .i64 0) (.int .i64 0) (.bool false) (.int .u32 0) (.slice none 0 0))
        unfold set6 at QX
        obtain ⟨q0, q1, q2, q3, q4, q5, _⟩ := QX
        have HF : Hid (Fr (fun k => k = R) w (set6 w1 w.heap.size (.int .u32 0) (.int .i64 0) (.int .i64 0) (.bool false) (.int .u32 0) (.slice none 0 0))) := set6_fr F1 (Nat.le_refl _) _ _ _ _ _ _
        clear r1
        go_wp2
        exact bodyPost_ret (v := .tuple #[.agg #[.int .u32 0, .int .i64 0, .int .i64 0, .bool false, .int .u32 0, .slice none 0 0], .bool false]) (by simp [results, Tryz.results64, go_sem, q0, q1, q2, q3, q4, q5]) rfl (by rw [HX.out]; exact ⟨⟨0, 0, 0, false, 0, rfl⟩, HF.out⟩)
      · obtain ⟨b1, hb1⟩ : ∃ b1, b1 = Pu.byteAt F (a + 1) := ⟨_, rfl⟩
        have HB1 : Hid (b1 = Pu.byteAt F (a + 1)) := hb1
        have hb1l : b1 < 256 := by rw [hb1]; exact Pu.byteAt_lt _ _
        have N2 : Hid (Calls Tryz.prog 59 #[.pointer (some ⟨R, o, none⟩), .int .i64 1] w1 fun e w' => e = .returned (.tuple #[.int .u32 (b1 : Int), .bool true]) ∧ w' = w2) := by
          have := hc2
          rw [le_one F (a + 1) (by omega), ← hb1] at this
          exact this
        have r2 : w2.heap[w.heap.size]? = some (.cells #[.int .u32 0, .int .i64 0, .int .i64 0, .bool false, .int .u32 0, .slice none 0 0] 146 (0, 0)) := by rw [hS2.fr.block _ (by omega) (by omega)]; exact r1
        have F2 : Fr (fun k => k = R) w w2 := F1.trans hS2.fr (fun _ _ h => h)
        have s2 : w2.heap.size = w.heap.size + 1 := by rw [hS2.size]; exact s1
        have I2 := hS2.st
        have B2 := B1.trans hS2.same
        clear hc2 I1 r1 F1 hS2 hb1 s1 B1
        by_cases hpk : 1 < b1
        · have HX : Hid (Pu.headT F a = none) := headT_packed (by rw [← HB1.out]; exact hpk)
          have hpd : decide ((1 : Int) < (b1 : Int)) = true := by simp; omega
          clear I2 s2
          go_enter Tryz.func64, Tryz.ntmps64
          go_wp2_with fail
          refine N1.out.mono ?_
          rintro e w' ⟨rfl, hw'⟩
          subst w'
          go_wp2_with fail
          refine N2.out.mono ?_
          rintro e w' ⟨rfl, hw'⟩
          subst w'
          have SX := six_of r2
          obtain ⟨k0, k1, k2, k3, k4, k5, kf⟩ := SX
          have QX := six_of (set6_row r2 (.int .u32 0) (.int .i64 0) (.int .i64 0) (.bool false) (.int .u32 0) (.slice none 0 0))
          unfold set6 at QX
          obtain ⟨q0, q1, q2, q3, q4, q5, _⟩ := QX
          have HF : Hid (Fr (fun k => k = R) w (set6 w2 w.heap.size (.int .u32 0) (.int .i64 0) (.int .i64 0) (.bool false) (.int .u32 0) (.slice none 0 0))) := set6_fr F2 (Nat.le_refl _) _ _ _ _ _ _
          clear r2
          go_wp2
          exact bodyPost_ret (v := .tuple #[.agg #[.int .u32 0, .int .i64 0, .int .i64 0, .bool false, .int .u32 0, .slice none 0 0], .bool false]) (by simp [results, Tryz.results64, go_sem, q0, q1, q2, q3, q4, q5]) rfl (by rw [HX.out]; exact ⟨⟨0, 0, 0, false, 0, rfl⟩, HF.out⟩)
        · have hpd : decide ((1 : Int) < (b1 : Int)) = false := by simp; omega
          obtain ⟨pk, hpkb⟩ : ∃ pk : Bool, ((b1 : Int) == 1) = pk := ⟨_, rfl⟩
          have HPK : Hid (pk = decide (Pu.byteAt F (a + 1) = 1)) := by
            rw [Hid, ← hpkb, ← HB1.out]
            by_cases e : b1 = 1
            · subst e; simp
            · rw [decide_eq_false e, beq_eq_false_iff_ne]; omega
          obtain ⟨W3, hW3⟩ : ∃ W3, W3 = w2.alloc (.cells (pgRow b0 0 0 pk 0 (.slice none 0 0)) 146) := ⟨_, rfl⟩
          have rK : W3.heap[w2.heap.size]? = some (.cells (pgRow b0 0 0 pk 0 (.slice none 0 0)) 146 (0, 0)) := by rw [hW3]; exact heap_alloc_new w2 _
          have r3 : W3.heap[w.heap.size]? = some (.cells #[.int .u32 0, .int .i64 0, .int .i64 0, .bool false, .int .u32 0, .slice none 0 0] 146 (0, 0)) := by rw [hW3, Below.heap_alloc _ _ _ (by omega)]; exact r2
          have F3 : Fr (fun k => k = R) w W3 := by rw [hW3]; exact F2.trans Fr.alloc' (fun _ _ h => h)
          have hlb2 : lb < w2.heap.size := by omega
          have I3 : InSt W3 R o C2 T lb F (a + 2) := by rw [hW3]; exact I2.below hlb2 (bbox w2 _)
          have s3 : W3.heap.size = w.heap.size + 2 := by rw [hW3, size_alloc', s2]
          have SZ0 := sizes_any w2.heap.size R o C2 T lb F (a + 2) b0 pk W3 I3 rK (by omega) (by omega) (by omega)
          have SZ : Hid (Calls Tryz.prog 80 #[.pointer (some ⟨w.heap.size + 1, 0, none⟩), .pointer (some ⟨R, o, none⟩)] (w2.alloc (.cells #[.int .u32 (b0 : Int), .int .i64 0, .int .i64 0, .bool pk, .int .u32 0, .slice none 0 0] 146)) fun e w' => SzAns W3 (w.heap.size + 1) R o C2 T lb F b0 pk (Pu.three F (a + 2)) e w') := by
            rw [← s2]
            have := SZ0
            rw [hW3] at this ⊢
            exact this
          rw [s2] at rK
          have Hs2 : Hid (w2.heap.size = w.heap.size + 1) := s2
          clear SZ0 hW3 I2 r2 F2 I3 hlb2
          cases h3 : Pu.three F (a + 2) with
          | none =>
            have HX : Hid (Pu.headT F a = none) := headT_three h3
            rw [h3] at SZ
            clear h3 rK s2
            go_enter Tryz.func64, Tryz.ntmps64
            go_wp2_with fail
            refine N1.out.mono ?_
            rintro e w' ⟨rfl, hw'⟩
            subst w'
            go_wp2_with fail
            refine N2.out.mono ?_
            rintro e w' ⟨rfl, hw'⟩
            subst w'
            go_wp2_with fail
            rw [Hs2.out]
            refine SZ.out.mono ?_
            rintro e w4 ⟨rfl, hfr4⟩
            have r4 : w4.heap[w.heap.size]? = some (.cells #[.int .u32 0, .int .i64 0, .int .i64 0, .bool false, .int .u32 0, .slice none 0 0] 146 (0, 0)) := by rw [hfr4.block _ (by omega) (by omega)]; exact r3
            have F4 : Fr (fun k => k = R) w w4 := F3.trans hfr4 (fun k hk e => by omega)
            clear hfr4 r3 F3
            have SX := six_of r4
            obtain ⟨k0, k1, k2, k3, k4, k5, kf⟩ := SX
            have QX := six_of (set6_row r4 (.int .u32 0) (.int .i64 0) (.int .i64 0) (.bool false) (.int .u32 0) (.slice none 0 0))
            unfold set6 at QX
            obtain ⟨q0, q1, q2, q3, q4, q5, _⟩ := QX
            have HF : Hid (Fr (fun k => k = R) w (set6 w4 w.heap.size (.int .u32 0) (.int .i64 0) (.int .i64 0) (.bool false) (.int .u32 0) (.slice none 0 0))) := set6_fr F4 (Nat.le_refl _) _ _ _ _ _ _
            clear r4
            go_wp2
            exact bodyPost_ret (v := .tuple #[.agg #[.int .u32 0, .int .i64 0, .int .i64 0, .bool false, .int .u32 0, .slice none 0 0], .bool false]) (by simp [results, Tryz.results64, go_sem, q0, q1, q2, q3, q4, q5]) rfl (by rw [HX.out]; exact ⟨⟨0, 0, 0, false, 0, rfl⟩, HF.out⟩)
          | some pr =>
            obtain ⟨c, st, z, b⟩ := pr
            obtain ⟨hbl, hcl, hstl, hzl⟩ := three_le h3
            have HH : Hid (Pu.headT F a = if F.length < b + 4 + st then none else
              if 2 < Pu.byteAt F a ∨ 1 < Pu.byteAt F (a + 1) ∨ ¬ (if Pu.byteAt F (a + 1) = 1 then z ≤ 1048576 else z = st) then none else
              some (⟨Pu.byteAt F a, c, decide (Pu.byteAt F (a + 1) = 1), z, Pu.le (Pu.piece F b 4), Pu.piece F (b + 4) st⟩, b + 4 + st)) := headT_some (by omega) h3
            rw [h3] at SZ
            clear h3 rK s2
            have hokv : (if pk = true then decide (z ≤ 1048576) else decide (z = st)) = decide (if Pu.byteAt F (a + 1) = 1 then z ≤ 1048576 else z = st) := by
              rw [HPK.out]
              by_cases e : Pu.byteAt F (a + 1) = 1
              · simp [e]
              · simp [e]
            by_cases hok : (if Pu.byteAt F (a + 1) = 1 then z ≤ 1048576 else z = st)
            · have SZ2 : Hid (Calls Tryz.prog 80 #[.pointer (some ⟨w.heap.size + 1, 0, none⟩), .pointer (some ⟨R, o, none⟩)] (w2.alloc (.cells #[.int .u32 (b0 : Int), .int .i64 0, .int .i64 0, .bool pk, .int .u32 0, .slice none 0 0] 146)) fun e w' => e = .returned (.tuple #[.int .i64 (st : Int), .bool true]) ∧ w'.heap[w.heap.size + 1]? = some (.cells (pgRow b0 c z pk 0 (.slice none 0 0)) 146 (0, 0)) ∧ Fr (fun k => k = R ∨ k = w.heap.size + 1) W3 w' ∧ ∃ C', InSt w' R o C' T lb F b ∧ SameBut o C2 C') := by
                refine SZ.out.mono ?_
                rintro e w' ⟨h1, h2⟩
                rw [hokv, decide_eq_true hok] at h1
                exact ⟨h1, h2⟩
              have HH2 : Hid (Pu.headT F a = if F.length < b + 4 + st then none else some (⟨b0, c, pk, z, Pu.le (Pu.piece F b 4), Pu.piece F (b + 4) st⟩, b + 4 + st)) := by
                rw [Hid, HH.out]
                split
                · rfl
                · rw [if_neg (by rw [← HB0.out, ← HB1.out]; rw [← HB1.out] at hok; simp only [not_or, Decidable.not_not]; exact ⟨by omega, by omega, hok⟩), ← HB0.out, HPK.out]
              clear hokv hok HH SZ
              go_enter Tryz.func64, Tryz.ntmps64
              go_wp2_with fail
              refine N1.out.mono ?_
              rintro e w' ⟨rfl, hw'⟩
              subst w'
              go_wp2_with fail
              refine N2.out.mono ?_
              rintro e w' ⟨rfl, hw'⟩
              subst w'
              go_wp2_with fail
              rw [Hs2.out]
              refine SZ2.out.mono ?_
              rintro e w4 ⟨rfl, rK4, hfr4, C4, I4, B4⟩
              have r4 : w4.heap[w.heap.size]? = some (.cells #[.int .u32 0, .int .i64 0, .int .i64 0, .bool false, .int .u32 0, .slice none 0 0] 146 (0, 0)) := by rw [hfr4.block _ (by omega) (by omega)]; exact r3
              have F4 : Fr (fun k => k = R) w w4 := F3.trans hfr4 (fun k hk e => by omega)
              have s4 : w.heap.size + 2 ≤ w4.heap.size := by have := hfr4.size; omega
              have B4' := B2.trans B4
              clear hfr4 r3 F3 B2 B4 SZ2
              rcases in_number R o C4 T lb F b 4 w4 I4 (by omega) with ⟨hb5, hc5⟩ | ⟨hf5, w5, C5, hc5, hS5⟩
              · have HX : Hid (Pu.headT F a = none) := by rw [Hid, HH2.out, if_pos (by omega)]
                have N5 : Hid (Calls Tryz.prog 59 #[.pointer (some ⟨R, o, none⟩), .int .i64 4] w4 fun e w' => e = .returned (.tuple #[.int .u32 0, .bool false]) ∧ w' = w4) := hc5
                obtain ⟨X, hX⟩ : ∃ X, X = w4.setCell ⟨w.heap.size + 1, 4, none⟩ (.int .u32 0) := ⟨_, rfl⟩
                have p4 : w4.cell? ⟨w.heap.size + 1, 4, none⟩ = some (.int .u32 0) := by rw [cell_of_row _ _ 4 _ _ _ rK4]; rfl
                have pf4 := frozen_of_row _ _ 4 _ _ rK4
                have rX : X.heap[w.heap.size]? = some (.cells #[.int .u32 0, .int .i64 0, .int .i64 0, .bool false, .int .u32 0, .slice none 0 0] 146 (0, 0)) := by rw [hX, row_off (by omega)]; exact r4
                have FX : Fr (fun k => k = R) w X := by rw [hX]; exact F4.trans (Fr.set' (T := fun k => k = w.heap.size + 1) rfl) (fun k hk e => by omega)
                have HXX : Hid (X = w4.setCell ⟨w.heap.size + 1, 4, none⟩ (.int .u32 0)) := hX
                clear hc5 I4 r4 F4 rK4 s4
                go_wp2_with fail
                refine N5.out.mono ?_
                rintro e w' ⟨rfl, hw'⟩
                subst w'
                rw [hX] at rX FX
                clear hX
                have SX := six_of rX
                obtain ⟨k0, k1, k2, k3, k4, k5, kf⟩ := SX
                have QX := six_of (set6_row rX (.int .u32 0) (.int .i64 0) (.int .i64 0) (.bool false) (.int .u32 0) (.slice none 0 0))
                unfold set6 at QX
                obtain ⟨q0, q1, q2, q3, q4, q5, _⟩ := QX
                have HF : Hid (Fr (fun k => k = R) w (set6 (w4.setCell ⟨w.heap.size + 1, 4, none⟩ (.int .u32 0)) w.heap.size (.int .u32 0) (.int .i64 0) (.int .i64 0) (.bool false) (.int .u32 0) (.slice none 0 0))) := set6_fr FX (Nat.le_refl _) _ _ _ _ _ _
                clear rX
                go_wp2
                exact bodyPost_ret (v := .tuple #[.agg #[.int .u32 0, .int .i64 0, .int .i64 0, .bool false, .int .u32 0, .slice none 0 0], .bool false]) (by simp [results, Tryz.results64, go_sem, q0, q1, q2, q3, q4, q5]) rfl (by rw [HX.out]; exact ⟨⟨0, 0, 0, false, 0, rfl⟩, HF.out⟩)
              · obtain ⟨y, hy⟩ : ∃ y, y = Pu.le (Pu.piece F b 4) := ⟨_, rfl⟩
                have HY : Hid (y = Pu.le (Pu.piece F b 4)) := hy
                have N5 : Hid (Calls Tryz.prog 59 #[.pointer (some ⟨R, o, none⟩), .int .i64 4] w4 fun e w' => e = .returned (.tuple #[.int .u32 (y : Int), .bool true]) ∧ w' = w5) := by rw [hy]; exact hc5
                have r5 : w5.heap[w.heap.size]? = some (.cells #[.int .u32 0, .int .i64 0, .int .i64 0, .bool false, .int .u32 0, .slice none 0 0] 146 (0, 0)) := by rw [hS5.fr.block _ (by omega) (by omega)]; exact r4
                have rK5 : w5.heap[w.heap.size + 1]? = some (.cells (pgRow b0 c z pk 0 (.slice none 0 0)) 146 (0, 0)) := by rw [hS5.fr.block _ (by omega) (by omega)]; exact rK4
                have F5 : Fr (fun k => k = R) w w5 := F4.trans hS5.fr (fun _ _ h => h)
                have p4 : w5.cell? ⟨w.heap.size + 1, 4, none⟩ = some (.int .u32 0) := by rw [cell_of_row _ _ 4 _ _ _ rK5]; rfl
                have pf4 := frozen_of_row _ _ 4 _ _ rK5
                obtain ⟨w6, hw6⟩ : ∃ w6, w6 = w5.setCell ⟨w.heap.size + 1, 4, none⟩ (.int .u32 (y : Int)) := ⟨_, rfl⟩
                have r6 : w6.heap[w.heap.size]? = some (.cells #[.int .u32 0, .int .i64 0, .int .i64 0, .bool false, .int .u32 0, .slice none 0 0] 146 (0, 0)) := by rw [hw6, row_off (by omega)]; exact r5
                have rK6 : w6.heap[w.heap.size + 1]? = some (.cells (pgRow b0 c z pk y (.slice none 0 0)) 146 (0, 0)) := by rw [hw6, row_set rK5]; rfl
                have F6 : Fr (fun k => k = R) w w6 := by rw [hw6]; exact F5.trans (Fr.set' (T := fun k => k = w.heap.size + 1) rfl) (fun k hk e => by omega)
                have I6 : InSt w6 R o C5 T lb F (b + 4) := by rw [hw6]; exact hS5.st.kept (row_off (by omega) _) (row_off (by omega) _)
                have B6 := B4'.trans hS5.same
                have s6 : w.heap.size + 2 ≤ w6.heap.size := by rw [hw6, size_set, hS5.size]; exact s4
                have Hw6 : Hid (w6 = w5.setCell ⟨w.heap.size + 1, 4, none⟩ (.int .u32 (y : Int))) := hw6
                clear hc5 I4 r4 F4 rK4 s4 hS5 r5 rK5 F5 hy B4'
                have p50 : ∀ j, w6.frozen? ⟨w.heap.size + 1, j, none⟩ = false := fun j => frozen_of_row _ _ _ _ _ rK6
                have hl5 : (pgRow b0 c z pk y (.slice none 0 0))[5]? = some (.slice none 0 0) := rfl
                have p5 : w6.cell? ⟨w.heap.size + 1, 5, none⟩ = some (.slice none 0 0) := by rw [cell_of_row _ _ 5 _ _ _ rK6]; rfl
                rcases in_take R o C5 T lb F (b + 4) st w6 I6 with ⟨hb7, hc7⟩ | ⟨hf7, w7, C7, ap, hc7, hS7, hR7⟩
                · have HX : Hid (Pu.headT F a = none) := by rw [Hid, HH2.out, if_pos hb7]
                  have N7 : Hid (Calls Tryz.prog 75 #[.pointer (some ⟨R, o, none⟩), .int .i64 (st : Int)] (w5.setCell ⟨w.heap.size + 1, 4, none⟩ (.int .u32 (y : Int))) fun e w' => e = .returned (.tuple #[.slice none 0 0, .bool false]) ∧ w' = w6) := by
                    have := hc7; rw [hw6] at this ⊢; exact this
                  have rK8 := row_set (j := 5) rK6 (.slice none 0 0)
                  have r8 : (w6.setCell ⟨w.heap.size + 1, 5, none⟩ (.slice none 0 0)).heap[w.heap.size]? = some (.cells #[.int .u32 0, .int .i64 0, .int .i64 0, .bool false, .int .u32 0, .slice none 0 0] 146 (0, 0)) := by rw [row_off (by omega)]; exact r6
                  have F8 : Fr (fun k => k = R) w (w6.setCell ⟨w.heap.size + 1, 5, none⟩ (.slice none 0 0)) := F6.trans (Fr.set' (T := fun k => k = w.heap.size + 1) rfl) (fun k hk e => by omega)
                  have SK := six_of rK8
                  obtain ⟨m0, m1, m2, m3, m4, m5, _⟩ := SK
                  have SX := six_of r8
                  obtain ⟨k0, k1, k2, k3, k4, k5, kf⟩ := SX
                  have QX := six_of (set6_row r8 (.int .u32 (b0 : Int)) (.int .i64 (c : Int)) (.int .i64 (z : Int)) (.bool pk) (.int .u32 (y : Int)) (.slice none 0 0))
                  unfold set6 at QX
                  obtain ⟨q0, q1, q2, q3, q4, q5, _⟩ := QX
                  have HF : Hid (Fr (fun k => k = R) w (set6 (w6.setCell ⟨w.heap.size + 1, 5, none⟩ (.slice none 0 0)) w.heap.size (.int .u32 (b0 : Int)) (.int .i64 (c : Int)) (.int .i64 (z : Int)) (.bool pk) (.int .u32 (y : Int)) (.slice none 0 0))) := set6_fr F8 (Nat.le_refl _) _ _ _ _ _ _
                  clear hc7 r8 rK8 r6 rK6 hw6 I6
                  go_wp2_with fail
                  refine N5.out.mono ?_
                  rintro e w' ⟨rfl, hw'⟩
                  subst w'
                  go_wp2_with fail
                  refine N7.out.mono ?_
                  rintro e w' ⟨rfl, hw'⟩
                  subst w'
                  go_wp2
                  exact bodyPost_ret (v := .tuple #[.agg #[.int .u32 (b0 : Int), .int .i64 (c : Int), .int .i64 (z : Int), .bool pk, .int .u32 (y : Int), .slice none 0 0], .bool false]) (by simp [results, Tryz.results64, go_sem, q0, q1, q2, q3, q4, q5]) rfl (by rw [HX.out]; exact ⟨⟨b0, c, z, pk, y, rfl⟩, HF.out⟩)
                · have HX : Hid (Pu.headT F a = some (⟨b0, c, pk, z, y, Pu.piece F (b + 4) st⟩, b + 4 + st)) := by rw [Hid, HH2.out, if_neg (by omega), HY.out]
                  have hpl : (Pu.piece F (b + 4) st).length = st := Pu.length_piece _ _ _ hf7
                  have N7 : Hid (Calls Tryz.prog 75 #[.pointer (some ⟨R, o, none⟩), .int .i64 (st : Int)] (w5.setCell ⟨w.heap.size + 1, 4, none⟩ (.int .u32 (y : Int))) fun e w' => e = .returned (.tuple #[.slice ap st st, .bool true]) ∧ w' = w7) := by
                    have := hc7; rw [hw6] at this; exact this
                  have r7 : w7.heap[w.heap.size]? = some (.cells #[.int .u32 0, .int .i64 0, .int .i64 0, .bool false, .int .u32 0, .slice none 0 0] 146 (0, 0)) := by rw [hS7.fr.block _ (by omega) (by omega)]; exact r6
                  have rK7 : w7.heap[w.heap.size + 1]? = some (.cells (pgRow b0 c z pk y (.slice none 0 0)) 146 (0, 0)) := by rw [hS7.fr.block _ (by omega) (by omega)]; exact rK6
                  have F7 : Fr (fun k => k = R) w w7 := F6.trans hS7.fr (fun _ _ h => h)
                  have p75 : w7.cell? ⟨w.heap.size + 1, 5, none⟩ = some (.slice none 0 0) := by rw [cell_of_row _ _ 5 _ _ _ rK7]; rfl
                  have pf7 := frozen_of_row _ _ 5 _ _ rK7
                  have rK8 := row_set (j := 5) rK7 (.slice ap st st)
                  have r8 : (w7.setCell ⟨w.heap.size + 1, 5, none⟩ (.slice ap st st)).heap[w.heap.size]? = some (.cells #[.int .u32 0, .int .i64 0, .int .i64 0, .bool false, .int .u32 0, .slice none 0 0] 146 (0, 0)) := by rw [row_off (by omega)]; exact r7
                  have F8 : Fr (fun k => k = R) w (w7.setCell ⟨w.heap.size + 1, 5, none⟩ (.slice ap st st)) := F7.trans (Fr.set' (T := fun k => k = w.heap.size + 1) rfl) (fun k hk e => by omega)
                  have SK := six_of rK8
                  obtain ⟨m0, m1, m2, m3, m4, m5, _⟩ := SK
                  have SX := six_of r8
                  obtain ⟨k0, k1, k2, k3, k4, k5, kf⟩ := SX
                  have QX := six_of (set6_row r8 (.int .u32 (b0 : Int)) (.int .i64 (c : Int)) (.int .i64 (z : Int)) (.bool pk) (.int .u32 (y : Int)) (.slice ap st st))
                  unfold set6 at QX
                  obtain ⟨q0, q1, q2, q3, q4, q5, _⟩ := QX
                  have HF : Hid (NxAns w R o C T lb F (Pu.headT F a) (.returned (.tuple #[.agg #[.int .u32 (b0 : Int), .int .i64 (c : Int), .int .i64 (z : Int), .bool pk, .int .u32 (y : Int), .slice ap st st], .bool true])) (set6 (w7.setCell ⟨w.heap.size + 1, 5, none⟩ (.slice ap st st)) w.heap.size (.int .u32 (b0 : Int)) (.int .i64 (c : Int)) (.int .i64 (z : Int)) (.bool pk) (.int .u32 (y : Int)) (.slice ap st st))) := by
                    rw [HX.out]
                    refine ⟨ap, ?_, ?_, set6_fr F8 (Nat.le_refl _) _ _ _ _ _ _, C7, ?_, B6.trans hS7.same⟩
                    · simp only [hpl]; rfl
                    · simp only [hpl]
                      exact hR7.kept (by rw [set6_off (by omega), row_off (by omega)])
                    · exact hS7.st.kept (by rw [set6_off (by omega), row_off (by omega)]) (by rw [set6_off (by omega), row_off (by omega)])
                  clear hc7 r8 rK8 r6 rK6 hw6 I6 hS7 hR7 r7 rK7
                  go_wp2_with fail
                  refine N5.out.mono ?_
                  rintro e w' ⟨rfl, hw'⟩
                  subst w'
                  go_wp2_with fail
                  refine N7.out.mono ?_
                  rintro e w' ⟨rfl, hw'⟩
                  subst w'
                  go_wp2
                  exact bodyPost_ret (v := .tuple #[.agg #[.int .u32 (b0 : Int), .int .i64 (c : Int), .int .i64 (z : Int), .bool pk, .int .u32 (y : Int), .slice ap st st], .bool true]) (by simp [results, Tryz.results64, go_sem, q0, q1, q2, q3, q4, q5]) rfl HF.out
            · have SZ2 : Hid (Calls Tryz.prog 80 #[.pointer (some ⟨w.heap.size + 1, 0, none⟩), .pointer (some ⟨R, o, none⟩)] (w2.alloc (.cells #[.int .u32 (b0 : Int), .int .i64 0, .int .i64 0, .bool pk, .int .u32 0, .slice none 0 0] 146)) fun e w' => e = .returned (.tuple #[.int .i64 (st : Int), .bool false]) ∧ Fr (fun k => k = R ∨ k = w.heap.size + 1) W3 w') := by
                refine SZ.out.mono ?_
                rintro e w' ⟨h1, h2, h3, _⟩
                rw [hokv, decide_eq_false hok] at h1
                exact ⟨h1, h3⟩
              have HX : Hid (Pu.headT F a = none) := by
                rw [Hid, HH.out]
                split
                · rfl
                · rw [if_pos (.inr (.inr hok))]
              clear hokv hok HH SZ
              go_enter Tryz.func64, Tryz.ntmps64
              go_wp2_with fail
              refine N1.out.mono ?_
              rintro e w' ⟨rfl, hw'⟩
              subst w'
              go_wp2_with fail
              refine N2.out.mono ?_
              rintro e w' ⟨rfl, hw'⟩
              subst w'
              go_wp2_with fail
              rw [Hs2.out]
              refine SZ2.out.mono ?_
              rintro e w4 ⟨rfl, hfr4⟩
              have r4 : w4.heap[w.heap.size]? = some (.cells #[.int .u32 0, .int .i64 0, .int .i64 0, .bool false, .int .u32 0, .slice none 0 0] 146 (0, 0)) := by rw [hfr4.block _ (by omega) (by omega)]; exact r3
              have F4 : Fr (fun k => k = R) w w4 := F3.trans hfr4 (fun k hk e => by omega)
              clear hfr4 r3 F3
              have SX := six_of r4
              obtain ⟨k0, k1, k2, k3, k4, k5, kf⟩ := SX
              have QX := six_of (set6_row r4 (.int .u32 0) (.int .i64 0) (.int .i64 0) (.bool false) (.int .u32 0) (.slice none 0 0))
              unfold set6 at QX
              obtain ⟨q0, q1, q2, q3, q4, q5, _⟩ := QX
              have HF : Hid (Fr (fun k => k = R) w (set6 w4 w.heap.size (.int .u32 0) (.int .i64 0) (.int .i64 0) (.bool false) (.int .u32 0) (.slice none 0 0))) := set6_fr F4 (Nat.le_refl _) _ _ _ _ _ _
              clear r4
              go_wp2
              exact bodyPost_ret (v := .tuple #[.agg #[.int .u32 0, .int .i64 0, .int .i64 0, .bool false, .int .u32 0, .slice none 0 0], .bool false]) (by simp [results, Tryz.results64, go_sem, q0, q1, q2, q3, q4, q5]) rfl (by rw [HX.out]; exact ⟨⟨0, 0, 0, false, 0, rfl⟩, HF.out⟩)
end Go.Proofs.YtjobhlncllfdmaaGreat
