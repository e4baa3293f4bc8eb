/- Contract of find. -/
import Derived.Test.YtjobhlncllfdmaaGreatM36
import Derived.Lib.SlBytesConst
namespace Go.Proofs.YtjobhlncllfdmaaGreat
open Go.RowKit

/-- what find tells: nothing, or where the footer begins, how long it is, which sum is said -/
def Pu.find (D : List UInt8) : Option (Nat × Nat × Nat) :=
  if D.length < 16 ∨ D.take 4 ≠ stra ∨ D.drop (D.length - 4) ≠ stra then none else
  if D.length - 16 < Pu.le (Pu.piece D (D.length - 12) 4) then none else
  some (D.length - 12 - Pu.le (Pu.piece D (D.length - 12) 4), Pu.le (Pu.piece D (D.length - 12) 4), Pu.le (Pu.piece D (D.length - 8) 4))

theorem look_find (D : List UInt8) : Pu.look D = match Pu.find D with
    | none => .bad 6
    | some (E, z, y) => if Pu.sum (Pu.piece D E z) ≠ y then .bad 7 else match Pu.foot (Pu.piece D E z) E with
      | none => .bad 8
      | some (cs, gs) => .good E cs gs := by
  unfold Pu.look Pu.find
  by_cases h1 : D.length < 16 ∨ D.take 4 ≠ stra ∨ D.drop (D.length - 4) ≠ stra
  · rw [if_pos h1, if_pos h1]
  · rw [if_neg h1, if_neg h1]
    by_cases h2 : D.length - 16 < Pu.le (Pu.piece D (D.length - 12) 4)
    · rw [if_pos h2, if_pos h2]
    · rw [if_neg h2, if_neg h2]
      rfl

def FindAns (lb : Nat) (D : List UInt8) (r : Option (Nat × Nat × Nat)) (e : Ending) (w' : World) : Prop :=
  match r with
  | none => e = .returned (.tuple #[.agg #[.slice none 0 0, .int .i64 0, .int .u32 0], .bool false])
  | some (E, z, y) => ∃ ap, e = .returned (.tuple #[.agg #[.slice ap z z, .int .i64 (E : Int), .int .u32 (y : Int)], .bool true]) ∧ Rest w' lb ap z (Pu.piece D E z)

theorem row_of_rest {w : World} {lb : Nat} {ao : Option Addr} {cap : Nat} {D : List UInt8} (h : Rest w lb ao cap D) (h0 : 0 < D.length) : ∃ o, ao = some ⟨lb, o, none⟩ ∧ Row w lb o D := by
  rcases h.2.2 with rfl | ⟨o, rfl, hc⟩
  · simp at h0
  · exact ⟨o, rfl, hc⟩
theorem Row.kept {w w' : World} {b o : Nat} {L : List UInt8} (h : Row w b o L) (hw : w'.heap[b]? = w.heap[b]?) : Row w' b o L := fun j hj => by
  rw [World.cell?_of_block (w := w) hw]; exact h j hj

theorem set3_row {w : World} {b : Nat} {x y z : Value} {t : TypeId} (h : w.heap[b]? = some (.cells #[x, y, z] t (0, 0))) (x' y' z' : Value) : (((w.setCell ⟨b, 0, none⟩ x').setCell ⟨b, 1, none⟩ y').setCell ⟨b, 2, none⟩ z').heap[b]? = some (.cells #[x', y', z'] t (0, 0)) := by
  have h1 := heap_setCell_same w b 0 _ _ x' h
  have h2 := heap_setCell_same _ b 1 _ _ y' h1
  have h3 := heap_setCell_same _ b 2 _ _ z' h2
  rw [h3]; rfl

theorem mark_row {w : World} : Row (w.alloc (.cells #[.int .u8 83, .int .u8 84, .int .u8 82, .int .u8 65] 5 (4, 5))) w.heap.size 0 stra := by
  intro j hj
  rw [cell_of_row _ _ _ _ _ _ (heap_alloc_new w _), Nat.zero_add]
  match j, hj with
  | 0, _ => rfl
  | 1, _ => rfl
  | 2, _ => rfl
  | 3, _ => rfl

set_option maxHeartbeats 4000000 in
set_option maxRecDepth 100000 in
theorem find_any (lb : Nat) (ao : Option Addr) (cap : Nat) (D : List UInt8) (w : World) (h : Rest w lb ao cap D) (hlb : lb < w.heap.size) :
    Calls Tryz.prog 45 #[.slice ao D.length cap] w fun e w' => FindAns lb D (Pu.find D) e w' ∧ Below w.heap.size w w' := by
  have hDc : D.length ≤ cap := h.1
  have hcm : cap ≤ 9223372036854775807 := by have := h.2.1; unfold maxLen at this; omega
  by_cases h16 : D.length < 16
  · have HX : Hid (Pu.find D = none) := by unfold Hid Pu.find; rw [if_pos (.inl h16)]
    clear h
    go_enter Tryz.func45, Tryz.ntmps45
    go_wp2
    exact bodyPost_ret (v := .tuple #[.agg #[.slice none 0 0, .int .i64 0, .int .u32 0], .bool false]) (by simp [results, Tryz.results45, go_sem]) rfl ⟨by rw [HX.out]; rfl, (Below.refl _ _).alloc (Nat.le_refl _) _⟩
  · obtain ⟨o, rfl, hrow⟩ := row_of_rest h (by omega)
    have Hrow : Hid (Row w lb o D) := hrow
    have HP : Hid (∀ (W : World) (p : Nat), Row W lb o D → Row W p 0 stra → Calls Tryz.prog 57 #[.slice (some ⟨lb, o, none⟩) D.length cap, .slice (some ⟨p, 0, none⟩) 4 4] W fun e w' => e = .returned (.bool (D.take 4 == stra)) ∧ w' = W) := fun W p h1 h2 => hasPrefix4 lb o D.length cap p 4 D stra W rfl rfl (by omega) hDc h.2.1 h1 h2
    have HS : Hid (∀ (W : World) (p : Nat), Row W lb o D → Row W p 0 stra → Calls Tryz.prog 58 #[.slice (some ⟨lb, o, none⟩) D.length cap, .slice (some ⟨p, 0, none⟩) 4 4] W fun e w' => e = .returned (.bool (D.drop (D.length - 4) == stra)) ∧ w' = W) := fun W p h1 h2 => hasSuffix4 lb o D.length cap p 4 D stra W rfl rfl (by omega) hDc h.2.1 h1 h2
    have HL : Hid (lb < w.heap.size) := hlb
    have M1 : Hid (∀ o : Obj, Row ((w.alloc o).alloc (.cells #[.int .u8 83, .int .u8 84, .int .u8 82, .int .u8 65] 5 (4, 5))) (w.heap.size + 1) 0 stra) := fun o => by have := mark_row (w := w.alloc o); rw [size_alloc'] at this; exact this
    have M2 : Hid (∀ o o2 : Obj, Row (((w.alloc o).alloc o2).alloc (.cells #[.int .u8 83, .int .u8 84, .int .u8 82, .int .u8 65] 5 (4, 5))) (w.heap.size + 2) 0 stra) := fun o o2 => by have := mark_row (w := (w.alloc o).alloc o2); rw [size_alloc', size_alloc'] at this; exact this
    have cvA : (convert 25 25 (.slice (some ⟨w.heap.size + 1, 0, none⟩) 4 4)).run Tryz.prog ((w.alloc (.cells #[.slice none 0 0, .int .i64 0, .int .u32 0] 120)).alloc (.cells #[.int .u8 83, .int .u8 84, .int .u8 82, .int .u8 65] 5)) = .ok (.slice (some ⟨w.heap.size + 1, 0, none⟩) 4 4) ((w.alloc (.cells #[.slice none 0 0, .int .i64 0, .int .u32 0] 120)).alloc (.cells #[.int .u8 83, .int .u8 84, .int .u8 82, .int .u8 65] 5 (4, 5))) := by
      have := Lib.run_convert_bytes_const (P := Tryz.prog) (w.alloc (.cells #[.slice none 0 0, .int .i64 0, .int .u32 0] 120)) 25 5 #[.int .u8 83, .int .u8 84, .int .u8 82, .int .u8 65] 4 4 Tryz.underlying25 Tryz.underlying5
      rw [size_alloc'] at this
      exact this
    have cvB : (convert 25 25 (.slice (some ⟨w.heap.size + 2, 0, none⟩) 4 4)).run Tryz.prog (((w.alloc (.cells #[.slice none 0 0, .int .i64 0, .int .u32 0] 120)).alloc (.cells #[.int .u8 83, .int .u8 84, .int .u8 82, .int .u8 65] 5 (4, 5))).alloc (.cells #[.int .u8 83, .int .u8 84, .int .u8 82, .int .u8 65] 5)) = .ok (.slice (some ⟨w.heap.size + 2, 0, none⟩) 4 4) (((w.alloc (.cells #[.slice none 0 0, .int .i64 0, .int .u32 0] 120)).alloc (.cells #[.int .u8 83, .int .u8 84, .int .u8 82, .int .u8 65] 5 (4, 5))).alloc (.cells #[.int .u8 83, .int .u8 84, .int .u8 82, .int .u8 65] 5 (4, 5))) := by
      have := Lib.run_convert_bytes_const (P := Tryz.prog) ((w.alloc (.cells #[.slice none 0 0, .int .i64 0, .int .u32 0] 120)).alloc (.cells #[.int .u8 83, .int .u8 84, .int .u8 82, .int .u8 65] 5 (4, 5))) 25 5 #[.int .u8 83, .int .u8 84, .int .u8 82, .int .u8 65] 4 4 Tryz.underlying25 Tryz.underlying5
      rw [size_alloc', size_alloc'] at this
      exact this
    have R1 : Hid (∀ o1 o2 : Obj, Row ((w.alloc o1).alloc o2) lb o D) := fun o1 o2 => (hrow.kept (Below.heap_alloc _ _ _ hlb)).kept (Below.heap_alloc _ _ _ (by rw [size_alloc']; omega))
    have R2 : Hid (∀ o1 o2 o3 : Obj, Row (((w.alloc o1).alloc o2).alloc o3) lb o D) := fun o1 o2 o3 => (R1.out o1 o2).kept (Below.heap_alloc _ _ _ (by rw [size_alloc', size_alloc']; omega))
    by_cases hA : D.take 4 = stra
    · have hAd : (D.take 4 == stra) = true := by rw [beq_iff_eq]; exact hA
      rw [hAd] at HP
      by_cases hB : D.drop (D.length - 4) = stra
      · have hBd : (D.drop (D.length - 4) == stra) = true := by rw [beq_iff_eq]; exact hB
        rw [hBd] at HS
        obtain ⟨z, hz⟩ : ∃ z, z = Pu.le (Pu.piece D (D.length - 12) 4) := ⟨_, rfl⟩
        obtain ⟨y, hy⟩ : ∃ y, y = Pu.le (Pu.piece D (D.length - 8) 4) := ⟨_, rfl⟩
        have hzl : z < 4294967296 := by rw [hz]; have := Pu.le_lt (Pu.piece D (D.length - 12) 4); rw [Pu.length_piece _ _ _ (by omega)] at this; exact this
        have hyl : y < 4294967296 := by rw [hy]; have := Pu.le_lt (Pu.piece D (D.length - 8) 4); rw [Pu.length_piece _ _ _ (by omega)] at this; exact this
        have HX0 : Hid (Pu.find D = if D.length - 16 < z then none else some (D.length - 12 - z, z, y)) := by unfold Hid Pu.find; rw [if_neg (by rintro (h | h | h); exact h16 h; exact h hA; exact h hB), ← hz, ← hy]
        have hi12 : ((D.length : Int) - 12) = ((D.length - 12 : Nat) : Int) := by omega
        have C12 : Hid (((D.length : Int) - 12) = ((D.length - 12 : Nat) : Int)) := hi12
        have PO : Hid (∀ W : World, Calls Tryz.prog 49 #[.slice (some ⟨lb, o, none⟩) D.length cap, .int .i64 ((D.length - 12 : Nat) : Int), .int .i64 (D.length : Int)] W fun e w' => e = .returned (.slice (pieceA (some ⟨lb, o, none⟩) (D.length - 12) D.length) 12 12) ∧ w' = W) := fun W => by
          have := pieceOf_any (some ⟨lb, o, none⟩) D.length cap (D.length - 12) D.length W (by omega) (by omega) hDc h.2.1
          rw [show D.length - (D.length - 12) = 12 by omega] at this
          exact this
        have hpc := h.piece (D.length - 12) D.length (by omega) (by omega)
        rw [show D.length - (D.length - 12) = 12 by omega] at hpc
        have hpl : (Pu.piece D (D.length - 12) 12).length = 12 := Pu.length_piece _ _ _ (by omega)
        have e1 : Pu.le ((Pu.piece D (D.length - 12) 12).take 4) = z := by rw [hz]; unfold Pu.piece; rw [List.take_take]; rfl
        have e2 : Pu.le (((Pu.piece D (D.length - 12) 12).drop 4).take 4) = y := by
          rw [hy]; unfold Pu.piece
          rw [List.drop_take, List.take_take, List.drop_drop, show D.length - 12 + 4 = D.length - 8 by omega]; rfl
        obtain ⟨ap, hap⟩ : ∃ ap, ap = pieceA (some ⟨lb, o, none⟩) (D.length - 12) D.length := ⟨_, rfl⟩
        rw [← hap] at PO hpc
        have N1 : Hid (∀ (W : World) (X : Nat), W.heap[lb]? = w.heap[lb]? → X ≠ lb → W.heap[X]? = some (.cells #[.slice ap 12 12] 88 (0, 0)) → Calls Tryz.prog 59 #[.pointer (some ⟨X, 0, none⟩), .int .i64 4] W fun e w' => e = .returned (.tuple #[.int .u32 (z : Int), .bool true]) ∧ w' = W.setCell ⟨X, 0, none⟩ (.slice (cutA ap 12 4) 8 8)) := fun W X hWl hXl hX => by
          have := number_yes X 0 4 lb ap 12 (Pu.piece D (D.length - 12) 12) W (hpc.kept hWl) (by rw [cell_of_row W X 0 _ _ _ hX, hpl]; rfl) (frozen_of_row W X 0 _ _ hX) hXl (by omega) (by omega)
          rw [e1, hpl] at this
          exact this
        have N2 : Hid (∀ (W : World) (X : Nat), W.heap[lb]? = w.heap[lb]? → X ≠ lb → W.heap[X]? = some (.cells #[.slice (cutA ap 12 4) 8 8] 88 (0, 0)) → Calls Tryz.prog 59 #[.pointer (some ⟨X, 0, none⟩), .int .i64 4] W fun e w' => e = .returned (.tuple #[.int .u32 (y : Int), .bool true]) ∧ w' = W.setCell ⟨X, 0, none⟩ (.slice (cutA (cutA ap 12 4) 8 4) 4 4)) := fun W X hWl hXl hX => by
          have hp4 := hpc.drop 4 (by omega)
          have hl4 : ((Pu.piece D (D.length - 12) 12).drop 4).length = 8 := by rw [List.length_drop, hpl]
          have := number_yes X 0 4 lb (cutA ap 12 4) 8 ((Pu.piece D (D.length - 12) 12).drop 4) W (hp4.kept hWl) (by rw [cell_of_row W X 0 _ _ _ hX, hl4]; rfl) (frozen_of_row W X 0 _ _ hX) hXl (by omega) (by omega)
          rw [e2, hl4] at this
          exact this
        have Hh : Hid (Rest w lb (some ⟨lb, o, none⟩) cap D) := h
        clear hap hpc hpl e1 e2 hi12 hz hy hAd hBd hA hB h
        by_cases hbig : D.length - 16 < z
        · have HX : Hid (Pu.find D = none) := by rw [Hid, HX0.out, if_pos hbig]
          go_enter Tryz.func45, Tryz.ntmps45
          go_wp2_with fail
          refine (HP.out _ _ (R1.out _ _) (M1.out _)).mono ?_
          rintro e w' ⟨rfl, hw'⟩
          subst w'
          go_wp2_with fail
          refine (HS.out _ _ (R2.out _ _ _) (M2.out _ _)).mono ?_
          rintro e W2 ⟨rfl, hw2⟩
          have hs2 : Hid (W2.heap.size = w.heap.size + 3) := by rw [Hid, hw2, size_alloc', size_alloc', size_alloc']
          have B2 : Below w.heap.size w W2 := by rw [hw2]; exact (((Below.refl _ _).alloc (Nat.le_refl _) _).alloc (by rw [size_alloc']; omega) _).alloc (by rw [size_alloc', size_alloc']; omega) _
          have F2 : W2.heap[w.heap.size]? = some (.cells #[.slice none 0 0, .int .i64 0, .int .u32 0] 120 (0, 0)) := by
            rw [hw2, Below.heap_alloc _ _ _ (by rw [size_alloc', size_alloc']; omega), Below.heap_alloc _ _ _ (by rw [size_alloc']; omega)]
            exact heap_alloc_new w _
          clear hw2 R1 R2 M1 M2 HP HS cvA cvB
          go_wp2_with fail
          rw [C12.out]
          refine (PO.out _).mono ?_
          rintro e w' ⟨rfl, hw'⟩
          subst w'
          go_wp2_with fail
          refine (new_any ap 12 12 W2).mono ?_
          rintro e W3 ⟨rfl, hw3⟩
          have hs3 : Hid (W3.heap.size = w.heap.size + 4) := by rw [Hid, hw3, size_alloc', hs2.out]
          have B3 : Below w.heap.size w W3 := by rw [hw3]; exact B2.alloc (by have := hs2.out; omega) _
          have F3 : W3.heap[w.heap.size]? = some (.cells #[.slice none 0 0, .int .i64 0, .int .u32 0] 120 (0, 0)) := by rw [hw3, Below.heap_alloc _ _ _ (by have := hs2.out; omega)]; exact F2
          clear hw3 B2 F2 hs2
          have NN1 : Hid (Calls Tryz.prog 59 #[.pointer (some ⟨W3.heap.size, 0, none⟩), .int .i64 4] (W3.alloc (.cells #[.slice ap 12 12] 88)) fun e w' => e = .returned (.tuple #[.int .u32 (z : Int), .bool true]) ∧ w' = (W3.alloc (.cells #[.slice ap 12 12] 88)).setCell ⟨W3.heap.size, 0, none⟩ (.slice (cutA ap 12 4) 8 8)) := N1.out _ _ (by rw [Below.heap_alloc _ _ _ (by have := hs3.out; omega)]; exact B3.block lb hlb) (by have := hs3.out; omega) (heap_alloc_new W3 _)
          go_wp2_with fail
          refine NN1.out.mono ?_
          rintro e W4 ⟨rfl, hw4⟩
          have X4 : W4.heap[W3.heap.size]? = some (.cells #[.slice (cutA ap 12 4) 8 8] 88 (0, 0)) := by rw [hw4, heap_setCell_same _ _ 0 _ _ _ (heap_alloc_new W3 _)]; rfl
          have B4 : Below w.heap.size w W4 := by rw [hw4]; exact (B3.alloc (by have := hs3.out; omega) _).setCell (show w.heap.size ≤ W3.heap.size by have := hs3.out; omega) _
          have F4 : W4.heap[w.heap.size]? = some (.cells #[.slice none 0 0, .int .i64 0, .int .u32 0] 120 (0, 0)) := by rw [hw4, heap_setCell_other _ _ _ _ (show w.heap.size ≠ W3.heap.size by have := hs3.out; omega), Below.heap_alloc _ _ _ (by have := hs3.out; omega)]; exact F3
          have NN2 : Hid (Calls Tryz.prog 59 #[.pointer (some ⟨W3.heap.size, 0, none⟩), .int .i64 4] W4 fun e w' => e = .returned (.tuple #[.int .u32 (y : Int), .bool true]) ∧ w' = W4.setCell ⟨W3.heap.size, 0, none⟩ (.slice (cutA (cutA ap 12 4) 8 4) 4 4)) := N2.out _ _ (B4.block lb hlb) (by have := hs3.out; omega) X4
          clear hw4 NN1
          go_wp2_with fail
          refine NN2.out.mono ?_
          rintro e W5 ⟨rfl, hw5⟩
          have B5 : Below w.heap.size w W5 := by rw [hw5]; exact B4.setCell (show w.heap.size ≤ W3.heap.size by have := hs3.out; omega) _
          have F5 : W5.heap[w.heap.size]? = some (.cells #[.slice none 0 0, .int .i64 0, .int .u32 0] 120 (0, 0)) := by rw [hw5, heap_setCell_other _ _ _ _ (show w.heap.size ≠ W3.heap.size by have := hs3.out; omega)]; exact F4
          have k0 : W5.cell? ⟨w.heap.size, 0, none⟩ = some (.slice none 0 0) := by rw [cell_of_row _ _ 0 _ _ _ F5]; rfl
          have k1 : W5.cell? ⟨w.heap.size, 1, none⟩ = some (.int .i64 0) := by rw [cell_of_row _ _ 1 _ _ _ F5]; rfl
          have k2 : W5.cell? ⟨w.heap.size, 2, none⟩ = some (.int .u32 0) := by rw [cell_of_row _ _ 2 _ _ _ F5]; rfl
          have g0 := frozen_of_row _ _ 0 _ _ F5
          have g1 := frozen_of_row _ _ 1 _ _ F5
          have g2 := frozen_of_row _ _ 2 _ _ F5
          clear hw5 NN2 X4 B4 F4 B3 F3 hs3 N1 N2
          have FF := set3_row F5 (.slice none 0 0) (.int .i64 0) (.int .u32 0)
          have q0 := cell_of_row _ _ 0 _ _ _ FF
          have q1 := cell_of_row _ _ 1 _ _ _ FF
          have q2 := cell_of_row _ _ 2 _ _ _ FF
          simp only [List.getElem?_toArray, List.getElem?_cons_zero, List.getElem?_cons_succ] at q0 q1 q2
          go_wp2
          exact bodyPost_ret (v := .tuple #[.agg #[.slice none 0 0, .int .i64 0, .int .u32 0], .bool false]) (by simp [results, Tryz.results45, go_sem, q0, q1, q2]) rfl ⟨by rw [HX.out]; rfl, ((B5.setCell (Nat.le_refl _) _).setCell (Nat.le_refl _) _).setCell (Nat.le_refl _) _⟩
        · obtain ⟨E, hE⟩ : ∃ E, E = D.length - 12 - z := ⟨_, rfl⟩
          have HX : Hid (Pu.find D = some (E, z, y)) := by rw [Hid, HX0.out, if_neg hbig, hE]
          have hE1 : ((D.length - 12 : Nat) : Int) - (z : Int) = (E : Int) := by omega
          have hE2 : 4 ≤ E := by omega
          have hE3 : E + z = D.length - 12 := by omega
          have PO2 : Hid (∀ W : World, Calls Tryz.prog 49 #[.slice (some ⟨lb, o, none⟩) D.length cap, .int .i64 (E : Int), .int .i64 ((D.length - 12 : Nat) : Int)] W fun e w' => e = .returned (.slice (pieceA (some ⟨lb, o, none⟩) E (D.length - 12)) z z) ∧ w' = W) := fun W => by
            have := pieceOf_any (some ⟨lb, o, none⟩) D.length cap E (D.length - 12) W (by omega) (by omega) hDc Hh.out.2.1
            rw [show D.length - 12 - E = z by omega] at this
            exact this
          have hpz := Hh.out.piece E (D.length - 12) (by omega) (by omega)
          rw [show D.length - 12 - E = z by omega] at hpz
          obtain ⟨az, haz⟩ : ∃ az, az = pieceA (some ⟨lb, o, none⟩) E (D.length - 12) := ⟨_, rfl⟩
          rw [← haz] at PO2 hpz
          have Hpz : Hid (Rest w lb az z (Pu.piece D E z)) := hpz
          clear haz hE hpz
          go_enter Tryz.func45, Tryz.ntmps45
          go_wp2_with fail
          refine (HP.out _ _ (R1.out _ _) (M1.out _)).mono ?_
          rintro e w' ⟨rfl, hw'⟩
          subst w'
          go_wp2_with fail
          refine (HS.out _ _ (R2.out _ _ _) (M2.out _ _)).mono ?_
          rintro e W2 ⟨rfl, hw2⟩
          have hs2 : Hid (W2.heap.size = w.heap.size + 3) := by rw [Hid, hw2, size_alloc', size_alloc', size_alloc']
          have B2 : Below w.heap.size w W2 := by rw [hw2]; exact (((Below.refl _ _).alloc (Nat.le_refl _) _).alloc (by rw [size_alloc']; omega) _).alloc (by rw [size_alloc', size_alloc']; omega) _
          have F2 : W2.heap[w.heap.size]? = some (.cells #[.slice none 0 0, .int .i64 0, .int .u32 0] 120 (0, 0)) := by
            rw [hw2, Below.heap_alloc _ _ _ (by rw [size_alloc', size_alloc']; omega), Below.heap_alloc _ _ _ (by rw [size_alloc']; omega)]
            exact heap_alloc_new w _
          clear hw2 R1 R2 M1 M2 HP HS cvA cvB
          go_wp2_with fail
          rw [C12.out]
          refine (PO.out _).mono ?_
          rintro e w' ⟨rfl, hw'⟩
          subst w'
          go_wp2_with fail
          refine (new_any ap 12 12 W2).mono ?_
          rintro e W3 ⟨rfl, hw3⟩
          have hs3 : Hid (W3.heap.size = w.heap.size + 4) := by rw [Hid, hw3, size_alloc', hs2.out]
          have B3 : Below w.heap.size w W3 := by rw [hw3]; exact B2.alloc (by have := hs2.out; omega) _
          have F3 : W3.heap[w.heap.size]? = some (.cells #[.slice none 0 0, .int .i64 0, .int .u32 0] 120 (0, 0)) := by rw [hw3, Below.heap_alloc _ _ _ (by have := hs2.out; omega)]; exact F2
          clear hw3 B2 F2 hs2
          have NN1 : Hid (Calls Tryz.prog 59 #[.pointer (some ⟨W3.heap.size, 0, none⟩), .int .i64 4] (W3.alloc (.cells #[.slice ap 12 12] 88)) fun e w' => e = .returned (.tuple #[.int .u32 (z : Int), .bool true]) ∧ w' = (W3.alloc (.cells #[.slice ap 12 12] 88)).setCell ⟨W3.heap.size, 0, none⟩ (.slice (cutA ap 12 4) 8 8)) := N1.out _ _ (by rw [Below.heap_alloc _ _ _ (by have := hs3.out; omega)]; exact B3.block lb hlb) (by have := hs3.out; omega) (heap_alloc_new W3 _)
          go_wp2_with fail
          refine NN1.out.mono ?_
          rintro e W4 ⟨rfl, hw4⟩
          have X4 : W4.heap[W3.heap.size]? = some (.cells #[.slice (cutA ap 12 4) 8 8] 88 (0, 0)) := by rw [hw4, heap_setCell_same _ _ 0 _ _ _ (heap_alloc_new W3 _)]; rfl
          have B4 : Below w.heap.size w W4 := by rw [hw4]; exact (B3.alloc (by have := hs3.out; omega) _).setCell (show w.heap.size ≤ W3.heap.size by have := hs3.out; omega) _
          have F4 : W4.heap[w.heap.size]? = some (.cells #[.slice none 0 0, .int .i64 0, .int .u32 0] 120 (0, 0)) := by rw [hw4, heap_setCell_other _ _ _ _ (show w.heap.size ≠ W3.heap.size by have := hs3.out; omega), Below.heap_alloc _ _ _ (by have := hs3.out; omega)]; exact F3
          have NN2 : Hid (Calls Tryz.prog 59 #[.pointer (some ⟨W3.heap.size, 0, none⟩), .int .i64 4] W4 fun e w' => e = .returned (.tuple #[.int .u32 (y : Int), .bool true]) ∧ w' = W4.setCell ⟨W3.heap.size, 0, none⟩ (.slice (cutA (cutA ap 12 4) 8 4) 4 4)) := N2.out _ _ (B4.block lb hlb) (by have := hs3.out; omega) X4
          clear hw4 NN1
          go_wp2_with fail
          refine NN2.out.mono ?_
          rintro e W5 ⟨rfl, hw5⟩
          have B5 : Below w.heap.size w W5 := by rw [hw5]; exact B4.setCell (show w.heap.size ≤ W3.heap.size by have := hs3.out; omega) _
          have F5 : W5.heap[w.heap.size]? = some (.cells #[.slice none 0 0, .int .i64 0, .int .u32 0] 120 (0, 0)) := by rw [hw5, heap_setCell_other _ _ _ _ (show w.heap.size ≠ W3.heap.size by have := hs3.out; omega)]; exact F4
          have k0 : W5.cell? ⟨w.heap.size, 0, none⟩ = some (.slice none 0 0) := by rw [cell_of_row _ _ 0 _ _ _ F5]; rfl
          have k1 : W5.cell? ⟨w.heap.size, 1, none⟩ = some (.int .i64 0) := by rw [cell_of_row _ _ 1 _ _ _ F5]; rfl
          have k2 : W5.cell? ⟨w.heap.size, 2, none⟩ = some (.int .u32 0) := by rw [cell_of_row _ _ 2 _ _ _ F5]; rfl
          have g0 := frozen_of_row _ _ 0 _ _ F5
          have g1 := frozen_of_row _ _ 1 _ _ F5
          have g2 := frozen_of_row _ _ 2 _ _ F5
          clear hw5 NN2 X4 B4 F4 B3 F3 hs3 N1 N2
          go_wp2_with fail
          refine (PO2.out _).mono ?_
          rintro e w' ⟨rfl, hw'⟩
          subst w'
          have FF := set3_row F5 (.slice az z z) (.int .i64 (E : Int)) (.int .u32 (y : Int))
          have q0 := cell_of_row _ _ 0 _ _ _ FF
          have q1 := cell_of_row _ _ 1 _ _ _ FF
          have q2 := cell_of_row _ _ 2 _ _ _ FF
          simp only [List.getElem?_toArray, List.getElem?_cons_zero, List.getElem?_cons_succ] at q0 q1 q2
          go_wp2
          exact bodyPost_ret (v := .tuple #[.agg #[.slice az z z, .int .i64 (E : Int), .int .u32 (y : Int)], .bool true]) (by simp [results, Tryz.results45, go_sem, q0, q1, q2]) rfl ⟨by rw [HX.out]; exact ⟨az, rfl, Hpz.out.kept (by rw [heap_setCell_other _ _ _ _ (show lb ≠ w.heap.size by omega), heap_setCell_other _ _ _ _ (show lb ≠ w.heap.size by omega), heap_setCell_other _ _ _ _ (show lb ≠ w.heap.size by omega)]; exact B5.block lb hlb)⟩, ((B5.setCell (Nat.le_refl _) _).setCell (Nat.le_refl _) _).setCell (Nat.le_refl _) _⟩
      · have HX : Hid (Pu.find D = none) := by unfold Hid Pu.find; rw [if_pos (.inr (.inr hB))]
        have hBd : (D.drop (D.length - 4) == stra) = false := by rw [beq_eq_false_iff_ne]; exact hB
        rw [hBd] at HS
        clear hB hA hAd hBd h hrow
        go_enter Tryz.func45, Tryz.ntmps45
        go_wp2_with fail
        refine (HP.out _ _ (R1.out _ _) (M1.out _)).mono ?_
        rintro e w' ⟨rfl, hw'⟩
        subst w'
        go_wp2_with fail
        refine (HS.out _ _ (R2.out _ _ _) (M2.out _ _)).mono ?_
        rintro e w' ⟨rfl, hw'⟩
        subst w'
        go_wp2
        exact bodyPost_ret (v := .tuple #[.agg #[.slice none 0 0, .int .i64 0, .int .u32 0], .bool false]) (by simp [results, Tryz.results45, go_sem]) rfl ⟨by rw [HX.out]; rfl, (((Below.refl _ _).alloc (Nat.le_refl _) _).alloc (by rw [size_alloc']; omega) _).alloc (by rw [size_alloc', size_alloc']; omega) _⟩
    · have HX : Hid (Pu.find D = none) := by unfold Hid Pu.find; rw [if_pos (.inr (.inl hA))]
      have hAd : (D.take 4 == stra) = false := by rw [beq_eq_false_iff_ne]; exact hA
      rw [hAd] at HP
      clear hA hAd h hrow
      go_enter Tryz.func45, Tryz.ntmps45
      go_wp2_with fail
      refine (HP.out _ _ (R1.out _ _) (M1.out _)).mono ?_
      rintro e w' ⟨rfl, hw'⟩
      subst w'
      go_wp2
      exact bodyPost_ret (v := .tuple #[.agg #[.slice none 0 0, .int .i64 0, .int .u32 0], .bool false]) (by simp [results, Tryz.results45, go_sem]) rfl ⟨by rw [HX.out]; rfl, ((Below.refl _ _).alloc (Nat.le_refl _) _).alloc (by rw [size_alloc']; omega) _⟩
end Go.Proofs.YtjobhlncllfdmaaGreat
