/- Contract of footer.Read. -/
import Derived.Test.YtjobhlncllfdmaaFtG
import Derived.Test.YtjobhlncllfdmaaFtJ
import Derived.Deep.DeepCutAuto
namespace Go.Proofs.Ytjobhlncllfdmaa
open Go.RowKit

def FootAns (base : Nat) (r : Pu.Seen) (e : Ending) (w' : World) : Prop :=
  match r with
  | .bad k => e = .returned (.tuple #[.agg #[.slice none 0 0, .slice none 0 0, .int .i64 0], .int .i64 (k : Int)])
  | .good E cs gs => ∃ vc vr ws, e = .returned (.tuple #[.agg #[vc, vr, .int .i64 (E : Int)], .int .i64 0]) ∧ w'.ownsRow base 45 3 vc cs.length (colsV cs) ∧ w'.ownsRow base 105 2 vr ws.length (grsV ws) ∧ GL w' base ws gs

theorem set3_other {w : World} {b k : Nat} (h : k ≠ b) (x y z : Value) : (((w.setCell ⟨b, 0, none⟩ x).setCell ⟨b, 1, none⟩ y).setCell ⟨b, 2, none⟩ z).heap[k]? = w.heap[k]? := by
  rw [heap_setCell_other _ _ k _ h, heap_setCell_other _ _ k _ h, heap_setCell_other _ _ k _ h]

theorem row_alloc {w : World} {b : Nat} {x : Obj} (h : w.heap[b]? = some x) (o : Obj) : (w.alloc o).heap[b]? = some x := by
  rw [Below.heap_alloc _ _ _ (Array.getElem?_eq_some_iff.1 h).1]; exact h

theorem find_bounds {D : List UInt8} {E z y : Nat} (h : Pu.find D = some (E, z, y)) : E ≤ D.length ∧ E + z ≤ D.length ∧ y < 4294967296 := by
  unfold Pu.find at h
  split at h
  · cases h
  · rename_i h0
    split at h
    · cases h
    · simp only [Option.some.injEq, Prod.mk.injEq] at h
      obtain ⟨rfl, rfl, rfl⟩ := h
      have := Pu.le_lt (Pu.piece D (D.length - 8) 4)
      rw [Pu.length_piece _ _ _ (by omega)] at this
      exact ⟨by omega, by omega, this⟩

theorem foot_good {w w2 : World} {E : Nat} {cs : List Pu.Col} {ws : List (Nat × Value)} {gs : List (Nat × List (Nat × Nat))} {av ar : Option Addr} {cv cr : Nat} (hc : w2.ownsRow (w.heap.size + 1) 45 3 (.slice av cs.length cv) cs.length (colsV cs)) (hr : w2.ownsRow (w.heap.size + 1) 105 2 (.slice ar ws.length cr) ws.length (grsV ws)) (hL : GL w2 (w.heap.size + 1) ws gs) {x y z : Value} :
    FootAns w.heap.size (.good E cs gs) (.returned (.tuple #[.agg #[.slice av cs.length cv, .slice ar ws.length cr, .int .i64 (E : Int)], .int .i64 0])) (((w2.setCell ⟨w.heap.size, 0, none⟩ x).setCell ⟨w.heap.size, 1, none⟩ y).setCell ⟨w.heap.size, 2, none⟩ z) := by
  refine ⟨_, _, _, rfl, (own_agreeS hc (fun k hk => set3_other (by have := (hc.lt k hk).1; omega) _ _ _)).mono (by omega), (own_agreeS hr (fun k hk => set3_other (by have := (hr.lt k hk).1; omega) _ _ _)).mono (by omega), ?_⟩
  refine ⟨hL.1, fun i p g h1 h2 => ⟨(hL.2 i p g h1 h2).1, ?_⟩⟩
  have h := (hL.2 i p g h1 h2).2
  exact (own_agreeS h (fun k hk => set3_other (by have := (h.lt k hk).1; omega) _ _ _)).mono (by omega)

/-- what whole leaves, as Read wants it -/
def WhRes (w : World) (R : Nat) (D : List UInt8) (e : Ending) (w2 : World) : Prop :=
  (e = .returned (.bool false) ∧ Hid (Pu.look D = .bad 8) ∧ w2.heap[w.heap.size]? = some (.cells #[.slice none 0 0, .slice none 0 0, .int .i64 0] 100 (0, 0)) ∧ Below w.heap.size w w2) ∨
  (∃ (E : Nat) (cs : List Pu.Col) (gs : List (Nat × List (Nat × Nat))) (ws : List (Nat × Value)) (av : Option Addr) (cv : Nat) (ar : Option Addr) (cr : Nat), e = .returned (.bool true) ∧ w2.cell? ⟨R, 1, none⟩ = some (.slice av cs.length cv) ∧ w2.cell? ⟨R, 2, none⟩ = some (.slice ar ws.length cr) ∧ w2.cell? ⟨R, 3, none⟩ = some (.int .i64 (E : Int)) ∧ Hid (Pu.look D = .good E cs gs) ∧ Hid (w2.ownsRow (w.heap.size + 1) 45 3 (.slice av cs.length cv) cs.length (colsV cs)) ∧
    Hid (w2.ownsRow (w.heap.size + 1) 105 2 (.slice ar ws.length cr) ws.length (grsV ws)) ∧ Hid (GL w2 (w.heap.size + 1) ws gs) ∧ w2.heap[w.heap.size]? = some (.cells #[.slice none 0 0, .slice none 0 0, .int .i64 0] 100 (0, 0)) ∧ Below w.heap.size w w2)

theorem wholeR {w w1 W : World} {R lb E z : Nat} {ap : Option Addr} {L D : List UInt8} (hpl : L.length = z) (hR : W.heap[R]? = some (.cells #[.slice ap z z, .slice none 0 0, .slice none 0 0, .int .i64 (E : Int)] 135 (0, 0))) (hr : Rest W lb ap z L) (hE : E ≤ 140737488355328) (hlt : w.heap.size < w1.heap.size) (hlb : lb < w.heap.size) (hRl : w1.heap.size ≤ R)
    (r1 : W.heap[w.heap.size]? = some (.cells #[.slice none 0 0, .slice none 0 0, .int .i64 0] 100 (0, 0))) (B1 : Below w.heap.size w W) (hL : Pu.look D = match Pu.foot L E with | none => .bad 8 | some (cs, gs) => .good E cs gs) :
    Calls Try.prog 67 #[.pointer (some ⟨R, 0, none⟩)] W fun e w2 => WhRes w R D e w2 := by
  have hS : FSt W R lb w1.heap.size L E 0 [] [] (.slice none 0 0) := ⟨ap, z, .slice none 0 0, by rw [Nat.sub_zero, hpl]; exact hR, by omega, by rw [List.drop_zero]; exact hr, World.ownsRow_nil _ _ _ _, World.ownsRow_nil _ _ _ _, by omega, hRl⟩
  refine (fwhole R lb w1.heap.size L E W hS hE).mono ?_
  rintro e w2 ⟨hans, hb⟩
  have r2 : w2.heap[w.heap.size]? = some (.cells #[.slice none 0 0, .slice none 0 0, .int .i64 0] 100 (0, 0)) := by rw [hb.block _ hlt]; exact r1
  have B2 : Below w.heap.size w w2 := B1.trans (hb.mono (by omega))
  cases hf : Pu.foot L E with
  | none =>
    rw [hf] at hans hL
    exact .inl ⟨hans, hL, r2, B2⟩
  | some p =>
    obtain ⟨cs, gs⟩ := p
    rw [hf] at hans hL
    obtain ⟨he, ws, vr, ⟨ao, cap, vc, g1, g2, g3, g4, g5, g6, g7⟩, g8⟩ := hans
    obtain ⟨av, cv, rfl⟩ := slen_of g4
    obtain ⟨ar, cr, rfl⟩ := slen_of g5
    exact .inr ⟨E, cs, gs, ws, av, cv, ar, cr, he, g1.c1, g1.c2, g1.c3, hL, g4.mono (by omega), g5.mono (by omega), g8.mono (by omega), r2, B2⟩

set_option maxHeartbeats 8000000 in
set_option maxRecDepth 100000 in
theorem read_any (lb : Nat) (ao : Option Addr) (cap : Nat) (D : List UInt8) (w : World) (h : Rest w lb ao cap D) (hlb : lb < w.heap.size) (hD : D.length ≤ 140737488355328) :
    Calls Try.prog 48 #[.slice ao D.length cap] w fun e w' => FootAns w.heap.size (Pu.look D) e w' ∧ Below w.heap.size w w' := by
  have HL : Hid (Pu.look D = match Pu.find D with
    | none => .bad 6
    | some (E, z, y) => if Pu.sum (Pu.piece D E z) ≠ y then .bad 7 else match Pu.foot (Pu.piece D E z) E with
      | none => .bad 8
      | some (cs, gs) => .good E cs gs) := look_find D
  have FI : Hid (Calls Try.prog 65 #[.slice ao D.length cap] (w.alloc (.cells #[.slice none 0 0, .slice none 0 0, .int .i64 0] 100)) fun e w' => FindAns lb D (Pu.find D) e w' ∧ Below (w.heap.size + 1) (w.alloc (.cells #[.slice none 0 0, .slice none 0 0, .int .i64 0] 100)) w') := by
    have := find_any lb ao cap D (w.alloc (.cells #[.slice none 0 0, .slice none 0 0, .int .i64 0] 100)) (h.kept (Below.heap_alloc _ _ _ hlb)) (by rw [size_alloc']; omega)
    rw [size_alloc'] at this
    exact this
  have F0 : Hid (∀ W : World, Below (w.heap.size + 1) (w.alloc (.cells #[.slice none 0 0, .slice none 0 0, .int .i64 0] 100)) W → W.heap[w.heap.size]? = some (.cells #[.slice none 0 0, .slice none 0 0, .int .i64 0] 100 (0, 0)) ∧ Below w.heap.size w W) := fun W hW => by
    refine ⟨?_, ((Below.refl _ _).alloc (Nat.le_refl _) _).trans (hW.mono (by omega))⟩
    rw [hW.block _ (by omega)]; exact heap_alloc_new w _
  clear h
  cases hf : Pu.find D with
  | none =>
    have HX : Hid (Pu.look D = .bad 6) := by rw [Hid, HL.out, hf]
    rw [hf] at FI
    clear hf HL
    go_enter Try.func48, Try.ntmps48
    go_wp2_with fail
    refine FI.out.mono ?_
    rintro e w1 ⟨rfl, hb1⟩
    obtain ⟨r1, B1⟩ := F0.out w1 hb1
    have k0 : w1.cell? ⟨w.heap.size, 0, none⟩ = some (.slice none 0 0) := by rw [cell_of_row _ _ 0 _ _ _ r1]; rfl
    have k1 : w1.cell? ⟨w.heap.size, 1, none⟩ = some (.slice none 0 0) := by rw [cell_of_row _ _ 1 _ _ _ r1]; rfl
    have k2 : w1.cell? ⟨w.heap.size, 2, none⟩ = some (.int .i64 0) := by rw [cell_of_row _ _ 2 _ _ _ r1]; rfl
    have g0 := frozen_of_row _ _ 0 _ _ r1
    have g1 := frozen_of_row _ _ 1 _ _ r1
    have g2 := frozen_of_row _ _ 2 _ _ r1
    have hlt : w.heap.size < w1.heap.size := (Array.getElem?_eq_some_iff.1 r1).1
    clear hb1 F0 FI
    have FF := row_alloc (set3_row r1 (.slice none 0 0) (.slice none 0 0) (.int .i64 0)) (.cells #[.slice none 0 0, .int .i64 0, .int .u32 0] 130)
    have q0 := cell_of_row _ _ 0 _ _ _ FF
    have q1 := cell_of_row _ _ 1 _ _ _ FF
    have q2 := cell_of_row _ _ 2 _ _ _ FF
    simp only [List.getElem?_toArray, List.getElem?_cons_zero, List.getElem?_cons_succ] at q0 q1 q2
    clear FF
    go_wp2
    exact bodyPost_ret (v := .tuple #[.agg #[.slice none 0 0, .slice none 0 0, .int .i64 0], .int .i64 6]) (by simp [results, Try.results48, go_sem, q0, q1, q2]) rfl ⟨by rw [HX.out]; rfl, (((B1.setCell (Nat.le_refl _) _).setCell (Nat.le_refl _) _).setCell (Nat.le_refl _) _).alloc (by rw [size_set, size_set, size_set]; omega) _⟩
  | some p =>
    obtain ⟨E, z, y⟩ := p
    obtain ⟨hE1, hE2, hyl⟩ := find_bounds hf
    have HL2 : Hid (Pu.look D = if Pu.sum (Pu.piece D E z) ≠ y then .bad 7 else match Pu.foot (Pu.piece D E z) E with
      | none => .bad 8
      | some (cs, gs) => .good E cs gs) := by rw [Hid, HL.out, hf]
    rw [hf] at FI
    have hpl : (Pu.piece D E z).length = z := Pu.length_piece _ _ _ hE2
    clear hf HL
    obtain ⟨L, hL⟩ : ∃ L, L = Pu.piece D E z := ⟨_, rfl⟩
    rw [← hL] at HL2 hpl
    obtain ⟨q, hq⟩ : ∃ q, q = Pu.sum L := ⟨_, rfl⟩
    have hql : q < 4294967296 := by rw [hq]; exact Pu.sum_lt _
    go_enter Try.func48, Try.ntmps48
    go_wp2_with fail
    refine FI.out.mono ?_
    rintro e w1 ⟨⟨ap, rfl, hap⟩, hb1⟩
    rw [← hL] at hap
    obtain ⟨r1, B1⟩ := F0.out w1 hb1
    have hlt : w.heap.size < w1.heap.size := (Array.getElem?_eq_some_iff.1 r1).1
    have OF : Hid (∀ (o : Obj) (n : Nat), Calls Try.prog 66 #[.slice ap z z] ((w1.alloc o).drewN n) fun e w' => e = .returned (.int .u32 (q : Int)) ∧ w' = (w1.alloc o).drewN n) := fun o n => by
      have := of_any lb ap z L ((w1.alloc o).drewN n) (hap.kept (Below.heap_alloc _ _ _ (by omega)))
      rw [hpl, ← hq] at this
      exact this
    have Hap : Hid (Rest w1 lb ap z L) := hap
    have HL3 : Hid (Pu.look D = if q ≠ y then .bad 7 else match Pu.foot L E with
      | none => .bad 8
      | some (cs, gs) => .good E cs gs) := by rw [Hid, HL2.out, hq]
    clear hb1 F0 FI hq hap HL2 hL
    have k0 : w1.cell? ⟨w.heap.size, 0, none⟩ = some (.slice none 0 0) := by rw [cell_of_row _ _ 0 _ _ _ r1]; rfl
    have k1 : w1.cell? ⟨w.heap.size, 1, none⟩ = some (.slice none 0 0) := by rw [cell_of_row _ _ 1 _ _ _ r1]; rfl
    have k2 : w1.cell? ⟨w.heap.size, 2, none⟩ = some (.int .i64 0) := by rw [cell_of_row _ _ 2 _ _ _ r1]; rfl
    have g0 := frozen_of_row _ _ 0 _ _ r1
    have g1 := frozen_of_row _ _ 1 _ _ r1
    have g2 := frozen_of_row _ _ 2 _ _ r1
    go_wp2
    by_cases hqy : q = y
    · have hqd : ((q : Int) != (y : Int)) = false := by simp [hqy]
      have HL4 : Hid (Pu.look D = match Pu.foot L E with
        | none => .bad 8
        | some (cs, gs) => .good E cs gs) := by rw [Hid, HL3.out, if_neg (by simpa using hqy)]
      clear hqy HL3
      go_quiet ((go_at_call 66; exact Calls.quiet_of_same (OF.out _ _)))
      have WA : Hid (∀ (o o3 : Obj) (n : Nat), Calls Try.prog 67 #[.pointer (some ⟨w1.heap.size + 1, 0, none⟩)] ((((w1.alloc o).drewN n).alloc (.cells #[.slice ap z z, .slice none 0 0, .slice none 0 0, .int .i64 (E : Int)] 135)).alloc o3) fun e w2 => WhRes w (w1.heap.size + 1) D e w2) := fun o o3 n => by
        have hs : ((w1.alloc o).drewN n).heap.size = w1.heap.size + 1 := size_alloc' w1 o
        have hb : Below w1.heap.size w1 ((((w1.alloc o).drewN n).alloc (.cells #[.slice ap z z, .slice none 0 0, .slice none 0 0, .int .i64 (E : Int)] 135)).alloc o3) := ((below_drewN ((Below.refl _ _).alloc (Nat.le_refl _) _) n).alloc (by omega) _).alloc (by rw [size_alloc']; omega) _
        refine wholeR (w := w) (w1 := w1) (L := L) (lb := lb) (z := z) (ap := ap) (E := E) hpl ?_ (Hap.out.kept (hb.block lb (by omega))) (by omega) hlt hlb (by omega) (by rw [hb.block _ hlt]; exact r1) (B1.trans (hb.mono (by omega))) HL4.out
        have := row_alloc (heap_alloc_new ((w1.alloc o).drewN n) (.cells #[.slice ap z z, .slice none 0 0, .slice none 0 0, .int .i64 (E : Int)] 135)) o3
        rw [hs] at this
        exact this
      have WB : Hid (∀ (o o3 : Obj) (n : Nat), Calls Try.prog 67 #[.pointer (some ⟨w1.heap.size + 2, 0, none⟩)] ((((w1.alloc o).drewN n).alloc o3).alloc (.cells #[.slice ap z z, .slice none 0 0, .slice none 0 0, .int .i64 (E : Int)] 135)) fun e w2 => WhRes w (w1.heap.size + 2) D e w2) := fun o o3 n => by
        have hs : ((w1.alloc o).drewN n).heap.size = w1.heap.size + 1 := size_alloc' w1 o
        have hb : Below w1.heap.size w1 ((((w1.alloc o).drewN n).alloc o3).alloc (.cells #[.slice ap z z, .slice none 0 0, .slice none 0 0, .int .i64 (E : Int)] 135)) := ((below_drewN ((Below.refl _ _).alloc (Nat.le_refl _) _) n).alloc (by omega) _).alloc (by rw [size_alloc']; omega) _
        refine wholeR (w := w) (w1 := w1) (L := L) (lb := lb) (z := z) (ap := ap) (E := E) hpl ?_ (Hap.out.kept (hb.block lb (by omega))) (by omega) hlt hlb (by omega) (by rw [hb.block _ hlt]; exact r1) (B1.trans (hb.mono (by omega))) HL4.out
        have := heap_alloc_new (((w1.alloc o).drewN n).alloc o3) (.cells #[.slice ap z z, .slice none 0 0, .slice none 0 0, .int .i64 (E : Int)] 135)
        rw [size_alloc', hs] at this
        exact this
      go_upto_region 6 with fail
      go_cut [6] (fun s6 wx => ∃ R : Nat, s6 = .pointer (some ⟨R, 0, none⟩) ∧ Hid (Calls Try.prog 67 #[.pointer (some ⟨R, 0, none⟩)] wx fun e w2 => WhRes w R D e w2))
      case first =>
        clear k0 k1 k2 g0 g1 g2 r1
        go_region_with (go_at_call 39; refine (new_any ap z z _).mono ?_; rintro e w' ⟨rfl, rfl⟩)
        all_goals (go_wp2_with fail; go_meet; first | exact ⟨_, rfl, WA.out _ _ _⟩ | exact ⟨_, rfl, WB.out _ _ _⟩)
      case rest =>
      obtain ⟨R, rfl, HW⟩ := hcut
      clear k0 k1 k2 g0 g1 g2 r1 WA WB
      go_wp2_with fail
      refine HW.out.mono ?_
      rintro e w2 (⟨rfl, HX, r2, B2⟩ | ⟨E', cs, gs, ws, av, cv, ar, cr, rfl, c1, c2, c3, HX, Hc, Hr, HLg, r2, B2⟩)
      · have k0 : w2.cell? ⟨w.heap.size, 0, none⟩ = some (.slice none 0 0) := by rw [cell_of_row _ _ 0 _ _ _ r2]; rfl
        have k1 : w2.cell? ⟨w.heap.size, 1, none⟩ = some (.slice none 0 0) := by rw [cell_of_row _ _ 1 _ _ _ r2]; rfl
        have k2 : w2.cell? ⟨w.heap.size, 2, none⟩ = some (.int .i64 0) := by rw [cell_of_row _ _ 2 _ _ _ r2]; rfl
        have g0 := frozen_of_row _ _ 0 _ _ r2
        have g1 := frozen_of_row _ _ 1 _ _ r2
        have g2 := frozen_of_row _ _ 2 _ _ r2
        have FF := set3_row r2 (.slice none 0 0) (.slice none 0 0) (.int .i64 0)
        have q0 := cell_of_row _ _ 0 _ _ _ FF
        have q1 := cell_of_row _ _ 1 _ _ _ FF
        have q2 := cell_of_row _ _ 2 _ _ _ FF
        simp only [List.getElem?_toArray, List.getElem?_cons_zero, List.getElem?_cons_succ] at q0 q1 q2
        clear FF r2
        go_wp2
        exact bodyPost_ret (v := .tuple #[.agg #[.slice none 0 0, .slice none 0 0, .int .i64 0], .int .i64 8]) (by simp [results, Try.results48, go_sem, q0, q1, q2]) rfl ⟨by rw [HX.out]; rfl, ((B2.setCell (Nat.le_refl _) _).setCell (Nat.le_refl _) _).setCell (Nat.le_refl _) _⟩
      · have k0 : w2.cell? ⟨w.heap.size, 0, none⟩ = some (.slice none 0 0) := by rw [cell_of_row _ _ 0 _ _ _ r2]; rfl
        have k1 : w2.cell? ⟨w.heap.size, 1, none⟩ = some (.slice none 0 0) := by rw [cell_of_row _ _ 1 _ _ _ r2]; rfl
        have k2 : w2.cell? ⟨w.heap.size, 2, none⟩ = some (.int .i64 0) := by rw [cell_of_row _ _ 2 _ _ _ r2]; rfl
        have g0 := frozen_of_row _ _ 0 _ _ r2
        have g1 := frozen_of_row _ _ 1 _ _ r2
        have g2 := frozen_of_row _ _ 2 _ _ r2
        have FF := set3_row r2 (.slice av cs.length cv) (.slice ar ws.length cr) (.int .i64 (E' : Int))
        have q0 := cell_of_row _ _ 0 _ _ _ FF
        have q1 := cell_of_row _ _ 1 _ _ _ FF
        have q2 := cell_of_row _ _ 2 _ _ _ FF
        simp only [List.getElem?_toArray, List.getElem?_cons_zero, List.getElem?_cons_succ] at q0 q1 q2
        clear FF r2
        go_wp2
        exact bodyPost_ret (v := .tuple #[.agg #[.slice av cs.length cv, .slice ar ws.length cr, .int .i64 (E' : Int)], .int .i64 0]) (by simp [results, Try.results48, go_sem, q0, q1, q2]) rfl ⟨by rw [HX.out]; exact foot_good Hc.out Hr.out HLg.out, ((B2.setCell (Nat.le_refl _) _).setCell (Nat.le_refl _) _).setCell (Nat.le_refl _) _⟩
    · have hqd : ((q : Int) != (y : Int)) = true := by simp; omega
      have HX : Hid (Pu.look D = .bad 7) := by rw [Hid, HL3.out, if_pos hqy]
      clear hqy HL3
      go_quiet ((go_at_call 66; exact Calls.quiet_of_same (OF.out _ _)))
      have FF := set3_row (w := (w1.alloc (.cells #[.slice ap z z, .int .i64 (E : Int), .int .u32 (y : Int)] 130)).drewN nq) (row_alloc r1 _) (.slice none 0 0) (.slice none 0 0) (.int .i64 0)
      have q0 := cell_of_row _ _ 0 _ _ _ FF
      have q1 := cell_of_row _ _ 1 _ _ _ FF
      have q2 := cell_of_row _ _ 2 _ _ _ FF
      simp only [List.getElem?_toArray, List.getElem?_cons_zero, List.getElem?_cons_succ] at q0 q1 q2
      clear FF
      go_wp2
      exact bodyPost_ret (v := .tuple #[.agg #[.slice none 0 0, .slice none 0 0, .int .i64 0], .int .i64 7]) (by simp [results, Try.results48, go_sem, q0, q1, q2]) rfl ⟨by rw [HX.out]; rfl, (((below_drewN (B1.alloc (Nat.le_of_lt hlt) _) nq).setCell (Nat.le_refl _) _).setCell (Nat.le_refl _) _).setCell (Nat.le_refl _) _⟩

end Go.Proofs.Ytjobhlncllfdmaa
