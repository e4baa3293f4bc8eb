/- Contract of footer.Read. -/
import Derived.Test.YtjobhlncllfdmaaGreatM37
import Derived.Test.YtjobhlncllfdmaaGreatM38
import Derived.Test.YtjobhlncllfdmaaGreatM36
import Derived.Deep.DeepCutAuto
namespace Go.Proofs.YtjobhlncllfdmaaGreat
open Go.RowKit

def FootAns (base : Nat) (r : Pu.Seen) (e : Ending) (w' : World) : Prop :=
  match r with
  | .bad k => e = .returned (.tuple #[.agg #[.slice none 0 0, .slice none 0 0, .int .i64 0], .int .i64 (k : Int)])
  | .good E cs gs => ∃ vc vr ws, e = .returned (.tuple #[.agg #[vc, vr, .int .i64 (E : Int)], .int .i64 0]) ∧ w'.ownsRow base 54 3 vc cs.length (colsV cs) ∧ w'.ownsRow base 84 2 vr ws.length (grsV ws) ∧ GL w' base ws gs

theorem set3_other {w : World} {b k : Nat} (h : k ≠ b) (x y z : Value) : (((w.setCell ⟨b, 0, none⟩ x).setCell ⟨b, 1, none⟩ y).setCell ⟨b, 2, none⟩ z).heap[k]? = w.heap[k]? := by
  rw [heap_setCell_other _ _ k _ h, heap_setCell_other _ _ k _ h, heap_setCell_other _ _ k _ h]

theorem row_alloc {w : World} {b : Nat} {x : Obj} (h : w.heap[b]? = some x) (o : Obj) : (w.alloc o).heap[b]? = some x := by
  rw [Below.heap_alloc _ _ _ (Array.getElem?_eq_some_iff.1 h).1]; exact h

theorem find_bounds {D : List UInt8} {E z y : Nat} (h : Pu.find D = some (E, z, y)) : E ≤ D.length ∧ E + z ≤ D.length ∧ y < 4294967296 := by
  unfold Pu.find at h
  split at h
  · cases h
  · rename_i h0
    split at h
    · cases h
    · simp only [Option.some.injEq, Prod.mk.injEq] at h
      obtain ⟨rfl, rfl, rfl⟩ := h
      have := Pu.le_lt (Pu.piece D (D.length - 8) 4)
      rw [Pu.length_piece _ _ _ (by omega)] at this
      exact ⟨by omega, by omega, this⟩

theorem foot_good {w w2 : World} {E : Nat} {cs : List Pu.Col} {ws : List (Nat × Value)} {gs : List (Nat × List (Nat × Nat))} {av ar : Option Addr} {cv cr : Nat} (hc : w2.ownsRow (w.heap.size + 1) 54 3 (.slice av cs.length cv) cs.length (colsV cs)) (hr : w2.ownsRow (w.heap.size + 1) 84 2 (.slice ar ws.length cr) ws.length (grsV ws)) (hL : GL w2 (w.heap.size + 1) ws gs) {x y z : Value} :
    FootAns w.heap.size (.good E cs gs) (.returned (.tuple #[.agg #[.slice av cs.length cv, .slice ar ws.length cr, .int .i64 (E : Int)], .int .i64 0])) (((w2.setCell ⟨w.heap.size, 0, none⟩ x).setCell ⟨w.heap.size, 1, none⟩ y).setCell ⟨w.heap.size, 2, none⟩ z) := by
  refine ⟨_, _, _, rfl, (own_agreeS hc (fun k hk => set3_other (by have := (hc.lt k hk).1; omega) _ _ _)).mono (by omega), (own_agreeS hr (fun k hk => set3_other (by have := (hr.lt k hk).1; omega) _ _ _)).mono (by omega), ?_⟩
  refine ⟨hL.1, fun i p g h1 h2 => ⟨(hL.2 i p g h1 h2).1, ?_⟩⟩
  have h := (hL.2 i p g h1 h2).2
  exact (own_agreeS h (fun k hk => set3_other (by have := (h.lt k hk).1; omega) _ _ _)).mono (by omega)

/-- what whole leaves, as Read wants it -/
def WhRes (w : World) (R : Nat) (D : List UInt8) (e : Ending) (w2 : World) : Prop :=
  (e = .returned (.bool false) ∧ Hid (Pu.look D = .bad 8) ∧ w2.heap[w.heap.size]? = some (.cells #[.slice none 0 0, .slice none 0 0, .int .i64 0] 77 (0, 0)) ∧ Below w.heap.size w w2) ∨
  (∃ (E : Nat) (cs : List Pu.Col) (gs : List (Nat × List (Nat × Nat))) (ws : List (Nat × Value)) (av : Option Addr) (cv : Nat) (ar : Option Addr) (cr : Nat), e = .returned (.bool true) ∧ w2.cell? ⟨R, 1, none⟩ = some (.slice av cs.length cv) ∧ w2.cell? ⟨R, 2, none⟩ = some (.slice ar ws.length cr) ∧ w2.cell? ⟨R, 3, none⟩ = some (.int .i64 (E : Int)) ∧ Hid (Pu.look D = .good E cs gs) ∧ Hid (w2.ownsRow (w.heap.size + 1) 54 3 (.slice av cs.length cv) cs.length (colsV cs)) ∧
    Hid (w2.ownsRow (w.heap.size + 1) 84 2 (.slice ar ws.length cr) ws.length (grsV ws)) ∧ Hid (GL w2 (w.heap.size + 1) ws gs) ∧ w2.heap[w.heap.size]? = some (.cells #[.slice none 0 0, .slice none 0 0, .int .i64 0] 77 (0, 0)) ∧ Below w.heap.size w w2)

theorem wholeR {w w1 W : World} {R lb E z : Nat} {ap : Option Addr} {L D : List UInt8} (hpl : L.length = z) (hR : W.heap[R]? = some (.cells #[.slice ap z z, .slice none 0 0, .slice none 0 0, .int .i64 (E : Int)] 126 (0, 0))) (hr : Rest W lb ap z L) (hE : E ≤ 140737488355328) (hlt : w.heap.size < w1.heap.size) (hlb : lb < w.heap.size) (hRl : w1.heap.size ≤ R)
    (r1 : W.heap[w.heap.size]? = some (.cells #[.slice none 0 0, .slice none 0 0, .int .i64 0] 77 (0, 0))) (B1 : Below w.heap.size w W) (hL : Pu.look D = match Pu.foot L E with | none => .bad 8 | some (cs, gs) => .good E cs gs) :
    Calls Tryz.prog 48 #[.pointer (some ⟨R, 0, none⟩)] W fun e w2 => WhRes w R D e w2 := by
  have hS : FSt W R lb w1.heap.size L E 0 [] [] (.slice none 0 0) := ⟨ap, z, .slice none 0 0, by rw [Nat.sub_zero, hpl]; exact hR, by omega, by rw [List.drop_zero]; exact hr, World.ownsRow_nil _ _ _ _, World.ownsRow_nil _ _ _ _, by omega, hRl⟩
  refine (fwhole R lb w1.heap.size L E W hS hE).mono ?_
  rintro e w2 ⟨hans, hb⟩
  have r2 : w2.heap[w.heap.size]? = some (.cells #[.slice none 0 0, .slice none 0 0, .int .i64 0] 77 (0, 0)) := by rw [hb.block _ hlt]; exact r1
  have B2 : Below w.heap.size w w2 := B1.trans (hb.mono (by omega))
  cases hf : Pu.foot L E with
  | none =>
    rw [hf] at hans hL
    exact .inl ⟨hans, hL, r2, B2⟩
  | some p =>
    obtain ⟨cs, gs⟩ := p
    rw [hf] at hans hL
    obtain ⟨he, ws, vr, ⟨ao, cap, vc, g1, g2, g3, g4, g5, g6, g7⟩, g8⟩ := hans
    obtain ⟨av, cv, rfl⟩ := slen_of g4
    obtain ⟨ar, cr, rfl⟩ := slen_of g5
    exact .inr ⟨E, cs, gs, ws, av, cv, ar, cr, he, g1.c1, g1.c2, g1.c3, hL, g4.mono (by omega), g5.mono (by omega), g8.mono (by omega), r2, B2⟩

set_option maxHeartbeats 8000000 in
set_option maxRecDepth 100000 in
theorem footRead_any (lb : Nat) (ao : Option Addr) (cap : Nat) (D : List UInt8) (w : World) (h : Rest w lb ao cap D) (hlb : lb < w.heap.size) (hD : D.length ≤ 140737488355328) :
    Calls Tryz.prog 33 #[.slice ao D.length cap] w fun e w' => FootAns w.heap.size (Pu.look D) e w' ∧ Below w.heap.size w w' := by
  have HL : Hid (Pu.look D = match Pu.find D with
    | none => .bad 6
    | some (E, z, y) => if Pu.sum (Pu.piece D E z) ≠ y then .bad 7 else match Pu.foot (Pu.piece D E z) E with
      | none => .bad 8
      | some (cs, gs) => .good E cs gs) := look_find D
  have FI : Hid (Calls Tryz.prog 45 #[.slice ao D.length cap] (w.alloc (.cells #[.slice none 0 0, .slice none 0 0, .int .i64 0] 77)) fun e w' => FindAns lb D (Pu.find D) e w' ∧ Below (w.heap.size + 1) (w.alloc (.cells #[.slice none 0 0, .slice none 0 0, .int .i64 0] 77)) w') := by
    have := find_any lb ao cap D (w.alloc (.cells #[.slice none 0 0, .slice none 0 0, .int .i64 0] 77)) (h.kept (Below.heap_alloc _ _ _ hlb)) (by rw [size_alloc']; omega)
    rw [size_alloc'] at this
    exact this
  have F0 : Hid (∀ W : World, Below (w.heap.size + 1) (w.alloc (.cells #[.slice none 0 0, .slice none 0 0, .int .i64 0] 77)) W → W.heap[w.heap.size]? = some (.cells #[.slice none 0 0, .slice none 0 0, .int .i64 0] 77 (0, 0)) ∧ Below w.heap.size w W) := fun W hW => by
    refine ⟨?_, ((Below.refl _ _).alloc (Nat.le_refl _) _).trans (hW.mono (by omega))⟩
    rw [hW.block _ (by omega)]; exact heap_alloc_new w _
  clear h
  cases hf : Pu.find D with
  | none =>
    have HX : Hid (Pu.look D = .bad 6) := by rw [Hid, HL.out, hf]
    rw [hf] at FI
    clear hf HL
    go_enter Tryz.func33, Tryz.ntmps33
    go_wp2_with fail
    refine FI.out.mono ?_
    rintro e w1 ⟨rfl, hb1⟩
    obtain ⟨r1, B1⟩ := F0.out w1 hb1
    have k0 : w1.cell? ⟨w.heap.size, 0, none⟩ = some (.slice none 0 0) := by rw [cell_of_row _ _ 0 _ _ _ r1]; rfl
    have k1 : w1.cell? ⟨w.heap.size, 1, none⟩ = some (.slice none 0 0) := by rw [cell_of_row _ _ 1 _ _ _ r1]; rfl
    have k2 : w1.cell? ⟨w.heap.size, 2, none⟩ = some (.int .i64 0) := by rw [cell_of_row _ _ 2 _ _ _ r1]; rfl
    have g0 := frozen_of_row _ _ 0 _ _ r1
    have g1 := frozen_of_row _ _ 1 _ _ r1
    have g2 := frozen_of_row _ _ 2 _ _ r1
    have hlt : w.heap.size < w1.heap.size := (Array.getElem?_eq_some_iff.1 r1).1
    clear hb1 F0 FI
    have FF := row_alloc (set3_row r1 (.slice none 0 0) (.slice none 0 0) (.int .i64 0)) (.cells #[.slice none 0 0, .int .i64 0, .int .u32 0] 120)
    have q0 := cell_of_row _ _ 0 _ _ _ FF
    have q1 := cell_of_row _ _ 1 _ _ _ FF
    have q2 := cell_of_row _ _ 2 _ _ _ FF
    simp only [List.getElem?_toArray, List.getElem?_cons_zero, List.getElem?_cons_succ] at q0 q1 q2
    clear FF
    go_wp2
    exact bodyPost_ret (v := .tuple #[.agg #[.slice none 0 0, .slice none 0 0, .int .i64 0], .int .i64 6]) (by simp [results, Tryz.results33, go_sem, q0, q1, q2]) rfl ⟨by rw [HX.out]; rfl, (((B1.setCell (Nat.le_refl _) _).setCell (Nat.le_refl _) _).setCell (Nat.le_refl _) _).alloc (by rw [size_set, size_set, size_set]; omega) _⟩
  | some p =>
    obtain ⟨E, z, y⟩ := p
    obtain ⟨hE1, hE2, hyl⟩ := find_bounds hf
    have HL2 : Hid (Pu.look D = if Pu.sum (Pu.piece D E z) ≠ y then .bad 7 else match Pu.foot (Pu.piece D E z) E with
      | none => .bad 8
      | some (cs, gs) => .good E cs gs) := by rw [Hid, HL.out, hf]
    rw [hf] at FI
    have hpl : (Pu.piece D E z).length = z := Pu.length_piece _ _ _ hE2
    clear hf HL
    obtain ⟨L, hL⟩ : ∃ L, L = Pu.piece D E z := ⟨_, rfl⟩
    rw [← hL] at HL2 hpl
    obtain ⟨q, hq⟩ : ∃ q, q = Pu.sum L := ⟨_, rfl⟩
    have hql : q < 4294967296 := by rw [hq]; exact Pu.sum_lt _
    go_enter Tryz.func33, Tryz.ntmps33
    go_wp2_with fail
    refine FI.out.mono ?_
    rintro e w1 ⟨⟨ap, rfl, hap⟩, hb1⟩
    rw [← hL] at hap
    obtain ⟨r1, B1⟩ := F0.out w1 hb1
    have hlt : w.heap.size < w1.heap.size := (Array.getElem?_eq_some_iff.1 r1).1
    have OF : Hid (∀ (o : Obj) (n : Nat), Calls Tryz.prog 46 #[.slice ap z z] ((w1.alloc o).drewN n) fun e w' => e = .returned (.int .u32 (q : Int)) ∧ w' = (w1.alloc o).drewN n) := fun o n => by
      have := of_any lb ap z L ((w1.alloc o).drewN n) (hap.kept (Below.heap_alloc _ _ _ (by omega)))
      rw [hpl, ← hq] at this
      exact this
    have Hap : Hid (Rest w1 lb ap z L) := hap
    have HL3 : Hid (Pu.look D = if q ≠ y then .bad 7 else match Pu.foot L E with
      | none => .bad 8
      | some (cs, gs) => .good E cs gs) := by rw [Hid, HL2.out, hq]
    clear hb1 F0 FI hq hap HL2 hL
    have k0 : w1.cell? ⟨w.heap.size, 0, none⟩ = some (.slice none 0 0) := by rw [cell_of_row _ _ 0 _ _ _ r1]; rfl
    have k1 : w1.cell? ⟨w.heap.size, 1, none⟩ = some (.slice none 0 0) := by rw [cell_of_row _ _ 1 _ _ _ r1]; rfl
    have k2 : w1.cell? ⟨w.heap.size, 2, none⟩ = some (.int .i64 0) := by rw [cell_of_row _ _ 2 _ _ _ r1]; rfl
    have g0 := frozen_of_row _ _ 0 _ _ r1
    have g1 := frozen_of_row _ _ 1 _ _ r1
    have g2 := frozen_of_row _ _ 2 _ _ r1
    go_wp2
    by_cases hqy : q = y
    · have hqd : ((q : Int) != (y : Int)) = false := by simp [hqy]
      have HL4 : Hid (Pu.look D = match Pu.foot L E with
        | none => .bad 8
        | some (cs, gs) => .good E cs gs) := by rw [Hid, HL3.out, if_neg (by simpa using hqy)]
      clear hqy HL3
      go_quiet ((go_at_call 46; exact Calls.quiet_of_same (OF.out _ _)))
      have WA : Hid (∀ (o o3 : Obj) (n : Nat), Calls Tryz.prog 48 #[.pointer (some ⟨w1.heap.size + 1, 0, none⟩)] ((((w1.alloc o).drewN n).alloc (.cells #[.slice ap z z, .slice none 0 0, .slice none 0 0, .int .i64 (E : Int)] 126)).alloc o3) fun e w2 => WhRes w (w1.heap.size + 1) D e w2) := fun o o3 n => by
        have hs : ((w1.alloc o).drewN n).heap.size = w1.heap.size + 1 := size_alloc' w1 o
        have hb : Below w1.heap.size w1 ((((w1.alloc o).drewN n).alloc (.cells #[.slice ap z z, .slice none 0 0, .slice none 0 0, .int .i64 (E : Int)] 126)).alloc o3) := ((below_drewN ((Below.refl _ _).alloc (Nat.le_refl _) _) n).alloc (by omega) _).alloc (by rw [size_alloc']; omega) _
        refine wholeR (w := w) (w1 := w1) (L := L) (lb := lb) (z := z) (ap := ap) (E := E) hpl ?_ (Hap.out.kept (hb.block lb (by omega))) (by omega) hlt hlb (by omega) (by rw [hb.block _ hlt]; exact r1) (B1.trans (hb.mono (by omega))) HL4.out
        have := row_alloc (heap_alloc_new ((w1.alloc o).drewN n) (.cells #[.slice ap z z, .slice none 0 0, .slice none 0 0, .int .i64 (E : Int)] 126)) o3
        rw [hs] at this
        exact this
      have WB : Hid (∀ (o o3 : Obj) (n : Nat), Calls Tryz.prog 48 #[.pointer (some ⟨w1.heap.size + 2, 0, none⟩)] ((((w1.alloc o).drewN n).alloc o3).alloc (.cells #[.slice ap z z, .slice none 0 0, .slice none 0 0, .int .i64 (E : Int)] 126)) fun e w2 => WhRes w (w1.heap.size + 2) D e w2) := fun o o3 n => by
        have hs : ((w1.alloc o).drewN n).heap.size = w1.heap.size + 1 := size_alloc' w1 o
        have hb : Below w1.heap.size w1 ((((w1.alloc o).drewN n).alloc o3).alloc (.cells #[.slice ap z z, .slice none 0 0, .slice none 0 0, .int .i64 (E : Int)] 126)) := ((below_drewN ((Below.refl _ _).alloc (Nat.le_refl _) _) n).alloc (by omega) _).alloc (by rw [size_alloc']; omega) _
        refine wholeR (w := w) (w1 := w1) (L := L) (lb := lb) (z := z) (ap := ap) (E := E) hpl ?_ (Hap.out.kept (hb.block lb (by omega))) (by omega) hlt hlb (by omega) (by rw [hb.block _ hlt]; exact r1) (B1.trans (hb.mono (by omega))) HL4.out
        have := heap_alloc_new (((w1.alloc o).drewN n).alloc o3) (.cells #[.slice ap z z, .slice none 0 0, .slice none 0 0, .int .i64 (E : Int)] 126)
        rw [size_alloc', hs] at this
        exact this
      go_upto_region 6 with fail
      go_cut [6] (fun s6 wx => ∃ R : Nat, s6 = .pointer (some ⟨R, 0, none⟩) ∧ Hid (Calls Tryz.prog 48 #[.pointer (some ⟨R, 0, none⟩)] wx fun e w2 => WhRes w R D e w2))
      case first =>
        clear k0 k1 k2 g0 g1 g2 r1
        go_region_with (go_at_call 47; refine (new_any ap z z _).mono ?_; rintro e w' ⟨rfl, rfl⟩)
        all_goals (go_wp2_with fail; go_meet; first | exact ⟨_, rfl, WA.out _ _ _⟩ | exact ⟨_, rfl, WB.out _ _ _⟩)
      case rest =>
      obtain ⟨R, rfl, HW⟩ := hcut
      clear k0 k1 k2 g0 g1 g2 r1 WA WB
      go_wp2_with fail
      refine HW.out.mono ?_
      rintro e w2 (⟨rfl, HX, r2, B2⟩ | ⟨E', cs, gs, ws, av, cv, ar, cr, rfl, c1, c2, c3, HX, Hc, Hr, HLg, r2, B2⟩)
      · have k0 : w2.cell? ⟨w.heap.size, 0, none⟩ = some (.slice none 0 0) := by rw [cell_of_row _ _ 0 _ _ _ r2]; rfl
        have k1 : w2.cell? ⟨w.heap.size, 1, none⟩ = some (.slice none 0 0) := by rw [cell_of_row _ _ 1 _ _ _ r2]; rfl
        have k2 : w2.cell? ⟨w.heap.size, 2, none⟩ = some (.int .i64 0) := by rw [cell_of_row _ _ 2 _ _ _ r2]; rfl
        have g0 := frozen_of_row _ _ 0 _ _ r2
        have g1 := frozen_of_row _ _ 1 _ _ r2
        have g2 := frozen_of_row _ _ 2 _ _ r2
        have FF := set3_row r2 (.slice none 0 0) (.slice none 0 0) (.int .i64 0)
        have q0 := cell_of_row _ _ 0 _ _ _ FF
        have q1 := cell_of_row _ _ 1 _ _ _ FF
        have q2 := cell_of_row _ _ 2 _ _ _ FF
        simp only [List.getElem?_toArray, List.getElem?_cons_zero, List.getElem?_cons_succ] at q0 q1 q2
        clear FF r2
        go_wp2
        exact bodyPost_ret (v := .tuple #[.agg #[.slice none 0 0, .slice none 0 0, .int .i64 0], .int .i64 8]) (by simp [results, Tryz.results33, go_sem, q0, q1, q2]) rfl ⟨by rw [HX.out]; rfl, ((B2.setCell (Nat.le_refl _) _).setCell (Nat.le_refl _) _).setCell (Nat.le_refl _) _⟩
      · have k0 : w2.cell? ⟨w.heap.size, 0, none⟩ = some (.slice none 0 0) := by rw [cell_of_row _ _ 0 _ _ _ r2]; rfl
        have k1 : w2.cell? ⟨w.heap.size, 1, none⟩ = some (.slice none 0 0) := by rw [cell_of_row _ _ 1 _ _ _ r2]; rfl
        have k2 : w2.cell? ⟨w.heap.size, 2, none⟩ = some (.int .i64 0) := by rw [cell_of_row _ _ 2 _ _ _ r2]; rfl
        have g0 := frozen_of_row _ _ 0 _ _ r2
        have g1 := frozen_of_row _ _ 1 _ _ r2
        have g2 := frozen_of_row _ _ 2 _ _ r2
        have FF := set3_row r2 (.slice av cs.length cv) (.slice ar ws.length cr) (.int .i64 (E' : Int))
        have q0 := cell_of_row _ _ 0 _ _ _ FF
        have q1 := cell_of_row _ _ 1 _ _ _ FF
        have q2 := cell_of_row _ _ 2 _ _ _ FF
        simp only [List.getElem?_toArray, List.getElem?_cons_zero, List.getElem?_cons_succ] at q0 q1 q2
        clear FF r2
        go_wp2
        exact bodyPost_ret (v := .tuple #[.agg #[.slice av cs.length cv, .slice ar ws.length cr, .int .i64 (E' : Int)], .int .i64 0]) (by simp [results, Tryz.results33, go_sem, q0, q1, q2]) rfl ⟨by rw [HX.out]; exact foot_good Hc.out Hr.out HLg.out, ((B2.setCell (Nat.le_refl _) _).setCell (Nat.le_refl _) _).setCell (Nat.le_refl _) _⟩
    · have hqd : ((q : Int) != (y : Int)) = true := by simp; omega
      have HX : Hid (Pu.look D = .bad 7) := by rw [Hid, HL3.out, if_pos hqy]
      clear hqy HL3
      go_quiet ((go_at_call 46; exact Calls.quiet_of_same (OF.out _ _)))
      have FF := set3_row (w := (w1.alloc (.cells #[.slice ap z z, .int .i64 (E : Int), .int .u32 (y : Int)] 120)).drewN nq) (row_alloc r1 _) (.slice none 0 0) (.slice none 0 0) (.int .i64 0)
      have q0 := cell_of_row _ _ 0 _ _ _ FF
      have q1 := cell_of_row _ _ 1 _ _ _ FF
      have q2 := cell_of_row _ _ 2 _ _ _ FF
      simp only [List.getElem?_toArray, List.getElem?_cons_zero, List.getElem?_cons_succ] at q0 q1 q2
      clear FF
      go_wp2
      exact bodyPost_ret (v := .tuple #[.agg #[.slice none 0 0, .slice none 0 0, .int .i64 0], .int .i64 7]) (by simp [results, Tryz.results33, go_sem, q0, q1, q2]) rfl ⟨by rw [HX.out]; rfl, (((below_drewN (B1.alloc (Nat.le_of_lt hlt) _) nq).setCell (Nat.le_refl _) _).setCell (Nat.le_refl _) _).setCell (Nat.le_refl _) _⟩

end Go.Proofs.YtjobhlncllfdmaaGreat

/- What a footer that was read holds: its groups as cells. -/
namespace Go.Proofs.YtjobhlncllfdmaaGreat
open Go.RowKit

theorem look_small {D : List UInt8} {E : Nat} {cs : List Pu.Col} {gs : List (Nat × List (Nat × Nat))} (h : Pu.look D = .good E cs gs) : cs.length ≤ 20 ∧ gs.length ≤ 50 := by
  rw [look_find] at h
  split at h
  · cases h
  · split at h
    · cases h
    · split at h
      · cases h
      · rename_i hf
        simp only [Pu.Seen.good.injEq] at h
        obtain ⟨rfl, rfl, rfl⟩ := h
        unfold Pu.foot at hf
        split at hf
        · cases hf
        · rename_i hc
          split at hf
          · cases hf
          · rename_i hg
            simp only [Option.some.injEq, Prod.mk.injEq] at hf
            obtain ⟨rfl, rfl⟩ := hf
            exact ⟨(Pu.cols_spec hc).2.1, Pu.grps_spec hg⟩

theorem look_badk {D : List UInt8} {k : Nat} (h : Pu.look D = .bad k) : k ≠ 0 := by
  rw [look_find] at h
  split at h
  · simp only [Pu.Seen.bad.injEq] at h; omega
  · split at h
    · simp only [Pu.Seen.bad.injEq] at h; omega
    · split at h
      · simp only [Pu.Seen.bad.injEq] at h; omega
      · cases h

theorem length_grsV (ws : List (Nat × Value)) : (grsV ws).length = ws.length * 2 := by
  induction ws with
  | nil => rfl
  | cons x xs ih => rw [show grsV (x :: xs) = grV x ++ grsV xs from rfl, List.length_append, ih, List.length_cons]; simp [grV]; omega
theorem grsV_at (ws : List (Nat × Value)) : ∀ k (h : k < ws.length), (grsV ws)[k * 2]? = some (.int .i64 (ws[k].1 : Int)) ∧ (grsV ws)[k * 2 + 1]? = some ws[k].2 := by
  induction ws with
  | nil => intro k h; simp at h
  | cons x xs ih =>
    intro k h
    rw [show grsV (x :: xs) = grV x ++ grsV xs from rfl]
    match k, h with
    | 0, _ => exact ⟨rfl, rfl⟩
    | k + 1, h =>
      have := ih k (by simpa using h)
      rw [List.getElem?_append_right (by simp [grV]; omega), List.getElem?_append_right (by simp [grV]; omega)]
      rw [show (k + 1) * 2 - (grV x).length = k * 2 by simp [grV]; omega, show (k + 1) * 2 + 1 - (grV x).length = k * 2 + 1 by simp [grV]; omega]
      simpa using this
theorem grs_cell {w : World} {B : Nat} {ao : Option Addr} {cap : Nat} {ws : List (Nat × Value)} (h : w.ownsRow B 84 2 (.slice ao ws.length cap) ws.length (grsV ws)) :
    ∀ k, (hk : k < ws.length) → ∃ g, ao = some ⟨g, 0, none⟩ ∧ w.cell? ⟨g, k * 2, none⟩ = some (.int .i64 (ws[k].1 : Int)) ∧ w.cell? ⟨g, k * 2 + 1, none⟩ = some ws[k].2 := by
  intro k hk
  obtain ⟨g, cap', he, _, _⟩ := h.form (by omega)
  simp only [Value.slice.injEq] at he
  obtain ⟨rfl, _, rfl⟩ := he
  refine ⟨g, rfl, ?_, ?_⟩
  · rw [h.cellAt _ (by omega)]; exact (grsV_at ws k hk).1
  · rw [h.cellAt _ (by omega)]; exact (grsV_at ws k hk).2
theorem GL.fsts {w : World} {B : Nat} {ws : List (Nat × Value)} {gs : List (Nat × List (Nat × Nat))} (h : GL w B ws gs) : ws.map Prod.fst = gs.map Prod.fst := by
  apply List.ext_getElem (by simp [h.1])
  intro i h1 h2
  simp only [List.length_map] at h1 h2
  rw [List.getElem_map, List.getElem_map]
  exact (h.2 i _ _ (List.getElem?_eq_getElem h1) (List.getElem?_eq_getElem h2)).1


end Go.Proofs.YtjobhlncllfdmaaGreat

/- What a footer that was read says of its numbers; footer.Pages. -/
namespace Go.Proofs.YtjobhlncllfdmaaGreat
open Go.RowKit

theorem col1_kind {D : List UInt8} {a a' : Nat} {out : List Pu.Col} {c : Pu.Col} (h : Pu.col1 D a out = some (c, a')) : c.kind ≤ 2 := by
  unfold Pu.col1 at h
  cases hv : Pu.vi D a with
  | none => simp [hv] at h
  | some q =>
    obtain ⟨z, nx⟩ := q
    simp only [hv] at h
    by_cases h1 : z < 1 ∨ 20 < z ∨ D.length ≤ nx + z
    · rw [if_pos h1] at h; cases h
    · rw [if_neg h1] at h
      by_cases h2 : Pu.hasName out (Pu.piece D nx z) = true ∨ Pu.byteAt D (nx + z) = 3 ∨ 6 < Pu.byteAt D (nx + z)
      · rw [if_pos h2] at h; cases h
      · rw [if_neg h2] at h
        simp only [Option.some.injEq, Prod.mk.injEq] at h
        obtain ⟨rfl, _⟩ := h
        simp only [not_or] at h2
        show Pu.byteAt D (nx + z) % 4 ≤ 2
        omega

theorem colsGo_kind {D : List UInt8} : ∀ n a out cs b, (∀ c ∈ out, c.kind ≤ 2) → Pu.colsGo D n a out = some (cs, b) → ∀ c ∈ cs, c.kind ≤ 2 := by
  intro n
  induction n with
  | zero =>
    intro a out cs b ho h
    unfold Pu.colsGo at h
    simp only [Option.some.injEq, Prod.mk.injEq] at h
    obtain ⟨rfl, _⟩ := h
    exact ho
  | succ n ih =>
    intro a out cs b ho h
    unfold Pu.colsGo at h
    cases hc : Pu.col1 D a out with
    | none => simp [hc] at h
    | some q =>
      obtain ⟨c, a'⟩ := q
      simp only [hc] at h
      refine ih _ _ _ _ (fun x hx => ?_) h
      rw [List.mem_append, List.mem_singleton] at hx
      rcases hx with hx | rfl
      · exact ho x hx
      · exact col1_kind hc

def ChOk (E : Nat) (c : Nat × Nat) : Prop := c.1 ≤ E ∧ c.2 ≤ 50
theorem chunk1_ok {D : List UInt8} {E a a' : Nat} {c : Nat × Nat} (h : Pu.chunk1 D E a = some (c, a')) : ChOk E c := by
  unfold Pu.chunk1 at h
  cases hv : Pu.vi D a with
  | none => simp [hv] at h
  | some q =>
    obtain ⟨p, a1⟩ := q
    simp only [hv] at h
    by_cases h1 : p < 4 ∨ E < p
    · rw [if_pos h1] at h; cases h
    · rw [if_neg h1] at h
      cases hv2 : Pu.vi D a1 with
      | none => simp [hv2] at h
      | some q2 =>
        obtain ⟨q, a2⟩ := q2
        simp only [hv2] at h
        by_cases h2 : q < 1 ∨ 50 < q
        · rw [if_pos h2] at h; cases h
        · rw [if_neg h2] at h
          simp only [Option.some.injEq, Prod.mk.injEq] at h
          obtain ⟨rfl, _⟩ := h
          exact ⟨by show p ≤ E; omega, by show q ≤ 50; omega⟩
theorem chunksGo_ok {D : List UInt8} {E : Nat} : ∀ n a out cs b, (∀ c ∈ out, ChOk E c) → Pu.chunksGo D E n a out = some (cs, b) → ∀ c ∈ cs, ChOk E c := by
  intro n
  induction n with
  | zero =>
    intro a out cs b ho h
    unfold Pu.chunksGo at h
    simp only [Option.some.injEq, Prod.mk.injEq] at h
    obtain ⟨rfl, _⟩ := h
    exact ho
  | succ n ih =>
    intro a out cs b ho h
    unfold Pu.chunksGo at h
    cases hc : Pu.chunk1 D E a with
    | none => simp [hc] at h
    | some q =>
      obtain ⟨c, a'⟩ := q
      simp only [hc] at h
      refine ih _ _ _ _ (fun x hx => ?_) h
      rw [List.mem_append, List.mem_singleton] at hx
      rcases hx with hx | rfl
      · exact ho x hx
      · exact chunk1_ok hc

def GrOk (E nc : Nat) (g : Nat × List (Nat × Nat)) : Prop := g.1 ≤ 1000 ∧ g.2.length = nc ∧ ∀ c ∈ g.2, ChOk E c
theorem grp1_ok {D : List UInt8} {E nc a a' : Nat} {g : Nat × List (Nat × Nat)} (h : Pu.grp1 D E nc a = some (g, a')) : GrOk E nc g := by
  have hl := (Pu.grp1_lt h).2
  unfold Pu.grp1 at h
  cases hv : Pu.vi D a with
  | none => simp [hv] at h
  | some q =>
    obtain ⟨r, a1⟩ := q
    simp only [hv] at h
    by_cases h1 : r < 1 ∨ 1000 < r
    · rw [if_pos h1] at h; cases h
    · rw [if_neg h1] at h
      cases hc : Pu.chunksGo D E nc a1 [] with
      | none => simp [hc] at h
      | some q2 =>
        obtain ⟨l, a2⟩ := q2
        simp only [hc, Option.some.injEq, Prod.mk.injEq] at h
        obtain ⟨rfl, _⟩ := h
        exact ⟨by show r ≤ 1000; omega, hl, chunksGo_ok _ _ _ _ _ (fun c hc => by cases hc) hc⟩
theorem grpsGo_ok {D : List UInt8} {E nc : Nat} : ∀ n a out gs b, (∀ g ∈ out, GrOk E nc g) → Pu.grpsGo D E nc n a out = some (gs, b) → ∀ g ∈ gs, GrOk E nc g := by
  intro n
  induction n with
  | zero =>
    intro a out cs b ho h
    unfold Pu.grpsGo at h
    simp only [Option.some.injEq, Prod.mk.injEq] at h
    obtain ⟨rfl, _⟩ := h
    exact ho
  | succ n ih =>
    intro a out cs b ho h
    unfold Pu.grpsGo at h
    cases hc : Pu.grp1 D E nc a with
    | none => simp [hc] at h
    | some q =>
      obtain ⟨c, a'⟩ := q
      simp only [hc] at h
      refine ih _ _ _ _ (fun x hx => ?_) h
      rw [List.mem_append, List.mem_singleton] at hx
      rcases hx with hx | rfl
      · exact ho x hx
      · exact grp1_ok hc

theorem grps_ok {D : List UInt8} {E nc a : Nat} {gs : List (Nat × List (Nat × Nat))} (h : Pu.grps D E nc a = some gs) : ∀ g ∈ gs, GrOk E nc g := by
  unfold Pu.grps at h
  cases hv : Pu.vi D a with
  | none => simp [hv] at h
  | some q =>
    obtain ⟨n, a1⟩ := q
    simp only [hv] at h
    by_cases h1 : 50 < n
    · rw [if_pos h1] at h; cases h
    · rw [if_neg h1] at h
      cases hc : Pu.grpsGo D E nc n a1 [] with
      | none => simp [hc] at h
      | some q2 =>
        obtain ⟨l, a2⟩ := q2
        simp only [hc] at h
        have hl : l = gs := by
          revert h
          split <;> intro h
          · simpa using h
          · cases h
        subst hl
        exact grpsGo_ok _ _ _ _ _ (fun c hc => by cases hc) hc

theorem look_ok {D : List UInt8} {E : Nat} {cs : List Pu.Col} {gs : List (Nat × List (Nat × Nat))} (h : Pu.look D = .good E cs gs) : E ≤ D.length ∧ 1 ≤ cs.length ∧ cs.length ≤ 20 ∧ gs.length ≤ 50 ∧ (∀ c ∈ cs, c.kind ≤ 2) ∧ ∀ g ∈ gs, GrOk E cs.length g := by
  have hs := look_small h
  rw [look_find] at h
  cases hf : Pu.find D with
  | none => simp [hf] at h
  | some q =>
    obtain ⟨E', z, y⟩ := q
    have hb := find_bounds hf
    simp only [hf] at h
    by_cases h1 : Pu.sum (Pu.piece D E' z) ≠ y
    · rw [if_pos h1] at h; cases h
    · rw [if_neg h1] at h
      cases hft : Pu.foot (Pu.piece D E' z) E' with
      | none => simp [hft] at h
      | some q2 =>
        obtain ⟨cs', gs'⟩ := q2
        simp only [hft, Pu.Seen.good.injEq] at h
        obtain ⟨rfl, rfl, rfl⟩ := h
        unfold Pu.foot at hft
        cases hc : Pu.cols (Pu.piece D E' z) with
        | none => simp [hc] at hft
        | some q3 =>
          obtain ⟨cs2, a⟩ := q3
          simp only [hc] at hft
          cases hg : Pu.grps (Pu.piece D E' z) E' cs2.length a with
          | none => simp [hg] at hft
          | some gs2 =>
            simp only [hg, Option.some.injEq, Prod.mk.injEq] at hft
            obtain ⟨rfl, rfl⟩ := hft
            refine ⟨hb.1, (Pu.cols_spec hc).1, hs.1, hs.2, ?_, grps_ok hg⟩
            unfold Pu.cols at hc
            cases hv : Pu.vi (Pu.piece D E' z) 0 with
            | none => simp [hv] at hc
            | some q4 =>
              obtain ⟨n, a0⟩ := q4
              simp only [hv] at hc
              by_cases h2 : n < 1 ∨ 20 < n
              · rw [if_pos h2] at hc; cases hc
              · rw [if_neg h2] at hc
                exact colsGo_kind _ _ _ _ _ (fun c hc => by cases hc) hc

set_option maxHeartbeats 4000000 in
set_option maxRecDepth 100000 in
theorem pagesOf_any (vc vr : Value) (av ar : Option Addr) (nv cv nr cr : Nat) (hvc : vc = .slice av nv cv) (hvr : vr = .slice ar nr cr) (E at' q : Nat) (ao : Option Addr) (n cap : Nat) (w : World) (hat : at' ≤ E) (hE : E ≤ n) (hn : n ≤ cap) (hcm : cap ≤ maxLen) :
    Calls Tryz.prog 35 #[.agg #[vc, vr, .int .i64 (E : Int)], .slice ao n cap, .agg #[.int .i64 (at' : Int), .int .i64 (q : Int)]] w fun e w' => e = .returned (.slice (pieceA ao at' E) (E - at') (E - at')) ∧ Below w.heap.size w w' := by
  subst hvc hvr
  have PO : Hid (∀ W : World, Calls Tryz.prog 49 #[.slice ao n cap, .int .i64 (at' : Int), .int .i64 (E : Int)] W fun e w' => e = .returned (.slice (pieceA ao at' E) (E - at') (E - at')) ∧ w' = W) := fun W => pieceOf_any ao n cap at' E W hat hE hn hcm
  obtain ⟨pa, hpa⟩ : ∃ pa, pa = pieceA ao at' E := ⟨_, rfl⟩
  obtain ⟨z, hz⟩ : ∃ z, z = E - at' := ⟨_, rfl⟩
  rw [← hpa, ← hz] at PO
  rw [← hpa, ← hz]
  clear hpa hz hat hE hn hcm
  go_enter Tryz.func35, Tryz.ntmps35
  go_wp2_with fail
  refine (PO.out _).mono ?_
  rintro e w' ⟨rfl, hw'⟩
  subst w'
  go_wp2
  go_ret
  exact ⟨rfl, ((Below.refl _ _).alloc (Nat.le_refl _) _).alloc (by simp) _⟩
end Go.Proofs.YtjobhlncllfdmaaGreat
