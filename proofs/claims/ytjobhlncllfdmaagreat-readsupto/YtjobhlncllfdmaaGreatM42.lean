/- IsTable of the document's table. -/
import Derived.Test.YtjobhlncllfdmaaGreatM41
import Derived.Deep.DeepCutAuto
import Derived.Deep.RegionHeld3
namespace Go.Proofs.YtjobhlncllfdmaaGreat
open Go.RowKit

/-- the table in a box, and the table -/
def BoxT (w : World) (T2 gc gt gl : Nat) (W : World) : Prop :=
  W.heap[T2]? = some (.cells #[.slice (some ⟨gc, 0, none⟩) 1 1, .slice (some ⟨gt, 0, none⟩) 1 1] 36 (0, 0)) ∧ ExT W gc gt gl ∧ Below w.heap.size w W
theorem BoxT.below {w W W' : World} {T2 gc gt gl : Nat} (h : BoxT w T2 gc gt gl W) (hb : Below W.heap.size W W') : BoxT w T2 gc gt gl W' := by
  obtain ⟨h1, h2, h3⟩ := h
  exact ⟨by rw [hb.block _ (Array.getElem?_eq_some_iff.1 h1).1]; exact h1, h2.below hb, h3.trans (hb.mono h3.size)⟩
theorem BoxT.cells {w W : World} {T2 gc gt gl : Nat} (h : BoxT w T2 gc gt gl W) : W.cell? ⟨T2, 0, none⟩ = some (.slice (some ⟨gc, 0, none⟩) 1 1) ∧ W.cell? ⟨T2, 1, none⟩ = some (.slice (some ⟨gt, 0, none⟩) 1 1) := by
  refine ⟨?_, ?_⟩ <;> (rw [cell_of_row _ _ _ _ _ _ h.1]; rfl)

def CopyC (W : World) (T7 : Nat) : Prop := W.heap[T7]? = some (.cells #[.string ⟨#[97]⟩, .int .i64 1, .bool false] 54 (0, 0))
theorem CopyC.below {W W' : World} {T7 : Nat} (h : CopyC W T7) (hb : Below W.heap.size W W') : CopyC W' T7 := by
  unfold CopyC; rw [hb.block _ (Array.getElem?_eq_some_iff.1 h).1]; exact h
theorem CopyC.cells {W : World} {T7 : Nat} (h : CopyC W T7) : W.cell? ⟨T7, 0, none⟩ = some (.string ⟨#[97]⟩) ∧ W.cell? ⟨T7, 1, none⟩ = some (.int .i64 1) ∧ W.cell? ⟨T7, 2, none⟩ = some (.bool false) := by
  refine ⟨?_, ?_, ?_⟩ <;> (rw [cell_of_row _ _ _ _ _ _ h]; rfl)

set_option maxHeartbeats 4000000 in
set_option maxRecDepth 100000 in
theorem isTable_ex (gc gt gl : Nat) (w : World) (h : ExT w gc gt gl) :
    Calls Tryz.prog 11 #[.agg #[.slice (some ⟨gc, 0, none⟩) 1 1, .slice (some ⟨gt, 0, none⟩) 1 1], .int .i64 10] w fun e w' => e = .returned (.bool true) ∧ Below w.heap.size w w' := by
  have HX0 : Hid (BoxT w w.heap.size gc gt gl (w.alloc (.cells #[.slice (some ⟨gc, 0, none⟩) 1 1, .slice (some ⟨gt, 0, none⟩) 1 1] 36))) := ⟨heap_alloc_new w _, h.below (bbox w _), bbox w _⟩
  obtain ⟨a1, a2, a3, a4, a5, a6, a7, a8, a9, a10⟩ := (h.below (bbox w (.cells #[.slice (some ⟨gc, 0, none⟩) 1 1, .slice (some ⟨gt, 0, none⟩) 1 1] 36))).cells
  clear h
  go_enter Tryz.func11, Tryz.ntmps11
  go_wp2_with fail
  refine (groups_ex _).mono ?_
  rintro e w' ⟨rfl, hw'⟩
  subst w'
  go_wp2
  clear a1 a2 a3 a4 a5 a6 a7 a8 a9 a10
  go_loopw [6] (fun i wr => ∃ k : Nat, k ≤ 1 ∧ i = .int .i64 k ∧ Hid (BoxT w w.heap.size gc gt gl wr)) (fun i _ => 1 - (intOf i).toNat)
  case atStart => exact ⟨0, Nat.zero_le _, rfl, HX0⟩
  case round =>
    clear HX0
    obtain ⟨k, hk, rfl, HX⟩ := hrel
    obtain ⟨wo, hwo⟩ : ∃ wo : World, wo = wr := ⟨_, rfl⟩
    subst hwo
    obtain ⟨t0, t1⟩ := HX.out.cells
    obtain ⟨a1, a2, a3, a4, a5, a6, a7, a8, a9, a10⟩ := HX.out.2.1.cells
    by_cases hk2 : k < 1
    · obtain rfl : k = 0 := by omega
      have NM : Hid (∀ m : Nat, Calls Tryz.prog 25 #[.slice (some ⟨gc, 0, none⟩) 0 1, .string ⟨#[97]⟩] ((wo.alloc (.cells #[.string ⟨#[97]⟩, .int .i64 1, .bool false] 54)).drewN m) fun e w' => e = .returned (.bool false) ∧ w' = (wo.alloc (.cells #[.string ⟨#[97]⟩, .int .i64 1, .bool false] 54)).drewN m) := fun m => by
        have hx := (HX.out.2.1.below (bbox wo (.cells #[.string ⟨#[97]⟩, .int .i64 1, .bool false] 54))).1
        exact name_any 0 (some ⟨gc, 0, none⟩) 1 [] ⟨#[97]⟩ _ ⟨rfl, .inr ⟨gc, 1, _, rfl, Nat.zero_le _, hx, by decide, by decide, rfl, rfl⟩⟩ (by decide)
      have HC : Hid (BoxT w w.heap.size gc gt gl (wo.alloc (.cells #[.string ⟨#[97]⟩, .int .i64 1, .bool false] 54)) ∧ CopyC (wo.alloc (.cells #[.string ⟨#[97]⟩, .int .i64 1, .bool false] 54)) wo.heap.size) := ⟨HX.out.below (bbox _ _), heap_alloc_new wo _⟩
      obtain ⟨s0, s1⟩ := HC.out.1.cells
      go_wp2
      go_quiet ((go_at_call 25; exact Calls.quiet_of_same (NM.out _)))
      obtain ⟨w5, hw5⟩ : ∃ w5, w5 = (wo.alloc (.cells #[.string ⟨#[97]⟩, .int .i64 1, .bool false] 54)).drewN nq := ⟨_, rfl⟩
      rw [← hw5]
      have H5 : Hid (BoxT w w.heap.size gc gt gl w5 ∧ CopyC w5 wo.heap.size) := by rw [hw5]; exact ⟨HC.out.1.below (below_drewN (Below.refl _ _) nq), HC.out.2.below (below_drewN (Below.refl _ _) nq)⟩
      clear hw5 HC NM s0 s1 t0 t1 a1 a2 a3 a4 a5 a6 a7 a8 a9 a10 HX
      obtain ⟨T7, hT7⟩ : ∃ T7, T7 = wo.heap.size := ⟨_, rfl⟩
      rw [← hT7] at H5 ⊢
      clear hT7
      obtain ⟨t0, t1⟩ := H5.out.1.cells
      obtain ⟨d0, d1, d2⟩ := H5.out.2.cells
      obtain ⟨a1, a2, a3, a4, a5, a6, a7, a8, a9, a10⟩ := H5.out.1.2.1.cells
      go_wp2
      clear t0 t1 d0 d1 d2 a1 a2 a3 a4 a5 a6 a7 a8 a9 a10
      go_loopw [9] (fun i wr => ∃ k : Nat, k ≤ 2 ∧ i = .int .i64 k ∧ Hid (BoxT w w.heap.size gc gt gl wr ∧ CopyC wr T7)) (fun i _ => 2 - (intOf i).toNat)
      case atStart => exact ⟨0, Nat.zero_le _, rfl, H5⟩
      case round =>
        clear H5
        obtain ⟨k, hk, rfl, HX⟩ := hrel
        obtain ⟨t0, t1⟩ := HX.out.1.cells
        obtain ⟨d0, d1, d2⟩ := HX.out.2.cells
        obtain ⟨a1, a2, a3, a4, a5, a6, a7, a8, a9, a10⟩ := HX.out.1.2.1.cells
        have SS : Hid (∀ W : World, Below wr.heap.size wr W → Below wr.heap.size wr W ∧ W.cell? ⟨w.heap.size, 1, none⟩ = some (.slice (some ⟨gt, 0, none⟩) 1 1) ∧ W.cell? ⟨T7, 0, none⟩ = some (.string ⟨#[97]⟩) ∧ W.cell? ⟨T7, 1, none⟩ = some (.int .i64 1) ∧ W.cell? ⟨T7, 2, none⟩ = some (.bool false) ∧ W.cell? ⟨gt, 0, none⟩ = some (.slice (some ⟨gl, 0, none⟩) 2 2) ∧ W.cell? ⟨gl, 0, none⟩ = some (.bool false) ∧ W.cell? ⟨gl, 1, none⟩ = some (.int .i64 1) ∧ W.cell? ⟨gl, 2, none⟩ = some (.string ⟨#[]⟩) ∧ W.cell? ⟨gl, 3, none⟩ = some (.bool false) ∧ W.cell? ⟨gl, 4, none⟩ = some (.int .i64 2) ∧ W.cell? ⟨gl, 5, none⟩ = some (.string ⟨#[]⟩)) := fun W hW => by
          obtain ⟨_, t1⟩ := (HX.out.1.below hW).cells
          obtain ⟨d0, d1, d2⟩ := (HX.out.2.below hW).cells
          obtain ⟨a1, a2, a3, a4, a5, a6, a7, a8, a9, a10⟩ := (HX.out.1.below hW).2.1.cells
          exact ⟨hW, t1, d0, d1, d2, a4, a5, a6, a7, a8, a9, a10⟩
        have RG : Hid (∀ (n : Int) (W : World), Calls Tryz.prog 26 #[.agg #[.string ⟨#[97]⟩, .int .i64 1, .bool false], .agg #[.bool false, .int .i64 n, .string ⟨#[]⟩]] W fun e w' => e = .returned (.bool true) ∧ Below W.heap.size W w') := fun n W => right_ex n W
        by_cases hk2 : k < 2
        · rcases (show k = 0 ∨ k = 1 by omega) with rfl | rfl
          all_goals
            go_upto_region 16 with fail
            go_cut [10] from 95 to 111 (fun s10 wx => s10 = .bool true ∧ Hid (Below wr.heap.size wr wx))
            case first =>
              go_region_held3 (fun W => Below wr.heap.size wr W ∧ W.cell? ⟨w.heap.size, 1, none⟩ = some (.slice (some ⟨gt, 0, none⟩) 1 1) ∧ W.cell? ⟨T7, 0, none⟩ = some (.string ⟨#[97]⟩) ∧ W.cell? ⟨T7, 1, none⟩ = some (.int .i64 1) ∧ W.cell? ⟨T7, 2, none⟩ = some (.bool false) ∧ W.cell? ⟨gt, 0, none⟩ = some (.slice (some ⟨gl, 0, none⟩) 2 2) ∧ W.cell? ⟨gl, 0, none⟩ = some (.bool false) ∧ W.cell? ⟨gl, 1, none⟩ = some (.int .i64 1) ∧ W.cell? ⟨gl, 2, none⟩ = some (.string ⟨#[]⟩) ∧ W.cell? ⟨gl, 3, none⟩ = some (.bool false) ∧ W.cell? ⟨gl, 4, none⟩ = some (.int .i64 2) ∧ W.cell? ⟨gl, 5, none⟩ = some (.string ⟨#[]⟩))
                ((with_reducible refine SS.out _ ?_; repeat (first | with_reducible exact Below.refl _ _ | with_reducible refine bself ?_ hbc | with_reducible refine Below.drew ?_)))
                ((go_at_call 26; refine (RG.out _ _).mono ?_; rintro e w' ⟨rfl, hbc⟩))
              all_goals (go_wp2_with fail; go_meet; exact ⟨rfl, bself (Below.refl _ _).drew hbc⟩)
            case rest =>
              obtain ⟨rfl, HBC⟩ := hcut
              have HX2 : Hid (BoxT w w.heap.size gc gt gl wc ∧ CopyC wc T7) := ⟨HX.out.1.below HBC.out, HX.out.2.below HBC.out⟩
              clear HX SS RG HBC t0 t1 d0 d1 d2 a1 a2 a3 a4 a5 a6 a7 a8 a9 a10
              go_wp2
              go_roundw
              case rel => first | exact ⟨1, by omega, by go_num, HX2⟩ | exact ⟨2, by omega, by go_num, HX2⟩
              case measure => simp [intOf]
        · obtain rfl : k = 2 := by omega
          go_wp2
          go_roundw
          case rel => exact ⟨1, by omega, by go_num, HX.out.1⟩
          case measure => simp [intOf]
    · obtain rfl : k = 1 := by omega
      go_wp2
      go_ret
      exact ⟨rfl, HX.out.2.2⟩
end Go.Proofs.YtjobhlncllfdmaaGreat
