/- Contract of runs.Read and Runs. -/
import Derived.Test.YtjobhlncllfdmaaProH
import Derived.Deep.DeepCutAuto
namespace Go.Proofs.Ytjobhlncllfdmaa
open Go.RowKit

set_option maxHeartbeats 1000000 in
set_option maxRecDepth 100000 in
theorem read_bad (v : Value) (W C : Int) (w : World) (_hW : (Lit.int .i64 W).wf = true) (_hC : (Lit.int .i64 C).wf = true) (hbad : W < 0 ∨ 24 < W ∨ C < 0 ∨ 100000 < C) :
    Calls Try.prog 17 #[v, .int .i64 W, .int .i64 C] w fun e w' => e = .returned (.tuple #[.slice none 0 0, .int .i64 0, .int .i64 1]) ∧ w' = w := by
  by_cases h1 : W < 0
  · go_enter Try.func17, Try.ntmps17
    go_wp2
    go_ret3
    exact ⟨rfl, rfl⟩
  · by_cases h2 : 24 < W
    · go_enter Try.func17, Try.ntmps17
      go_wp2
      go_ret3
      exact ⟨rfl, rfl⟩
    · by_cases h3 : C < 0
      · go_enter Try.func17, Try.ntmps17
        go_wp2
        go_ret3
        exact ⟨rfl, rfl⟩
      · have h4 : 100000 < C := by omega
        go_enter Try.func17, Try.ntmps17
        go_wp2
        go_ret3
        exact ⟨rfl, rfl⟩

theorem ret3_mid {u v : Value} {x y : Int} (h : x = y) : Ending.returned (.tuple #[u, .int .i64 x, v]) = .returned (.tuple #[u, .int .i64 y, v]) := by rw [h]

theorem make_ints (C : Nat) (hC : C ≤ 100000) : ∃ cs : Array Value, cs.size = C ∧ ∀ w2 : World, (Instr.makeSlice 26 (.int .i64 0) (.int .i64 C)).run Try.prog w2 = .ok (.slice (some ⟨w2.heap.size, 0, none⟩) 0 C) (w2.alloc (.cells cs 3)) := by
  obtain ⟨i0, hi, hz0, hz1, hz2⟩ := info_parts Try.info3
  refine ⟨madeCells (Value.int .i64 0).cells (C * i0.size), ?_, fun w2 => ?_⟩
  · rw [size_madeCells, hz1, Nat.mul_one]
  · have := run_make (P := Try.prog) w2 26 3 i0 (.int .i64 0) Try.underlying26 hi hz0 .i64 .i64 0 C (Int.le_refl _) (by omega) (by rw [hz2]; omega) (by omega)
    simpa using this

/-- what Read answers -/
def ReadAns (B : Nat) (r : Option (List Nat × Nat)) (e : Ending) (w' : World) : Prop :=
  match r with
  | none => e = .returned (.tuple #[.slice none 0 0, .int .i64 0, .int .i64 5])
  | some (xs, a) => ∃ v, e = .returned (.tuple #[v, .int .i64 a, .int .i64 0]) ∧ w'.ownsRow B 3 1 v xs.length (ints xs)

theorem start_of {w w' : World} {R g lb W C cap : Nat} {ao : Option Addr} {D : List UInt8} {cs : Array Value} (hr : Rest w lb ao cap D) (hlb : lb < w.heap.size) (hcs : cs.size = C) (hC : C ≤ 100000)
    (hbel : Below w.heap.size w w') (hR : w.heap.size ≤ R) (hg : w.heap.size ≤ g)
    (h1 : w'.heap[R]? = some (.cells #[.slice ao D.length cap, .int .i64 W, .int .i64 C, .slice (some ⟨g, 0, none⟩) 0 C] 90 (0, 0))) (h2 : w'.heap[g]? = some (.cells cs 3 (0, 0))) :
    RSt w' R lb w.heap.size D W C 0 [] := by
  have ho : w'.ownsRow w.heap.size 3 1 (.slice (some ⟨g, 0, none⟩) 0 C) 0 [] := ⟨by simp, .inr ⟨g, C, cs, rfl, hg, h2, Nat.zero_le _, by unfold maxLen; omega, by omega, by simp⟩⟩
  have hb : Blk w' R (.slice ao (D.length - 0) cap) W C (.slice (some ⟨g, 0, none⟩) 0 C) := h1
  exact ⟨ao, cap, _, hb, Nat.zero_le _, by rw [List.drop_zero]; exact hr.kept (hbel.block lb hlb), ho, own_ne ho hb, hlb, hR⟩

section
variable (w : World) (a b c : Obj)
theorem three_a : (((w.alloc a).alloc b).alloc c).drew.heap[w.heap.size]? = some a := by
  show (((w.heap.push a).push b).push c)[w.heap.size]? = some a
  simp only [Array.getElem?_push, Array.size_push]
  rw [if_neg (by omega), if_neg (by omega), if_pos trivial]
theorem three_b : (((w.alloc a).alloc b).alloc c).drew.heap[w.heap.size + 1]? = some b := by
  show (((w.heap.push a).push b).push c)[w.heap.size + 1]? = some b
  simp only [Array.getElem?_push, Array.size_push]
  rw [if_neg (by omega), if_pos trivial]
theorem three_c : (((w.alloc a).alloc b).alloc c).drew.heap[w.heap.size + 1 + 1]? = some c := by
  show (((w.heap.push a).push b).push c)[w.heap.size + 1 + 1]? = some c
  simp only [Array.getElem?_push, Array.size_push]
  rw [if_pos trivial]
theorem three_below : Below w.heap.size w (((w.alloc a).alloc b).alloc c).drew :=
  ((((Below.refl _ _).alloc (Nat.le_refl _) a).alloc (by simp) b).alloc (by simp; omega) c).drew
end

/-- how many numbers the reader in block R has -/
def gath (w : World) (R : Nat) : Nat := slen ((w.cell? ⟨R, 3, none⟩).getD (.bool false))
theorem RSt.gath {w : World} {R lb B : Nat} {D : List UInt8} {W C a : Nat} {xs : List Nat} (h : RSt w R lb B D W C a xs) : Ytjobhlncllfdmaa.gath w R = xs.length := by
  obtain ⟨ao, cap, v, hb, ha, hr, ho, hv, hlb, hB⟩ := h
  obtain ⟨ao3, cap3, rfl⟩ := slen_of ho
  unfold Ytjobhlncllfdmaa.gath
  rw [hb.c3]; rfl

set_option maxHeartbeats 1000000 in
set_option maxRecDepth 100000 in
theorem read_any (ao : Option Addr) (cap lb W C : Nat) (D : List UInt8) (w : World) (hr : Rest w lb ao cap D) (hlb : lb < w.heap.size) (hW : W ≤ 24) (hC : C ≤ 100000) :
    Calls Try.prog 17 #[.slice ao D.length cap, .int .i64 W, .int .i64 C] w fun e w' => ReadAns w.heap.size (Pu.rs D W C C 0 []) e w' ∧ Below w.heap.size w w' := by
  obtain ⟨cs, hcs, hmk⟩ := make_ints C hC
  have Hr : Hid _ := hr
  have Hcs : Hid (cs.size = C) := hcs
  clear hr hcs
  go_enter Try.func17, Try.ntmps17
  go_upto_region 3 with fail
  go_cut [9] (fun r wr => ∃ R, r = .pointer (some ⟨R, 0, none⟩) ∧ RSt wr R lb w.heap.size D W C 0 [] ∧ Below w.heap.size w wr)
  case first =>
    go_region_with (go_at_call 39; refine (new_any _ _ _ _).mono ?_; rintro e w' ⟨rfl, rfl⟩)
    all_goals
      go_wp2_with fail
      go_meet
    all_goals
      case rel =>
        first | exact ⟨_, rfl, start_of Hr.out hlb Hcs.out hC (three_below w _ _ _) (by omega) (by omega) (three_a w _ _ _) (three_b w _ _ _), three_below w _ _ _⟩ | exact ⟨_, rfl, start_of Hr.out hlb Hcs.out hC (three_below w _ _ _) (by omega) (by omega) (three_a w _ _ _) (three_c w _ _ _), three_below w _ _ _⟩ | exact ⟨_, rfl, start_of Hr.out hlb Hcs.out hC (three_below w _ _ _) (by omega) (by omega) (three_b w _ _ _) (three_a w _ _ _), three_below w _ _ _⟩ | exact ⟨_, rfl, start_of Hr.out hlb Hcs.out hC (three_below w _ _ _) (by omega) (by omega) (three_b w _ _ _) (three_c w _ _ _), three_below w _ _ _⟩ | exact ⟨_, rfl, start_of Hr.out hlb Hcs.out hC (three_below w _ _ _) (by omega) (by omega) (three_c w _ _ _) (three_a w _ _ _), three_below w _ _ _⟩ | exact ⟨_, rfl, start_of Hr.out hlb Hcs.out hC (three_below w _ _ _) (by omega) (by omega) (three_c w _ _ _) (three_b w _ _ _), three_below w _ _ _⟩
  case rest =>
    obtain ⟨R, rfl, hS0, hbel0⟩ := hcut
    go_wp2
    go_loopw [31] (fun _ wr => ∃ (a f : Nat) (xs : List Nat), RSt wr R lb w.heap.size D W C a xs ∧ xs.length ≤ C ∧ C ≤ xs.length + f ∧ Hid (Pu.rs D W C C 0 [] = Pu.rs D W C f a xs) ∧ Below w.heap.size w wr)
      (fun _ wr => C - gath wr R)
    case atStart => exact ⟨0, C, [], hS0, Nat.zero_le _, by simp, rfl, hbel0⟩
    case round =>
      obtain ⟨a, f, xs, hS, hxl, hf, Hrs, hbel⟩ := hrel
      obtain ⟨ao2, cap2, v, hb, ha, hr, ho, hv, _, hB⟩ := hS
      have hS : RSt wr R lb w.heap.size D W C a xs := ⟨ao2, cap2, v, hb, ha, hr, ho, hv, hlb, hB⟩
      have HS : Hid _ := hS
      have hga := hS.gath
      have HG : Hid (gath wr R = xs.length) := hga
      obtain ⟨ao3, cap3, rfl⟩ := slen_of ho
      have M0 : Hid _ := hb.c0
      have M2 : Hid _ := hb.c2
      have M3 : Hid _ := hb.c3
      have c3 := hb.c3
      clear hga hS hr hb
      by_cases hlt : xs.length < C
      · have HR : Hid (∀ m : Nat, Calls Try.prog 41 #[.pointer (some ⟨R, 0, none⟩)] (wr.drewN m) fun e w' => StepAns R lb w.heap.size D W C (Pu.step D W C a xs) e w' ∧ Below w.heap.size (wr.drewN m) w') :=
          fun m => run_any R lb w.heap.size D W C a xs (wr.drewN m) HS.out hbel.size hW hC hlt
        cases hst : Pu.step D W C a xs with
        | none =>
          rw [hst] at HR
          have Hrn : Hid (Pu.rs D W C C 0 [] = none) := Hrs.out.trans (rs_no hlt hst)
          clear hst
          go_wp2_with fail
          refine (missing_any R C ao3 xs.length cap3 _ (by exact M2.out) (by exact M3.out) hC hxl).mono ?_
          rintro e w' ⟨rfl, q, rfl⟩
          go_wp2_with fail
          refine (HR.out q).mono ?_
          rintro e w' ⟨rfl, hb1⟩
          go_wp2
          go_ret3
          exact ⟨by rw [Hrn.out]; rfl, (below_drewN hbel q).trans hb1⟩
        | some pr =>
          obtain ⟨a', o⟩ := pr
          have hsl := Pu.step_length hlt hst
          rw [hst] at HR
          have Hrn : Hid (Pu.rs D W C C 0 [] = Pu.rs D W C (f - 1) a' o) := Hrs.out.trans (rs_yes hlt hf hst)
          clear hst
          go_wp2_with fail
          refine (missing_any R C ao3 xs.length cap3 _ (by exact M2.out) (by exact M3.out) hC hxl).mono ?_
          rintro e w' ⟨rfl, q, rfl⟩
          go_wp2_with fail
          refine (HR.out q).mono ?_
          rintro e w' ⟨⟨rfl, hS2⟩, hb1⟩
          have HG2 : Hid (gath w' R = o.length) := hS2.gath
          have HS2 : Hid _ := hS2
          clear hS2
          go_wp2
          go_roundw
          case rel => exact ⟨a', f - 1, o, HS2.out, by omega, by omega, Hrn, (below_drewN hbel q).trans hb1⟩
          case measure => rw [HG2.out, HG.out]; omega
      · have Hrn : Hid (Pu.rs D W C C 0 [] = some (xs, a)) := Hrs.out.trans (rs_done hlt)
        have HM : Hid (C - xs.length = 0) := by unfold Hid; omega
        go_wp2_with fail
        refine (missing_any R C ao3 xs.length cap3 _ (by exact M2.out) (by exact M3.out) hC hxl).mono ?_
        rw [HM.out]
        rintro e w3 ⟨rfl, q, hw⟩
        have Hw : Hid (w3 = wr.drewN q) := hw
        have c33 : w3.cell? ⟨R, 3, none⟩ = some (.slice ao3 xs.length cap3) := by rw [hw]; exact M3.out
        have M03 : Hid (w3.cell? ⟨R, 0, none⟩ = some (.slice ao2 (D.length - a) cap2)) := by rw [hw]; exact M0.out
        have Hho : Hid (w3.ownsRow w.heap.size 3 1 (.slice ao3 xs.length cap3) xs.length (ints xs)) := by rw [hw]; exact ho
        have hbel3 : Below w.heap.size w w3 := by rw [hw]; exact below_drewN hbel q
        have hDm : D.length ≤ 9223372036854775807 := by have := Hr.out.1; have := Hr.out.2.1; unfold maxLen at this; omega
        clear hw ho c3
        go_wp2
        go_quiet ((go_at_call 42; exact Calls.quiet_of_same (left_any R 0 ao2 (D.length - a) cap2 _ (by exact M03.out))))
        go_wp2
        go_ret3
        refine ⟨?_, below_drewN hbel3 _⟩
        rw [Hrn.out]
        refine ⟨_, ?_, ownsRow_drewN Hho.out _⟩
        exact ret3_mid (by omega)

end Go.Proofs.Ytjobhlncllfdmaa
