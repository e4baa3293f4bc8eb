/- Contract of runs.Read and Runs. -/
import Derived.Test.YtjobhlncllfdmaaGreatM27
import Derived.Test.YtjobhlncllfdmaaGreatM11
import Derived.Deep.DeepCutAuto
namespace Go.Proofs.YtjobhlncllfdmaaGreat
open Go.RowKit

set_option maxHeartbeats 1000000 in
set_option maxRecDepth 100000 in
theorem read_bad (v : Value) (W C : Int) (w : World) (_hW : (Lit.int .i64 W).wf = true) (_hC : (Lit.int .i64 C).wf = true) (hbad : W < 0 ∨ 24 < W ∨ C < 0 ∨ 100000 < C) :
    Calls Tryz.prog 105 #[v, .int .i64 W, .int .i64 C] w fun e w' => e = .returned (.tuple #[.slice none 0 0, .int .i64 0, .int .i64 1]) ∧ w' = w := by
  by_cases h1 : W < 0
  · go_enter Tryz.func105, Tryz.ntmps105
    go_wp2
    go_ret3
    exact ⟨rfl, rfl⟩
  · by_cases h2 : 24 < W
    · go_enter Tryz.func105, Tryz.ntmps105
      go_wp2
      go_ret3
      exact ⟨rfl, rfl⟩
    · by_cases h3 : C < 0
      · go_enter Tryz.func105, Tryz.ntmps105
        go_wp2
        go_ret3
        exact ⟨rfl, rfl⟩
      · have h4 : 100000 < C := by omega
        go_enter Tryz.func105, Tryz.ntmps105
        go_wp2
        go_ret3
        exact ⟨rfl, rfl⟩

theorem ret3_mid {u v : Value} {x y : Int} (h : x = y) : Ending.returned (.tuple #[u, .int .i64 x, v]) = .returned (.tuple #[u, .int .i64 y, v]) := by rw [h]

theorem make_ints (C : Nat) (hC : C ≤ 100000) : ∃ cs : Array Value, cs.size = C ∧ ∀ w2 : World, (Instr.makeSlice 27 (.int .i64 0) (.int .i64 C)).run Tryz.prog w2 = .ok (.slice (some ⟨w2.heap.size, 0, none⟩) 0 C) (w2.alloc (.cells cs 3)) := by
  obtain ⟨i0, hi, hz0, hz1, hz2⟩ := info_parts Tryz.info3
  refine ⟨madeCells (Value.int .i64 0).cells (C * i0.size), ?_, fun w2 => ?_⟩
  · rw [size_madeCells, hz1, Nat.mul_one]
  · have := run_make (P := Tryz.prog) w2 27 3 i0 (.int .i64 0) Tryz.underlying27 hi hz0 .i64 .i64 0 C (Int.le_refl _) (by omega) (by rw [hz2]; omega) (by omega)
    simpa using this

/-- what Read answers -/
def ReadAns (B : Nat) (r : Option (List Nat × Nat)) (e : Ending) (w' : World) : Prop :=
  match r with
  | none => e = .returned (.tuple #[.slice none 0 0, .int .i64 0, .int .i64 5])
  | some (xs, a) => ∃ v, e = .returned (.tuple #[v, .int .i64 a, .int .i64 0]) ∧ w'.ownsRow B 3 1 v xs.length (ints xs)

theorem start_of {w w' : World} {R g lb W C cap : Nat} {ao : Option Addr} {D : List UInt8} {cs : Array Value} (hr : Rest w lb ao cap D) (hlb : lb < w.heap.size) (hcs : cs.size = C) (hC : C ≤ 100000)
    (hbel : Below w.heap.size w w') (hR : w.heap.size ≤ R) (hg : w.heap.size ≤ g)
    (h1 : w'.heap[R]? = some (.cells #[.slice ao D.length cap, .int .i64 W, .int .i64 C, .slice (some ⟨g, 0, none⟩) 0 C] 207 (0, 0))) (h2 : w'.heap[g]? = some (.cells cs 3 (0, 0))) :
    RSt w' R lb w.heap.size D W C 0 [] := by
  have ho : w'.ownsRow w.heap.size 3 1 (.slice (some ⟨g, 0, none⟩) 0 C) 0 [] := ⟨by simp, .inr ⟨g, C, cs, rfl, hg, h2, Nat.zero_le _, by unfold maxLen; omega, by omega, by simp⟩⟩
  have hb : Blk w' R (.slice ao (D.length - 0) cap) W C (.slice (some ⟨g, 0, none⟩) 0 C) := h1
  exact ⟨ao, cap, _, hb, Nat.zero_le _, by rw [List.drop_zero]; exact hr.kept (hbel.block lb hlb), ho, own_ne ho hb, hlb, hR⟩

section
variable (w : World) (a b c : Obj)
theorem three_a : (((w.alloc a).alloc b).alloc c).drew.heap[w.heap.size]? = some a := by
  show (((w.heap.push a).push b).push c)[w.heap.size]? = some a
  simp only [Array.getElem?_push, Array.size_push]
  rw [if_neg (by omega), if_neg (by omega), if_pos trivial]
theorem three_b : (((w.alloc a).alloc b).alloc c).drew.heap[w.heap.size + 1]? = some b := by
  show (((w.heap.push a).push b).push c)[w.heap.size + 1]? = some b
  simp only [Array.getElem?_push, Array.size_push]
  rw [if_neg (by omega), if_pos trivial]
theorem three_c : (((w.alloc a).alloc b).alloc c).drew.heap[w.heap.size + 1 + 1]? = some c := by
  show (((w.heap.push a).push b).push c)[w.heap.size + 1 + 1]? = some c
  simp only [Array.getElem?_push, Array.size_push]
  rw [if_pos trivial]
theorem three_below : Below w.heap.size w (((w.alloc a).alloc b).alloc c).drew :=
  ((((Below.refl _ _).alloc (Nat.le_refl _) a).alloc (by simp) b).alloc (by simp; omega) c).drew
end

/-- how many numbers the reader in block R has -/
def gath (w : World) (R : Nat) : Nat := slen ((w.cell? ⟨R, 3, none⟩).getD (.bool false))
theorem RSt.gath {w : World} {R lb B : Nat} {D : List UInt8} {W C a : Nat} {xs : List Nat} (h : RSt w R lb B D W C a xs) : YtjobhlncllfdmaaGreat.gath w R = xs.length := by
  obtain ⟨ao, cap, v, hb, ha, hr, ho, hv, hlb, hB⟩ := h
  obtain ⟨ao3, cap3, rfl⟩ := slen_of ho
  unfold YtjobhlncllfdmaaGreat.gath
  rw [hb.c3]; rfl

set_option maxHeartbeats 1000000 in
set_option maxRecDepth 100000 in
theorem read_any (ao : Option Addr) (cap lb W C : Nat) (D : List UInt8) (w : World) (hr : Rest w lb ao cap D) (hlb : lb < w.heap.size) (hW : W ≤ 24) (hC : C ≤ 100000) :
    Calls Tryz.prog 105 #[.slice ao D.length cap, .int .i64 W, .int .i64 C] w fun e w' => ReadAns w.heap.size (Pu.rs D W C C 0 []) e w' ∧ Below w.heap.size w w' := by
  obtain ⟨cs, hcs, hmk⟩ := make_ints C hC
  have Hr : Hid _ := hr
  have Hcs : Hid (cs.size = C) := hcs
  clear hr hcs
  go_enter Tryz.func105, Tryz.ntmps105
  go_upto_region 3 with fail
  go_cut [9] (fun r wr => ∃ R, r = .pointer (some ⟨R, 0, none⟩) ∧ RSt wr R lb w.heap.size D W C 0 [] ∧ Below w.heap.size w wr)
  case first =>
    go_region_with (go_at_call 47; refine (new_any _ _ _ _).mono ?_; rintro e w' ⟨rfl, rfl⟩)
    all_goals
      go_wp2_with fail
      go_meet
    all_goals
      case rel =>
        first | exact ⟨_, rfl, start_of Hr.out hlb Hcs.out hC (three_below w _ _ _) (by omega) (by omega) (three_a w _ _ _) (three_b w _ _ _), three_below w _ _ _⟩ | exact ⟨_, rfl, start_of Hr.out hlb Hcs.out hC (three_below w _ _ _) (by omega) (by omega) (three_a w _ _ _) (three_c w _ _ _), three_below w _ _ _⟩ | exact ⟨_, rfl, start_of Hr.out hlb Hcs.out hC (three_below w _ _ _) (by omega) (by omega) (three_b w _ _ _) (three_a w _ _ _), three_below w _ _ _⟩ | exact ⟨_, rfl, start_of Hr.out hlb Hcs.out hC (three_below w _ _ _) (by omega) (by omega) (three_b w _ _ _) (three_c w _ _ _), three_below w _ _ _⟩ | exact ⟨_, rfl, start_of Hr.out hlb Hcs.out hC (three_below w _ _ _) (by omega) (by omega) (three_c w _ _ _) (three_a w _ _ _), three_below w _ _ _⟩ | exact ⟨_, rfl, start_of Hr.out hlb Hcs.out hC (three_below w _ _ _) (by omega) (by omega) (three_c w _ _ _) (three_b w _ _ _), three_below w _ _ _⟩
  case rest =>
    obtain ⟨R, rfl, hS0, hbel0⟩ := hcut
    go_wp2
    go_loopw [31] (fun _ wr => ∃ (a f : Nat) (xs : List Nat), RSt wr R lb w.heap.size D W C a xs ∧ xs.length ≤ C ∧ C ≤ xs.length + f ∧ Hid (Pu.rs D W C C 0 [] = Pu.rs D W C f a xs) ∧ Below w.heap.size w wr)
      (fun _ wr => C - gath wr R)
    case atStart => exact ⟨0, C, [], hS0, Nat.zero_le _, by simp, rfl, hbel0⟩
    case round =>
      obtain ⟨a, f, xs, hS, hxl, hf, Hrs, hbel⟩ := hrel
      obtain ⟨ao2, cap2, v, hb, ha, hr, ho, hv, _, hB⟩ := hS
      have hS : RSt wr R lb w.heap.size D W C a xs := ⟨ao2, cap2, v, hb, ha, hr, ho, hv, hlb, hB⟩
      have HS : Hid _ := hS
      have hga := hS.gath
      have HG : Hid (gath wr R = xs.length) := hga
      obtain ⟨ao3, cap3, rfl⟩ := slen_of ho
      have M0 : Hid _ := hb.c0
      have M2 : Hid _ := hb.c2
      have M3 : Hid _ := hb.c3
      have c3 := hb.c3
      clear hga hS hr hb
      by_cases hlt : xs.length < C
      · have HR : Hid (∀ m : Nat, Calls Tryz.prog 111 #[.pointer (some ⟨R, 0, none⟩)] (wr.drewN m) fun e w' => StepAns R lb w.heap.size D W C (Pu.step D W C a xs) e w' ∧ Below w.heap.size (wr.drewN m) w') :=
          fun m => run_any R lb w.heap.size D W C a xs (wr.drewN m) HS.out hbel.size hW hC hlt
        cases hst : Pu.step D W C a xs with
        | none =>
          rw [hst] at HR
          have Hrn : Hid (Pu.rs D W C C 0 [] = none) := Hrs.out.trans (rs_no hlt hst)
          clear hst
          go_wp2_with fail
          refine (missing_any R C ao3 xs.length cap3 _ (by exact M2.out) (by exact M3.out) hC hxl).mono ?_
          rintro e w' ⟨rfl, q, rfl⟩
          go_wp2_with fail
          refine (HR.out q).mono ?_
          rintro e w' ⟨rfl, hb1⟩
          go_wp2
          go_ret3
          exact ⟨by rw [Hrn.out]; rfl, (below_drewN hbel q).trans hb1⟩
        | some pr =>
          obtain ⟨a', o⟩ := pr
          have hsl := Pu.step_length hlt hst
          rw [hst] at HR
          have Hrn : Hid (Pu.rs D W C C 0 [] = Pu.rs D W C (f - 1) a' o) := Hrs.out.trans (rs_yes hlt hf hst)
          clear hst
          go_wp2_with fail
          refine (missing_any R C ao3 xs.length cap3 _ (by exact M2.out) (by exact M3.out) hC hxl).mono ?_
          rintro e w' ⟨rfl, q, rfl⟩
          go_wp2_with fail
          refine (HR.out q).mono ?_
          rintro e w' ⟨⟨rfl, hS2⟩, hb1⟩
          have HG2 : Hid (gath w' R = o.length) := hS2.gath
          have HS2 : Hid _ := hS2
          clear hS2
          go_wp2
          go_roundw
          case rel => exact ⟨a', f - 1, o, HS2.out, by omega, by omega, Hrn, (below_drewN hbel q).trans hb1⟩
          case measure => rw [HG2.out, HG.out]; omega
      · have Hrn : Hid (Pu.rs D W C C 0 [] = some (xs, a)) := Hrs.out.trans (rs_done hlt)
        have HM : Hid (C - xs.length = 0) := by unfold Hid; omega
        go_wp2_with fail
        refine (missing_any R C ao3 xs.length cap3 _ (by exact M2.out) (by exact M3.out) hC hxl).mono ?_
        rw [HM.out]
        rintro e w3 ⟨rfl, q, hw⟩
        have Hw : Hid (w3 = wr.drewN q) := hw
        have c33 : w3.cell? ⟨R, 3, none⟩ = some (.slice ao3 xs.length cap3) := by rw [hw]; exact M3.out
        have M03 : Hid (w3.cell? ⟨R, 0, none⟩ = some (.slice ao2 (D.length - a) cap2)) := by rw [hw]; exact M0.out
        have Hho : Hid (w3.ownsRow w.heap.size 3 1 (.slice ao3 xs.length cap3) xs.length (ints xs)) := by rw [hw]; exact ho
        have hbel3 : Below w.heap.size w w3 := by rw [hw]; exact below_drewN hbel q
        have hDm : D.length ≤ 9223372036854775807 := by have := Hr.out.1; have := Hr.out.2.1; unfold maxLen at this; omega
        clear hw ho c3
        go_wp2
        go_quiet ((go_at_call 63; exact Calls.quiet_of_same (left_any R 0 ao2 (D.length - a) cap2 _ (by exact M03.out))))
        go_wp2
        go_ret3
        refine ⟨?_, below_drewN hbel3 _⟩
        rw [Hrn.out]
        refine ⟨_, ?_, ownsRow_drewN Hho.out _⟩
        exact ret3_mid (by omega)

end Go.Proofs.YtjobhlncllfdmaaGreat

/- The program's unpacker: elements; pack.Unpack. -/
namespace Go.Proofs.YtjobhlncllfdmaaGreat
open Go.RowKit

/-- what elements answers -/
def ElAns (R lb B : Nat) (D : List UInt8) (n : Nat) (r : Option (List UInt8)) (e : Ending) (w' : World) : Prop :=
  match r with
  | none => e = .returned (.bool false)
  | some o => e = .returned (.bool true) ∧ ∃ a, USt w' R lb B D n a o

/-- how much is left to the unpacker in block R -/
def uleft (w : World) (R : Nat) : Nat := slen ((w.cell? ⟨R, 0, none⟩).getD (.bool false))
theorem USt.left {w : World} {R lb B : Nat} {D : List UInt8} {n a : Nat} {o : List UInt8} (h : USt w R lb B D n a o) : uleft w R = D.length - a := by
  obtain ⟨ao, cap, v, hb, _⟩ := h
  unfold uleft; rw [hb.c0]; rfl
theorem USt.le {w : World} {R lb B : Nat} {D : List UInt8} {n a : Nat} {o : List UInt8} (h : USt w R lb B D n a o) : a ≤ D.length := by
  obtain ⟨ao, cap, v, hb, ha, _⟩ := h; exact ha

set_option maxHeartbeats 4000000 in
set_option maxRecDepth 100000 in
theorem elements_any (R lb B : Nat) (D : List UInt8) (n a0 : Nat) (w : World) (h : USt w R lb B D n a0 []) (hBs : B ≤ w.heap.size) (hn : n ≤ 1048576) :
    Calls Tryz.prog 93 #[.pointer (some ⟨R, 0, none⟩)] w fun e w' => ElAns R lb B D n (Pu.un D n D.length a0 []) e w' ∧ Below B w w' := by
  have HS0 : Hid (USt w R lb B D n a0 []) := h
  clear h
  go_enter Tryz.func93, Tryz.ntmps93
  go_wp2
  go_loopw [] (fun wr => ∃ (a f : Nat) (o : List UInt8), o.length ≤ n ∧ D.length ≤ a + f ∧ Hid (USt wr R lb B D n a o) ∧ Hid (Pu.un D n D.length a0 [] = Pu.un D n f a o) ∧ Below B w wr) (fun wr => uleft wr R)
  case atStart => exact ⟨a0, D.length, [], Nat.zero_le _, by omega, HS0, rfl, Below.refl _ _⟩
  case round =>
    clear HS0
    obtain ⟨a, f, o, hol, hf, HS, HU, hbel⟩ := hrel
    have hal := HS.out.le
    have HL : Hid (uleft wr R = D.length - a) := HS.out.left
    obtain ⟨ao, cap, v, hb, ha, hr, hown, hlb, hB⟩ := HS.out
    obtain ⟨ao1, cap1, rfl⟩ := slen_of hown
    have LF : Hid (Calls Tryz.prog 63 #[.pointer (some ⟨R, 0, none⟩)] wr fun e w' => e = .returned (.int .i64 ((D.length - a : Nat) : Int)) ∧ w' = wr) := left_any R 0 ao (D.length - a) cap wr hb.c0
    have RM : Hid (Calls Tryz.prog 103 #[.pointer (some ⟨R, 0, none⟩)] wr fun e w' => e = .returned (.int .i64 ((n - o.length : Nat) : Int)) ∧ ∃ q', w' = wr.drewN q') := room_any R n o.length ao1 cap1 wr hb.c1 hb.c2 hn hol
    clear hb hr hown ha
    have hBs2 : B ≤ wr.heap.size := Nat.le_trans hBs hbel.size
    obtain ⟨z, hz⟩ : ∃ z, z = D.length - a := ⟨_, rfl⟩
    rw [← hz] at LF
    by_cases hlt : a < D.length
    · have hz0 : 0 < z := by omega
      have EL : Hid (Calls Tryz.prog 102 #[.pointer (some ⟨R, 0, none⟩)] wr fun e w' => UAns R lb B D n (Pu.el D n a o) e w' ∧ Below B wr w') := element_any R lb B D n a o wr HS.out hBs2 hn hol hlt
      cases hel : Pu.el D n a o with
      | none =>
        rw [hel] at EL
        have HX : Hid (Pu.un D n D.length a0 [] = none) := by rw [Hid, HU.out, Pu.un_no hlt hel]
        clear hel hz
        go_wp2_with fail
        refine LF.out.mono ?_
        rintro e w' ⟨rfl, hw'⟩
        subst w'
        go_wp2_with fail
        refine EL.out.mono ?_
        rintro e w2 ⟨rfl, hb2⟩
        go_wp2
        go_ret
        exact ⟨by rw [HX.out]; rfl, hbel.trans hb2⟩
      | some pr =>
        obtain ⟨a', o'⟩ := pr
        rw [hel] at EL
        have hle := Pu.el_le hol hel
        have HX : Hid (Pu.un D n D.length a0 [] = Pu.un D n (f - 1) a' o') := by rw [Hid, HU.out, Pu.un_yes hlt hf hel]
        clear hel hz
        go_wp2_with fail
        refine LF.out.mono ?_
        rintro e w' ⟨rfl, hw'⟩
        subst w'
        go_wp2_with fail
        refine EL.out.mono ?_
        rintro e w2 ⟨⟨rfl, hS2⟩, hb2⟩
        have HS2 : Hid (USt w2 R lb B D n a' o') := hS2
        have HL2 : Hid (uleft w2 R = D.length - a') := hS2.left
        clear hS2
        go_wp2
        go_roundw
        case rel => exact ⟨a', f - 1, o', hle.2.2, by omega, HS2, HX, hbel.trans hb2⟩
        case measure => rw [HL2.out, HL.out]; omega
    · have hz0 : z = 0 := by omega
      subst hz0
      have HX : Hid (Pu.un D n D.length a0 [] = if o.length = n then some o else none) := by rw [Hid, HU.out, Pu.un_done hlt]
      obtain ⟨y, hy⟩ : ∃ y, y = n - o.length := ⟨_, rfl⟩
      rw [← hy] at RM
      by_cases hon : o.length = n
      · have hy0 : y = 0 := by omega
        subst hy0
        have HX2 : Hid (Pu.un D n D.length a0 [] = some o) := by rw [Hid, HX.out, if_pos hon]
        clear hz hy
        go_wp2_with fail
        refine LF.out.mono ?_
        rintro e w' ⟨rfl, hw'⟩
        subst w'
        go_wp2_with fail
        refine RM.out.mono ?_
        rintro e w2 ⟨rfl, q, hw2⟩
        have HS2 : Hid (USt w2 R lb B D n a o) := by rw [Hid, hw2]; exact HS.out
        have hb2 : Below B w w2 := by rw [hw2]; exact below_drewN hbel q
        clear hw2
        go_wp2
        go_ret
        exact ⟨by rw [HX2.out]; exact ⟨rfl, a, HS2.out⟩, hb2⟩
      · have hy0 : ((y : Int) == 0) = false := by simp; omega
        have HX2 : Hid (Pu.un D n D.length a0 [] = none) := by rw [Hid, HX.out, if_neg hon]
        clear hz hy
        go_wp2_with fail
        refine LF.out.mono ?_
        rintro e w' ⟨rfl, hw'⟩
        subst w'
        go_wp2_with fail
        refine RM.out.mono ?_
        rintro e w2 ⟨rfl, q, hw2⟩
        have hb2 : Below B w w2 := by rw [hw2]; exact below_drewN hbel q
        clear hw2
        go_wp2
        go_ret
        exact ⟨by rw [HX2.out]; rfl, hb2⟩
end Go.Proofs.YtjobhlncllfdmaaGreat

/- pack.Unpack: its contract. -/
namespace Go.Proofs.YtjobhlncllfdmaaGreat
open Go.RowKit

/-- what the program's Unpack answers -/
def UpAns (B : Nat) (p : List UInt8 × Nat) (e : Ending) (w' : World) : Prop :=
  if p.2 = 0 then ∃ v, e = .returned (.tuple #[v, .int .i64 0]) ∧ w'.ownsRow B 5 1 v p.1.length (bytesV p.1) else e = .returned (.tuple #[.slice none 0 0, .int .i64 (p.2 : Int)])

theorem make_bytes (n : Nat) (hn : n ≤ 1048576) : ∃ cs : Array Value, cs.size = n ∧ ∀ w2 : World, (Instr.makeSlice 25 (.int .i64 0) (.int .u32 n)).run Tryz.prog w2 = .ok (.slice (some ⟨w2.heap.size, 0, none⟩) 0 n) (w2.alloc (.cells cs 5)) := by
  obtain ⟨i0, hi, hz0, hz1, hz2⟩ := info_parts Tryz.info5
  refine ⟨madeCells (Value.int .u8 0).cells (n * i0.size), ?_, fun w2 => ?_⟩
  · rw [size_madeCells, hz1, Nat.mul_one]
  · have := run_make (P := Tryz.prog) w2 25 5 i0 (.int .u8 0) Tryz.underlying25 hi hz0 .i64 .u32 0 n (Int.le_refl _) (by omega) (by rw [hz2]; omega) (by omega)
    simpa using this

section
variable (w : World) (a b : Obj)
theorem two_a : ((w.alloc a).alloc b).drew.heap[w.heap.size]? = some a := by
  show ((w.heap.push a).push b)[w.heap.size]? = some a
  simp only [Array.getElem?_push, Array.size_push]
  rw [if_neg (by omega), if_pos trivial]
theorem two_b : ((w.alloc a).alloc b).drew.heap[w.heap.size + 1]? = some b := by
  show ((w.heap.push a).push b)[w.heap.size + 1]? = some b
  simp only [Array.getElem?_push, Array.size_push]
  rw [if_pos trivial]
theorem two_below : Below w.heap.size w ((w.alloc a).alloc b).drew :=
  (((Below.refl _ _).alloc (Nat.le_refl _) a).alloc (by simp) b).drew
end

theorem ust_start {w w' : World} {R g lb B n a0 cap : Nat} {ao : Option Addr} {D : List UInt8} {cs : Array Value} (hr : Rest w lb ao cap (D.drop a0)) (ha : a0 ≤ D.length) (hlb : lb < B) (hBw : B ≤ w.heap.size) (hcs : cs.size = n) (hn : n ≤ 1048576)
    (hbel : Below w.heap.size w w') (hR : w.heap.size ≤ R) (hg : w.heap.size ≤ g)
    (h1 : w'.heap[R]? = some (.cells #[.slice ao (D.length - a0) cap, .slice (some ⟨g, 0, none⟩) 0 n, .int .i64 n] 187 (0, 0))) (h2 : w'.heap[g]? = some (.cells cs 5 (0, 0))) :
    USt w' R lb B D n a0 [] := by
  have ho : w'.ownsRow B 5 1 (.slice (some ⟨g, 0, none⟩) 0 n) 0 [] := ⟨by simp, .inr ⟨g, n, cs, rfl, by omega, h2, Nat.zero_le _, by unfold maxLen; omega, by omega, by simp⟩⟩
  exact ⟨ao, cap, _, h1, ha, hr.kept (hbel.block lb (by omega)), ho, hlb, by omega⟩

set_option maxHeartbeats 4000000 in
set_option maxRecDepth 100000 in
theorem unpack_any (ao : Option Addr) (cap lb most : Nat) (D : List UInt8) (w : World) (hr : Rest w lb ao cap D) (hlb : lb < w.heap.size) (hm : most ≤ 1048576) :
    Calls Tryz.prog 82 #[.slice ao D.length cap, .int .i64 (most : Int)] w fun e w' => UpAns w.heap.size (Pu.unpack D (most : Int)) e w' ∧ Below w.heap.size w w' := by
  have HU : Hid (Pu.unpack D (most : Int) = match Pu.vi D 0 with
    | none => ([], 2)
    | some (n, a) => if (most : Int) < (n : Int) then ([], 3) else
      match Pu.un D n D.length a [] with
      | none => ([], 4)
      | some o => (o, 0)) := by unfold Hid Pu.unpack; rw [if_neg (by omega)]; rfl
  -- the reader's block
  have hW0 : ∀ (x y : Obj), (((w.alloc x).alloc y)).heap[w.heap.size + 1]? = some y := fun x y => by have := two_b w x y; exact this
  obtain ⟨W0, hW⟩ : ∃ W0, W0 = (w.alloc (.cells #[.slice ao D.length cap] 88)).alloc (.cells #[.slice ao D.length cap] 88) := ⟨_, rfl⟩
  have hb0 : Below w.heap.size w W0 := by rw [hW]; exact ((Below.refl _ _).alloc (Nat.le_refl _) _).alloc (by simp) _
  have hrow : W0.heap[w.heap.size + 1]? = some (.cells #[.slice ao D.length cap] 88 (0, 0)) := by rw [hW]; exact hW0 _ _
  have hr0 : Rest W0 lb ao cap D := hr.kept (hb0.block lb hlb)
  have V : Hid (Calls Tryz.prog 89 #[.pointer (some ⟨w.heap.size + 1, 0, none⟩)] W0 fun e w' => VAns D 0 (w.heap.size + 1) 0 ao (D.length - 0) cap W0 e w') :=
    varintP_any D 0 (w.heap.size + 1) 0 lb ao cap W0 (Nat.zero_le _) (by rw [List.drop_zero]; exact hr0) (by rw [cell_of_row _ _ 0 _ _ _ hrow]; rfl) (frozen_of_row _ _ _ _ _ hrow)
  have hsz : W0.heap.size = w.heap.size + 2 := by rw [hW, size_alloc', size_alloc']
  rw [hW] at V
  cases hv : Pu.vi D 0 with
  | none =>
    have HX : Hid (Pu.unpack D (most : Int) = ([], 2)) := by rw [Hid, HU.out, hv]
    unfold VAns at V
    rw [hv] at V
    clear hv HU hrow hr0 hW hr hsz hW0
    go_enter Tryz.func82, Tryz.ntmps82
    go_wp2_with fail
    refine (new_any _ _ _ _).mono ?_
    rintro e w' ⟨rfl, rfl⟩
    go_wp2_with fail
    refine V.out.mono ?_
    rintro e w' ⟨rfl, hw'⟩
    go_wp2
    go_ret2
    refine ⟨by rw [HX.out]; exact rfl, ?_⟩
    exact ((Below.refl _ _).alloc (Nat.le_refl _) _).alloc (by simp) _
  | some pr =>
    obtain ⟨n, a0⟩ := pr
    obtain ⟨hv1, hv2, hv3⟩ := Pu.vi_lt hv
    unfold VAns at V
    rw [hv] at V
    simp only [Nat.sub_zero] at V
    by_cases hbig : most < n
    · have HX : Hid (Pu.unpack D (most : Int) = ([], 3)) := by rw [Hid, HU.out, hv]; simp only []; rw [if_pos (by omega)]
      have hbd : decide ((most : Int) < (n : Int)) = true := by simp; omega
      clear hv HU hrow hr0 hW hr hsz hW0
      go_enter Tryz.func82, Tryz.ntmps82
      go_wp2_with fail
      refine (new_any _ _ _ _).mono ?_
      rintro e w' ⟨rfl, rfl⟩
      go_wp2_with fail
      refine V.out.mono ?_
      rintro e w' ⟨rfl, hw'⟩
      have hbf : Below w.heap.size w w' := by
        rw [hw']; exact (((Below.refl _ _).alloc (Nat.le_refl _) _).alloc (by simp) _).setCell (by simp) _
      clear hw'
      go_wp2
      go_ret2
      exact ⟨by rw [HX.out]; exact rfl, hbf⟩
    · have HX : Hid (Pu.unpack D (most : Int) = match Pu.un D n D.length a0 [] with
        | none => ([], 4)
        | some o => (o, 0)) := by rw [Hid, HU.out, hv]; simp only []; rw [if_neg (by omega)]
      have hbd : decide ((most : Int) < (n : Int)) = false := by simp; omega
      obtain ⟨cs, hcs, hmk⟩ := make_bytes n (by omega)
      obtain ⟨w1, hw1⟩ : ∃ w1, w1 = W0.setCell ⟨w.heap.size + 1, 0, none⟩ (.slice (cutA ao cap a0) (D.length - a0) (cap - a0)) := ⟨_, rfl⟩
      have V2 : Hid (Calls Tryz.prog 89 #[.pointer (some ⟨w.heap.size + 1, 0, none⟩)] ((w.alloc (.cells #[.slice ao D.length cap] 88)).alloc (.cells #[.slice ao D.length cap] 88)) fun e w' => e = .returned (.tuple #[.int .u32 (n : Int), .bool true]) ∧ w' = w1) := by
        rw [hw1, hW]; exact V.out
      have hb1 : Below w.heap.size w w1 := by rw [hw1]; exact hb0.setCell (by simp) _
      have hr1 : Rest w1 lb (cutA ao cap a0) (cap - a0) (D.drop a0) := by
        rw [hw1]; exact (hr0.drop a0 hv2).kept (heap_setCell_other _ _ _ _ (by simp only []; omega))
      have hc1 : w1.cell? ⟨w.heap.size + 1, 0, none⟩ = some (.slice (cutA ao cap a0) (D.length - a0) (cap - a0)) := by
        have := heap_setCell_same W0 (w.heap.size + 1) 0 _ _ (.slice (cutA ao cap a0) (D.length - a0) (cap - a0)) hrow
        rw [hw1, cell_of_row _ _ 0 _ _ _ this]; rfl
      have hs1 : w.heap.size + 2 ≤ w1.heap.size := by rw [hw1, size_set, hsz]; exact Nat.le_refl _
      have hc1a : ∀ o : Obj, (w1.alloc o).cell? ⟨w.heap.size + 1, 0, none⟩ = some (.slice (cutA ao cap a0) (D.length - a0) (cap - a0)) := fun o => by
        rw [World.cell?_of_block (w := w1) (Below.heap_alloc _ _ _ (by show w.heap.size + 1 < _; omega))]; exact hc1
      have hc1b : ∀ o o' : Obj, ((w1.alloc o).alloc o').cell? ⟨w.heap.size + 1, 0, none⟩ = some (.slice (cutA ao cap a0) (D.length - a0) (cap - a0)) := fun o o' => by
        rw [World.cell?_of_block (w := w1.alloc o) (Below.heap_alloc _ _ _ (by show w.heap.size + 1 < _; rw [size_alloc']; omega))]; exact hc1a o
      have Hr1 : Hid (Rest w1 lb (cutA ao cap a0) (cap - a0) (D.drop a0)) := hr1
      have hn2 : n ≤ 1048576 := by omega
      have EL : Hid (∀ (wr : World) (R : Nat), USt wr R lb w.heap.size D n a0 [] → Below w.heap.size w wr → Calls Tryz.prog 93 #[.pointer (some ⟨R, 0, none⟩)] wr fun e w' => ElAns R lb w.heap.size D n (Pu.un D n D.length a0 []) e w' ∧ Below w.heap.size wr w') := fun wr R h hb => elements_any R lb w.heap.size D n a0 wr h hb.size hn2
      have ST : Hid (∀ (wr : World) (R g : Nat), Below w1.heap.size w1 wr → w1.heap.size ≤ R → w1.heap.size ≤ g → wr.heap[R]? = some (.cells #[.slice (cutA ao cap a0) (D.length - a0) (cap - a0), .slice (some ⟨g, 0, none⟩) 0 n, .int .i64 n] 187 (0, 0)) → wr.heap[g]? = some (.cells cs 5 (0, 0)) → USt wr R lb w.heap.size D n a0 []) := fun wr R g h1 h2 h3 h4 h5 =>
        ust_start (B := w.heap.size) hr1 hv2 hlb (by omega) hcs hn2 h1 h2 h3 h4 h5
      clear hv HU hrow hr0 hW hr hsz hW0 V hw1 hcs hb0 hr1
      go_enter Tryz.func82, Tryz.ntmps82
      go_wp2_with fail
      refine (new_any _ _ _ _).mono ?_
      rintro e w' ⟨rfl, rfl⟩
      go_wp2_with fail
      refine V2.out.mono ?_
      rintro e w' ⟨rfl, hw'⟩
      subst w'
      go_upto_region 9 with fail
      go_cut [9] (fun r wr => ∃ R, r = .pointer (some ⟨R, 0, none⟩) ∧ Hid (USt wr R lb w.heap.size D n a0 []) ∧ Below w.heap.size w wr)
      case first =>
        go_region
        all_goals
          go_wp2_with fail
          go_meet
        all_goals
          case rel =>
            first
            | exact ⟨_, rfl, ST.out _ _ _ (two_below w1 _ _) (by omega) (by omega) (two_a w1 _ _) (two_b w1 _ _), bself hb1 (two_below w1 _ _)⟩
            | exact ⟨_, rfl, ST.out _ _ _ (two_below w1 _ _) (by omega) (by omega) (two_b w1 _ _) (two_a w1 _ _), bself hb1 (two_below w1 _ _)⟩
      case rest =>
      obtain ⟨R, rfl, HS, hbr⟩ := hcut
      obtain ⟨W, hWW⟩ : ∃ W, W = wc := ⟨_, rfl⟩
      subst hWW
      have HE : Hid (Calls Tryz.prog 93 #[.pointer (some ⟨R, 0, none⟩)] W fun e w' => ElAns R lb w.heap.size D n (Pu.un D n D.length a0 []) e w' ∧ Below w.heap.size W w') := EL.out W R HS.out hbr
      clear EL ST HS hc1 hc1a hc1b Hr1 hmk
      cases hun : Pu.un D n D.length a0 [] with
      | none =>
        have HX2 : Hid (Pu.unpack D (most : Int) = ([], 4)) := by rw [Hid, HX.out, hun]
        rw [hun] at HE
        clear hun HX
        go_wp2_with fail
        refine HE.out.mono ?_
        rintro e w2 ⟨rfl, hb2⟩
        go_wp2
        go_ret2
        exact ⟨by rw [HX2.out]; exact rfl, hbr.trans hb2⟩
      | some o =>
        have HX2 : Hid (Pu.unpack D (most : Int) = (o, 0)) := by rw [Hid, HX.out, hun]
        rw [hun] at HE
        clear hun HX
        go_wp2_with fail
        refine HE.out.mono ?_
        rintro e w2 ⟨⟨rfl, a, hS⟩, hb2⟩
        obtain ⟨ao2, cap2, v2, hbk, _, _, hown, _, _⟩ := hS
        have c1 := hbk.c1
        have Hown : Hid (w2.ownsRow w.heap.size 5 1 v2 o.length (bytesV o)) := hown
        clear hbk hown
        go_wp2
        go_ret2
        exact ⟨by rw [HX2.out]; exact ⟨_, rfl, Hown.out⟩, hbr.trans hb2⟩
end Go.Proofs.YtjobhlncllfdmaaGreat
