/- strataref.Varint. -/
import Derived.Test.YtjobhlncllfdmaaM12
import Derived.Test.YtjobhlncllfdmaaM09
import Derived.Deep.RegionWith
import Derived.Deep.RegionHeld3
import Derived.Lib.Varint
import Derived.Laws.BitsAllLaws
namespace Go.Proofs.Ytjobhlncllfdmaa
open Go.RowKit

/-- a number in sevens -/
def vb (n : Nat) : List UInt8 := if h : n < 128 then [UInt8.ofNat n] else UInt8.ofNat (128 + n % 128) :: vb (n / 128)
decreasing_by omega

theorem vb_small {n : Nat} (h : n < 128) : vb n = [UInt8.ofNat n] := by unfold vb; rw [dif_pos h]
theorem vb_great {n : Nat} (h : ¬ n < 128) : vb n = UInt8.ofNat (128 + n % 128) :: vb (n / 128) := by conv => lhs; unfold vb
                                                                                                      rw [dif_neg h]

theorem length_vb : ∀ k n, n < 128 ^ (k + 1) → (vb n).length ≤ k + 1 := by
  intro k
  induction k with
  | zero => intro n h; rw [vb_small (by simpa using h)]; simp
  | succ k ih =>
    intro n h
    by_cases h1 : n < 128
    · rw [vb_small h1]; simp
    · rw [vb_great h1, List.length_cons]
      have := ih (n / 128) (by rw [Nat.div_lt_iff_lt_mul (by omega)]; rw [Nat.pow_succ] at h; exact h)
      omega
theorem length_vb8 {n : Nat} (h : n ≤ 140737488355328) : (vb n).length ≤ 7 := by
  refine length_vb 6 n ?_
  have e : (128 : Nat) ^ (6 + 1) = 562949953421312 := by decide
  omega

/-- the text of one byte that was just laid -/
theorem text_one (w : World) (x : Nat) (hx : x < 256) : (convert 24 9 (.slice (some ⟨w.heap.size, 0, none⟩) 1 1)).run Try.prog (w.alloc (.cells #[.int .u8 (x : Int)] 5)) = .ok (.string ⟨#[UInt8.ofNat x]⟩) (w.alloc (.cells #[.int .u8 (x : Int)] 5)) := by
  have := run_convert_bytes_back (P := Try.prog) (w.alloc (.cells #[.int .u8 (x : Int)] 5)) 24 9 5 ⟨w.heap.size, 0, none⟩ 1 [UInt8.ofNat x] Try.underlying24 Try.underlying5 Try.underlying9 (fun j hj => by
    obtain rfl : j = 0 := by simp at hj; omega
    rw [show (⟨w.heap.size, 0, none⟩ : Addr).add 0 = ⟨w.heap.size, 0, none⟩ from rfl, cell_of_row _ _ 0 _ _ _ (heap_alloc_new w _)]
    simp [Nat.mod_eq_of_lt hx])
  simpa using this

set_option maxHeartbeats 2000000 in
set_option maxRecDepth 100000 in
theorem varintB_small (n : Nat) (w : World) (hn : n < 128) :
    Calls Try.prog 32 #[.int .i64 (n : Int)] w fun e w' => e = .returned (.string ⟨(vb n).toArray⟩) ∧ Below w.heap.size w w' := by
  have hd : decide ((n : Int) < 128) = true := by simp; omega
  have hcv := text_one w n (by omega)
  have HV : Hid (vb n = [UInt8.ofNat n]) := vb_small hn
  go_enter Try.func32, Try.ntmps32
  go_wp2
  go_ret
  exact ⟨by rw [HV.out]; rfl, bbox _ _⟩

/-- the text of one byte that was laid before -/
theorem text_one' {W : World} {g x : Nat} (hx : x < 256) (h : W.heap[g]? = some (.cells #[.int .u8 (x : Int)] 5 (0, 0))) : (convert 24 9 (.slice (some ⟨g, 0, none⟩) 1 1)).run Try.prog W = .ok (.string ⟨#[UInt8.ofNat x]⟩) W := by
  have := run_convert_bytes_back (P := Try.prog) W 24 9 5 ⟨g, 0, none⟩ 1 [UInt8.ofNat x] Try.underlying24 Try.underlying5 Try.underlying9 (fun j hj => by
    obtain rfl : j = 0 := by simp at hj; omega
    rw [show (⟨g, 0, none⟩ : Addr).add 0 = ⟨g, 0, none⟩ from rfl, cell_of_row _ _ 0 _ _ _ h]
    simp [Nat.mod_eq_of_lt hx])
  simpa using this

set_option maxHeartbeats 4000000 in
set_option maxRecDepth 100000 in
theorem varintB_great (n : Nat) (w : World) (hn : ¬ n < 128) (hb : n ≤ 140737488355328) (ih : ∀ W : World, Calls Try.prog 32 #[.int .i64 ((n / 128 : Nat) : Int)] W fun e w' => e = .returned (.string ⟨(vb (n / 128)).toArray⟩) ∧ Below W.heap.size W w') :
    Calls Try.prog 32 #[.int .i64 (n : Int)] w fun e w' => e = .returned (.string ⟨(vb n).toArray⟩) ∧ Below w.heap.size w w' := by
  have hd : decide ((n : Int) < 128) = false := by simp; omega
  have HV : Hid (vb n = UInt8.ofNat (128 + n % 128) :: vb (n / 128)) := vb_great hn
  obtain ⟨x, hx⟩ : ∃ x, x = 128 + n % 128 := ⟨_, rfl⟩
  obtain ⟨y, hy⟩ : ∃ y, y = n / 128 := ⟨_, rfl⟩
  rw [← hx, ← hy] at HV
  rw [← hy] at ih
  have hxl : x < 256 := by omega
  have e1 : IntKind.i64.wrap (128 + (n : Int).tmod 128) = (x : Int) := by rw [IntKind.wrap_i64, Int.tmod_eq_emod_of_nonneg (by omega)]; omega
  have e3 : IntKind.u8.wrap (x : Int) = (x : Int) := by rw [IntKind.wrap_u8]; omega
  have e2 : IntKind.i64.wrap ((n : Int) / 128) = (y : Int) := by rw [IntKind.wrap_i64]; omega
  have hcv1 : ∀ X : World, (convert 24 9 (.slice (some ⟨X.heap.size, 0, none⟩) 1 1)).run Try.prog (X.alloc (.cells #[.int .u8 (x : Int)] 5)) = .ok (.string ⟨#[UInt8.ofNat x]⟩) (X.alloc (.cells #[.int .u8 (x : Int)] 5)) := fun X => text_one X x hxl
  have hcv2 : ∀ X : World, (convert 24 9 (.slice (some ⟨X.heap.size, 0, none⟩) 1 1)).run Try.prog (X.alloc (.cells #[.int .u8 (x : Int)] 5)).drew = .ok (.string ⟨#[UInt8.ofNat x]⟩) (X.alloc (.cells #[.int .u8 (x : Int)] 5)).drew := fun X => text_one' hxl (heap_alloc_new X _)
  have IH : Hid (∀ W : World, Calls Try.prog 32 #[.int .i64 (y : Int)] W fun e w' => e = .returned (.string ⟨(vb y).toArray⟩) ∧ Below W.heap.size W w') := ih
  obtain ⟨ty, hty⟩ : ∃ ty : ByteArray, ty = ⟨(vb y).toArray⟩ := ⟨_, rfl⟩
  rw [← hty] at IH
  have HT : Hid (ty = ⟨(vb y).toArray⟩) := hty
  have hts : ty.size ≤ 7 := by rw [hty, ← len_data]; simpa using length_vb8 (n := y) (by omega)
  have h1s : (⟨#[UInt8.ofNat x]⟩ : ByteArray).size = 1 := rfl
  obtain ⟨t1, ht1⟩ : ∃ t1 : ByteArray, t1 = ⟨#[UInt8.ofNat x]⟩ := ⟨_, rfl⟩
  have HT1 : Hid (t1 = ⟨#[UInt8.ofNat x]⟩) := ht1
  rw [← ht1] at hcv1 hcv2 h1s
  clear hx hy ih hty hn ht1
  go_enter Try.func32, Try.ntmps32
  go_wp2
  go_region_with (go_at_call 32; refine (IH.out _).mono ?_; rintro e w' ⟨rfl, hbc⟩; try (have hcv3 := text_one' (g := w.heap.size) hxl (by rw [hbc.block _ (by simp)]; exact heap_alloc_new w _); rw [← HT1.out] at hcv3))
  all_goals
    go_wp2
    go_ret
    refine ⟨?_, ?_⟩
    · refine congrArg (fun t => Ending.returned (.string t)) (bytes_ext ?_)
      simp only [ByteArray.data_append, Array.toList_append]
      rw [HT1.out, HT.out, HV.out]
      rfl
    · first
        | exact bself (bboxd _ _) hbc
        | exact (bself (Below.refl _ _).drew hbc).alloc hbc.size _

theorem varintB_any : ∀ (n : Nat) (w : World), n ≤ 140737488355328 → Calls Try.prog 32 #[.int .i64 (n : Int)] w fun e w' => e = .returned (.string ⟨(vb n).toArray⟩) ∧ Below w.heap.size w w' := by
  intro n
  induction n using Nat.strongRecOn with
  | _ n ih =>
    intro w hb
    by_cases h : n < 128
    · exact varintB_small n w h
    · exact varintB_great n w h hb (fun W => ih (n / 128) (by omega) W (by omega))
end Go.Proofs.Ytjobhlncllfdmaa

/- The program's writer: Number, Varint. -/
namespace Go.Proofs.Ytjobhlncllfdmaa
open Go.RowKit

/-- one byte more -/
theorem out_push {w : World} {R B : Nat} {v : Value} {L : List UInt8} (h : OS w R B v L) (b : UInt8) (hB : B ≤ w.heap.size) (hs : L.length + 1 ≤ 140737488355328) :
    ∃ a1 n1 c1 w1, (Builtin.append_ #[24, 24] 24 #[v, .slice (some ⟨w.heap.size, 0, none⟩) 1 1]).run Try.prog (w.alloc (.cells #[.int .u8 (b.toNat : Int)] 5)) = .ok (.slice a1 n1 c1) w1 ∧
      w1.cell? ⟨R, 0, none⟩ = some v ∧ w1.frozen? ⟨R, 0, none⟩ = false ∧ OG w R B v (L ++ [b]) (w1.setCell ⟨R, 0, none⟩ (.slice a1 n1 c1)) := by
  obtain ⟨i0, hi, hz0, hz1, hz2⟩ := info_parts Try.info5
  have hsz := size_alloc' w (.cells #[.int .u8 (b.toNat : Int)] 5)
  have hsrc : Src Try.prog 1 24 (.slice (some ⟨w.heap.size, 0, none⟩) 1 1) 1 [.int .u8 (b.toNat : Int)] (w.alloc (.cells #[.int .u8 (b.toNat : Int)] 5)) :=
    Src.ofSlice _ Try.underlying24 _ 1 1 _ rfl (one_new rfl) one_cell
  obtain ⟨v1, w1, run, own, gr, lies, _⟩ := appendX (P := Try.prog) (w.alloc (.cells #[.int .u8 (b.toNat : Int)] 5)) 24 24 24 5 i0 (.int .u8 0) 1 1 B Try.underlying24 hi hz0 hz1 hz2 rfl v L.length (bytesV L) (h.own.alloc _) _ 1 _ hsrc (by unfold maxLen; omega) (by omega) (by omega)
  obtain ⟨a1, c1, rfl⟩ := slen_of own
  have hgr : w.grownBy w1 v.ownBlock := ⟨gr.os, gr.tape, gr.output, by have := gr.size; omega, fun k hk hn => by
    rw [gr.block k (by omega) hn]; exact Below.heap_alloc w _ k hk⟩
  have h0 := h.c0
  refine ⟨a1, _, c1, w1, run, ?_, ?_, ?_⟩
  · rw [World.cell?_of_block (hgr.block R h.lt (fun e => h.ne e.symm))]; exact h0
  · rw [World.frozen?_of_block (hgr.block R h.lt (fun e => h.ne e.symm))]; exact h.fz
  · refine OG.put h hgr ?_ (fun k hk => ?_)
    · rw [List.length_append, ← bytesV_snoc]; exact own
    · rcases lies k hk with h' | h'
      · exact .inl h'
      · exact .inr (by omega)

theorem u8_mod (y : Nat) : ((y : Int) % 256) = ((UInt8.ofNat (y % 256)).toNat : Int) := by
  rw [UInt8.toNat_ofNat', Nat.mod_eq_of_lt (by omega)]; simp

set_option maxHeartbeats 2000000 in
set_option maxRecDepth 100000 in
theorem outNumber_any (R B x n : Nat) (v : Value) (L : List UInt8) (w : World) (h : OS w R B v L) (hB : B ≤ w.heap.size) (hx : x < 18446744073709551616) (hn : n ≤ 8) (hs : L.length + 8 ≤ 140737488355328) :
    Calls Try.prog 75 #[.pointer (some ⟨R, 0, none⟩), .int .u64 x, .int .i64 n] w fun e w' => e = .returned (.tuple #[]) ∧ OG w R B v (L ++ leB n x) w' := by
  have H0 : Hid (OG w R B v (L ++ leB 0 x) w) := by rw [show L ++ leB 0 x = L from List.append_nil _]; exact OG.refl h
  clear h
  go_enter Try.func75, Try.ntmps75
  go_wp2
  go_loopw [1, 7] (fun u i wr => ∃ k y : Nat, k ≤ n ∧ i = .int .i64 k ∧ u = .int .u64 y ∧ y ≤ x ∧ Hid (y = x / 256 ^ k) ∧ Hid (OG w R B v (L ++ leB k x) wr))
    (fun _ i _ => n - (intOf i).toNat)
  case atStart => exact ⟨0, x, Nat.zero_le _, rfl, rfl, Nat.le_refl _, by simp [Hid], H0⟩
  case round =>
    obtain ⟨k, y, hk, rfl, rfl, hyx, Hy, HG⟩ := hrel
    by_cases hk2 : k < n
    · have hl := length_leB k x
      obtain ⟨v1, o1, f1, g1⟩ := HG.out
      obtain ⟨a1, n1, c1, w1, run, hc1, hf1, og1⟩ := out_push o1 (UInt8.ofNat (y % 256)) (by have := f1.size; omega) (by rw [List.length_append]; omega)
      have hc0 := o1.c0
      have Hy2 : Hid (y / 256 = x / 256 ^ (k + 1)) := by rw [Hid, Hy.out, Nat.div_div_eq_div_mul, Nat.pow_succ]
      have HG2 : Hid (OG w R B v (L ++ leB (k + 1) x) (w1.setCell ⟨R, 0, none⟩ (.slice a1 n1 c1))) := by
        refine OG.step o1 f1 g1 ?_
        rw [leB_snoc, ← Hy.out, ← List.append_assoc]
        exact og1
      rw [← u8_mod] at run
      have RN : Hid ((Builtin.append_ #[24, 24] 24 #[v1, .slice (some ⟨wr.heap.size, 0, none⟩) 1 1]).run Try.prog (wr.alloc (.cells #[.int .u8 ((y : Int) % 256)] 5)) = .ok (.slice a1 n1 c1) w1) := run
      have hcA : (wr.alloc (.cells #[.int .u8 ((y : Int) % 256)] 5)).cell? ⟨R, 0, none⟩ = some v1 := by rw [World.cell?_alloc_lt _ _ _ o1.lt]; exact hc0
      clear run og1 f1 g1 o1 HG hl Hy
      go_wp2_with (first | (at_builtin; refine wpList_append_run rfl (.tmp 13) (.tmp 16) 24 24 rfl _ _ _ rfl rfl RN.out ?_) | go_in)
      go_roundw
      case rel => exact ⟨k + 1, y / 256, by omega, by go_num, by go_num, by omega, Hy2, HG2⟩
      case measure => simp [intOf]; omega
    · obtain rfl : k = n := by omega
      go_wp2
      go_end0
      exact ⟨rfl, HG.out⟩

set_option maxHeartbeats 2000000 in
set_option maxRecDepth 100000 in
theorem outVarint_any (R B x : Nat) (v : Value) (L : List UInt8) (w : World) (h : OS w R B v L) (hB : B ≤ w.heap.size) (hx : x ≤ 140737488355328) (hs : L.length + 8 ≤ 140737488355328) :
    Calls Try.prog 91 #[.pointer (some ⟨R, 0, none⟩), .int .i64 x] w fun e w' => e = .returned (.tuple #[]) ∧ OG w R B v (L ++ vb x) w' := by
  have H0 : Hid (OG w R B v L w) := OG.refl h
  have hlx := length_vb8 hx
  clear h
  go_enter Try.func91, Try.ntmps91
  go_wp2
  go_loopw [1] (fun u wr => ∃ (y : Nat) (M : List UInt8), u = .int .i64 y ∧ y ≤ x ∧ Hid (M ++ vb y = vb x) ∧ Hid (OG w R B v (L ++ M) wr))
    (fun u _ => (intOf u).toNat)
  case atStart => exact ⟨x, [], rfl, Nat.le_refl _, by simp [Hid], by rw [List.append_nil]; exact H0⟩
  case round =>
    obtain ⟨y, M, rfl, hyx, HM, HG⟩ := hrel
    have hml : M.length + (vb y).length ≤ 7 := by have := congrArg List.length HM.out; rw [List.length_append] at this; omega
    obtain ⟨v1, o1, f1, g1⟩ := HG.out
    have hc0 := o1.c0
    have hbig : (L ++ M).length + 1 ≤ 140737488355328 := by rw [List.length_append]; omega
    have hBr : B ≤ wr.heap.size := by have := f1.size; omega
    by_cases hk2 : y < 128
    · obtain ⟨a1, n1, c1, w1, run, hc1, hf1, og1⟩ := out_push o1 (UInt8.ofNat (y % 256)) hBr hbig
      have HG2 : Hid (OG w R B v (L ++ vb x) (w1.setCell ⟨R, 0, none⟩ (.slice a1 n1 c1))) := by
        refine OG.step o1 f1 g1 ?_
        rw [← HM.out, vb_small hk2, ← List.append_assoc, ← Nat.mod_eq_of_lt (show y < 256 by omega)]
        exact og1
      rw [← u8_mod, show ((y : Int) % 256) = (y : Int) by omega] at run
      have RN : Hid ((Builtin.append_ #[24, 24] 24 #[v1, .slice (some ⟨wr.heap.size, 0, none⟩) 1 1]).run Try.prog (wr.alloc (.cells #[.int .u8 (y : Int)] 5)) = .ok (.slice a1 n1 c1) w1) := run
      have hcA : (wr.alloc (.cells #[.int .u8 (y : Int)] 5)).cell? ⟨R, 0, none⟩ = some v1 := by rw [World.cell?_alloc_lt _ _ _ o1.lt]; exact hc0
      clear run og1 f1 g1 o1 HG HM hml
      go_wp2_with (first | (at_builtin; refine wpList_append_run rfl (.tmp 24) (.tmp 27) 24 24 rfl _ _ _ rfl rfl RN.out ?_) | go_in)
      go_end0
      exact ⟨rfl, HG2.out⟩
    · obtain ⟨a1, n1, c1, w1, run, hc1, hf1, og1⟩ := out_push o1 (UInt8.ofNat (128 + y % 128)) hBr hbig
      have HM2 : Hid ((M ++ [UInt8.ofNat (128 + y % 128)]) ++ vb (y / 128) = vb x) := by
        rw [Hid, ← HM.out, vb_great hk2, List.append_assoc]; rfl
      have HG2 : Hid (OG w R B v (L ++ (M ++ [UInt8.ofNat (128 + y % 128)])) (w1.setCell ⟨R, 0, none⟩ (.slice a1 n1 c1))) := by
        refine OG.step o1 f1 g1 ?_
        rw [← List.append_assoc]
        exact og1
      obtain ⟨q, hq⟩ : ∃ q, q = 128 + y % 128 := ⟨_, rfl⟩
      have hor : bits .or .u8 ((y : Int) % 256) 128 = (q : Int) := by rw [Lib.u8_or128_any _ (by omega) (by omega)]; omega
      rw [UInt8.toNat_ofNat', Nat.mod_eq_of_lt (by omega), ← hq] at run
      have RN : Hid ((Builtin.append_ #[24, 24] 24 #[v1, .slice (some ⟨wr.heap.size, 0, none⟩) 1 1]).run Try.prog (wr.alloc (.cells #[.int .u8 (q : Int)] 5)) = .ok (.slice a1 n1 c1) w1) := run
      have hcA : (wr.alloc (.cells #[.int .u8 (q : Int)] 5)).cell? ⟨R, 0, none⟩ = some v1 := by rw [World.cell?_alloc_lt _ _ _ o1.lt]; exact hc0
      clear run og1 f1 g1 HG HM hml o1 hq
      go_wp2_with (first | (at_builtin; refine wpList_append_run rfl (.tmp 10) (.tmp 14) 24 24 rfl _ _ _ rfl rfl RN.out ?_) | go_in)
      go_roundw
      case rel => exact ⟨y / 128, _, by go_num, by omega, HM2, HG2⟩
      case measure => simp [intOf]; omega

end Go.Proofs.Ytjobhlncllfdmaa

/- Plain: bits in bytes; a slice's elements, wherever it begins. -/
namespace Go.Proofs.Ytjobhlncllfdmaa
open Go.RowKit

/-- m bits from a place on, the lowest first -/
def pkb (f : Nat → Nat) (base : Nat) : Nat → Nat
  | 0 => 0
  | m + 1 => pkb f base m + f (base + m) * 2 ^ m
/-- of the first j bits: byte number k -/
def pk (f : Nat → Nat) (j k : Nat) : Nat := pkb f (8 * k) (min 8 (j - 8 * k))
def pkRow (f : Nat → Nat) (sz j : Nat) : List UInt8 := (List.range sz).map fun k => UInt8.ofNat (pk f j k)

theorem pkb_lt {f : Nat → Nat} (hf : ∀ i, f i ≤ 1) (b : Nat) : ∀ m, pkb f b m < 2 ^ m
  | 0 => by simp [pkb]
  | m + 1 => by
    have h1 := pkb_lt hf b m
    have h2 := hf (b + m)
    have h3 : f (b + m) * 2 ^ m ≤ 1 * 2 ^ m := Nat.mul_le_mul_right _ h2
    rw [pkb, Nat.pow_succ]
    omega
theorem pk_lt {f : Nat → Nat} (hf : ∀ i, f i ≤ 1) (j k : Nat) : pk f j k < 256 := by
  have h := pkb_lt hf (8 * k) (min 8 (j - 8 * k))
  have h2 : 2 ^ min 8 (j - 8 * k) ≤ 2 ^ 8 := Nat.pow_le_pow_right (by omega) (by omega)
  unfold pk
  omega
theorem pk_low {f : Nat → Nat} (hf : ∀ i, f i ≤ 1) (j : Nat) : pk f j (j / 8) < 2 ^ (j % 8) := by
  have h := pkb_lt hf (8 * (j / 8)) (min 8 (j - 8 * (j / 8)))
  have e : min 8 (j - 8 * (j / 8)) = j % 8 := by omega
  unfold pk
  rw [e] at h ⊢
  exact h
theorem pk_same (f : Nat → Nat) (j : Nat) : pk f (j + 1) (j / 8) = pk f j (j / 8) + f j * 2 ^ (j % 8) := by
  unfold pk
  have e : min 8 (j + 1 - 8 * (j / 8)) = j % 8 + 1 := by omega
  have e2 : min 8 (j - 8 * (j / 8)) = j % 8 := by omega
  have e3 : 8 * (j / 8) + j % 8 = j := by omega
  rw [e, e2, pkb, e3]
theorem pk_other (f : Nat → Nat) (j k : Nat) (h : k ≠ j / 8) : pk f (j + 1) k = pk f j k := by
  unfold pk
  have e : min 8 (j + 1 - 8 * k) = min 8 (j - 8 * k) := by omega
  rw [e]
theorem length_pkRow (f : Nat → Nat) (sz j : Nat) : (pkRow f sz j).length = sz := by simp [pkRow]
theorem pkRow_set (f : Nat → Nat) (sz j : Nat) : (pkRow f sz j).set (j / 8) (UInt8.ofNat (pk f j (j / 8) + f j * 2 ^ (j % 8))) = pkRow f sz (j + 1) := by
  apply List.ext_getElem
  · simp [pkRow]
  intro k h1 h2
  simp only [pkRow, List.length_map, List.length_range] at h2
  rw [List.getElem_set]
  split
  · rename_i h; subst h; simp [pkRow, pk_same]
  · rename_i h; simp [pkRow, pk_other f j k (fun e => h e.symm)]
theorem pkRow_zero (f : Nat → Nat) (sz : Nat) : pkRow f sz 0 = List.replicate sz 0 := by
  apply List.ext_getElem
  · simp [pkRow]
  intro k h1 h2
  simp [pkRow, pk, pkb]

/-- bytes in a block, all of it -/
def By8 (w : World) (g : Nat) (L : List UInt8) : Prop := w.heap[g]? = some (.cells (bytesV L).toArray 5 (0, 0))
theorem By8.cell {w : World} {g : Nat} {L : List UInt8} (h : By8 w g L) (k : Nat) (hk : k < L.length) : w.cell? ⟨g, k, none⟩ = some (.int .u8 (L[k].toNat : Int)) := by
  rw [cell_of_row w g k _ _ _ h]; simp [bytesV, hk]
theorem By8.fz {w : World} {g : Nat} {L : List UInt8} (h : By8 w g L) (k : Nat) : w.frozen? ⟨g, k, none⟩ = false := frozen_of_row w g k _ _ h
theorem By8.lt {w : World} {g : Nat} {L : List UInt8} (h : By8 w g L) : g < w.heap.size := (Array.getElem?_eq_some_iff.1 h).1
theorem By8.set {w : World} {g : Nat} {L : List UInt8} (h : By8 w g L) (k : Nat) (b : UInt8) : By8 (w.setCell ⟨g, k, none⟩ (.int .u8 (b.toNat : Int))) g (L.set k b) := by
  unfold By8
  rw [heap_setCell_same w g k _ _ _ h]
  simp [bytesV, List.map_set]
theorem By8.kept {w w' : World} {g : Nat} {L : List UInt8} (h : By8 w g L) (hw : w'.heap[g]? = w.heap[g]?) : By8 w' g L := by unfold By8; rw [hw]; exact h
theorem By8.own {w : World} {g : Nat} {L : List UInt8} (h : By8 w g L) (hl : L.length ≤ maxLen) {B : Nat} (hB : B ≤ g) : w.ownsRow B 5 1 (.slice (some ⟨g, 0, none⟩) L.length L.length) L.length (bytesV L) :=
  ⟨by simp [bytesV], .inr ⟨g, L.length, _, rfl, hB, h, Nat.le_refl _, hl, by simp [bytesV], by rw [Nat.mul_one]; exact List.take_of_length_le (by simp [bytesV])⟩⟩

/-- a slice of n elements of sz cells, in block lb, wherever it begins -/
def Rs (w : World) (sz lb : Nat) (ao : Option Addr) (n cap : Nat) (xs : List Value) : Prop :=
  n ≤ cap ∧ cap ≤ maxLen ∧ xs.length = n * sz ∧ (n = 0 ∨ ∃ o, ao = some ⟨lb, o, none⟩ ∧ ∀ j, (h : j < xs.length) → w.cell? ⟨lb, o + j, none⟩ = some xs[j])
def cutS (ao : Option Addr) (cap n sz : Nat) : Option Addr := if cap = n then ao else ao.map (·.add (n * sz))

section
variable {w w' : World} {sz lb : Nat} {ao : Option Addr} {n cap : Nat} {xs : List Value}
theorem Rs.kept (h : Rs w sz lb ao n cap xs) (hw : w'.heap[lb]? = w.heap[lb]?) : Rs w' sz lb ao n cap xs := by
  obtain ⟨h1, h2, h3, h4⟩ := h
  refine ⟨h1, h2, h3, ?_⟩
  rcases h4 with rfl | ⟨o, rfl, hc⟩
  · exact .inl rfl
  · exact .inr ⟨o, rfl, fun j hj => by rw [World.cell?_of_block (w := w) hw]; exact hc j hj⟩
theorem Rs.take (h : Rs w sz lb ao n cap xs) (m : Nat) (hm : m ≤ n) : Rs w sz lb ao m m (xs.take (m * sz)) := by
  obtain ⟨h1, h2, h3, h4⟩ := h
  have hle : m * sz ≤ n * sz := Nat.mul_le_mul_right _ hm
  refine ⟨Nat.le_refl _, by omega, by rw [List.length_take]; omega, ?_⟩
  rcases h4 with rfl | ⟨o, rfl, hc⟩
  · exact .inl (by omega)
  · exact .inr ⟨o, rfl, fun j hj => by rw [List.getElem_take]; exact hc j (by rw [List.length_take] at hj; omega)⟩
theorem Rs.drop (h : Rs w sz lb ao n cap xs) (m : Nat) (hm : m ≤ n) : Rs w sz lb (cutS ao cap m sz) (n - m) (cap - m) (xs.drop (m * sz)) := by
  obtain ⟨h1, h2, h3, h4⟩ := h
  have hle : m * sz ≤ n * sz := Nat.mul_le_mul_right _ hm
  refine ⟨by omega, by omega, by rw [List.length_drop, h3, Nat.sub_mul], ?_⟩
  by_cases hl : m = n
  · exact .inl (by omega)
  rcases h4 with rfl | ⟨o, rfl, hc⟩
  · exact .inl (by omega)
  · refine .inr ⟨o + m * sz, ?_, fun j hj => ?_⟩
    · unfold cutS
      rw [if_neg (by omega)]
      simp only [Option.map, Addr.add]
      split
      · simp_all
      · rfl
    · rw [List.length_drop] at hj
      rw [List.getElem_drop, Nat.add_assoc]
      exact hc (m * sz + j) (by omega)
theorem Rs.at (h : Rs w sz lb ao n cap xs) (hn : 0 < n) : ∃ o, ao = some ⟨lb, o, none⟩ ∧ ∀ j, (h : j < xs.length) → w.cell? ⟨lb, o + j, none⟩ = some xs[j] := by
  obtain ⟨_, _, _, h4⟩ := h
  rcases h4 with rfl | h
  · omega
  · exact h
end

/-- a row of one's own, as a slice -/
theorem Rs.ofOwn {w : World} {B : Nat} {e : TypeId} {sz : Nat} {ao : Option Addr} {n cap : Nat} {xs : List Value} (h : w.ownsRow B e sz (.slice ao n cap) n xs) : ∃ lb, Rs w sz lb ao n cap xs ∧ (∀ k, (Value.slice ao n cap).ownBlock = some k → k = lb) := by
  rcases h.2 with ⟨hv, rfl⟩ | ⟨g, cap', cur, hv, _, hg, h1, h2, h3, h4⟩
  · simp only [Value.slice.injEq] at hv
    obtain ⟨rfl, _, rfl⟩ := hv
    exact ⟨0, ⟨Nat.le_refl _, by unfold maxLen; omega, h.1, .inl rfl⟩, fun k hk => by simp [Value.ownBlock] at hk⟩
  · simp only [Value.slice.injEq, true_and] at hv
    obtain ⟨rfl, rfl⟩ := hv
    refine ⟨g, ⟨h1, h2, h.1, .inr ⟨0, rfl, fun j hj => ?_⟩⟩, fun k hk => by simpa [Value.ownBlock] using hk.symm⟩
    rw [Nat.zero_add, h.cellAt j (by have := h.1; omega), List.getElem?_eq_getElem hj]

end Go.Proofs.Ytjobhlncllfdmaa
