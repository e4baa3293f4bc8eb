/- Contracts of the program's Varint (any reader) and numberAt. -/
import Derived.Test.YtjobhlncllfdmaaM14
import Derived.Test.YtjobhlncllfdmaaM13
import Derived.Deep.RegionHeld3
namespace Go.Proofs.Ytjobhlncllfdmaa
open Go.RowKit

set_option maxHeartbeats 1000000 in
set_option maxRecDepth 100000 in
theorem varintP_empty (R o cap : Nat) (ao : Option Addr) (w : World)
    (hc : w.cell? ⟨R, o, none⟩ = some (.slice ao 0 cap)) :
    Calls Try.prog 62 #[.pointer (some ⟨R, o, none⟩)] w fun e w' => e = .returned (.tuple #[.int .u32 0, .bool false]) ∧ w' = w := by
  go_enter Try.func62, Try.ntmps62
  go_wp2
  go_loop [4, 12] (fun n i => n = .int .u32 0 ∧ i = .int .i64 0) (fun _ _ => 0)
  case atStart => exact ⟨rfl, rfl⟩
  case round =>
    obtain ⟨rfl, rfl⟩ := hrel
    go_wp2
    go_ret2
    exact ⟨rfl, rfl⟩

theorem varintP_any (D : List UInt8) (a R o lb : Nat) (ao : Option Addr) (cap : Nat) (w : World) (ha : a ≤ D.length) (hr : Rest w lb ao cap (D.drop a))
    (hc : w.cell? ⟨R, o, none⟩ = some (.slice ao (D.length - a) cap)) (hf : w.frozen? ⟨R, o, none⟩ = false) :
    Calls Try.prog 62 #[.pointer (some ⟨R, o, none⟩)] w fun e w' => VAns D a R o ao (D.length - a) cap w e w' := by
  obtain ⟨h1, h2, h3⟩ := hr
  rw [List.length_drop] at h1
  have hempty : D.length - a = 0 → Calls Try.prog 62 #[.pointer (some ⟨R, o, none⟩)] w fun e w' => VAns D a R o ao (D.length - a) cap w e w' := by
    intro h0
    rw [h0] at hc ⊢
    refine (varintP_empty R o cap ao w hc).mono ?_
    rintro e w' ⟨rfl, rfl⟩
    refine VAns.no ?_
    rw [show Pu.vi D a = Pu.viGo D a (5 - 0) 0 0 from rfl]
    exact vi_out (k := 0) (m := 0) (by omega) rfl
  rcases h3 with h3 | ⟨off, rfl, hcell⟩
  · exact hempty (by have := congrArg List.length h3; simpa using this)
  · rw [List.length_drop] at hcell
    exact varintP_row D a R o lb off cap (D.length - a) w rfl ha h1 h2 hc hf (fun j hj => by rw [← byteAt_drop]; exact hcell j hj)

theorem i64_or_small (a b : Nat) (ha : a < 2 ^ 62) (hb : b < 2 ^ 62) : bits .or .i64 (a : Int) (b : Int) = ((a ||| b : Nat) : Int) :=
  (bits_nat .i64 62 (by decide) (fun n h0 h1 => IntWalk.i64_in n ⟨by omega, by omega⟩) a b ha hb).2

theorem and1 (b : Nat) (hb : b < 256) : bits .and .u8 (b : Int) 1 = ((b % 2 : Nat) : Int) := by
  have := u8_and_nat b 1 hb (by omega)
  rw [Nat.and_two_pow_sub_one_eq_mod b 1] at this
  exact this

theorem orn (x b s k : Nat) (hx : x < 2 ^ k) (hk : k ≤ 24) (hb : b < 256) :
    bits .or .i64 (x : Int) (wrap64 (wrap64 (bits .and .u8 ((b : Int) / 2 ^ s) 1) * 2 ^ k)) = ((x + 2 ^ k * (b / 2 ^ s % 2) : Nat) : Int) := by
  have e1 : (b : Int) / 2 ^ s = ((b / 2 ^ s : Nat) : Int) := by simp
  have h1 : b / 2 ^ s ≤ b := Nat.div_le_self _ _
  have h2 : 2 ^ k ≤ 16777216 := Nat.le_trans (Nat.pow_le_pow_right (by omega) hk) (by decide)
  have h5 : b / 2 ^ s % 2 < 2 := Nat.mod_lt _ (by omega)
  rw [e1, and1 _ (by omega), IntWalk.wrap64_in ((b / 2 ^ s % 2 : Nat) : Int) (by omega)]
  have e2 : ((b / 2 ^ s % 2 : Nat) : Int) * 2 ^ k = ((b / 2 ^ s % 2 * 2 ^ k : Nat) : Int) := by simp
  rw [e2]
  have h3 : b / 2 ^ s % 2 * 2 ^ k ≤ 1 * 2 ^ k := Nat.mul_le_mul_right _ (by omega)
  have h4 : b / 2 ^ s % 2 * 2 ^ k ≤ 16777216 := by omega
  rw [IntWalk.wrap64_in _ (by generalize b / 2 ^ s % 2 * 2 ^ k = z at *; omega), i64_or_small _ _ (by omega) (by omega), Nat.or_comm, or_shift _ _ _ hx, Nat.add_comm, Nat.mul_comm]

set_option maxHeartbeats 1000000 in
set_option maxRecDepth 100000 in
theorem numberAt_row (L : List UInt8) (lb o cap q W : Nat) (w : World) (hW : W ≤ 24) (hq : q + W ≤ 8 * L.length) (hL : L.length ≤ 1000000000000)
    (hrow : ∀ j, j < L.length → w.cell? ⟨lb, o + j, none⟩ = some (.int .u8 (Pu.byteAt L j : Int))) :
    Calls Try.prog 80 #[.slice (some ⟨lb, o, none⟩) L.length cap, .int .i64 q, .int .i64 W] w fun e w' => e = .returned (.int .i64 (Pu.nAt L q W)) ∧ w' = w := by
  have Hrow : Hid (∀ j, j < L.length → w.cell? ⟨lb, o + j, none⟩ = some (.int .u8 (Pu.byteAt L j : Int))) := hrow
  clear hrow
  go_enter Try.func80, Try.ntmps80
  go_wp2
  go_loop [7, 12] (fun n i => ∃ k x : Nat, k ≤ W ∧ Hid (x = Pu.nAt L q k) ∧ n = .int .i64 x ∧ i = .int .i64 k) (fun _ i => W - (intOf i).toNat)
  case atStart => exact ⟨0, 0, Nat.zero_le _, rfl, rfl, rfl⟩
  case round =>
    obtain ⟨k, x, hk, Hx, rfl, rfl⟩ := hrel
    by_cases hkW : k < W
    · have HB : ∃ b, Hid (b = Pu.byteAt L ((q + k) / 8)) ∧ b < 256 ∧ w.cell? ⟨lb, o + (q + k) / 8, none⟩ = some (.int .u8 (b : Int)) := ⟨_, rfl, Pu.byteAt_lt _ _, Hrow.out _ (by omega)⟩
      obtain ⟨b, HB, hb, hcb⟩ := HB
      have hor := orn x b ((q + k) % 8) k (by rw [Hx.out]; exact Pu.nAt_lt L q k) (by omega) hb
      have HN : Hid (x + 2 ^ k * (b / 2 ^ ((q + k) % 8) % 2) = Pu.nAt L q (k + 1)) := by
        rw [Hid, Pu.nAt, Hx.out, HB.out]; rfl
      obtain ⟨y, hy⟩ : ∃ y, y = x + 2 ^ k * (b / 2 ^ ((q + k) % 8) % 2) := ⟨_, rfl⟩
      rw [← hy] at hor
      have HN2 : Hid (y = Pu.nAt L q (k + 1)) := by rw [Hid, hy]; exact HN.out
      clear hy HN
      go_wp2
      go_round
      case rel => exact ⟨k + 1, y, by omega, HN2, by rw [← hor], by go_num⟩
      case measure => simp [intOf]; omega
    · obtain rfl : k = W := by omega
      go_wp2
      go_ret
      exact ⟨ret_int (by rw [Hx.out]), rfl⟩

set_option maxHeartbeats 1000000 in
theorem numberAt_zero (v : Value) (q : Int) (w : World) :
    Calls Try.prog 80 #[v, .int .i64 q, .int .i64 0] w fun e w' => e = .returned (.int .i64 0) ∧ w' = w := by
  go_enter Try.func80, Try.ntmps80
  go_wp2
  go_loop [7, 12] (fun n i => n = .int .i64 0 ∧ i = .int .i64 0) (fun _ _ => 0)
  case atStart => exact ⟨rfl, rfl⟩
  case round =>
    obtain ⟨rfl, rfl⟩ := hrel
    go_wp2
    go_ret
    exact ⟨rfl, rfl⟩

theorem numberAt_any (L : List UInt8) (lb : Nat) (ao : Option Addr) (cap q W : Nat) (w : World) (hW : W ≤ 24) (hq : q + W ≤ 8 * L.length) (hL : L.length ≤ 1000000000000) (hr : Rest w lb ao cap L) :
    Calls Try.prog 80 #[.slice ao L.length cap, .int .i64 q, .int .i64 W] w fun e w' => e = .returned (.int .i64 (Pu.nAt L q W)) ∧ w' = w := by
  obtain ⟨_, _, h3⟩ := hr
  rcases h3 with rfl | ⟨o, rfl, hc⟩
  · have : W = 0 := by simp at hq; omega
    subst this
    exact numberAt_zero _ _ w
  · exact numberAt_row L lb o cap q W w hW hq hL hc

end Go.Proofs.Ytjobhlncllfdmaa

/- The program's runs.putNumber, writeEight, writeEqual, equalOnes. -/
namespace Go.Proofs.Ytjobhlncllfdmaa
open Go.RowKit

theorem Fr.drew' {T : Nat → Prop} {w w' : World} (h : Fr T w w') : Fr T w w'.drew := ⟨h.os, h.tape, h.output, h.size, h.block⟩
theorem i64_and1 (a : Nat) (ha : a < 2 ^ 62) : bits .and .i64 (a : Int) 1 = ((a % 2 : Nat) : Int) := by
  have := (bits_nat .i64 62 (by decide) (fun n h0 h1 => IntWalk.i64_in n ⟨by omega, by omega⟩) a 1 ha (by decide)).1
  rw [Nat.and_two_pow_sub_one_eq_mod a 1] at this
  exact this
/-- a bit laid into a byte -/
theorem bit_or (y b r : Nat) (hy : y < 2 ^ r) (hb : b ≤ 1) (hr : r < 8) : bits .or .u8 (y : Int) ((b : Int) * 2 ^ min r 8 % 256) = ((y + b * 2 ^ r : Nat) : Int) ∧ y + b * 2 ^ r < 256 := by
  have h2 : 2 ^ r ≤ 2 ^ 7 := Nat.pow_le_pow_right (by omega) (by omega)
  have h3 : b * 2 ^ r ≤ 1 * 2 ^ r := Nat.mul_le_mul_right _ hb
  have e1 : (b : Int) * 2 ^ min r 8 = ((b * 2 ^ r : Nat) : Int) := by rw [Nat.min_eq_left (by omega)]; simp
  rw [e1, Int.emod_eq_of_lt (by omega) (by omega), u8_or_nat _ _ (by omega) (by omega), Nat.or_comm, or_shift _ _ _ hy, Nat.add_comm]
  exact ⟨rfl, by omega⟩
theorem bit_of (x k : Nat) (hx : x < 4294967296) : bits .and .i64 ((x : Int) / 2 ^ k) 1 % 256 = ((x / 2 ^ k % 2 : Nat) : Int) := by
  have e1 : (x : Int) / 2 ^ k = ((x / 2 ^ k : Nat) : Int) := by simp
  have h1 : x / 2 ^ k ≤ x := Nat.div_le_self _ _
  rw [e1, i64_and1 _ (by omega)]
  omega

set_option maxHeartbeats 4000000 in
set_option maxRecDepth 100000 in
theorem putNumber_any (g fr width x sz : Nat) (f : Nat → Nat) (w : World) (h : By8 w g (pkRow f sz fr)) (hf : ∀ i, f i ≤ 1) (hx : ∀ i, i < width → f (fr + i) = x / 2 ^ i % 2) (hz : fr + width ≤ 8 * sz) (hsz : sz ≤ 64) (hx2 : x < 4294967296) (hwd : width ≤ 24) :
    Calls Try.prog 119 #[.slice (some ⟨g, 0, none⟩) sz sz, .int .i64 fr, .int .i64 width, .int .i64 x] w fun e w' => e = .returned (.tuple #[]) ∧ By8 w' g (pkRow f sz (fr + width)) ∧ Fr (fun k => k = g) w w' := by
  have H0 : Hid (By8 w g (pkRow f sz (fr + 0)) ∧ Fr (fun k => k = g) w w) := ⟨h, Fr.refl _ _⟩
  have HX : Hid (∀ i, i < width → f (fr + i) = x / 2 ^ i % 2) := hx
  have HF : Hid (∀ i, f i ≤ 1) := hf
  clear h hx hf
  go_enter Try.func119, Try.ntmps119
  go_wp2
  go_loopw [11] (fun i wr => ∃ k : Nat, k ≤ width ∧ i = .int .i64 k ∧ Hid (By8 wr g (pkRow f sz (fr + k)) ∧ Fr (fun k => k = g) w wr))
    (fun i _ => width - (intOf i).toNat)
  case atStart => exact ⟨0, Nat.zero_le _, rfl, H0⟩
  case round =>
    obtain ⟨k, hk, rfl, HB⟩ := hrel
    by_cases hk2 : k < width
    · obtain ⟨hb, hfr⟩ := HB.out
      have hl := length_pkRow f sz (fr + k)
      obtain ⟨p, hp⟩ : ∃ p, p = (fr + k) / 8 := ⟨_, rfl⟩
      obtain ⟨r, hr⟩ : ∃ r, r = (fr + k) % 8 := ⟨_, rfl⟩
      have hpl : p < sz := by omega
      obtain ⟨y, hy⟩ : ∃ y, y = pk f (fr + k) p := ⟨_, rfl⟩
      have hy256 : y < 256 := by rw [hy]; exact pk_lt HF.out _ _
      have hc : wr.cell? ⟨g, p, none⟩ = some (.int .u8 (y : Int)) := by
        rw [hb.cell p (by omega), hy]
        simp [pkRow, Nat.mod_eq_of_lt (pk_lt HF.out (fr + k) p)]
      have hfz := hb.fz p
      have hq1 : ((fr : Int) + (k : Int)).tdiv 8 = (p : Int) := by rw [Int.tdiv_eq_ediv_of_nonneg (by omega)]; omega
      have hr1 : ((fr : Int) + (k : Int)).tmod 8 = (r : Int) := by rw [Int.tmod_eq_emod_of_nonneg (by omega)]; omega
      have hwp : IntKind.i64.wrap (p : Int) = (p : Int) := by rw [IntKind.wrap_i64]; omega
      have hwr : IntKind.i64.wrap (r : Int) = (r : Int) := by rw [IntKind.wrap_i64]; omega
      have HP : Hid (p = (fr + k) / 8) := hp
      have HR : Hid (r = (fr + k) % 8) := hr
      have HY : Hid (y = pk f (fr + k) p) := hy
      obtain ⟨b, hb1⟩ : ∃ b, b = x / 2 ^ k % 2 := ⟨_, rfl⟩
      have hbo := bit_of x k hx2
      rw [← hb1] at hbo
      obtain ⟨hor, hz256⟩ := bit_or y b r (by rw [hy, hp, hr]; exact pk_low HF.out _) (by omega) (by omega)
      obtain ⟨z, hz'⟩ : ∃ z, z = y + b * 2 ^ r := ⟨_, rfl⟩
      rw [← hz'] at hor
      rw [← hz'] at hz256
      have HB2 : Hid (By8 (wr.setCell ⟨g, p, none⟩ (.int .u8 (z : Int))).drew g (pkRow f sz (fr + (k + 1))) ∧ Fr (fun k => k = g) w (wr.setCell ⟨g, p, none⟩ (.int .u8 (z : Int))).drew) := by
        refine ⟨?_, (hfr.trans Fr.set (fun _ _ h => h)).drew'⟩
        have := hb.set p (UInt8.ofNat z)
        rw [UInt8.toNat_ofNat', Nat.mod_eq_of_lt (by omega), hz', hy, hp, hr, hb1, ← HX.out k hk2, pkRow_set] at this
        rw [hz', hy, hp, hr, hb1, ← HX.out k hk2]
        exact this
      clear hp hr hy hb hfr hl hb1 hz' HB
      go_wp2
      refine wp_region_noPanic ?_
      go_region
      refine NoPanic.normal ?_
      go_wp2
      go_roundw
      case rel => exact ⟨k + 1, by omega, by go_num, HB2⟩
      case measure => simp [intOf]; omega
    · obtain rfl : k = width := by omega
      go_wp2
      go_end0
      exact ⟨rfl, HB.out⟩
end Go.Proofs.Ytjobhlncllfdmaa

/- The program's runs.writeEight, writeEqual, equalOnes. -/
namespace Go.Proofs.Ytjobhlncllfdmaa
open Go.RowKit

theorem make_b8 (n : Nat) (hn : n ≤ 100000) (w2 : World) : (Instr.makeSlice 24 (.int .i64 (n : Int)) (.int .i64 (n : Int))).run Try.prog w2 = .ok (.slice (some ⟨w2.heap.size, 0, none⟩) n n) (w2.alloc (.cells (bytesV (List.replicate n 0)).toArray 5)) := by
  obtain ⟨i0, hi, hz0, hz1, hz2⟩ := info_parts Try.info5
  have e : madeCells (Value.int .u8 0).cells (n * i0.size) = (bytesV (List.replicate n 0)).toArray := by
    apply Array.ext_getElem?
    intro j
    rw [hz1, Nat.mul_one]
    unfold madeCells
    by_cases hj : j < n
    · rw [Array.getElem?_map, Array.getElem?_eq_getElem (by simpa using hj)]
      simp [Value.cells, Nat.mod_one, bytesV, hj]
    · rw [Array.getElem?_eq_none (by simp; omega), Array.getElem?_eq_none (by simp [bytesV]; omega)]
  have := run_make (P := Try.prog) w2 24 5 i0 (.int .u8 0) Try.underlying24 hi hz0 .i64 .i64 n n (by omega) (by omega) (by rw [hz2]; omega) (by omega)
  rw [Int.toNat_natCast, e] at this
  exact this

section
variable {w w' w1 : World} {R B : Nat} {v : Value} {L : List UInt8}
/-- the writer has gone on, from a world that came later -/
theorem OG.after (hb : Below w.heap.size w w1) (h : OG w1 R B v L w') : OG w R B v L w' := by
  obtain ⟨v', o, f, g⟩ := h
  refine ⟨v', o, (Fr.of_below _ hb).trans f (fun _ _ h => h), fun k hk => ?_⟩
  rcases g k hk with h | h
  · exact .inl h
  · have := hb.size
    exact .inr (by omega)
theorem OG.later (h : OG w R B v L w1) (hb : Below w1.heap.size w1 w') : OG w R B v L w' := by
  obtain ⟨v', o, f, g⟩ := h
  exact ⟨v', o.below hb, f.trans (Fr.of_below (fun _ => False) hb) (fun _ _ h => h.elim), g⟩
end

/-- bit number i of numbers of some width, one behind the other -/
def bf (width : Nat) (l : List Nat) (i : Nat) : Nat := l.getD (i / width) 0 / 2 ^ (i % width) % 2
theorem bf_le (width : Nat) (l : List Nat) (i : Nat) : bf width l i ≤ 1 := by unfold bf; omega
theorem bf_at (width : Nat) (l : List Nat) (k i : Nat) (hi : i < width) (hk : k < l.length) : bf width l (k * width + i) = l[k] / 2 ^ i % 2 := by
  unfold bf
  have h0 : 0 < width := by omega
  have e1 : (k * width + i) / width = k := by rw [Nat.mul_comm, Nat.mul_add_div h0, Nat.div_eq_of_lt hi, Nat.add_zero]
  have e2 : (k * width + i) % width = i := by rw [Nat.mul_comm, Nat.mul_add_mod, Nat.mod_eq_of_lt hi]
  rw [e1, e2, List.getD_eq_getElem?_getD, List.getElem?_eq_getElem hk, Option.getD_some]
/-- at most eight numbers, packed -/
def eightL (width : Nat) (l : List Nat) : List UInt8 := vb 3 ++ pkRow (bf width l) width (l.length * width)

set_option maxHeartbeats 4000000 in
set_option maxRecDepth 100000 in
theorem writeEight_any (R B lb width cap : Nat) (v : Value) (L : List UInt8) (l : List Nat) (ao : Option Addr) (w : World) (h : OS w R B v L) (hB : B ≤ w.heap.size) (hr : Rs w 1 lb ao l.length cap (ints l)) (hlb : l ≠ [] → lb < w.heap.size)
    (hl8 : l.length ≤ 8) (hx : ∀ x ∈ l, x < 4294967296) (hwd : width ≤ 24) (hs : L.length + 1000 ≤ 140737488355328) :
    Calls Try.prog 116 #[.pointer (some ⟨R, 0, none⟩), .slice ao l.length cap, .int .i64 width] w fun e w' => e = .returned (.tuple #[]) ∧ OG w R B v (L ++ eightL width l) w' := by
  have hmk := make_b8 width (by omega) w
  obtain ⟨W0, hW0⟩ : ∃ W0, W0 = w.alloc (.cells (bytesV (List.replicate width 0)).toArray 5) := ⟨_, rfl⟩
  rw [← hW0] at hmk
  have b0 : By8 W0 w.heap.size (pkRow (bf width l) width 0) := by rw [pkRow_zero, hW0]; exact heap_alloc_new w _
  have f0 : Below w.heap.size w W0 := by rw [hW0]; exact bbox w _
  obtain ⟨G, hG⟩ : ∃ G, G = w.heap.size := ⟨_, rfl⟩
  rw [← hG] at hmk b0 f0 hB
  obtain ⟨N, hN⟩ : ∃ N, N = l.length := ⟨_, rfl⟩
  have HH : Hid (OS w R B v L) := h
  have HR : Hid (Rs w 1 lb ao l.length cap (ints l)) := hr
  have HL : Hid (l ≠ [] → lb < G) := by rw [hG]; exact hlb
  have HX : Hid (∀ x ∈ l, x < 4294967296) := hx
  have HG : Hid (G = w.heap.size) := hG
  have HN : Hid (N = l.length) := hN
  have H0 : Hid (By8 W0 G (pkRow (bf width l) width (0 * width)) ∧ Below G w W0) := by rw [Nat.zero_mul]; exact ⟨b0, f0⟩
  rw [← hN]
  rw [← hN] at hl8
  have hcap : N ≤ cap := by rw [hN]; exact hr.1
  have HCell : Hid (∀ (W : World) (k : Nat), Below G w W → (hk : k < l.length) → ∃ o, ao = some ⟨lb, o, none⟩ ∧ W.cell? ⟨lb, o + k, none⟩ = some (.int .i64 (l[k] : Int))) := fun W k hb hk => by
    obtain ⟨o, rfl, hc⟩ := hr.at (by omega)
    refine ⟨o, rfl, ?_⟩
    have hlt : lb < G := by rw [hG]; exact hlb (fun e => by rw [e] at hk; simp at hk)
    rw [World.cell?_of_block (w := w) (hb.block _ hlt), hc k (by simp [ints]; omega)]
    simp [ints]
  clear h hr hlb hx hG hN hW0 b0 f0
  go_enter Try.func116, Try.ntmps116
  go_wp2
  go_loopw [13] (fun i wr => ∃ k : Nat, k ≤ N ∧ i = .int .i64 k ∧ Hid (By8 wr G (pkRow (bf width l) width (k * width)) ∧ Below G w wr))
    (fun i _ => N - (intOf i).toNat)
  case atStart => exact ⟨0, Nat.zero_le _, rfl, H0⟩
  case round =>
    obtain ⟨k, hk, rfl, HB⟩ := hrel
    by_cases hk2 : k < N
    · have hkl : k < l.length := by rw [← HN.out]; exact hk2
      obtain ⟨o, rfl, hc⟩ := HCell.out wr k HB.out.2 hkl
      obtain ⟨x, hx⟩ : ∃ x, x = l[k] := ⟨_, rfl⟩
      rw [← hx] at hc
      obtain ⟨q, hq⟩ : ∃ q, q = k * width := ⟨_, rfl⟩
      have hqw : IntKind.i64.wrap ((k : Int) * (width : Int)) = (q : Int) := by
        have e : (k : Int) * (width : Int) = (q : Int) := by rw [hq]; simp
        have h2 : q ≤ 8 * 24 := by rw [hq]; exact Nat.mul_le_mul (by omega) hwd
        rw [e, IntKind.wrap_i64]; omega
      have P : Hid (Calls Try.prog 119 #[.slice (some ⟨G, 0, none⟩) width width, .int .i64 q, .int .i64 width, .int .i64 x] wr fun e w' => e = .returned (.tuple #[]) ∧ By8 w' G (pkRow (bf width l) width ((k + 1) * width)) ∧ Fr (fun k => k = G) wr w') := by
        have := putNumber_any G q width x width (bf width l) wr (by rw [hq]; exact HB.out.1) (bf_le width l) (fun i hi => by rw [hq, hx]; exact bf_at width l k i hi hkl) (by
          rw [hq, ← Nat.succ_mul]; exact Nat.mul_le_mul_right _ (by omega)) (by omega) (by rw [hx]; exact HX.out _ (List.getElem_mem hkl)) hwd
        rw [hq, ← Nat.succ_mul] at this
        rw [hq]; exact this
      have HK : Hid (∀ w', Fr (fun k => k = G) wr w' → Below G w w') := fun w' hf => HB.out.2.trans (hf.below (by have := HB.out.2.size; rw [HG.out]; exact this) (fun k e => by omega))
      clear HB hq hx
      go_wp2_with fail
      refine P.out.mono ?_
      rintro e w' ⟨rfl, hb', hf'⟩
      have HB' : Hid (By8 w' G (pkRow (bf width l) width ((k + 1) * width)) ∧ Below G w w') := ⟨hb', HK.out w' hf'⟩
      clear hb' hf' HK P
      go_wp2
      go_roundw
      case rel => exact ⟨k + 1, by omega, by go_num, HB'⟩
      case measure => simp [intOf]; omega
    · obtain rfl : k = N := by omega
      have hbw : Below w.heap.size w wr := by have := HB.out.2; rw [HG.out] at this; exact this
      have o1 : OS wr R B v L := HH.out.below hbw
      have V : Hid (Calls Try.prog 91 #[.pointer (some ⟨R, 0, none⟩), .int .i64 3] wr fun e w' => e = .returned (.tuple #[]) ∧ OG wr R B v (L ++ vb 3) w') := outVarint_any R B 3 v L wr o1 (by have := hbw.size; rw [HG.out] at hB; omega) (by omega) (by omega)
      have HF : Hid (∀ w2, OG wr R B v (L ++ vb 3) w2 → Calls Try.prog 74 #[.pointer (some ⟨R, 0, none⟩), .slice (some ⟨G, 0, none⟩) width width] w2 fun e w' => e = .returned (.tuple #[]) ∧ OG w R B v (L ++ eightL width l) w') := fun w2 h2 => by
        obtain ⟨v2, o2, f2, g2⟩ := h2
        have hlp := length_pkRow (bf width l) width (k * width)
        have hGlt := HB.out.1.lt
        have b2 : By8 w2 G (pkRow (bf width l) width (k * width)) := HB.out.1.kept (f2.block G hGlt (fun e => by
          rcases e with e | e
          · have := HH.out.lt; rw [HG.out] at e; omega
          · have := (HH.out.own.lt G e).2; rw [HG.out] at this; omega))
        have hown : w2.ownsRow 0 5 1 (.slice (some ⟨G, 0, none⟩) width width) (pkRow (bf width l) width (k * width)).length (bytesV (pkRow (bf width l) width (k * width))) := by
          have := b2.own (B := 0) (by rw [hlp]; unfold maxLen; omega) (Nat.zero_le _)
          rw [hlp] at this
          rw [hlp]
          exact this
        have h3 : (vb 3).length = 1 := by rw [vb_small (by omega)]; rfl
        refine (outPiece_any R B 0 v2 _ (L ++ vb 3) (pkRow (bf width l) width (k * width)) w2 o2 hown (by have := f2.size; have := hbw.size; rw [HG.out] at hB; omega) (by rw [List.length_append, h3, hlp]; omega)).mono ?_
        rintro e w' ⟨rfl, h⟩
        refine ⟨rfl, ?_⟩
        rw [List.append_assoc, HN.out] at h
        exact OG.after hbw (OG.step o2 f2 g2 h)
      clear HB o1 hbw
      go_wp2_with fail
      refine V.out.mono ?_
      rintro e w2 ⟨rfl, h2⟩
      have P2 : Hid (Calls Try.prog 74 #[.pointer (some ⟨R, 0, none⟩), .slice (some ⟨G, 0, none⟩) width width] w2 fun e w' => e = .returned (.tuple #[]) ∧ OG w R B v (L ++ eightL width l) w') := HF.out w2 h2
      clear HF V h2
      go_wp2_with fail
      refine P2.out.mono ?_
      rintro e w3 ⟨rfl, h3⟩
      go_wp2
      go_end0
      exact ⟨rfl, h3⟩

set_option maxHeartbeats 2000000 in
set_option maxRecDepth 100000 in
theorem writeEqual_any (R B x width times : Nat) (v : Value) (L : List UInt8) (w : World) (h : OS w R B v L) (hB : B ≤ w.heap.size) (hx : x < 4294967296) (hwd : width ≤ 24) (ht : times ≤ 1000000) (hs : L.length + 1000 ≤ 140737488355328) :
    Calls Try.prog 115 #[.pointer (some ⟨R, 0, none⟩), .int .i64 x, .int .i64 width, .int .i64 times] w fun e w' => e = .returned (.tuple #[]) ∧ OG w R B v (L ++ vb (2 * times) ++ leB ((width + 7) / 8) x) w' := by
  obtain ⟨t2, ht2⟩ : ∃ t2, t2 = 2 * times := ⟨_, rfl⟩
  obtain ⟨q, hq⟩ : ∃ q, q = (width + 7) / 8 := ⟨_, rfl⟩
  have V : Hid (Calls Try.prog 91 #[.pointer (some ⟨R, 0, none⟩), .int .i64 t2] w fun e w' => e = .returned (.tuple #[]) ∧ OG w R B v (L ++ vb t2) w') := outVarint_any R B t2 v L w h hB (by omega) (by omega)
  have NM : Hid (∀ w2, OG w R B v (L ++ vb t2) w2 → Calls Try.prog 75 #[.pointer (some ⟨R, 0, none⟩), .int .u64 x, .int .i64 q] w2 fun e w' => e = .returned (.tuple #[]) ∧ OG w R B v (L ++ vb t2 ++ leB q x) w') := fun w2 h2 => by
    obtain ⟨v2, o2, f2, g2⟩ := h2
    have hl := length_vb8 (n := t2) (by omega)
    refine (outNumber_any R B x q v2 _ w2 o2 (by have := f2.size; omega) (by omega) (by omega) (by rw [List.length_append]; omega)).mono ?_
    rintro e w' ⟨rfl, h⟩
    exact ⟨rfl, OG.step o2 f2 g2 h⟩
  rw [← ht2, ← hq]
  have e1 : IntKind.i64.wrap ((times : Int) * 2) = (t2 : Int) := by rw [IntKind.wrap_i64]; omega
  have e2 : ((width : Int) + 7).tdiv 8 = (q : Int) := by rw [Int.tdiv_eq_ediv_of_nonneg (by omega)]; omega
  have e3 : ((width : Int) + 7) / 8 = (q : Int) := by omega
  have e4 : (times : Int) * 2 = (t2 : Int) := by omega
  clear h ht2 hq
  go_enter Try.func115, Try.ntmps115
  go_wp2_with fail
  refine V.out.mono ?_
  rintro e w2 ⟨rfl, h2⟩
  have P2 : Hid (Calls Try.prog 75 #[.pointer (some ⟨R, 0, none⟩), .int .u64 x, .int .i64 q] w2 fun e w' => e = .returned (.tuple #[]) ∧ OG w R B v (L ++ vb t2 ++ leB q x) w') := NM.out w2 h2
  clear NM V h2
  go_wp2_with fail
  refine P2.out.mono ?_
  rintro e w3 ⟨rfl, h3⟩
  go_wp2
  go_end0
  exact ⟨rfl, h3⟩

/-- how many at the beginning are x -/
def eqs (x : Nat) : List Nat → Nat
  | [] => 0
  | y :: r => if y = x then eqs x r + 1 else 0
theorem eqs_le (x : Nat) : ∀ l, eqs x l ≤ l.length
  | [] => by simp [eqs]
  | y :: r => by unfold eqs; have := eqs_le x r; split <;> simp <;> omega
theorem eqs_at (x : Nat) : ∀ (l : List Nat) (k : Nat), (∀ j, (h : j < l.length) → j < k → l[j] = x) → k ≤ l.length → (k = l.length ∨ ∃ h : k < l.length, l[k] ≠ x) → eqs x l = k
  | [], k, _, hk, _ => by simp at hk; simp [eqs, hk]
  | y :: r, 0, _, _, h => by
    rcases h with h | ⟨_, h⟩
    · simp at h
    · simp at h; simp [eqs, h]
  | y :: r, k + 1, h1, hk, h => by
    have e := h1 0 (by simp) (by omega)
    simp at e
    unfold eqs
    rw [if_pos e, eqs_at x r k (fun j hj hjk => by have := h1 (j + 1) (by simp; omega) (by omega); simpa using this) (by simpa using hk) (by
      rcases h with h | ⟨h, h'⟩
      · exact .inl (by simpa using h)
      · exact .inr ⟨by simpa using h, by simpa using h'⟩)]

set_option maxHeartbeats 2000000 in
set_option maxRecDepth 100000 in
theorem equalOnes_any (lb cap : Nat) (l : List Nat) (ao : Option Addr) (w : World) (hr : Rs w 1 lb ao l.length cap (ints l)) (h0 : 0 < l.length) (hl : l.length ≤ 1000000) :
    Calls Try.prog 114 #[.slice ao l.length cap] w fun e w' => e = .returned (.int .i64 ((eqs l[0] l : Nat) : Int)) ∧ w' = w := by
  obtain ⟨o, rfl, hc⟩ := hr.at h0
  obtain ⟨x, hx⟩ : ∃ x, x = l[0] := ⟨_, rfl⟩
  have hcell : ∀ k, (h : k < l.length) → w.cell? ⟨lb, o + k, none⟩ = some (.int .i64 (l[k] : Int)) := fun k hk => by
    rw [hc k (by simp [ints]; omega)]; simp [ints]
  have hc0 : w.cell? ⟨lb, o, none⟩ = some (.int .i64 (x : Int)) := by have := hcell 0 h0; rw [hx]; simpa using this
  obtain ⟨N, hN⟩ : ∃ N, N = l.length := ⟨_, rfl⟩
  have HC : Hid (∀ k, (h : k < l.length) → w.cell? ⟨lb, o + k, none⟩ = some (.int .i64 (l[k] : Int))) := hcell
  have HN : Hid (N = l.length) := hN
  rw [← hN] at hl h0
  rw [← hx, ← hN]
  have HQ : Hid (∀ k, (∀ j, (h : j < l.length) → j < k → l[j] = x) → k ≤ l.length → (k = l.length ∨ ∃ h : k < l.length, l[k] ≠ x) → eqs x l = k) := eqs_at x l
  clear hr hc hcell hx hN
  go_enter Try.func114, Try.ntmps114
  go_wp2
  go_loop [7] (fun i => ∃ k : Nat, k ≤ N ∧ i = .int .i64 k ∧ Hid (∀ j, (h : j < l.length) → j < k → l[j] = x)) (fun i => N - (intOf i).toNat)
  case atStart => exact ⟨0, Nat.zero_le _, rfl, fun j _ hj => by omega⟩
  case round =>
    obtain ⟨k, hk, rfl, HA⟩ := hrel
    by_cases hk2 : k < N
    · have hkl : k < l.length := by rw [← HN.out]; exact hk2
      obtain ⟨y, hy⟩ : ∃ y, y = l[k] := ⟨_, rfl⟩
      have hck := HC.out k hkl
      rw [← hy] at hck
      by_cases hyx : y = x
      · have HA2 : Hid (∀ j, (h : j < l.length) → j < k + 1 → l[j] = x) := fun j h hj => by
          by_cases e : j = k
          · subst e; rw [← hy, hyx]
          · exact HA.out j h (by omega)
        clear hy
        subst hyx
        go_wp2
        go_round
        case rel => exact ⟨k + 1, by omega, by go_num, HA2⟩
        case measure => simp [intOf]; omega
      · have HE : Hid (eqs x l = k) := HQ.out k HA.out (by omega) (.inr ⟨hkl, by rw [← hy]; exact hyx⟩)
        clear hy HA HQ
        have hyx2 : decide ((y : Int) = (x : Int)) = false := by simp; omega
        go_wp2
        go_ret
        exact ⟨ret_int (by rw [HE.out]), rfl⟩
    · obtain rfl : k = N := by omega
      have HE : Hid (eqs x l = k) := HQ.out k HA.out (by rw [← HN.out]; exact Nat.le_refl _) (.inl HN.out)
      go_wp2
      go_ret
      exact ⟨ret_int (by rw [HE.out]), rfl⟩
end Go.Proofs.Ytjobhlncllfdmaa
