/- Contracts of the reference's Low and Ending, and of small. -/
import Derived.Test.YtjobhlncllfdmaaM11
import Derived.Test.YtjobhlncllfdmaaM02
import Derived.Test.YtjobhlncllfdmaaM06
import Derived.Test.YtjobhlncllfdmaaM09
import Derived.Laws.IdiomStrings
namespace Go.Proofs.Ytjobhlncllfdmaa
open Go.RowKit

/-- a number as n bytes, the lowest first -/
def leB : Nat → Nat → List UInt8
  | 0, _ => []
  | n + 1, x => UInt8.ofNat (x % 256) :: leB n (x / 256)

theorem leB_snoc (k x : Nat) : leB (k + 1) x = leB k x ++ [UInt8.ofNat (x / 256 ^ k % 256)] := by
  induction k generalizing x with
  | zero => simp [leB]
  | succ k ih =>
    rw [leB, ih (x / 256), leB, List.cons_append, Nat.div_div_eq_div_mul, Nat.pow_succ, Nat.mul_comm 256]

theorem length_leB (n x : Nat) : (leB n x).length = n := by
  induction n generalizing x with
  | zero => rfl
  | succ n ih => simp [leB, ih]

theorem bytesV_snoc (D : List UInt8) (b : UInt8) : bytesV D ++ [.int .u8 (b.toNat : Int)] = bytesV (D ++ [b]) := by simp [bytesV]

/-- the text of a row of bytes of one's own -/
theorem text_of_row {w : World} {B g cap : Nat} {D : List UInt8} (h : w.ownsRow B 5 1 (.slice (some ⟨g, 0, none⟩) D.length cap) D.length (bytesV D)) :
    (convert 24 9 (.slice (some ⟨g, 0, none⟩) D.length cap)).run Try.prog w = .ok (.string ⟨D.toArray⟩) w := by
  exact run_convert_bytes_back (P := Try.prog) w 24 9 5 ⟨g, 0, none⟩ cap D Try.underlying24 Try.underlying5 Try.underlying9 (fun j hj => by
    rw [show (⟨g, 0, none⟩ : Addr).add j = ⟨g, j, none⟩ from by unfold Addr.add; split <;> simp_all, h.cellAt j (by omega)]
    simp only [bytesV, List.getElem?_map, List.getElem?_eq_getElem hj, Option.map_some])

set_option maxHeartbeats 2000000 in
set_option maxRecDepth 100000 in
theorem refLow_any (x n : Nat) (w : World) (hx : x ≤ 140737488355328) (hn : n ≤ 8) (hn0 : 0 < n) :
    Calls Try.prog 28 #[.int .i64 x, .int .i64 n] w fun e w' => e = .returned (.string ⟨(leB n x).toArray⟩) ∧ Below w.heap.size w w' := by
  go_enter Try.func28, Try.ntmps28
  go_wp2
  go_loopw [5, 6, 7] (fun v u i wr => ∃ k y : Nat, k ≤ n ∧ i = .int .i64 k ∧ u = .int .u64 y ∧ y ≤ x ∧ Hid (y = x / 256 ^ k) ∧ wr.ownsRow w.heap.size 5 1 v k (bytesV (leB k x)) ∧ Below w.heap.size w wr)
    (fun _ _ i _ => n - (intOf i).toNat)
  case atStart => exact ⟨0, x, Nat.zero_le _, rfl, rfl, Nat.le_refl _, by simp [Hid], World.ownsRow_nil _ _ _ _, Below.refl _ _⟩
  case round =>
    obtain ⟨k, y, hk, rfl, rfl, hyx, Hy, hown, hbel⟩ := hrel
    obtain ⟨ao, cap, rfl⟩ := slen_of hown
    by_cases hk2 : k < n
    · obtain ⟨i0, hi, hz0, hz1, hz2⟩ := info_parts Try.info5
      go_wp2_with (first
        | (at_builtin; refine wpList_append_own _ rfl _ _ 24 rfl w.heap.size 5 i0 (.int .u8 0) 1 1 Try.underlying24 hi hz0 hz1 hz2 rfl (by decide) _ _ _ rfl (hown.alloc _) ⟨_, 0, none⟩ 1 1 [.int .u8 ((y : Int) % 256)] rfl rfl ?c1 ?c2 ?c3 ?c4 ?c5 ?_)
        | go_in)
      case c1 => exact one_new rfl
      case c2 => exact one_cell
      case c3 => unfold maxLen; omega
      case c4 => omega
      case c5 => rw [size_alloc']; have := hbel.size; omega
      intro v' w1 hown3 hg _
      have hbel3 := below_append hbel (Nat.le_refl _) hg (fun k e => (hown.lt k e).1)
      have hb : ((y : Int) % 256) = ((UInt8.ofNat (y % 256)).toNat : Int) := by
        rw [UInt8.toNat_ofNat', Nat.mod_eq_of_lt (by omega)]; simp
      have Hy2 : Hid (y / 256 = x / 256 ^ (k + 1)) := by rw [Hid, Hy.out, Nat.div_div_eq_div_mul, Nat.pow_succ]
      rw [hb, bytesV_snoc, Hy.out, ← leB_snoc] at hown3
      clear hg hown hbel hb Hy
      go_wp2
      go_roundw
      case rel => exact ⟨k + 1, y / 256, by omega, by go_num, by go_num, by omega, Hy2, hown3, hbel3⟩
      case measure => simp [intOf]; omega
    · obtain rfl : k = n := by omega
      have hl := length_leB k x
      obtain ⟨g, cap', hv, _, _⟩ := hown.form (by omega)
      simp only [Value.slice.injEq] at hv
      obtain ⟨rfl, _, rfl⟩ := hv
      have hown' : wr.ownsRow w.heap.size 5 1 (.slice (some ⟨g, 0, none⟩) (leB k x).length cap) (leB k x).length (bytesV (leB k x)) := by rw [hl]; exact hown
      have hcv := text_of_row hown'
      rw [hl] at hcv
      clear hown hown' hl
      go_wp2
      go_ret
      exact ⟨rfl, hbel⟩

def endL (D : List UInt8) : List UInt8 := D ++ leB 4 D.length ++ leB 4 (Pu.sum D) ++ stra

theorem bytes_ext {a b : ByteArray} (h : a.data.toList = b.data.toList) : a = b := by
  cases a; cases b; simp only [ByteArray.mk.injEq]; exact Array.ext' h

set_option maxHeartbeats 2000000 in
set_option maxRecDepth 100000 in
theorem ending_any (s : ByteArray) (w : World) (hs : s.size ≤ 140737488354000) :
    Calls Try.prog 12 #[.string s] w fun e w' => e = .returned (.string ⟨(endL s.data.toList).toArray⟩) ∧ Below w.heap.size w w' := by
  obtain ⟨q, hq⟩ : ∃ q, q = Pu.sum s.data.toList := ⟨_, rfl⟩
  have hql : q < 4294967296 := by rw [hq]; exact Pu.sum_lt _
  have SUM : Hid (∀ W : World, Calls Try.prog 29 #[.string s] W fun e w' => e = .returned (.int .u32 (q : Int)) ∧ w' = W) := fun W => by rw [hq]; exact refSum_any _ W (by omega)
  have L1 : Hid (∀ W : World, Calls Try.prog 28 #[.int .i64 (s.size : Int), .int .i64 4] W fun e w' => e = .returned (.string ⟨(leB 4 s.size).toArray⟩) ∧ Below W.heap.size W w') := fun W => refLow_any s.size 4 W (by omega) (by omega) (by omega)
  have L2 : Hid (∀ W : World, Calls Try.prog 28 #[.int .i64 (q : Int), .int .i64 4] W fun e w' => e = .returned (.string ⟨(leB 4 q).toArray⟩) ∧ Below W.heap.size W w') := fun W => refLow_any q 4 W (by omega) (by omega) (by omega)
  have HE : Hid (endL s.data.toList = s.data.toList ++ leB 4 s.size ++ leB 4 q ++ stra) := by rw [Hid, hq]; simp [endL]
  have z1 : (⟨(leB 4 s.size).toArray⟩ : ByteArray).size = 4 := by rw [← len_data]; simp [length_leB]
  have z2 : (⟨(leB 4 q).toArray⟩ : ByteArray).size = 4 := by rw [← len_data]; simp [length_leB]
  have D1 : Hid ((⟨(leB 4 s.size).toArray⟩ : ByteArray).data.toList = leB 4 s.size) := by simp [Hid]
  have D2 : Hid ((⟨(leB 4 q).toArray⟩ : ByteArray).data.toList = leB 4 q) := by simp [Hid]
  generalize (⟨(leB 4 s.size).toArray⟩ : ByteArray) = t1 at *
  generalize (⟨(leB 4 q).toArray⟩ : ByteArray) = t2 at *
  clear hq
  go_enter Try.func12, Try.ntmps12
  go_wp2_with fail
  refine (L1.out _).mono ?_
  rintro e w1 ⟨rfl, hb1⟩
  go_wp2_with fail
  refine (SUM.out _).mono ?_
  rintro e w' ⟨rfl, hw'⟩
  subst w'
  go_wp2_with fail
  refine (L2.out _).mono ?_
  rintro e w2 ⟨rfl, hb2⟩
  go_wp2
  go_ret
  refine ⟨?_, hb1.trans (hb2.mono hb1.size)⟩
  refine congrArg (fun t => Ending.returned (.string t)) (bytes_ext ?_)
  simp only [ByteArray.data_append, Array.toList_append]
  rw [D1.out, D2.out, HE.out]
  simp [stra]

theorem size_endL (D : List UInt8) : (endL D).length = D.length + 12 := by simp [endL, length_leB, stra]

def smallL : List UInt8 := stra ++ endL [1, 1, 97, 1, 0]

theorem small_list : smallL = [83, 84, 82, 65, 1, 1, 97, 1, 0, 5, 0, 0, 0, 158, 41, 240, 19, 83, 84, 82, 65] := by kernel_rfl
theorem small_look' : Pu.look [83, 84, 82, 65, 1, 1, 97, 1, 0, 5, 0, 0, 0, 158, 41, 240, 19, 83, 84, 82, 65] = .good 4 [⟨[97], 1, false⟩] [] := by kernel_rfl
theorem small_look : Pu.look smallL = .good 4 [⟨[97], 1, false⟩] [] := by rw [small_list]; exact small_look'

set_option maxHeartbeats 2000000 in
set_option maxRecDepth 100000 in
theorem small_any (w : World) : Calls Try.prog 10 #[] w fun e w' => e = .returned (.string ⟨smallL.toArray⟩) ∧ Below w.heap.size w w' := by
  have E1 : Hid (∀ W : World, Calls Try.prog 12 #[.string ⟨#[1, 1, 97, 1, 0]⟩] W fun e w' => e = .returned (.string ⟨(endL [1, 1, 97, 1, 0]).toArray⟩) ∧ Below W.heap.size W w') := fun W => ending_any ⟨#[1, 1, 97, 1, 0]⟩ W (by decide)
  have z1 : (⟨(endL [1, 1, 97, 1, 0]).toArray⟩ : ByteArray).size = 17 := by rw [← len_data]; simp [size_endL]
  have D1 : Hid ((⟨(endL [1, 1, 97, 1, 0]).toArray⟩ : ByteArray).data.toList = endL [1, 1, 97, 1, 0]) := by simp [Hid]
  generalize (⟨(endL [1, 1, 97, 1, 0]).toArray⟩ : ByteArray) = t1 at *
  go_enter Try.func10, Try.ntmps10
  go_wp2_with fail
  refine (E1.out _).mono ?_
  rintro e w1 ⟨rfl, hb1⟩
  go_wp2
  go_ret
  refine ⟨?_, hb1⟩
  refine congrArg (fun t => Ending.returned (.string t)) (bytes_ext ?_)
  simp only [ByteArray.data_append, Array.toList_append]
  rw [D1.out]
  rfl

end Go.Proofs.Ytjobhlncllfdmaa

/- Whatever is appended to a row of one's own; the program's writer: its block, Bytes, Size, Piece, Text. -/
namespace Go.Proofs.Ytjobhlncllfdmaa
open Go.RowKit

/-- whatever is appended to a row of one's own: in place, or in a new block -/
theorem appendX {P : Program} (w : World) (t tx ty e : TypeId) (i : TypeInfo) (z : Value) (size bytes B : Nat) (ht : P.underlying t = some (.slice e)) (hi : P.info? e = some i) (hz : i.zero = some z) (hsize : i.size = size) (hby : i.bytes = bytes) (hzs : z.cells.size = size)
    (v : Value) (n : Nat) (xs : List Value) (hown : w.ownsRow B e size v n xs) (x : Value) (m : Nat) (ys : List Value) (hsrc : Src P size tx x m ys w) (h63 : n + m ≤ maxLen) (hbytes : (n + m) * bytes ≤ 140737488355328) (hB : B ≤ w.heap.size) :
    ∃ v' w', (Builtin.append_ #[t, tx] ty #[v, x]).run P w = .ok v' w' ∧ w'.ownsRow B e size v' (n + m) (xs ++ ys) ∧ w.grownBy w' v.ownBlock ∧
      (∀ k, v'.ownBlock = some k → v.ownBlock = some k ∨ w.heap.size ≤ k) ∧ (m ≠ 0 → ∃ g c, v' = .slice (some ⟨g, 0, none⟩) (n + m) c) := by
  subst hsize
  have hlx : xs.length = n * i.size := hown.1
  have hlen : (xs ++ ys).length = (n + m) * i.size := by rw [List.length_append, hlx, hsrc.newsLen, Nat.add_mul]
  obtain ⟨av, cv, rfl⟩ := slen_of hown
  by_cases h0 : m = 0
  · subst h0
    have hy : ys = [] := List.eq_nil_of_length_eq_zero (by have := hsrc.newsLen; omega)
    subst hy
    have hle : n ≤ cv := by
      rcases hown.2 with ⟨h, _⟩ | ⟨g, cap', cur, h, _, _, hnc, _⟩
      · simp only [Value.slice.injEq] at h; omega
      · simp only [Value.slice.injEq] at h; omega
    refine ⟨_, _, run_append_nothing w t tx ty e i ht hi av n cv hle x hsrc, ?_, ⟨rfl, rfl, rfl, Nat.le_refl _, fun _ _ _ => rfl⟩, fun k hk => .inl hk, fun h => absurd rfl h⟩
    rw [List.append_nil, Nat.add_zero]
    exact hown
  have grow : ∀ (base : Option Addr) (sc : Nat), (Builtin.firstCells i.size n (.slice base n sc)).run P w.drew = .ok xs.toArray w.drew → sc < n + m →
      ∃ g c w', (Builtin.append_ #[t, tx] ty #[.slice base n sc, x]).run P w = .ok (.slice (some ⟨g, 0, none⟩) (n + m) c) w' ∧
      w'.ownsRow B e i.size (.slice (some ⟨g, 0, none⟩) (n + m) c) (n + m) (xs ++ ys) ∧ g = w.heap.size ∧ w.grownBy w' none := by
    intro base sc hold hsc
    have hr := run_append_grow_src w t tx ty e i z ht hi hz base n sc xs hold x m ys hsrc hsc (by unfold maxLen at h63; omega) (by rw [hby]; exact growslice_fits (by omega) hbytes)
    have hge := grownCap_ge w (n + m) sc e
    have hcm : grownCap w (n + m) sc e ≤ maxLen := grownCap_le_maxLen w (n + m) sc e h63
    refine ⟨_, _, _, hr, ⟨hlen, .inr ⟨w.heap.size, _, _, rfl, hB, heap_alloc_new w.drew _, hge, hcm, ?_, ?_⟩⟩, rfl, ⟨rfl, rfl, rfl, by simp, fun k hk _ => Below.heap_alloc w.drew _ k hk⟩⟩
    · simp only [Array.size_append, List.size_toArray, size_zeroCells, hzs]
      rw [hlen, ← Nat.add_mul]
      congr 1; omega
    · simp only [Array.toList_append]
      rw [← hlen]
      exact List.take_left
  rcases hown.2 with ⟨hv, hn0⟩ | ⟨g, cap, cur, hv, hbg, hg, hnc, hcm, hcs, htake⟩
  · simp only [Value.slice.injEq] at hv
    obtain ⟨rfl, rfl, rfl⟩ := hv
    have hx0 : xs = [] := List.eq_nil_of_length_eq_zero (by rw [hlx]; simp)
    subst hx0
    obtain ⟨g, c, w', h2, h3, h4, h5⟩ := grow none 0 (by simpa using run_firstCells_none (P := P) w.drew i.size 0 0 0) (by omega)
    exact ⟨_, w', h2, h3, ⟨h5.os, h5.tape, h5.output, h5.size, fun k hk _ => h5.block k hk (by simp)⟩, fun k hk => .inr (by simp only [Value.ownBlock, Option.some.injEq] at hk; omega), fun _ => ⟨_, _, rfl⟩⟩
  · simp only [Value.slice.injEq, true_and] at hv
    obtain ⟨rfl, rfl⟩ := hv
    by_cases hroom : n + m ≤ cv
    · have hfit : n * i.size + ys.length ≤ cur.size := by rw [hsrc.newsLen, hcs, ← Nat.add_mul]; exact Nat.mul_le_mul_right _ hroom
      have hst := run_storeCells_at P g (n * i.size) e ys 0 cur w hg (by omega) hsrc.one
      simp only [Nat.add_zero] at hst
      have hr : (Builtin.append_ #[t, tx] ty #[.slice (some ⟨g, 0, none⟩) n cv, x]).run P w = .ok (.slice (some ⟨g, 0, none⟩) (n + m) cv) (w.setRow g (cur.toList.take (n * i.size) ++ ys ++ cur.toList.drop (n * i.size + ys.length)).toArray) := by
        rcases hsrc.kind with ⟨e', hk⟩ | hk <;> simp [Builtin.append_, run_underlying ht, run_underlying hk, sizeOf, typeInfo, hi, hsrc.len, hroom, hsrc.cells, Addr.add_lit, hst]
      refine ⟨_, _, hr, ⟨hlen, .inr ⟨g, cv, _, rfl, hbg, setRow_heap w g cur _ e _ hg, hroom, hcm, ?_, ?_⟩⟩, ⟨rfl, rfl, rfl, by simp, fun k _ hk => setRow_other w g k _ (fun e => hk (by simp [Value.ownBlock, e]))⟩, fun k hk => .inl (by simpa [Value.ownBlock] using hk), fun _ => ⟨_, _, rfl⟩⟩
      · simp only [List.size_toArray, List.length_append, List.length_take, List.length_drop, Array.length_toList]
        omega
      · rw [htake, ← hlen]
        exact List.take_left
    · have holds : ∀ j u, xs[j]? = some u → w.cell? ((⟨g, 0, none⟩ : Addr).add j) = some u := hown.cells (g := g) rfl
      obtain ⟨g', c', w', h2, h3, h4, h5⟩ := grow (some ⟨g, 0, none⟩) cv (run_firstCells_some w.drew i.size n ⟨g, 0, none⟩ n cv xs hlx (by simpa using holds)) (by omega)
      exact ⟨_, w', h2, h3, ⟨h5.os, h5.tape, h5.output, h5.size, fun k hk _ => h5.block k hk (by simp)⟩, fun k hk => .inr (by simp only [Value.ownBlock, Option.some.injEq] at hk; omega), fun _ => ⟨_, _, rfl⟩⟩

/-- a row of one's own as what is appended -/
theorem Src.ofOwn {P : Program} {w : World} {B : Nat} {e : TypeId} {size : Nat} {v : Value} {n : Nat} {xs : List Value} {t e' : TypeId} (ht : P.underlying t = some (.slice e')) (h : w.ownsRow B e size v n xs) (h1 : ∀ u ∈ xs, u.oneCell' = true) : Src P size t v n xs w := by
  rcases h.2 with ⟨rfl, rfl⟩ | ⟨g, cap, cur, rfl, _, hg, _, _, _, _⟩
  · have hx0 : xs = [] := List.eq_nil_of_length_eq_zero (by rw [h.1]; simp)
    subst hx0
    exact Src.ofNil w ht 0
  · exact Src.ofSlice w ht ⟨g, 0, none⟩ n cap xs h.1 (h.cells (g := g) rfl) h1

theorem bytesV_app (a b : List UInt8) : bytesV (a ++ b) = bytesV a ++ bytesV b := by simp [bytesV]
theorem one_bytesV (L : List UInt8) : ∀ u ∈ bytesV L, u.oneCell' = true := fun u hu => by
  obtain ⟨_, _, rfl⟩ := List.mem_map.1 hu
  rfl

/-- the writer in block R: what has been written, in a block of its own -/
structure OS (w : World) (R B : Nat) (v : Value) (L : List UInt8) : Prop where
  blk : w.heap[R]? = some (.cells #[v] 116 (0, 0))
  own : w.ownsRow B 5 1 v L.length (bytesV L)

section
variable {w w' : World} {R B : Nat} {v : Value} {L : List UInt8}
theorem OS.c0 (h : OS w R B v L) : w.cell? ⟨R, 0, none⟩ = some v := by rw [cell_of_row w R 0 _ _ _ h.blk]; rfl
theorem OS.fz (h : OS w R B v L) : w.frozen? ⟨R, 0, none⟩ = false := frozen_of_row w R 0 _ _ h.blk
theorem OS.lt (h : OS w R B v L) : R < w.heap.size := (Array.getElem?_eq_some_iff.1 h.blk).1
theorem OS.ne (h : OS w R B v L) : v.ownBlock ≠ some R := fun e => Ty.ne (own_ty h.own e) ⟨_, h.blk⟩ (by decide) rfl
theorem OS.kept (h : OS w R B v L) (h0 : w'.heap[R]? = w.heap[R]?) (h1 : ∀ k, v.ownBlock = some k → w'.heap[k]? = w.heap[k]?) : OS w' R B v L := ⟨by rw [h0]; exact h.blk, own_agree h.own h1⟩
theorem OS.below (h : OS w R B v L) (hb : Below w.heap.size w w') : OS w' R B v L := h.kept (hb.block _ h.lt) fun k hk => hb.block _ (h.own.lt k hk).2

/-- the writer has gone on -/
def OG (w : World) (R B : Nat) (v : Value) (L : List UInt8) (w' : World) : Prop :=
  ∃ v', OS w' R B v' L ∧ Fr (fun k => k = R ∨ v.ownBlock = some k) w w' ∧ ∀ k, v'.ownBlock = some k → v.ownBlock = some k ∨ w.heap.size ≤ k

theorem OG.refl (h : OS w R B v L) : OG w R B v L w := ⟨v, h, Fr.refl _ _, fun _ hk => .inl hk⟩
theorem OG.trans {w1 w2 : World} {L1 L2 : List UInt8} (h : OG w R B v L1 w1) (h2 : ∀ v1, OS w1 R B v1 L1 → OG w1 R B v1 L2 w2) : OG w R B v L2 w2 := by
  obtain ⟨v1, o1, f1, g1⟩ := h
  obtain ⟨v2, o2, f2, g2⟩ := h2 v1 o1
  refine ⟨v2, o2, f1.trans f2 (fun k hk ht => ?_), fun k hk => ?_⟩
  · rcases ht with rfl | ht
    · exact .inl rfl
    · rcases g1 k ht with h | h
      · exact .inr h
      · omega
  · rcases g2 k hk with h | h
    · exact g1 k h
    · have := f1.size
      exact .inr (by omega)
theorem OG.step {w1 w2 : World} {v1 : Value} {L1 L2 : List UInt8} (o1 : OS w1 R B v1 L1) (f1 : Fr (fun k => k = R ∨ v.ownBlock = some k) w w1) (g1 : ∀ k, v1.ownBlock = some k → v.ownBlock = some k ∨ w.heap.size ≤ k) (h2 : OG w1 R B v1 L2 w2) : OG w R B v L2 w2 := by
  refine OG.trans (w1 := w1) (L1 := L1) ⟨v1, o1, f1, g1⟩ (fun v2 o2 => ?_)
  have e := o1.c0.symm.trans o2.c0
  rw [← Option.some.inj e]
  exact h2
theorem OG.size (h : OG w R B v L w') : w.heap.size ≤ w'.heap.size := by
  obtain ⟨_, _, f, _⟩ := h
  exact f.size
/-- a store of a new row into the writer -/
theorem OG.put {w1 : World} {v1 : Value} {L1 : List UInt8} (h : OS w R B v L) (hg : w.grownBy w1 v.ownBlock) (ho : w1.ownsRow B 5 1 v1 L1.length (bytesV L1)) (hl : ∀ k, v1.ownBlock = some k → v.ownBlock = some k ∨ w.heap.size ≤ k) : OG w R B v L1 (w1.setCell ⟨R, 0, none⟩ v1) := by
  have hb1 : w1.heap[R]? = some (.cells #[v] 116 (0, 0)) := by rw [hg.block R h.lt (fun e => h.ne e.symm)]; exact h.blk
  have hv1 : v1.ownBlock ≠ some R := fun e => by
    rcases hl R e with h' | h'
    · exact h.ne h'
    · have := h.lt; omega
  refine ⟨v1, ⟨by rw [heap_setCell_same w1 R 0 _ _ _ hb1]; rfl, ownsRow_set_other' ho hv1⟩, ⟨hg.os, hg.tape, hg.output, by rw [size_set]; exact hg.size, fun k hk hn => ?_⟩, hl⟩
  rw [heap_setCell_other w1 _ k _ (fun e => hn (.inl e))]
  exact hg.block k hk (fun e => hn (.inr e.symm))
end

theorem outBytes_any (R B : Nat) (v : Value) (L : List UInt8) (w : World) (h : OS w R B v L) :
    Calls Try.prog 60 #[.pointer (some ⟨R, 0, none⟩)] w fun e w' => e = .returned v ∧ w' = w := by
  have h0 := h.c0
  go_enter Try.func60, Try.ntmps60
  go_wp2
  go_ret
  exact ⟨rfl, rfl⟩

theorem outSize_any (R B : Nat) (v : Value) (L : List UInt8) (w : World) (h : OS w R B v L) :
    Calls Try.prog 89 #[.pointer (some ⟨R, 0, none⟩)] w fun e w' => e = .returned (.int .i64 (L.length : Int)) ∧ w' = w := by
  obtain ⟨av, cv, rfl⟩ := slen_of h.own
  have h0 := h.c0
  go_enter Try.func89, Try.ntmps89
  go_wp2
  go_ret
  exact ⟨rfl, rfl⟩

set_option maxHeartbeats 1000000 in
set_option maxRecDepth 100000 in
theorem outPiece_any (R B B2 : Nat) (v x : Value) (L L2 : List UInt8) (w : World) (h : OS w R B v L) (hx : w.ownsRow B2 5 1 x L2.length (bytesV L2)) (hB : B ≤ w.heap.size) (hs : L.length + L2.length ≤ 140737488355328) :
    Calls Try.prog 74 #[.pointer (some ⟨R, 0, none⟩), x] w fun e w' => e = .returned (.tuple #[]) ∧ OG w R B v (L ++ L2) w' := by
  obtain ⟨i0, hi, hz0, hz1, hz2⟩ := info_parts Try.info5
  obtain ⟨v1, w1, run, own, gr, lies, _⟩ := appendX (P := Try.prog) w 24 24 24 5 i0 (.int .u8 0) 1 1 B Try.underlying24 hi hz0 hz1 hz2 rfl v L.length (bytesV L) h.own x L2.length (bytesV L2) (Src.ofOwn Try.underlying24 hx (one_bytesV L2)) (by unfold maxLen; omega) (by omega) hB
  obtain ⟨a1, c1, rfl⟩ := slen_of own
  have hG := OG.put (L1 := L ++ L2) h gr (by rw [List.length_append, bytesV_app]; exact own) lies
  have h0 := h.c0
  have hc1 : w1.cell? ⟨R, 0, none⟩ = some v := by rw [World.cell?_of_block (gr.block R h.lt (fun e => h.ne e.symm))]; exact h0
  have hf1 : w1.frozen? ⟨R, 0, none⟩ = false := by rw [World.frozen?_of_block (gr.block R h.lt (fun e => h.ne e.symm))]; exact h.fz
  have G : Hid (OG w R B v (L ++ L2) (w1.setCell ⟨R, 0, none⟩ (.slice a1 (L.length + L2.length) c1))) := hG
  have RN : Hid ((Builtin.append_ #[24, 24] 24 #[v, x]).run Try.prog w = .ok (.slice a1 (L.length + L2.length) c1) w1) := run
  clear hG run own gr lies h hx
  go_enter Try.func74, Try.ntmps74
  go_wp2_with (first | (at_builtin; refine wpList_append_run rfl (.tmp 8) (.tmp 9) 24 24 rfl _ _ _ rfl rfl RN.out ?_) | go_in)
  go_end0
  exact ⟨rfl, G.out⟩

set_option maxHeartbeats 1000000 in
set_option maxRecDepth 100000 in
theorem outText_any (R B : Nat) (v : Value) (s : ByteArray) (L : List UInt8) (w : World) (h : OS w R B v L) (hB : B ≤ w.heap.size) (hs : L.length + s.size ≤ 140737488355328) :
    Calls Try.prog 71 #[.pointer (some ⟨R, 0, none⟩), .string s] w fun e w' => e = .returned (.tuple #[]) ∧ OG w R B v (L ++ s.data.toList) w' := by
  obtain ⟨i0, hi, hz0, hz1, hz2⟩ := info_parts Try.info5
  obtain ⟨v1, w1, run, own, gr, lies, _⟩ := appendX (P := Try.prog) w 24 9 24 5 i0 (.int .u8 0) 1 1 B Try.underlying24 hi hz0 hz1 hz2 rfl v L.length (bytesV L) h.own (.string s) s.size (byteCells s) (Src.ofString w Try.underlying9 s) (by unfold maxLen; omega) (by omega) hB
  obtain ⟨a1, c1, rfl⟩ := slen_of own
  have hG := OG.put (L1 := L ++ s.data.toList) h gr (by rw [List.length_append, bytesV_app, len_data]; exact own) lies
  have h0 := h.c0
  have hc1 : w1.cell? ⟨R, 0, none⟩ = some v := by rw [World.cell?_of_block (gr.block R h.lt (fun e => h.ne e.symm))]; exact h0
  have hf1 : w1.frozen? ⟨R, 0, none⟩ = false := by rw [World.frozen?_of_block (gr.block R h.lt (fun e => h.ne e.symm))]; exact h.fz
  have G : Hid (OG w R B v (L ++ s.data.toList) (w1.setCell ⟨R, 0, none⟩ (.slice a1 (L.length + s.size) c1))) := hG
  have RN : Hid ((Builtin.append_ #[24, 9] 24 #[v, .string s]).run Try.prog w = .ok (.slice a1 (L.length + s.size) c1) w1) := run
  clear hG run own gr lies h
  go_enter Try.func71, Try.ntmps71
  go_wp2_with (first | (at_builtin; refine wpList_append_run rfl (.tmp 8) (.tmp 9) 24 9 rfl _ _ _ rfl rfl RN.out ?_) | go_in)
  go_end0
  exact ⟨rfl, G.out⟩

end Go.Proofs.Ytjobhlncllfdmaa
