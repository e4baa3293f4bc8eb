/- (*Reader).plain: numbers and texts. -/
import Derived.Test.YtjobhlncllfdmaaGreatM12
import Derived.Test.YtjobhlncllfdmaaGreatM11
import Derived.Test.YtjobhlncllfdmaaGreatM01
namespace Go.Proofs.YtjobhlncllfdmaaGreat
open Go.RowKit

theorem each_no {kind : Nat} {D : List UInt8} {n a : Nat} {out : List Pu.Cl} (hn : 0 < n) (h : Pu.cell1 kind D a = none) : Pu.eachGo kind D n a out = none := by
  obtain ⟨m, rfl⟩ : ∃ m, n = m + 1 := ⟨n - 1, by omega⟩
  simp [Pu.eachGo, h]
theorem each_yes {kind : Nat} {D : List UInt8} {n a a' : Nat} {out : List Pu.Cl} {c : Pu.Cl} (hn : 0 < n) (h : Pu.cell1 kind D a = some (c, a')) : Pu.eachGo kind D n a out = Pu.eachGo kind D (n - 1) a' (out ++ [c]) := by
  obtain ⟨m, rfl⟩ : ∃ m, n = m + 1 := ⟨n - 1, by omega⟩
  simp [Pu.eachGo, h]

theorem le_drop8 (D : List UInt8) (a j : Nat) (h : a + 8 ≤ D.length) (hj : j < 8) : Pu.le ((Pu.piece D a 8).drop j) = Pu.byteAt D (a + j) + 256 * Pu.le ((Pu.piece D a 8).drop (j + 1)) := by
  rw [Pu.le_cons_drop _ j (by rw [Pu.length_piece D a 8 h]; exact hj), Pu.byteAt_piece D a 8 j hj]
theorem le_drop_lt (D : List UInt8) (a j : Nat) (h : a + 8 ≤ D.length) (hj : 1 ≤ j) : Pu.le ((Pu.piece D a 8).drop j) < 72057594037927936 := by
  have := Pu.le_lt ((Pu.piece D a 8).drop j)
  rw [List.length_drop, Pu.length_piece D a 8 h] at this
  exact Nat.lt_of_lt_of_le this (Nat.le_trans (Nat.pow_le_pow_right (by omega) (show 8 - j ≤ 7 by omega)) (by decide))
theorem le_piece_lt (D : List UInt8) (a : Nat) : Pu.le (Pu.piece D a 8) < 256 ^ 8 := by
  have := Pu.le_lt (Pu.piece D a 8)
  exact Nat.lt_of_lt_of_le this (Nat.pow_le_pow_right (by omega) (by simp [Pu.piece]; omega))

set_option maxHeartbeats 4000000 in
set_option maxRecDepth 100000 in
theorem plain_ints (s : ByteArray) (a n r : Nat) (nm : ByteArray) (left : Nat) (opt known : Bool) (vd vc : Value) (w : World) (h : RB w r nm 1 opt left vd known vc) (hs : s.size ≤ 1073741824) (ha : a ≤ s.size) (hn : n ≤ 100000) :
    Calls Tryz.prog 88 #[.pointer (some ⟨r, 0, none⟩), .string s, .int .i64 (a : Int), .int .i64 (n : Int)] w fun e w' => VaAns w.heap.size (Pu.plain 1 s.data.toList a n) e w' ∧ Below w.heap.size w w' := by
  have c1 := h.c1
  have hrl := h.lt
  have hlen : s.data.toList.length = s.size := by simp
  have Hlen : Hid (s.data.toList.length = s.size) := hlen
  have HP : Hid (Pu.plain 1 s.data.toList a n = match Pu.eachGo 1 s.data.toList n a [] with
    | none => none
    | some (l, e) => if e = s.size then some l else none) := by
    unfold Hid Pu.plain
    rw [if_neg (by decide), hlen]
    rfl
  clear h hlen
  go_enter Tryz.func88, Tryz.ntmps88
  go_wp2
  go_loopw [2, 10, 13] (fun t v i wr => ∃ (k q : Nat) (out : List Pu.Cl), k ≤ n ∧ q ≤ s.size ∧ out.length = k ∧ i = .int .i64 k ∧ t = .int .i64 q ∧ wr.ownsRow w.heap.size 57 3 v k (clsV out) ∧ Hid (Pu.eachGo 1 s.data.toList n a [] = Pu.eachGo 1 s.data.toList (n - k) q out) ∧ Below w.heap.size w wr)
    (fun _ _ i _ => n - (intOf i).toNat)
  case atStart => exact ⟨0, a, [], Nat.zero_le _, ha, rfl, rfl, rfl, World.ownsRow_nil _ _ _ _, rfl, Below.refl _ _⟩
  case round =>
    obtain ⟨k, q, out, hk, hq, hol, rfl, rfl, hown, HG, hbel⟩ := hrel
    have Hol : Hid (out.length = k) := hol
    clear hol
    obtain ⟨ao, cap, rfl⟩ := slen_of hown
    have c1' : wr.cell? ⟨r, 1, none⟩ = some (.int .i64 ((1 : Nat) : Int)) := by rw [hbel.cell (p := ⟨r, 1, none⟩) hrl]; exact c1
    by_cases hk2 : k < n
    · by_cases h8 : s.size < q + 8
      · have HX : Hid (Pu.plain 1 s.data.toList a n = none) := by
          rw [Hid, HP.out, HG.out, each_no (by omega) (by unfold Pu.cell1; rw [if_pos rfl, Hlen.out, if_pos h8])]
        go_wp2
        go_ret2
        exact ⟨by rw [HX.out]; exact ⟨_, rfl⟩, hbel⟩
      · have HG2 : Hid (Pu.eachGo 1 s.data.toList n a [] = Pu.eachGo 1 s.data.toList (n - (k + 1)) (q + 8) (out ++ [⟨false, Pu.i64of (Pu.le (Pu.piece s.data.toList q 8)), []⟩])) := by
          rw [Hid, HG.out, each_yes (by omega) (by unfold Pu.cell1; rw [if_pos rfl, Hlen.out, if_neg h8])]
          rfl
        have H8 : Hid (q + 8 ≤ s.data.toList.length) := by rw [Hid, Hlen.out]; omega
        have h8' : q + 8 ≤ s.size := by omega
        go_wp2
        go_loopw [14, 15] (fun u j w2 => ∃ j' y : Nat, j' ≤ 8 ∧ j = .int .i64 ((j' : Int) - 1) ∧ u = .int .u64 y ∧ Hid (y = Pu.le ((Pu.piece s.data.toList q 8).drop j')) ∧ w2 = wr)
          (fun _ j _ => (intOf j + 1).toNat)
        case atStart => exact ⟨8, 0, Nat.le_refl _, rfl, rfl, by rw [Hid, List.drop_of_length_le (by rw [Pu.length_piece _ _ _ H8.out]; exact Nat.le_refl _)]; rfl, rfl⟩
        case round =>
          obtain ⟨j', y, hj', rfl, rfl, Hy, hw2⟩ := hrel
          subst hw2
          by_cases hj0 : j' = 0
          · subst hj0
            have HY : Hid (y = Pu.le (Pu.piece s.data.toList q 8)) := by rw [Hid, Hy.out, List.drop_zero]
            clear Hy
            have hy : y < 18446744073709551616 := by rw [HY.out]; exact le_piece_lt _ _
            have Hy2 : Hid (y < 18446744073709551616) := hy
            clear hy
            obtain ⟨z, hz⟩ : ∃ z : Int, z = wrap64 (y : Int) := ⟨_, rfl⟩
            have HZ : Hid (z = Pu.i64of (Pu.le (Pu.piece s.data.toList q 8))) := by rw [Hid, hz, HY.out, wrap64_eq]; rfl
            obtain ⟨i0, hi, hz0, hz1, hz2⟩ := info_parts Tryz.info57
            go_wp2_with (first
              | (at_builtin; refine wpList_append_own _ rfl _ _ 47 rfl w.heap.size 57 i0 (.agg #[.bool false, .int .i64 0, .string ByteArray.empty]) 3 32 Tryz.underlying47 hi hz0 hz1 hz2 rfl (by decide) _ _ _ rfl (hown.alloc _) ⟨_, 0, none⟩ 1 1 [.bool false,   .int .i64 (wrap64 (y : Int)), .string ByteArray.empty] rfl rfl ?c1 ?c2 ?c3 ?c4 ?c5 ?_)
              | go_in)
            case c1 => exact three_new rfl
            case c2 => exact cl_cells
            case c3 => unfold maxLen; omega
            case c4 => omega
            case c5 => rw [size_alloc']; have := hbel.size; omega
            intro v' w1 hown3 hg _
            have hbel3 := below_append hbel (Nat.le_refl _) hg (fun k e => (hown.lt k e).1)
            have hown4 : w1.ownsRow w.heap.size 57 3 v' (k + 1) (clsV (out ++ [⟨false, Pu.i64of (Pu.le (Pu.piece s.data.toList q 8)), []⟩])) := by
              rw [← clsV_snoc, ← HZ.out, hz]
              exact hown3
            clear hg hown hbel hown3 hz
            go_wp2
            go_roundw
            case rel => exact ⟨k + 1, q + 8, _, by omega, by omega, by simp [Hol.out], by go_num, by go_num, hown4, HG2, hbel3⟩
            case measure => simp [intOf]; omega
          · obtain ⟨j, rfl⟩ : ∃ j, j' = j + 1 := ⟨j' - 1, by omega⟩
            have hy : y < 72057594037927936 := by rw [Hy.out]; exact le_drop_lt _ _ _ H8.out (by omega)
            obtain ⟨b, hb, hbb, HB⟩ := byte_ex s (q + j) (by omega)
            have HN : Hid (256 * y + b = Pu.le ((Pu.piece s.data.toList q 8).drop j)) := by
              rw [Hid, le_drop8 _ _ _ H8.out (by omega), Hy.out, HB.out]; omega
            clear Hy
            have hjj : (q : Int) + ((j : Int) + 1 - 1) = ((q + j : Nat) : Int) := by omega
            go_wp2
            go_roundw
            case rel => exact ⟨j, 256 * y + b, by omega, by go_num, by go_num, HN, trivial⟩
            case measure => simp [intOf]
    · obtain rfl : k = n := by omega
      by_cases he : q = s.size
      · have hed : ((q : Int) == (s.size : Int)) = true := by simp; omega
        have HX : Hid (Pu.plain 1 s.data.toList a k = some out) := by
          rw [Hid, HP.out, HG.out, Nat.sub_self]; simp only [Pu.eachGo]; rw [if_pos he]
        clear he
        go_wp2
        go_ret2
        exact ⟨by rw [HX.out]; exact ⟨_, rfl, by rw [Hol.out]; exact hown⟩, hbel⟩
      · have hed : ((q : Int) == (s.size : Int)) = false := by simp; omega
        have HX : Hid (Pu.plain 1 s.data.toList a k = none) := by
          rw [Hid, HP.out, HG.out, Nat.sub_self]; simp only [Pu.eachGo]; rw [if_neg he]
        clear he
        go_wp2
        go_ret2
        exact ⟨by rw [HX.out]; exact ⟨_, rfl⟩, hbel⟩
end Go.Proofs.YtjobhlncllfdmaaGreat

/- (*Reader).plain: texts; all kinds. -/
namespace Go.Proofs.YtjobhlncllfdmaaGreat
open Go.RowKit

set_option maxHeartbeats 4000000 in
set_option maxRecDepth 100000 in
theorem plain_texts (s : ByteArray) (a n r : Nat) (nm : ByteArray) (left : Nat) (opt known : Bool) (vd vc : Value) (w : World) (h : RB w r nm 2 opt left vd known vc) (hs : s.size ≤ 1073741824) (ha : a ≤ s.size) (hn : n ≤ 100000) :
    Calls Tryz.prog 88 #[.pointer (some ⟨r, 0, none⟩), .string s, .int .i64 (a : Int), .int .i64 (n : Int)] w fun e w' => VaAns w.heap.size (Pu.plain 2 s.data.toList a n) e w' ∧ Below w.heap.size w w' := by
  have c1 := h.c1
  have hrl := h.lt
  have hlen : s.data.toList.length = s.size := by simp
  have Hlen : Hid (s.data.toList.length = s.size) := hlen
  have HP : Hid (Pu.plain 2 s.data.toList a n = match Pu.eachGo 2 s.data.toList n a [] with
    | none => none
    | some (l, e) => if e = s.size then some l else none) := by
    unfold Hid Pu.plain
    rw [if_neg (by decide), hlen]
    rfl
  clear h hlen
  go_enter Tryz.func88, Tryz.ntmps88
  go_wp2
  go_loopw [2, 10, 13] (fun t v i wr => ∃ (k q : Nat) (out : List Pu.Cl), k ≤ n ∧ q ≤ s.size ∧ out.length = k ∧ i = .int .i64 k ∧ t = .int .i64 q ∧ wr.ownsRow w.heap.size 57 3 v k (clsV out) ∧ Hid (Pu.eachGo 2 s.data.toList n a [] = Pu.eachGo 2 s.data.toList (n - k) q out) ∧ Below w.heap.size w wr)
    (fun _ _ i _ => n - (intOf i).toNat)
  case atStart => exact ⟨0, a, [], Nat.zero_le _, ha, rfl, rfl, rfl, World.ownsRow_nil _ _ _ _, rfl, Below.refl _ _⟩
  case round =>
    obtain ⟨k, q, out, hk, hq, hol, rfl, rfl, hown, HG, hbel⟩ := hrel
    have Hol : Hid (out.length = k) := hol
    clear hol
    obtain ⟨ao, cap, rfl⟩ := slen_of hown
    have c1' : wr.cell? ⟨r, 1, none⟩ = some (.int .i64 ((2 : Nat) : Int)) := by rw [hbel.cell (p := ⟨r, 1, none⟩) hrl]; exact c1
    by_cases hk2 : k < n
    · cases hv : Pu.vi s.data.toList q with
      | none =>
        have HX : Hid (Pu.plain 2 s.data.toList a n = none) := by
          rw [Hid, HP.out, HG.out, each_no (by omega) (by unfold Pu.cell1; rw [if_neg (by decide), hv])]
        have V : Hid (∀ W : World, Calls Tryz.prog 54 #[.string s, .int .i64 (q : Int)] W fun e w' => ∃ h nx : Int, e = .returned (.tuple #[.int .i64 h, .int .i64 nx, .bool false]) ∧ w' = W) := fun W => varint_no s q W (by omega) hq hv
        clear hv
        go_wp2_with fail
        refine (V.out _).mono ?_
        rintro e w' ⟨h, nx, rfl, hw'⟩
        subst w'
        go_wp2
        go_ret2
        exact ⟨by rw [HX.out]; exact ⟨_, rfl⟩, hbel⟩
      | some pr =>
        obtain ⟨z, nx⟩ := pr
        obtain ⟨hv1, hv2, hv3⟩ := Pu.vi_lt hv
        rw [Hlen.out] at hv2
        have V : Hid (∀ W : World, Calls Tryz.prog 54 #[.string s, .int .i64 (q : Int)] W fun e w' => e = .returned (.tuple #[.int .i64 z, .int .i64 nx, .bool true]) ∧ w' = W) := fun W => varint_yes s q z nx W (by omega) hq hv
        by_cases hz : s.size < nx + z
        · have HX : Hid (Pu.plain 2 s.data.toList a n = none) := by
            rw [Hid, HP.out, HG.out, each_no (by omega) (by unfold Pu.cell1; rw [if_neg (by decide), hv]; simp only []; rw [Hlen.out, if_pos hz])]
          clear hv
          go_wp2_with fail
          refine (V.out _).mono ?_
          rintro e w' ⟨rfl, hw'⟩
          subst w'
          go_wp2
          go_ret2
          exact ⟨by rw [HX.out]; exact ⟨_, rfl⟩, hbel⟩
        · have HG2 : Hid (Pu.eachGo 2 s.data.toList n a [] = Pu.eachGo 2 s.data.toList (n - (k + 1)) (nx + z) (out ++ [⟨false, 0, Pu.piece s.data.toList nx z⟩])) := by
            rw [Hid, HG.out, each_yes (by omega) (by unfold Pu.cell1; rw [if_neg (by decide), hv]; simp only []; rw [Hlen.out, if_neg hz])]
            rfl
          have HS := str_piece s nx z (by omega)
          have HS2 : Hid (s.extract nx (nx + z) = ⟨(Pu.piece s.data.toList nx z).toArray⟩) := HS
          obtain ⟨m, hm⟩ : ∃ m, m = nx + z := ⟨_, rfl⟩
          have Hm : Hid (m = nx + z) := hm
          have hm2 : (nx : Int) + (z : Int) = (m : Int) := by omega
          have hm3 : m ≤ s.size := by omega
          have hm4 : nx ≤ m := by omega
          clear hm hv HS
          obtain ⟨i0, hi, hz0, hz1, hz2⟩ := info_parts Tryz.info57
          go_wp2_with fail
          refine (V.out _).mono ?_
          rintro e w' ⟨rfl, hw'⟩
          subst w'
          go_wp2_with (first
            | (at_builtin; refine wpList_append_own _ rfl _ _ 47 rfl w.heap.size 57 i0 (.agg #[.bool false, .int .i64 0, .string ByteArray.empty]) 3 32 Tryz.underlying47 hi hz0 hz1 hz2 rfl (by decide) _ _ _ rfl (hown.alloc _) ⟨_, 0, none⟩ 1 1 [.bool false, .int .i64 0, .string (s.extract nx m)] rfl rfl ?c1 ?c2 ?c3 ?c4 ?c5 ?_)
            | go_in)
          case c1 => exact three_new rfl
          case c2 => exact cl_cells
          case c3 => unfold maxLen; omega
          case c4 => omega
          case c5 => rw [size_alloc']; have := hbel.size; omega
          intro v' w1 hown3 hg _
          have hbel3 := below_append hbel (Nat.le_refl _) hg (fun k e => (hown.lt k e).1)
          have hown4 : w1.ownsRow w.heap.size 57 3 v' (k + 1) (clsV (out ++ [⟨false, 0, Pu.piece s.data.toList nx z⟩])) := by
            rw [← clsV_snoc]
            rw [Hm.out, HS2.out] at hown3
            exact hown3
          clear hg hown hbel hown3
          go_wp2
          go_roundw
          case rel => exact ⟨k + 1, m, _, by omega, by omega, by simp [Hol.out], by go_num, by go_num, hown4, by rw [Hm.out]; exact HG2, hbel3⟩
          case measure => simp [intOf]; omega
    · obtain rfl : k = n := by omega
      by_cases he : q = s.size
      · have hed : ((q : Int) == (s.size : Int)) = true := by simp; omega
        have HX : Hid (Pu.plain 2 s.data.toList a k = some out) := by
          rw [Hid, HP.out, HG.out, Nat.sub_self]; simp only [Pu.eachGo]; rw [if_pos he]
        clear he
        go_wp2
        go_ret2
        exact ⟨by rw [HX.out]; exact ⟨_, rfl, by rw [Hol.out]; exact hown⟩, hbel⟩
      · have hed : ((q : Int) == (s.size : Int)) = false := by simp; omega
        have HX : Hid (Pu.plain 2 s.data.toList a k = none) := by
          rw [Hid, HP.out, HG.out, Nat.sub_self]; simp only [Pu.eachGo]; rw [if_neg he]
        clear he
        go_wp2
        go_ret2
        exact ⟨by rw [HX.out]; exact ⟨_, rfl⟩, hbel⟩

theorem plain_any (s : ByteArray) (a n r kind : Nat) (nm : ByteArray) (left : Nat) (opt known : Bool) (vd vc : Value) (w : World) (h : RB w r nm kind opt left vd known vc) (hk : kind ≤ 2) (hs : s.size ≤ 1073741824) (ha : a ≤ s.size) (hn : n ≤ 100000) :
    Calls Tryz.prog 88 #[.pointer (some ⟨r, 0, none⟩), .string s, .int .i64 (a : Int), .int .i64 (n : Int)] w fun e w' => VaAns w.heap.size (Pu.plain kind s.data.toList a n) e w' ∧ Below w.heap.size w w' := by
  match kind, hk, h with
  | 0, _, h => exact plain_bools s a n r nm left opt known vd vc w h hs ha hn
  | 1, _, h => exact plain_ints s a n r nm left opt known vd vc w h hs ha hn
  | 2, _, h => exact plain_texts s a n r nm left opt known vd vc w h hs ha hn
end Go.Proofs.YtjobhlncllfdmaaGreat

/- Contract of the reference's Runs. -/
namespace Go.Proofs.YtjobhlncllfdmaaGreat
open Go.RowKit

set_option maxHeartbeats 1000000 in
set_option maxRecDepth 100000 in
theorem refRuns_any (s : ByteArray) (a0 W C : Nat) (w : World) (hs : s.size ≤ 140737488355000) (ha0 : a0 ≤ s.size) (hW : W ≤ 24) (hC : C ≤ 100000) :
    Calls Tryz.prog 87 #[.string s, .int .i64 a0, .int .i64 W, .int .i64 C] w fun e w' => RunsAns w.heap.size (Pu.rs s.data.toList W C C a0 []) e w' ∧ Below w.heap.size w w' := by
  have Hlen : Hid (s.data.toList.length = s.size) := by simp [Hid]
  go_enter Tryz.func87, Tryz.ntmps87
  go_wp2
  go_loopw [1, 11] (fun t v wr => ∃ (a f : Nat) (xs : List Nat), a ≤ s.size ∧ xs.length ≤ C ∧ C ≤ xs.length + f ∧ t = .int .i64 a ∧ wr.ownsRow w.heap.size 3 1 v xs.length (ints xs) ∧ Hid (Pu.rs s.data.toList W C C a0 [] = Pu.rs s.data.toList W C f a xs) ∧ Below w.heap.size w wr)
    (fun _ v _ => C - slen v)
  case atStart => exact ⟨a0, C, [], ha0, Nat.zero_le _, by simp, rfl, World.ownsRow_nil _ _ _ _, rfl, Below.refl _ _⟩
  case round =>
    obtain ⟨a, f, xs, ha, hxl, hf, rfl, hown, Hrs, hbel⟩ := hrel
    obtain ⟨ao, cap, rfl⟩ := slen_of hown
    by_cases hlt : xs.length < C
    · cases hv : Pu.vi s.data.toList a with
      | none =>
        have Hv : Hid (Pu.vi s.data.toList a = none) := hv
        clear hv
        go_wp2_with fail
        refine (varint_no s a _ hs ha Hv.out).mono ?_
        rintro e w' ⟨h, nx, rfl, rfl⟩
        go_wp2
        go_ret3
        refine ⟨?_, hbel⟩
        rw [Hrs.out, rs_no hlt (step_vi Hv.out)]
        rfl
      | some p =>
        obtain ⟨h, nx⟩ := p
        have Hv : Hid (Pu.vi s.data.toList a = some (h, nx)) := hv
        have hvl := Pu.vi_lt hv
        rw [Hlen.out] at hvl
        obtain ⟨hv1, hv2, hv3⟩ := hvl
        clear hv
        by_cases h2 : h < 2
        · go_wp2_with fail
          refine (varint_yes s a h nx _ hs ha Hv.out).mono ?_
          rintro e w' ⟨rfl, rfl⟩
          go_wp2
          go_ret3
          refine ⟨?_, hbel⟩
          rw [Hrs.out, rs_no hlt (step_two Hv.out h2)]
          rfl
        · by_cases hm : h % 2 = 0
          · have Hm : Hid (h % 2 = 0) := hm
            have hmb : ((h : Int) % 2 == 0) = true := by simp; omega
            clear hm
            cases hl : Pu.lo s.data.toList nx ((W + 7) / 8) with
            | none =>
              have Hl : Hid (Pu.lo s.data.toList nx ((W + 7) / 8) = none) := hl
              clear hl
              go_wp2_with fail
              refine (varint_yes s a h nx _ hs ha Hv.out).mono ?_
              rintro e w' ⟨rfl, rfl⟩
              go_wp2_with fail
              rw [show ((W : Int) + 7) / 8 = (((W + 7) / 8 : Nat) : Int) from by omega]
              refine (low_no s nx ((W + 7) / 8) _ hs (by omega) (by omega) Hl.out).mono ?_
              rintro e w' ⟨rfl, rfl⟩
              go_wp2
              go_ret3
              refine ⟨?_, hbel⟩
              rw [Hrs.out, rs_no hlt (step_lo Hv.out h2 Hm.out Hl.out)]
              rfl
            | some x =>
              have Hl : Hid (Pu.lo s.data.toList nx ((W + 7) / 8) = some x) := hl
              clear hl
              have hP := pow2_pos W
              have hP2 := pow2_le W hW
              by_cases hx : pow2 W ≤ x
              · go_wp2_with fail
                refine (varint_yes s a h nx _ hs ha Hv.out).mono ?_
                rintro e w' ⟨rfl, rfl⟩
                go_wp2_with fail
                rw [show ((W : Int) + 7) / 8 = (((W + 7) / 8 : Nat) : Int) from by omega]
                refine (low_yes s nx ((W + 7) / 8) x _ hs (by omega) (by omega) Hl.out).mono ?_
                rintro e w' ⟨rfl, rfl⟩
                go_wp2_with fail
                refine (power_nat W _ hW).mono ?_
                rintro e w' ⟨rfl, rfl⟩
                go_wp2
                go_ret3
                refine ⟨?_, hbel⟩
                rw [Hrs.out, rs_no hlt (step_eq_no Hv.out h2 Hm.out Hl.out (Or.inl hx))]
                rfl
              · by_cases hn : C - xs.length < h / 2
                · go_wp2_with fail
                  refine (varint_yes s a h nx _ hs ha Hv.out).mono ?_
                  rintro e w' ⟨rfl, rfl⟩
                  go_wp2_with fail
                  rw [show ((W : Int) + 7) / 8 = (((W + 7) / 8 : Nat) : Int) from by omega]
                  refine (low_yes s nx ((W + 7) / 8) x _ hs (by omega) (by omega) Hl.out).mono ?_
                  rintro e w' ⟨rfl, rfl⟩
                  go_wp2_with fail
                  refine (power_nat W _ hW).mono ?_
                  rintro e w' ⟨rfl, rfl⟩
                  go_wp2
                  go_ret3
                  refine ⟨?_, hbel⟩
                  rw [Hrs.out, rs_no hlt (step_eq_no Hv.out h2 Hm.out Hl.out (Or.inr hn))]
                  rfl
                · have hlo : nx + (W + 7) / 8 ≤ s.size := by
                    have := Hl.out
                    unfold Pu.lo at this
                    rw [Hlen.out] at this
                    split at this
                    · assumption
                    · cases this
                  have Hst := step_eq (C := C) (xs := xs) Hv.out h2 Hm.out Hl.out (by unfold pow2 at hx; omega)
                  have HR : Hid (Pu.rs s.data.toList W C C a0 [] = Pu.rs s.data.toList W C (f - 1) (nx + (W + 7) / 8) (xs ++ List.replicate (h / 2) x)) := Hrs.out.trans (rs_yes hlt hf Hst)
                  clear Hst
                  go_wp2_with fail
                  refine (varint_yes s a h nx _ hs ha Hv.out).mono ?_
                  rintro e w' ⟨rfl, rfl⟩
                  go_wp2_with fail
                  rw [show ((W : Int) + 7) / 8 = (((W + 7) / 8 : Nat) : Int) from by omega]
                  refine (low_yes s nx ((W + 7) / 8) x _ hs (by omega) (by omega) Hl.out).mono ?_
                  rintro e w' ⟨rfl, rfl⟩
                  go_wp2_with fail
                  refine (power_nat W _ hW).mono ?_
                  rintro e w' ⟨rfl, rfl⟩
                  go_wp2
                  go_loopw [11, 19] (fun v i wr => ∃ k : Nat, k ≤ h / 2 ∧ i = .int .i64 k ∧ wr.ownsRow w.heap.size 3 1 v (xs.length + k) (ints (xs ++ List.replicate k x)) ∧ Below w.heap.size w wr)
                    (fun _ i _ => h / 2 - (intOf i).toNat)
                  case atStart => exact ⟨0, Nat.zero_le _, rfl, by simpa using hown, hbel⟩
                  case round =>
                    obtain ⟨k, hk, rfl, hown2, hbel2⟩ := hrel
                    obtain ⟨ao2, cap2, rfl⟩ := slen_of hown2
                    by_cases hk2 : k < h / 2
                    · obtain ⟨i0, hi, hz0, hz1, hz2⟩ := info_parts Tryz.info3
                      go_wp2_with (first
                        | (at_builtin; refine wpList_append_own _ rfl _ _ 27 rfl w.heap.size 3 i0 (.int .i64 0) 1 8 Tryz.underlying27 hi hz0 hz1 hz2 rfl (by decide) _ _ _ rfl (hown2.alloc _) ⟨_, 0, none⟩ 1 1 [.int .i64 x] rfl rfl ?c1 ?c2 ?c3 ?c4 ?c5 ?_)
                        | go_in)
                      case c1 => exact one_new rfl
                      case c2 => exact one_cell
                      case c3 => unfold maxLen; omega
                      case c4 => omega
                      case c5 => rw [size_alloc']; have := hbel2.size; omega
                      intro v' w1 hown3 hg _
                      have hrow := fun k e => ((hown2.alloc (Obj.cells #[Value.int .i64 x] 3)).lt k e).1
                      have hbel3 := below_append hbel2 (Nat.le_refl _) hg hrow
                      rw [ints_snoc, rep_snoc] at hown3
                      clear hg hrow hown2 hbel2
                      go_wp2
                      go_roundw
                      case rel => exact ⟨k + 1, by omega, by go_num, hown3, hbel3⟩
                      case measure => simp [intOf]; omega
                    · obtain rfl : k = h / 2 := by omega
                      go_wp2
                      go_roundw
                      case rel => exact ⟨nx + (W + 7) / 8, f - 1, xs ++ List.replicate (h / 2) x, hlo, by simp; omega, by simp; omega, by go_num, by simpa using hown2, HR, hbel2⟩
                      case measure => simp [slen]; omega
          · have Hm : Hid (¬ h % 2 = 0) := hm
            have hmb : ((h : Int) % 2 == 0) = false := by simp; omega
            clear hm
            obtain ⟨n, hn⟩ : ∃ n, n = h / 2 := ⟨_, rfl⟩
            have Hn : Hid (n = h / 2) := hn
            have hn2 : (h : Int) / 2 = (n : Int) := by omega
            have hn3 : 1 ≤ n := by omega
            have hn4 : n ≤ 2147483647 := by omega
            clear hn
            obtain ⟨p, hp⟩ : ∃ p, p = n * W := ⟨_, rfl⟩
            have Hp : Hid (p = n * W) := hp
            have hp2 : (n : Int) * (W : Int) = (p : Int) := by rw [hp]; simp
            have hp3 : p ≤ 51539607528 := by rw [hp]; exact Nat.mul_le_mul hn4 hW
            clear hp
            by_cases h8 : C - xs.length ≤ 8 * n - 8
            · go_wp2_with fail
              refine (varint_yes s a h nx _ hs ha Hv.out).mono ?_
              rintro e w' ⟨rfl, rfl⟩
              go_wp2
              go_ret3
              refine ⟨?_, hbel⟩
              rw [Hrs.out, rs_no hlt (step_8_no Hv.out h2 Hm.out (Or.inl (by rw [← Hn.out]; exact h8)))]
              rfl
            · by_cases hfit : s.size < nx + p
              · go_wp2_with fail
                refine (varint_yes s a h nx _ hs ha Hv.out).mono ?_
                rintro e w' ⟨rfl, rfl⟩
                go_wp2
                go_ret3
                refine ⟨?_, hbel⟩
                rw [Hrs.out, rs_no hlt (step_8_no Hv.out h2 Hm.out (Or.inr (by rw [← Hn.out, ← Hp.out, Hlen.out]; exact hfit)))]
                rfl
              · have Hst := step_8 (C := C) (xs := xs) Hv.out h2 Hm.out (by rw [← Hn.out, ← Hp.out, Hlen.out]; omega)
                rw [← Hn.out, ← Hp.out] at Hst
                have HL := extract_list s nx p (by omega)
                have hes : (s.extract nx (nx + p)).size = p := by simp; omega
                have Hes : Hid ((s.extract nx (nx + p)).size = p) := hes
                clear hes
                obtain ⟨M, hM⟩ : ∃ M, M = C - xs.length := ⟨_, rfl⟩
                have HM : Hid (M = C - xs.length) := hM
                rw [← hM] at Hst
                have hM2 : xs.length + M = C := by omega
                clear hM
                obtain ⟨L, hL⟩ : ∃ L, L = Pu.piece s.data.toList nx p := ⟨_, rfl⟩
                have HL2 : Hid (L = (s.extract nx (nx + p)).data.toList) := by rw [Hid, hL, HL]
                rw [← hL] at Hst
                have HSt := show Hid _ from Hst
                clear HL hL Hst
                go_wp2_with fail
                refine (varint_yes s a h nx _ hs ha Hv.out).mono ?_
                rintro e w' ⟨rfl, rfl⟩
                go_wp2
                go_loopw [11, 21] (fun v i wr => ∃ k : Nat, k ≤ 8 * n ∧ i = .int .i64 k ∧ wr.ownsRow w.heap.size 3 1 v (xs.length + min k M) (ints (xs ++ (Pu.nums L W k).take M)) ∧ Hid (((Pu.nums L W k).drop M).all (· == 0) = true) ∧ Below w.heap.size w wr)
                  (fun _ i _ => 8 * n - (intOf i).toNat)
                case atStart => exact ⟨0, Nat.zero_le _, rfl, by simpa [Pu.nums] using hown, by simp [Hid, Pu.nums], hbel⟩
                case round =>
                  obtain ⟨k, hk, rfl, hown2, Hz, hbel2⟩ := hrel
                  obtain ⟨ao2, cap2, rfl⟩ := slen_of hown2
                  obtain ⟨z, hz⟩ : ∃ z, z = k * W := ⟨_, rfl⟩
                  have Hzz : Hid (z = k * W) := hz
                  have hz2 : (k : Int) * (W : Int) = (z : Int) := by rw [hz]; simp
                  have hz3 : z ≤ 8 * p := by rw [hz, Hp.out, ← Nat.mul_assoc]; exact Nat.mul_le_mul_right _ hk
                  clear hz
                  by_cases hk2 : k < 8 * n
                  · have hz4 : z + W ≤ 8 * p := by
                      rw [Hzz.out, Hp.out, ← Nat.mul_assoc, ← Nat.succ_mul]; exact Nat.mul_le_mul_right _ hk2
                    have hkd : decide ((k : Int) < 8 * (n : Int)) = true := by simp; omega
                    go_wp2
                    go_loopw [22, 23] (fun x j w2 => ∃ j' y q : Nat, j' ≤ W ∧ j = .int .i64 ((j' : Int) - 1) ∧ x = .int .i64 y ∧ Hid (y = Pu.nTop L z j' (W - j')) ∧ w2 = wr.drewN q)
                      (fun _ j _ => (intOf j + 1).toNat)
                    case atStart => exact ⟨W, 0, 0, Nat.le_refl _, rfl, rfl, by rw [Hid, Nat.sub_self]; rfl, rfl⟩
                    case round =>
                      obtain ⟨j', y, q, hj', rfl, rfl, Hy, rfl⟩ := hrel
                      by_cases hj0 : j' = 0
                      · subst hj0
                        have HY : Hid (y = Pu.nAt L (k * W) W) := by
                          rw [Hid, Hy.out, Nat.sub_zero, Pu.nTop_all, Hzz.out]
                        clear Hy
                        by_cases hkM : k < M
                        · have hmin : min k M = k := Nat.min_eq_left (by omega)
                          rw [hmin] at hown2
                          simp only [hmin]
                          clear hmin
                          have hown2' := ownsRow_drewN hown2 q
                          have hbel2' := below_drewN hbel2 q
                          clear hown2 hbel2
                          obtain ⟨i0, hi, hz0, hz1, hz2'⟩ := info_parts Tryz.info3
                          go_wp2_with (first
                            | (at_builtin; refine wpList_append_own _ rfl _ _ 27 rfl w.heap.size 3 i0 (.int .i64 0) 1 8 Tryz.underlying27 hi hz0 hz1 hz2' rfl (by decide) _ _ _ rfl (hown2'.alloc _) ⟨_, 0, none⟩ 1 1 [.int .i64 y] rfl rfl ?c1 ?c2 ?c3 ?c4 ?c5 ?_)
                            | go_in)
                          case c1 => exact one_new rfl
                          case c2 => exact one_cell
                          case c3 => unfold maxLen; omega
                          case c4 => omega
                          case c5 => rw [size_alloc']; have := hbel2'.size; omega
                          intro v' w1 hown3 hg _
                          have hrow := fun k e => ((hown2'.alloc (Obj.cells #[Value.int .i64 y] 3)).lt k e).1
                          have hbel3 := below_append hbel2' (Nat.le_refl _) hg hrow
                          rw [ints_snoc, List.append_assoc, HY.out, ← gath_lt _ _ _ _ hkM, show xs.length + k + 1 = xs.length + min (k + 1) M by omega] at hown3
                          clear hg hrow hown2' hbel2'
                          go_wp2
                          go_roundw
                          case rel => exact ⟨k + 1, by omega, by go_num, hown3, zero_lt _ _ _ _ hkM, hbel3⟩
                          case measure => simp [intOf]; omega
                        · have hmin : min k M = M := Nat.min_eq_right (by omega)
                          rw [hmin] at hown2
                          simp only [hmin]
                          clear hmin
                          by_cases hy0 : y = 0
                          · subst hy0
                            go_wp2
                            go_roundw
                            case rel => exact ⟨k + 1, by omega, by go_num, by rw [gath_ge _ _ _ _ (by omega), show min (k + 1) M = M by omega]; exact ownsRow_drewN hown2 q, by rw [Hid, zero_ge _ _ _ _ (by omega), Hz.out, ← HY.out]; rfl, below_drewN hbel2 q⟩
                            case measure => simp [intOf]; omega
                          · go_wp2
                            go_ret3
                            refine ⟨?_, below_drewN hbel2 q⟩
                            have := HSt.out
                            rw [zero_no (i := k) (by omega) hk2 (by rw [← HY.out]; exact hy0)] at this
                            rw [Hrs.out, rs_no hlt this]
                            rfl
                      · obtain ⟨j, rfl⟩ : ∃ j, j' = j + 1 := ⟨j' - 1, by omega⟩
                        have hy : y ≤ 16777216 := by
                          rw [Hy.out]; exact Nat.le_of_lt (Nat.lt_of_lt_of_le (nTop_lt _ _ _ _) (Nat.le_trans (Nat.pow_le_pow_right (by omega) (show W - (j + 1) ≤ 24 by omega)) (by decide)))
                        go_wp2_with fail
                        refine (bit_ex _ L HL2 _ _ ?d1 ?d2 ?d3 ?d4).mono ?_
                        case d1 => rw [Hes.out]; unfold maxLen; omega
                        case d2 => omega
                        case d3 => rw [Hes.out]; omega
                        case d4 => omega
                        rintro e w' ⟨b, q2, rfl, hb2, Hb, rfl⟩
                        have hst := nTop_step L z j W (by omega)
                        have HN : Hid (2 * y + b = Pu.nTop L z j (W - j)) := by
                          rw [Hid, hst, Hy.out, Hb.out]
                          rw [Nat.add_comm]
                          congr 2
                        clear hst Hy Hb
                        go_wp2
                        go_roundw
                        case rel => exact ⟨j, 2 * y + b, q + q2, by omega, by go_num, by go_num, HN, rfl⟩
                        case measure => simp [intOf]
                  · obtain rfl : k = 8 * n := by omega
                    have hst := HSt.out
                    rw [Hz.out, if_pos rfl] at hst
                    have HR : Hid (Pu.rs s.data.toList W C C a0 [] = Pu.rs s.data.toList W C (f - 1) (nx + p) (xs ++ (Pu.nums L W (8 * n)).take M)) := Hrs.out.trans (rs_yes hlt hf hst)
                    clear hst
                    have hl8 : (xs ++ (Pu.nums L W (8 * n)).take M).length = xs.length + min (8 * n) M := by simp [Pu.length_nums]; omega
                    have hown4 : wr.ownsRow w.heap.size 3 1 (.slice ao2 (xs.length + min (8 * n) M) cap2) (xs ++ (Pu.nums L W (8 * n)).take M).length (ints (xs ++ (Pu.nums L W (8 * n)).take M)) := by rw [hl8]; exact hown2
                    have Hl8 : Hid ((xs ++ (Pu.nums L W (8 * n)).take M).length = xs.length + min (8 * n) M) := hl8
                    clear hl8 hown2
                    go_wp2
                    go_roundw
                    case rel => exact ⟨nx + p, f - 1, xs ++ (Pu.nums L W (8 * n)).take M, by omega, by rw [Hl8.out]; omega, by rw [Hl8.out]; omega, by go_num, hown4, HR, hbel2⟩
                    case measure => simp [slen]; omega
    · go_wp2
      go_ret3
      refine ⟨?_, hbel⟩
      rw [Hrs.out, rs_done hlt]
      exact ⟨_, rfl, hown⟩
end Go.Proofs.YtjobhlncllfdmaaGreat
