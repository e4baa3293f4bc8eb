/- package cells: numbers or texts, one behind the other. -/
import Derived.Test.YtjobhlncllfdmaaGreatM30
import Derived.Test.YtjobhlncllfdmaaGreatM13
namespace Go.Proofs.YtjobhlncllfdmaaGreat
open Go.RowKit

def EaAns (w : World) (R o : Nat) (C : Array Value) (T : TypeId) (lb : Nat) (F : List UInt8) (r : Option (List Pu.Cl × Nat)) (e : Ending) (w' : World) : Prop :=
  match r with
  | none => (∃ v, e = .returned (.tuple #[v, .bool false])) ∧ Fr (fun k => k = R) w w'
  | some (l, a') => ∃ v, e = .returned (.tuple #[v, .bool true]) ∧ w'.ownsRow w.heap.size 57 3 v l.length (clsV l) ∧ Fr (fun k => k = R) w w' ∧ ∃ C', InSt w' R o C' T lb F a' ∧ SameBut o C C'

/-- a row of one's own, where only R has turned -/
theorem own_fr {w wr w1 : World} {R : Nat} {e : TypeId} {sz : Nat} {v : Value} {n : Nat} {xs : List Value} (h : wr.ownsRow w.heap.size e sz v n xs) (hR : R < w.heap.size) (hf : Fr (fun k => k = R) wr w1) : w1.ownsRow w.heap.size e sz v n xs :=
  own_agreeS h (fun k hk => hf.block k (own_tyS h hk).lt (fun e => by have := (h.lt k hk).1; omega))

/-- a list of one's own has grown -/
theorem grow_fr {w wr w1 : World} {o1 o2 : Obj} {R : Nat} {row : Option Nat} (hf : Fr (fun k => k = R) w wr) (hg : ((wr.alloc o1).alloc o2).grownBy w1 row) (hr : ∀ k, row = some k → w.heap.size ≤ k) : Fr (fun k => k = R) w w1 :=
  (hf.trans (Fr.alloc' (T := fun k => k = R) (o := o1)) (fun _ _ h => h)).trans (Fr.grown hg) (fun k hk e => by have := hr k e; omega)
theorem grow_blk {wr w1 : World} {o1 o2 : Obj} {row : Option Nat} (hg : ((wr.alloc o1).alloc o2).grownBy w1 row) {k : Nat} (hk : k < wr.heap.size) (hr : row ≠ some k) : w1.heap[k]? = wr.heap[k]? := by
  rw [agree_step hg (by rw [size_alloc']; omega) hr]
  exact Below.heap_alloc _ _ _ hk

set_option maxHeartbeats 4000000 in
set_option maxRecDepth 100000 in
theorem eachInts (R o : Nat) (C : Array Value) (T : TypeId) (lb : Nat) (F : List UInt8) (a n : Nat) (w : World) (h : InSt w R o C T lb F a) (hlb : lb < w.heap.size) (hn : n ≤ 100000) :
    Calls Tryz.prog 98 #[.pointer (some ⟨R, o, none⟩), .int .i64 (n : Int), .func (.func 99) #[] #[]] w fun e w' => EaAns w R o C T lb F (Pu.eachGo 1 F n a []) e w' := by
  have hR := h.lt
  have HI : Hid (InSt w R o C T lb F a) := h
  clear h
  go_enter Tryz.func98, Tryz.ntmps98
  go_wp2
  go_loopw [8, 12] (fun v i wr => ∃ (k b : Nat) (out : List Pu.Cl), k ≤ n ∧ i = .int .i64 k ∧ wr.ownsRow w.heap.size 57 3 v k (clsV out) ∧ Hid (out.length = k) ∧ Hid (∃ C', InSt wr R o C' T lb F b ∧ SameBut o C C') ∧ Hid (Pu.eachGo 1 F n a [] = Pu.eachGo 1 F (n - k) b out) ∧ Hid (Fr (fun j => j = R) w wr)) (fun _ i _ => n - (intOf i).toNat)
  case atStart => exact ⟨0, a, [], Nat.zero_le _, rfl, World.ownsRow_nil _ _ _ _, rfl, ⟨C, HI.out, SameBut.refl _ _⟩, rfl, Fr.refl _ _⟩
  case round =>
    clear HI
    obtain ⟨k, b, out, hk, rfl, hown, Hol, HIN, HG, HF⟩ := hrel
    obtain ⟨ao, cap, rfl⟩ := slen_of hown
    by_cases hk2 : k < n
    · obtain ⟨C', hin, hsb⟩ := HIN.out
      have hsz : w.heap.size ≤ wr.heap.size := HF.out.size
      have CALL : Hid (Calls Tryz.prog 99 #[.pointer (some ⟨R, o, none⟩)] wr fun e w' => C1Ans wr R o C' T lb F (Pu.cell1 1 F b) e w') := readInt_any R o C' T lb F b wr hin (by omega)
      clear hin HIN
      cases hc : Pu.cell1 1 F b with
      | none =>
        have HX : Hid (Pu.eachGo 1 F n a [] = none) := by rw [Hid, HG.out, each_no (by omega) hc]
        rw [hc] at CALL
        clear hc
        go_wp2_with fail
        refine CALL.out.mono ?_
        rintro e w1 ⟨⟨xb, xn, xs, rfl⟩, hf1⟩
        have HF1 : Hid (∀ ob : Obj, Fr (fun j => j = R) w (w1.alloc ob)) := fun ob => (HF.out.trans hf1 (fun _ _ h => h)).trans Fr.alloc' (fun _ _ h => h)
        clear hf1
        go_wp2
        go_ret2
        rw [HX.out]
        exact ⟨⟨_, rfl⟩, HF1.out _⟩
      | some pr =>
        obtain ⟨c, b'⟩ := pr
        have HX : Hid (Pu.eachGo 1 F n a [] = Pu.eachGo 1 F (n - (k + 1)) b' (out ++ [c])) := by rw [Hid, HG.out, each_yes (by omega) hc]; rfl
        rw [hc] at CALL
        have HCV : Hid (clV c = [.bool c.null, .int .i64 c.n, .string ⟨c.s.toArray⟩]) := rfl
        unfold C1Ans at CALL
        simp only at CALL
        clear hc
        generalize c.null = xb at *
        generalize c.n = xn at *
        generalize (⟨c.s.toArray⟩ : ByteArray) = xs at *
        go_wp2_with fail
        refine CALL.out.mono ?_
        rintro e w1 ⟨rfl, hf1, C1, hin1, hsb1⟩
        have hown1 : w1.ownsRow w.heap.size 57 3 (.slice ao k cap) k (clsV out) := own_fr hown hR hf1
        have HF1 : Hid (Fr (fun j => j = R) w w1) := HF.out.trans hf1 (fun _ _ h => h)
        have HI1 : Hid (InSt w1 R o C1 T lb F b') := hin1
        have hs1 : w.heap.size ≤ w1.heap.size := HF1.out.size
        clear hf1 hin1 hown HF
        obtain ⟨i0, hi, hz0, hz1, hz2⟩ := info_parts Tryz.info57
        go_wp2_with (first
          | (at_builtin; refine wpList_append_own _ rfl _ _ 47 rfl w.heap.size 57 i0 (.agg #[.bool false, .int .i64 0, .string ByteArray.empty]) 3 32 Tryz.underlying47 hi hz0 hz1 hz2 rfl (by decide) _ _ _ rfl ((hown1.alloc _).alloc _) ⟨_, 0, none⟩ 1 1 [.bool xb, .int .i64 xn, .string xs] rfl rfl ?c1 ?c2 ?c3 ?c4 ?c5 ?_)
          | go_in)
        case c1 => exact three_new (by rw [size_alloc'])
        case c2 => exact cl_cells
        case c3 => unfold maxLen; omega
        case c4 => omega
        case c5 => rw [size_alloc', size_alloc']; omega
        intro v' w3 hown3 hg _
        have HF3 : Hid (Fr (fun j => j = R) w w3) := grow_fr HF1.out hg (fun j e => (hown1.lt j e).1)
        have HI3 : Hid (∃ C', InSt w3 R o C' T lb F b' ∧ SameBut o C C') := ⟨C1, HI1.out.kept (grow_blk hg HI1.out.lt (fun e => by have := (hown1.lt R e).1; omega)) (grow_blk hg (by omega) (fun e => by have := (hown1.lt lb e).1; omega)), hsb.trans hsb1⟩
        have hown4 : w3.ownsRow w.heap.size 57 3 v' (k + 1) (clsV (out ++ [c])) := by rw [← clsV_snoc, HCV.out]; exact hown3
        clear hg hown1 hown3
        go_wp2
        go_roundw
        case rel => exact ⟨k + 1, b', _, by omega, by go_num, hown4, by simp [Hid, Hol.out], HI3, HX, HF3⟩
        case measure => simp [intOf]; omega
    · obtain rfl : k = n := by omega
      have HX : Hid (Pu.eachGo 1 F k a [] = some (out, b)) := by rw [Hid, HG.out, Nat.sub_self]; rfl
      go_wp2
      go_ret2
      rw [HX.out]
      obtain ⟨C', h1, h2⟩ := HIN.out
      exact ⟨_, rfl, by rw [Hol.out]; exact hown, HF.out, C', h1, h2⟩

set_option maxHeartbeats 4000000 in
set_option maxRecDepth 100000 in
theorem eachTexts (R o : Nat) (C : Array Value) (T : TypeId) (lb : Nat) (F : List UInt8) (a n : Nat) (w : World) (h : InSt w R o C T lb F a) (hlb : lb < w.heap.size) (hn : n ≤ 100000) :
    Calls Tryz.prog 98 #[.pointer (some ⟨R, o, none⟩), .int .i64 (n : Int), .func (.func 100) #[] #[]] w fun e w' => EaAns w R o C T lb F (Pu.eachGo 2 F n a []) e w' := by
  have hR := h.lt
  have HI : Hid (InSt w R o C T lb F a) := h
  clear h
  go_enter Tryz.func98, Tryz.ntmps98
  go_wp2
  go_loopw [8, 12] (fun v i wr => ∃ (k b : Nat) (out : List Pu.Cl), k ≤ n ∧ i = .int .i64 k ∧ wr.ownsRow w.heap.size 57 3 v k (clsV out) ∧ Hid (out.length = k) ∧ Hid (∃ C', InSt wr R o C' T lb F b ∧ SameBut o C C') ∧ Hid (Pu.eachGo 2 F n a [] = Pu.eachGo 2 F (n - k) b out) ∧ Hid (Fr (fun j => j = R) w wr)) (fun _ i _ => n - (intOf i).toNat)
  case atStart => exact ⟨0, a, [], Nat.zero_le _, rfl, World.ownsRow_nil _ _ _ _, rfl, ⟨C, HI.out, SameBut.refl _ _⟩, rfl, Fr.refl _ _⟩
  case round =>
    clear HI
    obtain ⟨k, b, out, hk, rfl, hown, Hol, HIN, HG, HF⟩ := hrel
    obtain ⟨ao, cap, rfl⟩ := slen_of hown
    by_cases hk2 : k < n
    · obtain ⟨C', hin, hsb⟩ := HIN.out
      have hsz : w.heap.size ≤ wr.heap.size := HF.out.size
      have CALL : Hid (Calls Tryz.prog 100 #[.pointer (some ⟨R, o, none⟩)] wr fun e w' => C1Ans wr R o C' T lb F (Pu.cell1 2 F b) e w') := readText_any R o C' T lb F b wr hin (by omega)
      clear hin HIN
      cases hc : Pu.cell1 2 F b with
      | none =>
        have HX : Hid (Pu.eachGo 2 F n a [] = none) := by rw [Hid, HG.out, each_no (by omega) hc]
        rw [hc] at CALL
        clear hc
        go_wp2_with fail
        refine CALL.out.mono ?_
        rintro e w1 ⟨⟨xb, xn, xs, rfl⟩, hf1⟩
        have HF1 : Hid (∀ ob : Obj, Fr (fun j => j = R) w (w1.alloc ob)) := fun ob => (HF.out.trans hf1 (fun _ _ h => h)).trans Fr.alloc' (fun _ _ h => h)
        clear hf1
        go_wp2
        go_ret2
        rw [HX.out]
        exact ⟨⟨_, rfl⟩, HF1.out _⟩
      | some pr =>
        obtain ⟨c, b'⟩ := pr
        have HX : Hid (Pu.eachGo 2 F n a [] = Pu.eachGo 2 F (n - (k + 1)) b' (out ++ [c])) := by rw [Hid, HG.out, each_yes (by omega) hc]; rfl
        rw [hc] at CALL
        have HCV : Hid (clV c = [.bool c.null, .int .i64 c.n, .string ⟨c.s.toArray⟩]) := rfl
        unfold C1Ans at CALL
        simp only at CALL
        clear hc
        generalize c.null = xb at *
        generalize c.n = xn at *
        generalize (⟨c.s.toArray⟩ : ByteArray) = xs at *
        go_wp2_with fail
        refine CALL.out.mono ?_
        rintro e w1 ⟨rfl, hf1, C1, hin1, hsb1⟩
        have hown1 : w1.ownsRow w.heap.size 57 3 (.slice ao k cap) k (clsV out) := own_fr hown hR hf1
        have HF1 : Hid (Fr (fun j => j = R) w w1) := HF.out.trans hf1 (fun _ _ h => h)
        have HI1 : Hid (InSt w1 R o C1 T lb F b') := hin1
        have hs1 : w.heap.size ≤ w1.heap.size := HF1.out.size
        clear hf1 hin1 hown HF
        obtain ⟨i0, hi, hz0, hz1, hz2⟩ := info_parts Tryz.info57
        go_wp2_with (first
          | (at_builtin; refine wpList_append_own _ rfl _ _ 47 rfl w.heap.size 57 i0 (.agg #[.bool false, .int .i64 0, .string ByteArray.empty]) 3 32 Tryz.underlying47 hi hz0 hz1 hz2 rfl (by decide) _ _ _ rfl ((hown1.alloc _).alloc _) ⟨_, 0, none⟩ 1 1 [.bool xb, .int .i64 xn, .string xs] rfl rfl ?c1 ?c2 ?c3 ?c4 ?c5 ?_)
          | go_in)
        case c1 => exact three_new (by rw [size_alloc'])
        case c2 => exact cl_cells
        case c3 => unfold maxLen; omega
        case c4 => omega
        case c5 => rw [size_alloc', size_alloc']; omega
        intro v' w3 hown3 hg _
        have HF3 : Hid (Fr (fun j => j = R) w w3) := grow_fr HF1.out hg (fun j e => (hown1.lt j e).1)
        have HI3 : Hid (∃ C', InSt w3 R o C' T lb F b' ∧ SameBut o C C') := ⟨C1, HI1.out.kept (grow_blk hg HI1.out.lt (fun e => by have := (hown1.lt R e).1; omega)) (grow_blk hg (by omega) (fun e => by have := (hown1.lt lb e).1; omega)), hsb.trans hsb1⟩
        have hown4 : w3.ownsRow w.heap.size 57 3 v' (k + 1) (clsV (out ++ [c])) := by rw [← clsV_snoc, HCV.out]; exact hown3
        clear hg hown1 hown3
        go_wp2
        go_roundw
        case rel => exact ⟨k + 1, b', _, by omega, by go_num, hown4, by simp [Hid, Hol.out], HI3, HX, HF3⟩
        case measure => simp [intOf]; omega
    · obtain rfl : k = n := by omega
      have HX : Hid (Pu.eachGo 2 F k a [] = some (out, b)) := by rw [Hid, HG.out, Nat.sub_self]; rfl
      go_wp2
      go_ret2
      rw [HX.out]
      obtain ⟨C', h1, h2⟩ := HIN.out
      exact ⟨_, rfl, by rw [Hol.out]; exact hown, HF.out, C', h1, h2⟩
end Go.Proofs.YtjobhlncllfdmaaGreat

/- package cells: bools, indices. -/
namespace Go.Proofs.YtjobhlncllfdmaaGreat
open Go.RowKit

theorem grow_fr1 {w wr w1 : World} {o1 : Obj} {R : Nat} {row : Option Nat} (hf : Fr (fun k => k = R) w wr) (hg : (wr.alloc o1).grownBy w1 row) (hr : ∀ k, row = some k → w.heap.size ≤ k) : Fr (fun k => k = R) w w1 :=
  hf.trans (Fr.grown hg) (fun k hk e => by have := hr k e; omega)

theorem andbit (b s : Nat) (hb : b < 256) : bits .and .u8 ((b : Int) / 2 ^ s) 1 = ((b / 2 ^ s % 2 : Nat) : Int) := by
  have e1 : (b : Int) / 2 ^ s = ((b / 2 ^ s : Nat) : Int) := by simp
  have h1 : b / 2 ^ s ≤ b := Nat.div_le_self _ _
  rw [e1, and1 _ (by omega)]

set_option maxHeartbeats 4000000 in
set_option maxRecDepth 100000 in
theorem readBools_any (R o : Nat) (C : Array Value) (T : TypeId) (lb : Nat) (F : List UInt8) (a n : Nat) (w : World) (h : InSt w R o C T lb F a) (hlb : lb < w.heap.size) (hn : n ≤ 100000) :
    Calls Tryz.prog 97 #[.pointer (some ⟨R, o, none⟩), .int .i64 (n : Int)] w fun e w' => EaAns w R o C T lb F (Pu.boolsT F a n) e w' := by
  have hR := h.lt
  obtain ⟨m, hm⟩ : ∃ m, m = (n + 7) / 8 := ⟨_, rfl⟩
  have hm2 : ((n : Int) + 7) / 8 = (m : Int) := by omega
  have HBT : Hid (Pu.boolsT F a n = if F.length < a + m then none else
    if ((Pu.nums (Pu.piece F a m) 1 (8 * m)).drop n).all (· == 0) then some (((Pu.nums (Pu.piece F a m) 1 (8 * m)).take n).map Pu.boolC, a + m) else none) := by
    rw [hm]; rfl
  rcases in_take R o C T lb F a m w h with ⟨hb1, hc1⟩ | ⟨hf1, w1, C1, ap, hc1, hS1, hR1⟩
  · have HX : Hid (Pu.boolsT F a n = none) := by rw [Hid, HBT.out, if_pos hb1]
    have N1 : Hid (Calls Tryz.prog 75 #[.pointer (some ⟨R, o, none⟩), .int .i64 (m : Int)] w fun e w' => e = .returned (.tuple #[.slice none 0 0, .bool false]) ∧ w' = w) := hc1
    clear hc1 hm h
    go_enter Tryz.func97, Tryz.ntmps97
    go_wp2_with fail
    refine N1.out.mono ?_
    rintro e w' ⟨rfl, hw'⟩
    subst w'
    go_wp2
    go_ret2
    rw [HX.out]
    exact ⟨⟨_, rfl⟩, Fr.refl _ _⟩
  · obtain ⟨L, hL⟩ : ∃ L, L = Pu.piece F a m := ⟨_, rfl⟩
    have hLl : L.length = m := by rw [hL]; exact Pu.length_piece _ _ _ hf1
    rw [← hL] at HBT hR1
    have HB2 : Hid (Pu.boolsT F a n = if ((Pu.nums L 1 (8 * m)).drop n).all (· == 0) then some (((Pu.nums L 1 (8 * m)).take n).map Pu.boolC, a + m) else none) := by rw [Hid, HBT.out, if_neg (by omega)]
    have N1 : Hid (Calls Tryz.prog 75 #[.pointer (some ⟨R, o, none⟩), .int .i64 (m : Int)] w fun e w' => e = .returned (.tuple #[.slice ap m m, .bool true]) ∧ w' = w1) := hc1
    have HROW : Hid (∀ j, j < m → ∃ off, ap = some ⟨lb, off, none⟩ ∧ w1.cell? ⟨lb, off + j, none⟩ = some (.int .u8 (Pu.byteAt L j : Int))) := fun j hj => by
      rcases hR1.2.2 with h0 | ⟨off, h1, h2⟩
      · rw [h0] at hLl; simp at hLl; omega
      · exact ⟨off, h1, h2 j (by omega)⟩
    have HI1 : Hid (InSt w1 R o C1 T lb F (a + m)) := hS1.st
    have hsb := hS1.same
    have HF1 : Hid (Fr (fun j => j = R) w w1) := hS1.fr
    have hs1 : w1.heap.size = w.heap.size := hS1.size
    have Hs1 : Hid (w1.heap.size = w.heap.size) := hs1
    have hmn : n ≤ 8 * m := by omega
    have hml : m ≤ 12501 := by omega
    clear hc1 h hL HBT hR1 hS1 hs1 hLl hm
    go_enter Tryz.func97, Tryz.ntmps97
    go_wp2_with fail
    refine N1.out.mono ?_
    rintro e w' ⟨rfl, hw'⟩
    subst w'
    go_wp2
    go_loopw [8, 24] (fun v i wr => ∃ k : Nat, k ≤ 8 * m ∧ i = .int .i64 k ∧ wr.ownsRow w.heap.size 57 3 v (min k n) (clsV (((Pu.nums L 1 k).take n).map Pu.boolC)) ∧ Hid (((Pu.nums L 1 k).drop n).all (· == 0) = true) ∧ Hid (InSt wr R o C1 T lb F (a + m)) ∧ Hid (Fr (fun j => j = R) w wr) ∧ Hid (∀ j, j < w.heap.size → wr.heap[j]? = w1.heap[j]?)) (fun _ i _ => 8 * m - (intOf i).toNat)
    case atStart => exact ⟨0, Nat.zero_le _, rfl, by simpa [Pu.nums, clsV] using World.ownsRow_nil w1 w.heap.size 57 3, by simp [Hid, Pu.nums], HI1, HF1, fun _ _ => rfl⟩
    case round =>
      clear HI1 HF1
      obtain ⟨k, hk, rfl, hown, Hz, HI, HF, HSM⟩ := hrel
      obtain ⟨ao, cap, rfl⟩ := slen_of hown
      by_cases hk2 : k < 8 * m
      · obtain ⟨off, hap, hcell⟩ := HROW.out (k / 8) (by omega)
        subst hap
        have hcell' : wr.cell? ⟨lb, off + k / 8, none⟩ = some (.int .u8 (Pu.byteAt L (k / 8) : Int)) := by
          rw [World.cell?_of_block (w := w1) (HSM.out lb hlb)]; exact hcell
        have hbl := Pu.byteAt_lt L (k / 8)
        have hand := andbit (Pu.byteAt L (k / 8)) (k % 8) hbl
        obtain ⟨y, hy⟩ : ∃ y, y = Pu.byteAt L (k / 8) / 2 ^ (k % 8) % 2 := ⟨_, rfl⟩
        have HY : Hid (y = Pu.bitAt L k) := by rw [Hid, hy]; rfl
        rw [← hy] at hand
        have hyl : y < 2 := by rw [hy]; exact Nat.mod_lt _ (by omega)
        generalize Pu.byteAt L (k / 8) = b at *
        have hkd : decide ((k : Int) < (m : Int) * 8) = true := by simp; omega
        have hs : w.heap.size ≤ wr.heap.size := HF.out.size
        clear hcell hy
        by_cases hkn : k < n
        · have hkn2 : decide ((k : Int) < (n : Int)) = true := by simp; omega
          have hmin : min k n = k := Nat.min_eq_left (by omega)
          rw [hmin] at hown ⊢
          clear hmin
          obtain ⟨i0, hi, hz0, hz1, hz2⟩ := info_parts Tryz.info57
          go_wp2_with (first
            | (at_builtin; refine wpList_append_own _ rfl _ _ 47 rfl w.heap.size 57 i0 (.agg #[.bool false, .int .i64 0, .string ByteArray.empty]) 3 32 Tryz.underlying47 hi hz0 hz1 hz2 rfl (by decide) _ _ _ rfl (hown.alloc _) ⟨_, 0, none⟩ 1 1 [.bool false, .int .i64 (y : Int), .string ByteArray.empty] rfl rfl ?c1 ?c2 ?c3 ?c4 ?c5 ?_)
            | go_in)
          case c1 => exact three_new rfl
          case c2 => exact cl_cells
          case c3 => unfold maxLen; omega
          case c4 => omega
          case c5 => rw [size_alloc']; omega
          intro v' w3 hown3 hg _
          have HF3 : Hid (Fr (fun j => j = R) w w3) := grow_fr1 HF.out hg (fun j e => (hown.lt j e).1)
          have HSM3 : Hid (∀ j, j < w.heap.size → w3.heap[j]? = w1.heap[j]?) := fun j hj => by
            rw [agree_step hg (by omega) (fun e => by have := (hown.lt j e).1; omega)]; exact HSM.out j hj
          have HI3 : Hid (InSt w3 R o C1 T lb F (a + m)) := HI.out.kept (agree_step hg (by omega) (fun e => by have := (hown.lt R e).1; omega)) (agree_step hg (by omega) (fun e => by have := (hown.lt lb e).1; omega))
          have hown4 : w3.ownsRow w.heap.size 57 3 v' (min (k + 1) n) (clsV (((Pu.nums L 1 (k + 1)).take n).map Pu.boolC)) := by
            rw [gath_lt _ _ _ _ hkn, List.map_append, nAt1, ← HY.out, List.map_cons, List.map_nil, ← clsV_snoc, show min (k + 1) n = k + 1 by omega]
            rw [← List.map_take] at hown3
            exact hown3
          clear hg hown hown3
          go_wp2
          go_roundw
          case rel => exact ⟨k + 1, by omega, by go_num, hown4, zero_lt _ _ _ _ hkn, HI3, HF3, HSM3⟩
          case measure => simp [intOf]; omega
        · have hkn2 : decide ((k : Int) < (n : Int)) = false := by simp; omega
          have hmin : min k n = n := Nat.min_eq_right (by omega)
          rw [hmin] at hown ⊢
          clear hmin
          by_cases hy0 : y = 0
          · subst hy0
            go_wp2
            go_roundw
            case rel => exact ⟨k + 1, by omega, by go_num, by rw [gath_ge _ _ _ _ (by omega), show min (k + 1) n = n by omega]; exact hown, by rw [Hid, zero_ge _ _ _ _ (by omega), Hz.out, nAt1, ← HY.out]; rfl, HI, HF, HSM⟩
            case measure => simp [intOf]; omega
          · have hbn : ((y : Int) != 0) = true := by simp; omega
            have HX : Hid (Pu.boolsT F a n = none) := by
              rw [Hid, HB2.out, zero_no (i := k) (by omega) hk2 (by rw [nAt1, ← HY.out]; exact hy0)]
              rfl
            clear hy0
            go_wp2
            go_ret2
            rw [HX.out]
            exact ⟨⟨_, rfl⟩, HF.out⟩
      · obtain rfl : k = 8 * m := by omega
        have HX : Hid (Pu.boolsT F a n = some (((Pu.nums L 1 (8 * m)).take n).map Pu.boolC, a + m)) := by
          rw [Hid, HB2.out, Hz.out, if_pos rfl]
        have Hll : Hid ((((Pu.nums L 1 (8 * m)).take n).map Pu.boolC).length = min (8 * m) n) := by simp [Hid, Pu.length_nums]; omega
        go_wp2
        go_ret2
        rw [HX.out]
        exact ⟨_, rfl, by rw [Hll.out]; exact hown, HF.out, C1, HI.out, hsb⟩

end Go.Proofs.YtjobhlncllfdmaaGreat

/- package cells: indices. -/
namespace Go.Proofs.YtjobhlncllfdmaaGreat
open Go.RowKit

set_option maxHeartbeats 4000000 in
set_option maxRecDepth 100000 in
theorem readIndices_any (R o : Nat) (C : Array Value) (T : TypeId) (lb : Nat) (F : List UInt8) (a n : Nat) (ad : Option Addr) (cd Bd : Nat) (dict : List Pu.Cl) (w : World) (h : InSt w R o C T lb F a) (hlb : lb < w.heap.size) (hn : n ≤ 100000) (hd : w.ownsRow Bd 57 3 (.slice ad dict.length cd) dict.length (clsV dict)) (hdR : T ≠ 57) (_hdl : dict.length ≤ 100000) :
    Calls Tryz.prog 96 #[.pointer (some ⟨R, o, none⟩), .slice ad dict.length cd, .int .i64 (n : Int)] w fun e w' => EaAns w R o C T lb F (Pu.idxT dict F a n) e w' := by
  have hR := h.lt
  have hty := h.ty
  rcases in_number R o C T lb F a 1 w h (by omega) with ⟨hb1, hc1⟩ | ⟨hf1, w1, C1, hc1, hS1⟩
  · have HX : Hid (Pu.idxT dict F a n = none) := by unfold Hid Pu.idxT; rw [if_pos hb1]
    have N1 : Hid (Calls Tryz.prog 59 #[.pointer (some ⟨R, o, none⟩), .int .i64 1] w fun e w' => e = .returned (.tuple #[.int .u32 0, .bool false]) ∧ w' = w) := hc1
    clear hc1 h hd
    go_enter Tryz.func96, Tryz.ntmps96
    go_wp2_with fail
    refine N1.out.mono ?_
    rintro e w' ⟨rfl, hw'⟩
    subst w'
    go_wp2
    go_ret2
    rw [HX.out]
    exact ⟨⟨_, rfl⟩, Fr.refl _ _⟩
  · obtain ⟨W, hW⟩ : ∃ W, W = Pu.byteAt F a := ⟨_, rfl⟩
    have hWl : W < 256 := by rw [hW]; exact Pu.byteAt_lt _ _
    have N1 : Hid (Calls Tryz.prog 59 #[.pointer (some ⟨R, o, none⟩), .int .i64 1] w fun e w' => e = .returned (.tuple #[.int .u32 (W : Int), .bool true]) ∧ w' = w1) := by
      have := hc1; rw [le_one F a (by omega), ← hW] at this; exact this
    have HIX : Hid (Pu.idxT dict F a n = if 16 < W then none else match Pu.rsAll (F.drop (a + 1)) W n with
      | none => none
      | some l => (Pu.pick dict l).map fun c => (c, F.length)) := by unfold Hid Pu.idxT; rw [if_neg (by omega), hW]; rfl
    by_cases h16 : 16 < W
    · have HX : Hid (Pu.idxT dict F a n = none) := by rw [Hid, HIX.out, if_pos h16]
      have h16d : decide ((16 : Int) < (W : Int)) = true := by simp; omega
      have HF1 : Hid (Fr (fun j => j = R) w w1) := hS1.fr
      clear hc1 h hd hW hS1 hty
      go_enter Tryz.func96, Tryz.ntmps96
      go_wp2_with fail
      refine N1.out.mono ?_
      rintro e w' ⟨rfl, hw'⟩
      subst w'
      go_wp2
      go_ret2
      rw [HX.out]
      exact ⟨⟨_, rfl⟩, HF1.out⟩
    · have h16d : decide ((16 : Int) < (W : Int)) = false := by simp; omega
      have HIX2 : Hid (Pu.idxT dict F a n = match Pu.rsAll (F.drop (a + 1)) W n with
        | none => none
        | some l => (Pu.pick dict l).map fun c => (c, F.length)) := by rw [Hid, HIX.out, if_neg h16]
      obtain ⟨q, hq⟩ : ∃ q, q = F.length - (a + 1) := ⟨_, rfl⟩
      have LF : Hid (Calls Tryz.prog 63 #[.pointer (some ⟨R, o, none⟩)] w1 fun e w' => e = .returned (.int .i64 (q : Int)) ∧ w' = w1) := by rw [hq]; exact in_left R o C1 T lb F (a + 1) w1 hS1.st
      rcases in_take R o C1 T lb F (a + 1) q w1 hS1.st with ⟨hb2, _⟩ | ⟨hf2, w2, C2, ap, hc2, hS2, hR2⟩
      · omega
      · have N2 : Hid (Calls Tryz.prog 75 #[.pointer (some ⟨R, o, none⟩), .int .i64 (q : Int)] w1 fun e w' => e = .returned (.tuple #[.slice ap q q, .bool true]) ∧ w' = w2) := hc2
        have hpc : Pu.piece F (a + 1) q = F.drop (a + 1) := by unfold Pu.piece; rw [List.take_of_length_le (by rw [List.length_drop]; omega)]
        rw [hpc] at hR2
        have hpl : (F.drop (a + 1)).length = q := by rw [List.length_drop, hq]
        have RR : Hid (Calls Tryz.prog 95 #[.slice ap q q, .int .i64 (W : Int), .int .i64 (n : Int)] w2 fun e w' => RrAns w2.heap.size (Pu.rsAll (F.drop (a + 1)) W n) e w' ∧ Below w2.heap.size w2 w') := by
          have := readRuns_any ap q lb W n (F.drop (a + 1)) w2 hR2 (by have := hS1.fr.size; have := hS2.fr.size; omega) (by omega) hn
          rw [hpl] at this
          exact this
        have HF2 : Hid (Fr (fun j => j = R) w w2) := hS1.fr.trans hS2.fr (fun _ _ h => h)
        have hq3 : a + 1 + q = F.length := by omega
        have HI2 : Hid (InSt w2 R o C2 T lb F F.length) := by have := hS2.st; rw [hq3] at this; exact this
        have hsb2 := hS1.same.trans hS2.same
        have hs2 : w2.heap.size = w.heap.size := by rw [hS2.size, hS1.size]
        have Hs2 : Hid (w2.heap.size = w.heap.size) := hs2
        have HD : Hid (w2.ownsRow Bd 57 3 (.slice ad dict.length cd) dict.length (clsV dict)) := own_agreeS hd (fun k hk => HF2.out.block k (own_tyS hd hk).lt (Ty.ne (own_tyS hd hk) hty (fun e => hdR e.symm)))
        clear hc1 hc2 h hd hW hS1 hS2 hR2 hpc hpl hq3 hty HIX
        cases hrs : Pu.rsAll (F.drop (a + 1)) W n with
        | none =>
          have HX : Hid (Pu.idxT dict F a n = none) := by rw [Hid, HIX2.out, hrs]
          rw [hrs] at RR
          clear hrs hq hs2
          go_enter Tryz.func96, Tryz.ntmps96
          go_wp2_with fail
          refine N1.out.mono ?_
          rintro e w' ⟨rfl, hw'⟩
          subst w'
          go_wp2_with fail
          refine LF.out.mono ?_
          rintro e w' ⟨rfl, hw'⟩
          subst w'
          go_wp2_with fail
          refine N2.out.mono ?_
          rintro e w' ⟨rfl, hw'⟩
          subst w'
          go_wp2_with fail
          refine RR.out.mono ?_
          rintro e w3 ⟨rfl, hb3⟩
          have HF3 : Hid (Fr (fun j => j = R) w w3) := HF2.out.trans (Fr.of_below (fun j => j = R) hb3) (fun _ _ h => h)
          clear hb3
          go_wp2
          go_ret2
          rw [HX.out]
          exact ⟨⟨_, rfl⟩, HF3.out⟩
        | some l =>
          have HX : Hid (Pu.idxT dict F a n = (Pu.pick dict l).map fun c => (c, F.length)) := by rw [Hid, HIX2.out, hrs]
          rw [hrs] at RR
          have hbounds : l.length = n ∧ ∀ x ∈ l, x < 2 ^ W := by
            unfold Pu.rsAll at hrs
            cases hr : Pu.rs (F.drop (a + 1)) W n n 0 [] with
            | none => simp [hr] at hrs
            | some p =>
              obtain ⟨l', u⟩ := p
              simp only [hr] at hrs
              split at hrs
              · simp only [Option.some.injEq] at hrs
                subst hrs
                exact ⟨(Pu.rs_length n 0 [] l' u (Nat.zero_le _) (Nat.zero_le _) hr).1, Pu.rs_small n 0 [] l' u (by simp) hr⟩
              · cases hrs
          obtain ⟨hll, hl2⟩ := hbounds
          have hlm : l.length ≤ 100000 := by omega
          have Hlb : Hid (∀ k, (hk : k < l.length) → l[k] ≤ 65536) := fun k hk => by
            have := hl2 l[k] (List.getElem_mem hk)
            have h16 : 2 ^ W ≤ 2 ^ 16 := Nat.pow_le_pow_right (by omega) (by omega)
            have : (2 : Nat) ^ 16 = 65536 := by decide
            omega
          clear hrs hq hs2 hll hl2 HIX2
          go_enter Tryz.func96, Tryz.ntmps96
          go_wp2_with fail
          refine N1.out.mono ?_
          rintro e w' ⟨rfl, hw'⟩
          subst w'
          go_wp2_with fail
          refine LF.out.mono ?_
          rintro e w' ⟨rfl, hw'⟩
          subst w'
          go_wp2_with fail
          refine N2.out.mono ?_
          rintro e w' ⟨rfl, hw'⟩
          subst w'
          go_wp2_with fail
          refine RR.out.mono ?_
          rintro e w3 ⟨⟨vl, rfl, hlo⟩, hb3⟩
          obtain ⟨al, cl, rfl⟩ := slen_of hlo
          have HF3 : Hid (Fr (fun j => j = R) w w3) := HF2.out.trans (Fr.of_below (fun j => j = R) hb3) (fun _ _ h => h)
          have HLc : Hid (∀ k, (hk : k < l.length) → ∃ g, al = some ⟨g, 0, none⟩ ∧ w3.cell? ⟨g, k, none⟩ = some (.int .i64 ((l[k] : Nat) : Int)) ∧ g < w3.heap.size) := ints_cell hlo
          have HDc : Hid (∀ k, (hk : k < dict.length) → ∃ g, ad = some ⟨g, 0, none⟩ ∧ w3.cell? ⟨g, k * 3, none⟩ = some (.bool dict[k].null) ∧ w3.cell? ⟨g, k * 3 + 1, none⟩ = some (.int .i64 dict[k].n) ∧ w3.cell? ⟨g, k * 3 + 2, none⟩ = some (strV dict[k].s) ∧ g < w3.heap.size) := cls_cell' (own_below HD.out hb3)
          have HI3 : Hid (InSt w3 R o C2 T lb F F.length) := HI2.out.below (by have := Hs2.out; omega) hb3
          have hs3 : w.heap.size ≤ w3.heap.size := HF3.out.size
          clear hb3 hlo HD HI2 HF2
          go_wp2
          go_loopw [13, 46] (fun v i wr => ∃ k : Nat, k ≤ l.length ∧ i = .int .i64 k ∧ wr.ownsRow w3.heap.size 57 3 v k (clsV (picked dict l k)) ∧ Hid (Inn dict l k) ∧ Below w3.heap.size w3 wr) (fun _ i _ => l.length - (intOf i).toNat)
          case atStart => exact ⟨0, Nat.zero_le _, rfl, World.ownsRow_nil _ _ _ _, fun i h hi => absurd hi (Nat.not_lt_zero _), Below.refl _ _⟩
          case round =>
            obtain ⟨k, hk, rfl, hown, HIn, hbel⟩ := hrel
            obtain ⟨ao, cap, rfl⟩ := slen_of hown
            by_cases hk2 : k < l.length
            · have hkd : decide ((k : Int) < (l.length : Int)) = true := by simp; omega
              obtain ⟨gl, hgl, hlc, hglt⟩ := HLc.out k hk2
              subst hgl
              have hlc' : wr.cell? ⟨gl, k, none⟩ = some (.int .i64 ((l[k] : Nat) : Int)) := by rw [hbel.cell (p := ⟨gl, k, none⟩) hglt]; exact hlc
              have hlk := Hlb.out k hk2
              clear hlc
              by_cases hdk : l[k] < dict.length
              · obtain ⟨gd, hgd, d0, d1, d2, hgdl⟩ := HDc.out l[k] hdk
                subst hgd
                have HPS : Hid (clsV (picked dict l (k + 1)) = clsV (picked dict l k) ++ [.bool dict[l[k]].null, .int .i64 dict[l[k]].n, strV dict[l[k]].s]) := by
                  rw [Hid, picked_snoc hk2 hdk, ← clsV_snoc]; rfl
                have HI2 : Hid (Inn dict l (k + 1)) := fun i h hi => by
                  by_cases e : i = k
                  · subst e; exact hdk
                  · exact HIn.out i h (by omega)
                have e0 : wr.cell? ⟨gd, l[k] * 3, none⟩ = some (.bool dict[l[k]].null) := by rw [hbel.cell (p := ⟨gd, l[k] * 3, none⟩) hgdl]; exact d0
                have e1 : wr.cell? ⟨gd, l[k] * 3 + 1, none⟩ = some (.int .i64 dict[l[k]].n) := by rw [hbel.cell (p := ⟨gd, l[k] * 3 + 1, none⟩) hgdl]; exact d1
                have e2 : wr.cell? ⟨gd, l[k] * 3 + 2, none⟩ = some (.string ⟨dict[l[k]].s.toArray⟩) := by rw [hbel.cell (p := ⟨gd, l[k] * 3 + 2, none⟩) hgdl]; exact d2
                unfold strV at HPS
                clear d0 d1 d2
                generalize dict[l[k]].null = xb at *
                generalize dict[l[k]].n = xn at *
                generalize (⟨dict[l[k]].s.toArray⟩ : ByteArray) = xs at *
                generalize l[k] = x at *
                have hxd : decide ((dict.length : Int) ≤ (x : Int)) = false := by simp; omega
                have hx1 : (x : Int) < (dict.length : Int) := by omega
                obtain ⟨i0, hi, hz0, hz1, hz2⟩ := info_parts Tryz.info57
                go_wp2_with (first
                  | (at_builtin; refine wpList_append_own _ rfl _ _ 47 rfl w3.heap.size 57 i0 (.agg #[.bool false, .int .i64 0, .string ByteArray.empty]) 3 32 Tryz.underlying47 hi hz0 hz1 hz2 rfl (by decide) _ _ _ rfl (hown.alloc _) ⟨_, 0, none⟩ 1 1 [.bool xb, .int .i64 xn, .string xs] rfl rfl ?c1 ?c2 ?c3 ?c4 ?c5 ?_)
                  | go_in)
                case c1 => exact three_new rfl
                case c2 => exact cl_cells
                case c3 => unfold maxLen; omega
                case c4 => omega
                case c5 => rw [size_alloc']; have := hbel.size; omega
                intro v' w4 hown3 hg _
                have hbel3 := below_append hbel (Nat.le_refl _) hg (fun k e => (hown.lt k e).1)
                have hown4 : w4.ownsRow w3.heap.size 57 3 v' (k + 1) (clsV (picked dict l (k + 1))) := by rw [HPS.out]; exact hown3
                clear hg hown hbel hown3
                go_wp2
                go_roundw
                case rel => exact ⟨k + 1, by omega, by go_num, hown4, HI2, hbel3⟩
                case measure => simp [intOf]; omega
              · have HN : Hid (Pu.idxT dict F a n = none) := by rw [Hid, HX.out, pick_no hk2 (by omega)]; rfl
                have HF4 : Hid (Fr (fun j => j = R) w wr) := HF3.out.trans (Fr.of_below (fun j => j = R) hbel) (fun _ _ h => h)
                generalize l[k] = x at *
                have hxd : decide ((dict.length : Int) ≤ (x : Int)) = true := by simp; omega
                go_wp2
                go_ret2
                rw [HN.out]
                exact ⟨⟨_, rfl⟩, HF4.out⟩
            · obtain rfl : k = l.length := by omega
              have HN : Hid (Pu.idxT dict F a n = some (picked dict l l.length, F.length)) := by
                rw [Hid, HX.out, pick_yes HIn.out]; unfold picked; rw [List.take_length]; rfl
              have Hpl : Hid ((picked dict l l.length).length = l.length) := length_picked (Nat.le_refl _)
              have HF4 : Hid (Fr (fun j => j = R) w wr) := HF3.out.trans (Fr.of_below (fun j => j = R) hbel) (fun _ _ h => h)
              have HI4 : Hid (InSt wr R o C2 T lb F F.length) := HI3.out.below (by omega) hbel
              go_wp2
              go_ret2
              rw [HN.out]
              exact ⟨_, rfl, by rw [Hpl.out]; exact hown.mono hs3, HF4.out, C2, HI4.out, hsb2⟩
end Go.Proofs.YtjobhlncllfdmaaGreat
