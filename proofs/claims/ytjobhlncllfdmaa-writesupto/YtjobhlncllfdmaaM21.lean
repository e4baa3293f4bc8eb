/- The program's reader of a footer: contracts of columns, place. -/
import Derived.Test.YtjobhlncllfdmaaM20
namespace Go.Proofs.Ytjobhlncllfdmaa
open Go.RowKit

theorem num_some {D : List UInt8} {a l m n nx : Nat} (h : Pu.num D a l m = some (n, nx)) : Pu.vi D a = some (n, nx) ∧ l ≤ n ∧ n ≤ m ∧ a < nx ∧ nx ≤ D.length := by
  unfold Pu.num at h
  cases hv : Pu.vi D a with
  | none => simp [hv] at h
  | some q =>
    obtain ⟨y, ny⟩ := q
    simp only [hv] at h
    split at h
    · cases h
    · simp only [Option.some.injEq, Prod.mk.injEq] at h
      obtain ⟨rfl, rfl⟩ := h
      have := Pu.vi_lt hv
      exact ⟨rfl, by omega, by omega, this.1, this.2.1⟩
theorem num_none {D : List UInt8} {a l m n nx : Nat} (h : Pu.num D a l m = none) (hv : Pu.vi D a = some (n, nx)) : n < l ∨ m < n := by
  unfold Pu.num at h
  simp only [hv] at h
  split at h
  · assumption
  · cases h
theorem cols_num (D : List UInt8) : Pu.cols D = match Pu.num D 0 1 20 with | none => none | some (n, a) => Pu.colsGo D n a [] := by
  unfold Pu.cols Pu.num
  cases Pu.vi D 0 with
  | none => rfl
  | some q =>
    obtain ⟨n, a⟩ := q
    simp only
    split <;> rfl

def ColsAnsP (R lb B : Nat) (D : List UInt8) (E : Nat) (ws : List (Nat × Value)) (vr : Value) (r : Option (List Pu.Col × Nat)) (e : Ending) (w' : World) : Prop :=
  match r with
  | none => e = .returned (.bool false)
  | some (cs, a') => e = .returned (.bool true) ∧ FSt w' R lb B D E a' cs ws vr

set_option maxHeartbeats 2000000 in
set_option maxRecDepth 100000 in
theorem fcolumns (R lb B : Nat) (D : List UInt8) (E : Nat) (ws : List (Nat × Value)) (vr : Value) (w : World) (h : FSt w R lb B D E 0 [] ws vr) :
    Calls Try.prog 85 #[.pointer (some ⟨R, 0, none⟩)] w fun e w' => ColsAnsP R lb B D E ws vr (Pu.cols D) e w' ∧ Below B w w' := by
  have V : Hid (Calls Try.prog 96 #[.pointer (some ⟨R, 0, none⟩), .int .i64 1, .int .i64 20] w fun e w' => NumAns R lb B D E [] ws vr (Pu.num D 0 1 20) e w' ∧ Below B w w') := fnumber R lb B D E 0 1 20 [] ws vr w h (by omega) (by omega)
  have HC : Hid (Pu.cols D = match Pu.num D 0 1 20 with | none => none | some (n, a) => Pu.colsGo D n a []) := cols_num D
  clear h
  cases hn : Pu.num D 0 1 20 with
  | none =>
    have HX : Hid (Pu.cols D = none) := by rw [Hid, HC.out, hn]
    rw [hn] at V
    clear hn HC
    go_enter Try.func85, Try.ntmps85
    go_wp2_with fail
    refine V.out.mono ?_
    rintro e w' ⟨rfl, hbel⟩
    go_wp2
    go_ret
    exact ⟨by rw [HX.out]; rfl, hbel⟩
  | some pr =>
    obtain ⟨N, a0⟩ := pr
    have HX : Hid (Pu.cols D = Pu.colsGo D N a0 []) := by rw [Hid, HC.out, hn]
    obtain ⟨_, hN1, hN2, _, _⟩ := num_some hn
    rw [hn] at V
    clear hn HC
    go_enter Try.func85, Try.ntmps85
    go_wp2_with fail
    refine V.out.mono ?_
    rintro e w1 ⟨⟨rfl, hS⟩, hbel⟩
    have HS : Hid (FSt w1 R lb B D E a0 [] ws vr) := hS
    clear hS
    go_wp2
    go_loopw [13] (fun i wr => ∃ (a : Nat) (cs : List Pu.Col), cs.length ≤ N ∧ i = .int .i64 cs.length ∧ Hid (Pu.cols D = Pu.colsGo D (N - cs.length) a cs) ∧ Hid (FSt wr R lb B D E a cs ws vr) ∧ Hid (Below B w wr)) (fun i _ => N - (intOf i).toNat)
    case atStart => exact ⟨a0, [], by simp, rfl, HX, HS, hbel⟩
    case round =>
      obtain ⟨a, cs, hcl, rfl, HG, HF, HB⟩ := hrel
      by_cases hk : cs.length < N
      · have CO : Hid (Calls Try.prog 97 #[.pointer (some ⟨R, 0, none⟩)] wr fun e w' => ColAns R lb B D E cs ws vr (Pu.col1 D a cs) e w' ∧ Below B wr w') := fcolumn R lb B D E a cs ws vr wr HF.out (by omega)
        cases hc : Pu.col1 D a cs with
        | none =>
          have HY : Hid (Pu.cols D = none) := by rw [Hid, HG.out]; exact colsGo_no (by omega) hc
          rw [hc] at CO
          clear hc
          go_wp2_with fail
          refine CO.out.mono ?_
          rintro e w2 ⟨rfl, hb2⟩
          have hb3 := HB.out.trans hb2
          clear hb2
          go_wp2
          go_ret
          exact ⟨by rw [HY.out]; rfl, hb3⟩
        | some p =>
          obtain ⟨c, a'⟩ := p
          have HY : Hid (Pu.cols D = Pu.colsGo D (N - (cs ++ [c]).length) a' (cs ++ [c])) := by rw [Hid, HG.out, colsGo_yes (by omega) hc]; simp [Nat.sub_sub]
          rw [hc] at CO
          clear hc
          go_wp2_with fail
          refine CO.out.mono ?_
          rintro e w2 ⟨⟨rfl, hS2⟩, hb2⟩
          have HS2 : Hid (FSt w2 R lb B D E a' (cs ++ [c]) ws vr) := hS2
          have HB2 : Hid (Below B w w2) := HB.out.trans hb2
          clear hb2 hS2
          go_wp2
          go_roundw
          case rel => exact ⟨a', cs ++ [c], by simp; omega, by simp, HY, HS2, HB2⟩
          case measure => simp [intOf]; omega
      · obtain rfl : cs.length = N := by omega
        have HY : Hid (Pu.cols D = some (cs, a)) := by rw [Hid, HG.out, Nat.sub_self]; rfl
        go_wp2
        go_ret
        rw [HY.out]
        exact ⟨⟨rfl, HF.out⟩, HB.out⟩

theorem chunk_num (D : List UInt8) (E a : Nat) : Pu.chunk1 D E a = match Pu.num D a 4 E with | none => none | some (p, a1) => (match Pu.num D a1 1 50 with | none => none | some (q, a2) => some ((p, q), a2)) := by
  unfold Pu.chunk1 Pu.num
  cases Pu.vi D a with
  | none => rfl
  | some q =>
    obtain ⟨n, a1⟩ := q
    simp only
    by_cases h : n < 4 ∨ E < n
    · rw [if_pos h, if_pos h]
    · rw [if_neg h, if_neg h]
      simp only
      cases Pu.vi D a1 with
      | none => rfl
      | some q =>
        obtain ⟨m, a2⟩ := q
        simp only
        split <;> rfl

/-- places as cells -/
def plV (p : Nat × Nat) : List Value := [.int .i64 (p.1 : Int), .int .i64 (p.2 : Int)]
def plsV (l : List (Nat × Nat)) : List Value := l.flatMap plV
theorem plsV_snoc (l : List (Nat × Nat)) (p : Nat × Nat) : plsV (l ++ [p]) = plsV l ++ plV p := by simp [plsV]

def PlAns (R lb B : Nat) (D : List UInt8) (E : Nat) (cs : List Pu.Col) (ws : List (Nat × Value)) (vr : Value) (r : Option ((Nat × Nat) × Nat)) (e : Ending) (w' : World) : Prop :=
  match r with
  | none => ∃ x y : Int, e = .returned (.tuple #[.agg #[.int .i64 x, .int .i64 y], .bool false])
  | some (p, a') => e = .returned (.tuple #[.agg #[.int .i64 (p.1 : Int), .int .i64 (p.2 : Int)], .bool true]) ∧ FSt w' R lb B D E a' cs ws vr

theorem set2_row {w : World} {b : Nat} {x y : Value} {t : TypeId} (h : w.heap[b]? = some (.cells #[x, y] t (0, 0))) (x' y' : Value) : ((w.setCell ⟨b, 0, none⟩ x').setCell ⟨b, 1, none⟩ y').heap[b]? = some (.cells #[x', y'] t (0, 0)) := by
  have h1 := heap_setCell_same w b 0 _ _ x' h
  have h2 := heap_setCell_same _ b 1 _ _ y' h1
  rw [h2]; rfl
theorem set2_other {w : World} {b k : Nat} (h : k ≠ b) (x y : Value) : ((w.setCell ⟨b, 0, none⟩ x).setCell ⟨b, 1, none⟩ y).heap[k]? = w.heap[k]? := by
  rw [heap_setCell_other _ _ k _ h, heap_setCell_other _ _ k _ h]

/-- another block's cells are turned -/
theorem FSt.off {w w1 : World} {R lb B : Nat} {D : List UInt8} {E a : Nat} {cs : List Pu.Col} {ws : List (Nat × Value)} {vr : Value} (h : FSt w R lb B D E a cs ws vr) {K : Nat} (ht : Ty w K 158) (hK : B ≤ K) (hw : ∀ k, k < w.heap.size → k ≠ K → w1.heap[k]? = w.heap[k]?) : FSt w1 R lb B D E a cs ws vr := by
  obtain ⟨ao, cap, vc, h1, h2, h3, h4, h5, h6, h7⟩ := h
  exact ⟨ao, cap, vc, h1.kept (hw R h1.ty.lt (Ty.ne h1.ty ht (by decide))), h2, h3.kept (hw lb (by have := h1.ty.lt; omega) (by omega)), own_agreeS h4 (fun k hk => hw k (own_tyS h4 hk).lt (Ty.ne (own_tyS h4 hk) ht (by decide))), own_agreeS h5 (fun k hk => hw k (own_tyS h5 hk).lt (Ty.ne (own_tyS h5 hk) ht (by decide))), h6, h7⟩

/-- what place's ending wants of a world behind its calls -/
theorem place_end {w W : World} {R lb B : Nat} {D : List UInt8} {E a : Nat} {cs : List Pu.Col} {ws : List (Nat × Value)} {vr : Value} {o : Obj} (hR : R < w.heap.size) (hB : B ≤ w.heap.size) (hb : Below B (w.alloc o) W) (hK : KeepR R (w.alloc o) W) (ho : o = .cells #[.int .i64 0, .int .i64 0] 158 (0, 0)) (x y : Value) :
    W.heap[w.heap.size]? = some (.cells #[.int .i64 0, .int .i64 0] 158 (0, 0)) ∧ Below B w ((W.setCell ⟨w.heap.size, 0, none⟩ x).setCell ⟨w.heap.size, 1, none⟩ y) ∧ KeepR R w ((W.setCell ⟨w.heap.size, 0, none⟩ x).setCell ⟨w.heap.size, 1, none⟩ y) ∧
      (FSt W R lb B D E a cs ws vr → FSt ((W.setCell ⟨w.heap.size, 0, none⟩ x).setCell ⟨w.heap.size, 1, none⟩ y) R lb B D E a cs ws vr) := by
  have r : W.heap[w.heap.size]? = some (.cells #[.int .i64 0, .int .i64 0] 158 (0, 0)) := by
    rw [hK _ (by rw [size_alloc']; omega) (by omega), heap_alloc_new, ho]
  refine ⟨r, ((((Below.refl _ _).alloc hB _).trans hb).setCell hB _).setCell hB _, fun k hk hk2 => ?_, fun hF => hF.off ⟨_, r⟩ hB (fun k _ hk2 => set2_other hk2 _ _)⟩
  rw [set2_other (by omega), hK k (by rw [size_alloc']; omega) hk2]
  exact Below.heap_alloc _ _ _ hk

set_option maxHeartbeats 2000000 in
set_option maxRecDepth 100000 in
theorem fplace (R lb B : Nat) (D : List UInt8) (E a : Nat) (cs : List Pu.Col) (ws : List (Nat × Value)) (vr : Value) (w : World) (h : FSt w R lb B D E a cs ws vr) (hE : E ≤ 140737488355328) :
    Calls Try.prog 106 #[.pointer (some ⟨R, 0, none⟩)] w fun e w' => PlAns R lb B D E cs ws vr (Pu.chunk1 D E a) e w' ∧ Below B w w' ∧ KeepR R w w' := by
  have hR := h.lt
  have hB : B ≤ w.heap.size := Nat.le_trans h.base (Nat.le_of_lt hR)
  have hA : FSt (w.alloc (.cells #[.int .i64 0, .int .i64 0] 158)) R lb B D E a cs ws vr := h.below ((Below.refl _ _).alloc (Nat.le_refl _) _)
  have V : Hid (Calls Try.prog 96 #[.pointer (some ⟨R, 0, none⟩), .int .i64 4, .int .i64 (E : Int)] (w.alloc (.cells #[.int .i64 0, .int .i64 0] 158)) fun e w' => NumAns R lb B D E cs ws vr (Pu.num D a 4 E) e w' ∧ Below B (w.alloc (.cells #[.int .i64 0, .int .i64 0] 158)) w' ∧ KeepR R (w.alloc (.cells #[.int .i64 0, .int .i64 0] 158)) w') := fnumberK R lb B D E a 4 E cs ws vr _ hA (by omega) hE
  have HC : Hid (Pu.chunk1 D E a = match Pu.num D a 4 E with | none => none | some (p, a1) => (match Pu.num D a1 1 50 with | none => none | some (q, a2) => some ((p, q), a2))) := chunk_num D E a
  have c3 : (w.alloc (.cells #[.int .i64 0, .int .i64 0] 158)).cell? ⟨R, 3, none⟩ = some (.int .i64 (E : Int)) := by obtain ⟨_, _, _, hb, _⟩ := hA; exact hb.c3
  have FE : Hid (∀ (W : World) (x y : Value) (b : Nat), Below B (w.alloc (.cells #[.int .i64 0, .int .i64 0] 158)) W → KeepR R (w.alloc (.cells #[.int .i64 0, .int .i64 0] 158)) W → W.heap[w.heap.size]? = some (.cells #[.int .i64 0, .int .i64 0] 158 (0, 0)) ∧ Below B w ((W.setCell ⟨w.heap.size, 0, none⟩ x).setCell ⟨w.heap.size, 1, none⟩ y) ∧ KeepR R w ((W.setCell ⟨w.heap.size, 0, none⟩ x).setCell ⟨w.heap.size, 1, none⟩ y) ∧
      (FSt W R lb B D E b cs ws vr → FSt ((W.setCell ⟨w.heap.size, 0, none⟩ x).setCell ⟨w.heap.size, 1, none⟩ y) R lb B D E b cs ws vr)) := fun W x y b h1 h2 => place_end hR hB h1 h2 rfl x y
  clear h hA
  cases hn : Pu.num D a 4 E with
  | none =>
    have HX : Hid (Pu.chunk1 D E a = none) := by rw [Hid, HC.out, hn]
    rw [hn] at V
    clear hn HC
    go_enter Try.func106, Try.ntmps106
    go_wp2_with fail
    refine V.out.mono ?_
    rintro e w1 ⟨rfl, hbel, hkp⟩
    obtain ⟨r1, B1, K1, _⟩ := FE.out w1 (.int .i64 0) (.int .i64 0) 0 hbel hkp
    have k0 : w1.cell? ⟨w.heap.size, 0, none⟩ = some (.int .i64 0) := by rw [cell_of_row _ _ 0 _ _ _ r1]; rfl
    have k1 : w1.cell? ⟨w.heap.size, 1, none⟩ = some (.int .i64 0) := by rw [cell_of_row _ _ 1 _ _ _ r1]; rfl
    have g0 := frozen_of_row _ _ 0 _ _ r1
    have g1 := frozen_of_row _ _ 1 _ _ r1
    have FF := set2_row r1 (.int .i64 0) (.int .i64 0)
    have q0 := cell_of_row _ _ 0 _ _ _ FF
    have q1 := cell_of_row _ _ 1 _ _ _ FF
    simp only [List.getElem?_toArray, List.getElem?_cons_zero, List.getElem?_cons_succ] at q0 q1
    have HB1 : Hid (Below B w ((w1.setCell ⟨w.heap.size, 0, none⟩ (.int .i64 0)).setCell ⟨w.heap.size, 1, none⟩ (.int .i64 0)) ∧ KeepR R w ((w1.setCell ⟨w.heap.size, 0, none⟩ (.int .i64 0)).setCell ⟨w.heap.size, 1, none⟩ (.int .i64 0))) := ⟨B1, K1⟩
    clear FF r1 hbel hkp B1 K1 FE V
    go_wp2
    exact bodyPost_ret (v := .tuple #[.agg #[.int .i64 0, .int .i64 0], .bool false]) (by simp [results, Try.results106, go_sem, q0, q1]) rfl ⟨by rw [HX.out]; exact ⟨0, 0, rfl⟩, HB1.out⟩
  | some pr =>
    obtain ⟨p, a1⟩ := pr
    rw [hn] at V
    have HC2 : Hid (Pu.chunk1 D E a = match Pu.num D a1 1 50 with | none => none | some (q, a2) => some ((p, q), a2)) := by rw [Hid, HC.out, hn]
    clear hn HC
    go_enter Try.func106, Try.ntmps106
    go_wp2_with fail
    refine V.out.mono ?_
    rintro e w1 ⟨⟨rfl, hS⟩, hbel, hkp⟩
    have hsz : w.heap.size < w1.heap.size := by have := hbel.size; rw [size_alloc'] at this; omega
    have HBK : Hid (∀ W, Below B w1 W → KeepR R w1 W → Below B (w.alloc (.cells #[.int .i64 0, .int .i64 0] 158)) W ∧ KeepR R (w.alloc (.cells #[.int .i64 0, .int .i64 0] 158)) W) := fun W h1 h2 => ⟨hbel.trans h1, hkp.trans hbel.size h2⟩
    have V2 : Hid (Calls Try.prog 96 #[.pointer (some ⟨R, 0, none⟩), .int .i64 1, .int .i64 50] w1 fun e w' => NumAns R lb B D E cs ws vr (Pu.num D a1 1 50) e w' ∧ Below B w1 w' ∧ KeepR R w1 w') := fnumberK R lb B D E a1 1 50 cs ws vr w1 hS (by omega) (by omega)
    clear hS hbel hkp V
    cases hq : Pu.num D a1 1 50 with
    | none =>
      have HX : Hid (Pu.chunk1 D E a = none) := by rw [Hid, HC2.out, hq]
      rw [hq] at V2
      clear hq HC2
      go_wp2_with fail
      refine V2.out.mono ?_
      rintro e w2 ⟨rfl, hb2, hk2⟩
      obtain ⟨b3, k3⟩ := HBK.out w2 hb2 hk2
      obtain ⟨r1, B1, K1, _⟩ := FE.out w2 (.int .i64 (p : Int)) (.int .i64 0) 0 b3 k3
      have k0 : w2.cell? ⟨w.heap.size, 0, none⟩ = some (.int .i64 0) := by rw [cell_of_row _ _ 0 _ _ _ r1]; rfl
      have k1 : w2.cell? ⟨w.heap.size, 1, none⟩ = some (.int .i64 0) := by rw [cell_of_row _ _ 1 _ _ _ r1]; rfl
      have g0 := frozen_of_row _ _ 0 _ _ r1
      have g1 := frozen_of_row _ _ 1 _ _ r1
      have FF := set2_row r1 (.int .i64 (p : Int)) (.int .i64 0)
      have q0 := cell_of_row _ _ 0 _ _ _ FF
      have q1 := cell_of_row _ _ 1 _ _ _ FF
      simp only [List.getElem?_toArray, List.getElem?_cons_zero, List.getElem?_cons_succ] at q0 q1
      have HB1 : Hid (Below B w ((w2.setCell ⟨w.heap.size, 0, none⟩ (.int .i64 (p : Int))).setCell ⟨w.heap.size, 1, none⟩ (.int .i64 0)) ∧ KeepR R w ((w2.setCell ⟨w.heap.size, 0, none⟩ (.int .i64 (p : Int))).setCell ⟨w.heap.size, 1, none⟩ (.int .i64 0))) := ⟨B1, K1⟩
      clear FF r1 hb2 hk2 b3 k3 B1 K1 FE V2 HBK hsz
      go_wp2
      exact bodyPost_ret (v := .tuple #[.agg #[.int .i64 (p : Int), .int .i64 0], .bool false]) (by simp [results, Try.results106, go_sem, q0, q1]) rfl ⟨by rw [HX.out]; exact ⟨_, _, rfl⟩, HB1.out⟩
    | some q =>
      obtain ⟨q, a2⟩ := q
      have HX : Hid (Pu.chunk1 D E a = some ((p, q), a2)) := by rw [Hid, HC2.out, hq]
      rw [hq] at V2
      clear hq HC2
      go_wp2_with fail
      refine V2.out.mono ?_
      rintro e w2 ⟨⟨rfl, hS2⟩, hb2, hk2⟩
      obtain ⟨b3, k3⟩ := HBK.out w2 hb2 hk2
      obtain ⟨r1, B1, K1, F1⟩ := FE.out w2 (.int .i64 (p : Int)) (.int .i64 (q : Int)) a2 b3 k3
      have k0 : w2.cell? ⟨w.heap.size, 0, none⟩ = some (.int .i64 0) := by rw [cell_of_row _ _ 0 _ _ _ r1]; rfl
      have k1 : w2.cell? ⟨w.heap.size, 1, none⟩ = some (.int .i64 0) := by rw [cell_of_row _ _ 1 _ _ _ r1]; rfl
      have g0 := frozen_of_row _ _ 0 _ _ r1
      have g1 := frozen_of_row _ _ 1 _ _ r1
      have FF := set2_row r1 (.int .i64 (p : Int)) (.int .i64 (q : Int))
      have q0 := cell_of_row _ _ 0 _ _ _ FF
      have q1 := cell_of_row _ _ 1 _ _ _ FF
      simp only [List.getElem?_toArray, List.getElem?_cons_zero, List.getElem?_cons_succ] at q0 q1
      have HF1 : Hid (FSt ((w2.setCell ⟨w.heap.size, 0, none⟩ (.int .i64 (p : Int))).setCell ⟨w.heap.size, 1, none⟩ (.int .i64 (q : Int))) R lb B D E a2 cs ws vr) := F1 hS2
      have HB1 : Hid (Below B w ((w2.setCell ⟨w.heap.size, 0, none⟩ (.int .i64 (p : Int))).setCell ⟨w.heap.size, 1, none⟩ (.int .i64 (q : Int))) ∧ KeepR R w ((w2.setCell ⟨w.heap.size, 0, none⟩ (.int .i64 (p : Int))).setCell ⟨w.heap.size, 1, none⟩ (.int .i64 (q : Int)))) := ⟨B1, K1⟩
      clear FF r1 hb2 hk2 b3 k3 B1 K1 F1 FE V2 HBK hsz hS2
      go_wp2
      exact bodyPost_ret (v := .tuple #[.agg #[.int .i64 (p : Int), .int .i64 (q : Int)], .bool true]) (by simp [results, Try.results106, go_sem, q0, q1]) rfl ⟨by rw [HX.out]; exact ⟨rfl, HF1.out⟩, HB1.out⟩

end Go.Proofs.Ytjobhlncllfdmaa

/- The program's sums: shiftByte, Of. -/
namespace Go.Proofs.Ytjobhlncllfdmaa
open Go.RowKit

set_option maxHeartbeats 1000000 in
set_option maxRecDepth 100000 in
theorem shift_any (n : Nat) (w : World) (hn : n < 4294967296) :
    Calls Try.prog 84 #[.int .u32 (n : Int)] w fun e w' => e = .returned (.int .u32 ((Pu.stN 8 n : Nat) : Int)) ∧ w' = w := by
  go_enter Try.func84, Try.ntmps84
  go_wp2
  go_loop [0, 4] (fun x i => ∃ j y : Nat, j ≤ 8 ∧ y < 4294967296 ∧ Hid (Pu.stN 8 n = Pu.stN (8 - j) y) ∧ x = .int .u32 (y : Int) ∧ i = .int .i64 j) (fun _ i => 8 - (intOf i).toNat)
  case atStart => exact ⟨0, n, by omega, hn, rfl, rfl, rfl⟩
  case round =>
    obtain ⟨j, y, hj, hy, Hy, rfl, rfl⟩ := hrel
    by_cases hj8 : j < 8
    · obtain ⟨h, hh⟩ : ∃ h, h = y / 2 := ⟨_, rfl⟩
      have hh2 : (y : Int) / 2 = (h : Int) := by omega
      have hst : Pu.stN (8 - j) y = Pu.stN (8 - (j + 1)) (Pu.st y) := by rw [show 8 - j = (8 - (j + 1)) + 1 by omega]; rfl
      have hand : bits .and .u32 (y : Int) 1 = ((y % 2 : Nat) : Int) := by
        have := u32_and_nat y 1 hy (by omega)
        rw [Nat.and_two_pow_sub_one_eq_mod y 1] at this
        exact this
      by_cases hodd : y % 2 = 1
      · rw [hodd] at hand
        obtain ⟨z, hz⟩ : ∃ z, z = h ^^^ 3988292384 := ⟨_, rfl⟩
        have hxor2 : bits .xor .u32 (h : Int) 3988292384 = (z : Int) := by rw [hz]; exact u32_xor_nat h 3988292384 (by omega) (by omega)
        have hzl : z < 4294967296 := by rw [hz]; exact Nat.xor_lt_two_pow (n := 32) (by omega) (by omega)
        have HY : Hid (Pu.stN 8 n = Pu.stN (8 - (j + 1)) z) := by rw [Hid, Hy.out, hst, hz, hh]; unfold Pu.st; rw [if_pos hodd]
        clear hst hz hodd hh
        go_wp2
        go_round
        case rel => exact ⟨j + 1, z, by omega, hzl, HY, rfl, by go_num⟩
        case measure => simp [intOf]; omega
      · have h0 : y % 2 = 0 := by omega
        rw [h0] at hand
        have hhl : h < 4294967296 := by omega
        have HY : Hid (Pu.stN 8 n = Pu.stN (8 - (j + 1)) h) := by rw [Hid, Hy.out, hst, hh]; unfold Pu.st; rw [if_neg hodd]
        clear hst hodd hh h0
        go_wp2
        go_round
        case rel => exact ⟨j + 1, h, by omega, hhl, HY, rfl, by go_num⟩
        case measure => simp [intOf]; omega
    · obtain rfl : j = 8 := by omega
      have HY : Hid (Pu.stN 8 n = y) := by rw [Hid, Hy.out]; rfl
      go_wp2
      go_ret
      exact ⟨ret_int (by rw [HY.out]), rfl⟩

set_option maxHeartbeats 1000000 in
set_option maxRecDepth 100000 in
theorem of_any (lb : Nat) (ao : Option Addr) (cap : Nat) (L : List UInt8) (w : World) (h : Rest w lb ao cap L) :
    Calls Try.prog 66 #[.slice ao L.length cap] w fun e w' => e = .returned (.int .u32 ((Pu.sum L : Nat) : Int)) ∧ w' = w := by
  have hLm : L.length ≤ 9223372036854775807 := by have h1 := h.1; have h2 := h.2.1; unfold maxLen at h2; omega
  have HC : Hid (∀ k, k < L.length → ∃ o, ao = some ⟨lb, o, none⟩ ∧ w.cell? ⟨lb, o + k, none⟩ = some (.int .u8 (Pu.byteAt L k : Int))) := fun k hk => by
    obtain ⟨_, _, h3⟩ := h
    rcases h3 with rfl | ⟨o, rfl, hc⟩
    · simp at hk
    · exact ⟨o, rfl, hc k hk⟩
  have SH : Hid (∀ n : Nat, n < 4294967296 → ∀ W : World, Calls Try.prog 84 #[.int .u32 (n : Int)] W fun e w' => e = .returned (.int .u32 ((Pu.stN 8 n : Nat) : Int)) ∧ w' = W) := fun n hn W => shift_any n W hn
  clear h
  go_enter Try.func66, Try.ntmps66
  go_wp2
  go_loop [3, 8] (fun x i => ∃ k y : Nat, k ≤ L.length ∧ y < 4294967296 ∧ Hid (y = Pu.sumGo 4294967295 (L.take k)) ∧ x = .int .u32 (y : Int) ∧ i = .int .i64 k) (fun _ i => L.length - (intOf i).toNat)
  case atStart => exact ⟨0, 4294967295, Nat.zero_le _, by omega, rfl, rfl, rfl⟩
  case round =>
    obtain ⟨k, y, hk, hy, Hy, rfl, rfl⟩ := hrel
    by_cases hk2 : k < L.length
    · obtain ⟨o, rfl, hc⟩ := HC.out k hk2
      obtain ⟨b, hb⟩ : ∃ b, b = Pu.byteAt L k := ⟨_, rfl⟩
      have hbl : b < 256 := by rw [hb]; exact Pu.byteAt_lt _ _
      rw [← hb] at hc
      obtain ⟨z, hz⟩ : ∃ z, z = y ^^^ b := ⟨_, rfl⟩
      have hxor : bits .xor .u32 (y : Int) (b : Int) = (z : Int) := by rw [hz]; exact u32_xor_nat y b hy (by omega)
      have hzl : z < 4294967296 := by rw [hz]; exact Nat.xor_lt_two_pow (n := 32) (by omega) (by omega)
      have hnl := Pu.stN_lt 8 z hzl
      have Hnew : Hid (Pu.stN 8 z = Pu.sumGo 4294967295 (L.take (k + 1))) := by
        rw [Hid, take_snoc' _ _ hk2, sumGo_snoc, ← Hy.out, hz]
        unfold Pu.crc
        rw [hb]
        simp only [Pu.byteAt, List.getD_eq_getElem?_getD, List.getElem?_eq_getElem hk2, Option.getD_some]
      obtain ⟨q, hq⟩ : ∃ q, q = Pu.stN 8 z := ⟨_, rfl⟩
      have S2 : Hid (∀ W : World, Calls Try.prog 84 #[.int .u32 (z : Int)] W fun e w' => e = .returned (.int .u32 (q : Int)) ∧ w' = W) := fun W => by rw [hq]; exact SH.out z hzl W
      rw [← hq] at hnl Hnew
      clear hz hb hq
      go_wp2_with fail
      refine (S2.out _).mono ?_
      rintro e w' ⟨rfl, hw'⟩
      subst w'
      go_wp2
      go_round
      case rel => exact ⟨k + 1, q, by omega, hnl, Hnew, rfl, by go_num⟩
      case measure => simp [intOf]; omega
    · obtain rfl : k = L.length := by omega
      have HS : Hid (Pu.sum L = y ^^^ 4294967295) := by
        have e : Pu.sumGo 4294967295 L = y := by rw [Hy.out, List.take_length]
        unfold Hid Pu.sum
        rw [e]
      go_wp2
      go_ret
      refine ⟨ret_int ?_, rfl⟩
      rw [HS.out, show IntKind.u32.max = ((4294967295 : Nat) : Int) from rfl, u32_xor_nat 4294967295 y (by omega) hy, Nat.xor_comm]

end Go.Proofs.Ytjobhlncllfdmaa
