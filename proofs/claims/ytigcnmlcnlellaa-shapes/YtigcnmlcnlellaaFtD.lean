/- The program's reader of a footer: contracts of columns, pages, group, groups, whole. -/
import Derived.Test.YtigcnmlcnlellaaFtC
namespace Go.Proofs.Ytigcnmlcnlellaa
open Go.RowKit

theorem num_some {D : List UInt8} {a l m n nx : Nat} (h : Pu.num D a l m = some (n, nx)) : Pu.vi D a = some (n, nx) ∧ l ≤ n ∧ n ≤ m ∧ a < nx ∧ nx ≤ D.length := by
  unfold Pu.num at h
  cases hv : Pu.vi D a with
  | none => simp [hv] at h
  | some q =>
    obtain ⟨y, ny⟩ := q
    simp only [hv] at h
    split at h
    · cases h
    · simp only [Option.some.injEq, Prod.mk.injEq] at h
      obtain ⟨rfl, rfl⟩ := h
      have := Pu.vi_lt hv
      exact ⟨rfl, by omega, by omega, this.1, this.2.1⟩
theorem num_none {D : List UInt8} {a l m n nx : Nat} (h : Pu.num D a l m = none) (hv : Pu.vi D a = some (n, nx)) : n < l ∨ m < n := by
  unfold Pu.num at h
  simp only [hv] at h
  split at h
  · assumption
  · cases h
theorem cols_num (D : List UInt8) : Pu.cols D = match Pu.num D 0 1 20 with | none => none | some (n, a) => Pu.colsGo D n a [] := by
  unfold Pu.cols Pu.num
  cases Pu.vi D 0 with
  | none => rfl
  | some q =>
    obtain ⟨n, a⟩ := q
    simp only
    split <;> rfl

def ColsAnsP (R lb B : Nat) (D : List UInt8) (E : Nat) (rs : List Nat) (r : Option (List Pu.Col × Nat)) (e : Ending) (w' : World) : Prop :=
  match r with
  | none => e = .returned (.bool false)
  | some (cs, a') => e = .returned (.bool true) ∧ FSt w' R lb B D E a' cs rs

set_option maxHeartbeats 2000000 in
set_option maxRecDepth 100000 in
theorem fcolumns (R lb B : Nat) (D : List UInt8) (E : Nat) (rs : List Nat) (w : World) (h : FSt w R lb B D E 0 [] rs) :
    Calls Try.prog 48 #[.pointer (some ⟨R, 0, none⟩)] w fun e w' => ColsAnsP R lb B D E rs (Pu.cols D) e w' ∧ Below B w w' := by
  have V : Hid (Calls Try.prog 55 #[.pointer (some ⟨R, 0, none⟩), .int .i64 1, .int .i64 20] w fun e w' => NumAns R lb B D E [] rs (Pu.num D 0 1 20) e w' ∧ Below B w w') := fnumber R lb B D E 0 1 20 [] rs w h (by omega) (by omega)
  have HC : Hid (Pu.cols D = match Pu.num D 0 1 20 with | none => none | some (n, a) => Pu.colsGo D n a []) := cols_num D
  clear h
  cases hn : Pu.num D 0 1 20 with
  | none =>
    have HX : Hid (Pu.cols D = none) := by rw [Hid, HC.out, hn]
    rw [hn] at V
    clear hn HC
    go_enter Try.func48, Try.ntmps48
    go_wp2_with fail
    refine V.out.mono ?_
    rintro e w' ⟨rfl, hbel⟩
    go_wp2
    go_ret
    exact ⟨by rw [HX.out]; rfl, hbel⟩
  | some pr =>
    obtain ⟨N, a0⟩ := pr
    have HX : Hid (Pu.cols D = Pu.colsGo D N a0 []) := by rw [Hid, HC.out, hn]
    obtain ⟨_, hN1, hN2, _, _⟩ := num_some hn
    rw [hn] at V
    clear hn HC
    go_enter Try.func48, Try.ntmps48
    go_wp2_with fail
    refine V.out.mono ?_
    rintro e w1 ⟨⟨rfl, hS⟩, hbel⟩
    have HS : Hid (FSt w1 R lb B D E a0 [] rs) := hS
    clear hS
    go_wp2
    go_loopw [13] (fun i wr => ∃ (a : Nat) (cs : List Pu.Col), cs.length ≤ N ∧ i = .int .i64 cs.length ∧ Hid (Pu.cols D = Pu.colsGo D (N - cs.length) a cs) ∧ Hid (FSt wr R lb B D E a cs rs) ∧ Hid (Below B w wr)) (fun i _ => N - (intOf i).toNat)
    case atStart => exact ⟨a0, [], by simp, rfl, HX, HS, hbel⟩
    case round =>
      obtain ⟨a, cs, hcl, rfl, HG, HF, HB⟩ := hrel
      by_cases hk : cs.length < N
      · have CO : Hid (Calls Try.prog 56 #[.pointer (some ⟨R, 0, none⟩)] wr fun e w' => ColAns R lb B D E cs rs (Pu.col1 D a cs) e w' ∧ Below B wr w') := fcolumn R lb B D E a cs rs wr HF.out (by omega)
        cases hc : Pu.col1 D a cs with
        | none =>
          have HY : Hid (Pu.cols D = none) := by rw [Hid, HG.out]; exact colsGo_no (by omega) hc
          rw [hc] at CO
          clear hc
          go_wp2_with fail
          refine CO.out.mono ?_
          rintro e w2 ⟨rfl, hb2⟩
          have hb3 := HB.out.trans hb2
          clear hb2
          go_wp2
          go_ret
          exact ⟨by rw [HY.out]; rfl, hb3⟩
        | some p =>
          obtain ⟨c, a'⟩ := p
          have HY : Hid (Pu.cols D = Pu.colsGo D (N - (cs ++ [c]).length) a' (cs ++ [c])) := by rw [Hid, HG.out, colsGo_yes (by omega) hc]; simp [Nat.sub_sub]
          rw [hc] at CO
          clear hc
          go_wp2_with fail
          refine CO.out.mono ?_
          rintro e w2 ⟨⟨rfl, hS2⟩, hb2⟩
          have HS2 : Hid (FSt w2 R lb B D E a' (cs ++ [c]) rs) := hS2
          have HB2 : Hid (Below B w w2) := HB.out.trans hb2
          clear hb2 hS2
          go_wp2
          go_roundw
          case rel => exact ⟨a', cs ++ [c], by simp; omega, by simp, HY, HS2, HB2⟩
          case measure => simp [intOf]; omega
      · obtain rfl : cs.length = N := by omega
        have HY : Hid (Pu.cols D = some (cs, a)) := by rw [Hid, HG.out, Nat.sub_self]; rfl
        go_wp2
        go_ret
        rw [HY.out]
        exact ⟨⟨rfl, HF.out⟩, HB.out⟩

def StAns (R lb B : Nat) (D : List UInt8) (E : Nat) (cs : List Pu.Col) (rs : List Nat) (r : Option Nat) (e : Ending) (w' : World) : Prop :=
  match r with
  | none => e = .returned (.bool false)
  | some a' => e = .returned (.bool true) ∧ FSt w' R lb B D E a' cs rs

theorem chunk_num (D : List UInt8) (E a : Nat) : Pu.chunk1 D E a = match Pu.num D a 4 E with | none => none | some (p, a1) => (match Pu.num D a1 1 50 with | none => none | some (q, a2) => some ((p, q), a2)) := by
  unfold Pu.chunk1 Pu.num
  cases Pu.vi D a with
  | none => rfl
  | some q =>
    obtain ⟨n, a1⟩ := q
    simp only
    by_cases h : n < 4 ∨ E < n
    · rw [if_pos h, if_pos h]
    · rw [if_neg h, if_neg h]
      simp only
      cases Pu.vi D a1 with
      | none => rfl
      | some q =>
        obtain ⟨m, a2⟩ := q
        simp only
        split <;> rfl

set_option maxHeartbeats 2000000 in
set_option maxRecDepth 100000 in
theorem fpages (R lb B : Nat) (D : List UInt8) (E a : Nat) (cs : List Pu.Col) (rs : List Nat) (w : World) (h : FSt w R lb B D E a cs rs) (hE : E ≤ 140737488355328) :
    Calls Try.prog 60 #[.pointer (some ⟨R, 0, none⟩)] w fun e w' => StAns R lb B D E cs rs ((Pu.chunk1 D E a).map Prod.snd) e w' ∧ Below B w w' := by
  have V : Hid (Calls Try.prog 55 #[.pointer (some ⟨R, 0, none⟩), .int .i64 4, .int .i64 (E : Int)] w fun e w' => NumAns R lb B D E cs rs (Pu.num D a 4 E) e w' ∧ Below B w w') := fnumber R lb B D E a 4 E cs rs w h (by omega) hE
  have HC : Hid (Pu.chunk1 D E a = match Pu.num D a 4 E with | none => none | some (p, a1) => (match Pu.num D a1 1 50 with | none => none | some (q, a2) => some ((p, q), a2))) := chunk_num D E a
  have c1 : w.cell? ⟨R, 1, none⟩ = some (.int .i64 (E : Int)) := by obtain ⟨_, _, _, _, hb, _⟩ := h; exact hb.c1
  clear h
  cases hn : Pu.num D a 4 E with
  | none =>
    have HX : Hid (Pu.chunk1 D E a = none) := by rw [Hid, HC.out, hn]
    rw [hn] at V
    clear hn HC
    go_enter Try.func60, Try.ntmps60
    go_wp2_with fail
    refine V.out.mono ?_
    rintro e w' ⟨rfl, hbel⟩
    go_wp2
    go_ret
    exact ⟨by rw [HX.out]; rfl, hbel⟩
  | some pr =>
    obtain ⟨p, a1⟩ := pr
    rw [hn] at V
    have HC2 : Hid (Pu.chunk1 D E a = match Pu.num D a1 1 50 with | none => none | some (q, a2) => some ((p, q), a2)) := by rw [Hid, HC.out, hn]
    clear hn HC
    go_enter Try.func60, Try.ntmps60
    go_wp2_with fail
    refine V.out.mono ?_
    rintro e w1 ⟨⟨rfl, hS⟩, hbel⟩
    have V2 : Hid (Calls Try.prog 55 #[.pointer (some ⟨R, 0, none⟩), .int .i64 1, .int .i64 50] w1 fun e w' => NumAns R lb B D E cs rs (Pu.num D a1 1 50) e w' ∧ Below B w1 w') := fnumber R lb B D E a1 1 50 cs rs w1 hS (by omega) (by omega)
    clear hS
    cases hq : Pu.num D a1 1 50 with
    | none =>
      have HX : Hid (Pu.chunk1 D E a = none) := by rw [Hid, HC2.out, hq]
      rw [hq] at V2
      clear hq HC2
      go_wp2_with fail
      refine V2.out.mono ?_
      rintro e w2 ⟨rfl, hb2⟩
      have hb3 := hbel.trans hb2
      clear hb2 hbel
      go_wp2
      go_ret
      exact ⟨by rw [HX.out]; rfl, hb3⟩
    | some q =>
      obtain ⟨q, a2⟩ := q
      have HX : Hid (Pu.chunk1 D E a = some ((p, q), a2)) := by rw [Hid, HC2.out, hq]
      rw [hq] at V2
      clear hq HC2
      go_wp2_with fail
      refine V2.out.mono ?_
      rintro e w2 ⟨⟨rfl, hS2⟩, hb2⟩
      have hb3 := hbel.trans hb2
      have HS2 : Hid (FSt w2 R lb B D E a2 cs rs) := hS2
      clear hb2 hbel hS2
      go_wp2
      go_ret
      rw [HX.out]
      exact ⟨⟨rfl, HS2.out⟩, hb3⟩

theorem grp_num (D : List UInt8) (E nc a : Nat) : Pu.grp1 D E nc a = match Pu.num D a 1 1000 with | none => none | some (r, a1) => (match Pu.chunksGo D E nc a1 [] with | none => none | some (l, a2) => some ((r, l), a2)) := by
  unfold Pu.grp1 Pu.num
  cases Pu.vi D a with
  | none => rfl
  | some q =>
    obtain ⟨n, a1⟩ := q
    simp only
    split <;> rfl

def GrAns (R lb B : Nat) (D : List UInt8) (E : Nat) (cs : List Pu.Col) (rs : List Nat) (r : Option ((Nat × List (Nat × Nat)) × Nat)) (e : Ending) (w' : World) : Prop :=
  match r with
  | none => e = .returned (.bool false)
  | some (g, a') => e = .returned (.bool true) ∧ FSt w' R lb B D E a' cs (rs ++ [g.1])

set_option maxHeartbeats 2000000 in
set_option maxRecDepth 100000 in
theorem fgroup (R lb B : Nat) (D : List UInt8) (E a : Nat) (cs : List Pu.Col) (rs : List Nat) (w : World) (h : FSt w R lb B D E a cs rs) (hE : E ≤ 140737488355328) (hcs : cs.length ≤ 20) (hrs : rs.length < 50) :
    Calls Try.prog 57 #[.pointer (some ⟨R, 0, none⟩)] w fun e w' => GrAns R lb B D E cs rs (Pu.grp1 D E cs.length a) e w' ∧ Below B w w' := by
  have V : Hid (Calls Try.prog 55 #[.pointer (some ⟨R, 0, none⟩), .int .i64 1, .int .i64 1000] w fun e w' => NumAns R lb B D E cs rs (Pu.num D a 1 1000) e w' ∧ Below B w w') := fnumber R lb B D E a 1 1000 cs rs w h (by omega) (by omega)
  have HC : Hid (Pu.grp1 D E cs.length a = match Pu.num D a 1 1000 with | none => none | some (r, a1) => (match Pu.chunksGo D E cs.length a1 [] with | none => none | some (l, a2) => some ((r, l), a2))) := grp_num D E cs.length a
  have hBR := h.base
  have hRw := h.lt
  clear h
  cases hn : Pu.num D a 1 1000 with
  | none =>
    have HX : Hid (Pu.grp1 D E cs.length a = none) := by rw [Hid, HC.out, hn]
    rw [hn] at V
    clear hn HC
    go_enter Try.func57, Try.ntmps57
    go_wp2_with fail
    refine V.out.mono ?_
    rintro e w' ⟨rfl, hbel⟩
    go_wp2
    go_ret
    exact ⟨by rw [HX.out]; rfl, hbel⟩
  | some pr =>
    obtain ⟨r, a1⟩ := pr
    obtain ⟨_, hr1, hr2, _, _⟩ := num_some hn
    rw [hn] at V
    have HC2 : Hid (Pu.grp1 D E cs.length a = match Pu.chunksGo D E cs.length a1 [] with | none => none | some (l, a2) => some ((r, l), a2)) := by rw [Hid, HC.out, hn]
    clear hn HC
    go_enter Try.func57, Try.ntmps57
    go_wp2_with fail
    refine V.out.mono ?_
    rintro e w1 ⟨⟨rfl, hS⟩, hbel⟩
    have HS : Hid (FSt w1 R lb B D E a1 cs rs) := hS
    obtain ⟨ao, cap, vc, vr, hb, ha, hr, hc, ho, hlb, hB⟩ := hS
    obtain ⟨av, cv, rfl⟩ := slen_of hc
    have c2 := hb.c2
    clear hb hr hc ho
    go_wp2
    go_loopw [18] (fun i wr => ∃ (b : Nat) (l : List (Nat × Nat)), l.length ≤ cs.length ∧ i = .int .i64 l.length ∧ Hid (Pu.chunksGo D E cs.length a1 [] = Pu.chunksGo D E (cs.length - l.length) b l) ∧ Hid (FSt wr R lb B D E b cs rs) ∧ Hid (Below B w wr)) (fun i _ => cs.length - (intOf i).toNat)
    case atStart => exact ⟨a1, [], by simp, rfl, rfl, HS, hbel⟩
    case round =>
      obtain ⟨b, l, hll, rfl, HG, HF, HB⟩ := hrel
      by_cases hk : l.length < cs.length
      · have PG : Hid (Calls Try.prog 60 #[.pointer (some ⟨R, 0, none⟩)] wr fun e w' => StAns R lb B D E cs rs ((Pu.chunk1 D E b).map Prod.snd) e w' ∧ Below B wr w') := fpages R lb B D E b cs rs wr HF.out hE
        cases hc : Pu.chunk1 D E b with
        | none =>
          have HY : Hid (Pu.grp1 D E cs.length a = none) := by rw [Hid, HC2.out, HG.out, chunksGo_no (by omega) hc]
          rw [hc] at PG
          clear hc
          go_wp2_with fail
          refine PG.out.mono ?_
          rintro e w2 ⟨rfl, hb2⟩
          have hb3 := HB.out.trans hb2
          clear hb2
          go_wp2
          go_ret
          exact ⟨by rw [HY.out]; rfl, hb3⟩
        | some p =>
          obtain ⟨c, b'⟩ := p
          have HY : Hid (Pu.chunksGo D E cs.length a1 [] = Pu.chunksGo D E (cs.length - (l ++ [c]).length) b' (l ++ [c])) := by rw [Hid, HG.out, chunksGo_yes (by omega) hc]; simp [Nat.sub_sub]
          rw [hc] at PG
          clear hc
          go_wp2_with fail
          refine PG.out.mono ?_
          rintro e w2 ⟨⟨rfl, hS2⟩, hb2⟩
          have HS2 : Hid (FSt w2 R lb B D E b' cs rs) := hS2
          have HB2 : Hid (Below B w w2) := HB.out.trans hb2
          clear hb2 hS2
          go_wp2
          go_roundw
          case rel => exact ⟨b', l ++ [c], by simp; omega, by simp, HY, HS2, HB2⟩
          case measure => simp [intOf]; omega
      · have hle : l.length = cs.length := by omega
        have HY : Hid (Pu.grp1 D E cs.length a = some ((r, l), b)) := by rw [Hid, HC2.out, HG.out, hle, Nat.sub_self]; rfl
        obtain ⟨ao, cap, vc, vr, hb, ha, hr, hc, ho, hlb, hB⟩ := HF.out
        obtain ⟨ar, cr, rfl⟩ := slen_of ho
        have c3 := hb.c3
        have hBw : B ≤ wr.heap.size := Nat.le_trans (Nat.le_trans hBR (Nat.le_of_lt hRw)) HB.out.size
        have Hb : Hid (Rd wr R (.slice ao (D.length - b) cap) E vc (.slice ar rs.length cr)) := hb
        have Hr : Hid (Rest wr lb ao cap (D.drop b)) := hr
        have Hc : Hid (wr.ownsRow B 45 3 vc cs.length (colsV cs)) := hc
        obtain ⟨i0, hi, hz0, hz1, hz2⟩ := info_parts Try.info3
        clear hb hr hc
        go_wp2_with (first
          | (at_builtin; refine wpList_append_own _ rfl _ _ 26 rfl B 3 i0 (.int .i64 0) 1 8 Try.underlying26 hi hz0 hz1 hz2 rfl (by decide) _ _ _ rfl (ho.alloc _) ⟨_, 0, none⟩ 1 1 [.int .i64 (r : Int)] rfl rfl ?d1 ?d2 ?d3 ?d4 ?d5 ?_)
          | go_in)
        case d1 => exact one_new rfl
        case d2 => exact one_cell
        case d3 => unfold maxLen; omega
        case d4 => omega
        case d5 => rw [size_alloc']; omega
        intro v' w2 ho3 hg hnn
        clear hnn
        obtain ⟨ao5, cap5, hv5⟩ := slen_of ho3
        rw [hv5] at ho3 ⊢
        clear hv5 v'
        have hP := FSt.pushR Hb.out ha Hr.out Hc.out ho hlb hB hg ho3
        have c3' := hP.1.c3
        have f3' := hP.1.fz 3
        have HP : Hid (FSt (w2.setCell ⟨R, 3, none⟩ (.slice ao5 (rs.length + 1) cap5)) R lb B D E b cs (rs ++ [r])) := hP.2.1
        have HB2 : Hid (Below B w (w2.setCell ⟨R, 3, none⟩ (.slice ao5 (rs.length + 1) cap5))) := HB.out.trans hP.2.2
        clear hP hg ho3 ho
        go_wp2
        go_ret
        rw [HY.out]
        exact ⟨⟨rfl, HP.out⟩, HB2.out⟩

/-- groups, up to a place -/
def Pu.grpsUp (D : List UInt8) (E nc a : Nat) : Option (List (Nat × List (Nat × Nat)) × Nat) :=
  match Pu.num D a 0 50 with
  | none => none
  | some (n, a1) => Pu.grpsGo D E nc n a1 []

theorem grps_up (D : List UInt8) (E nc a : Nat) : Pu.grps D E nc a = match Pu.grpsUp D E nc a with | none => none | some (gs, a2) => if a2 = D.length then some gs else none := by
  unfold Pu.grps Pu.grpsUp Pu.num
  cases Pu.vi D a with
  | none => rfl
  | some q =>
    obtain ⟨n, a1⟩ := q
    simp only
    by_cases h : 50 < n
    · rw [if_pos h, if_pos (.inr h)]
    · rw [if_neg h, if_neg (by omega)]
      rfl

def GrsAns (R lb B : Nat) (D : List UInt8) (E : Nat) (cs : List Pu.Col) (r : Option (List (Nat × List (Nat × Nat)) × Nat)) (e : Ending) (w' : World) : Prop :=
  match r with
  | none => e = .returned (.bool false)
  | some (gs, a') => e = .returned (.bool true) ∧ FSt w' R lb B D E a' cs (gs.map Prod.fst)

set_option maxHeartbeats 2000000 in
set_option maxRecDepth 100000 in
theorem fgroups (R lb B : Nat) (D : List UInt8) (E a : Nat) (cs : List Pu.Col) (w : World) (h : FSt w R lb B D E a cs []) (hE : E ≤ 140737488355328) (hcs : cs.length ≤ 20) :
    Calls Try.prog 49 #[.pointer (some ⟨R, 0, none⟩)] w fun e w' => GrsAns R lb B D E cs (Pu.grpsUp D E cs.length a) e w' ∧ Below B w w' := by
  have V : Hid (Calls Try.prog 55 #[.pointer (some ⟨R, 0, none⟩), .int .i64 0, .int .i64 50] w fun e w' => NumAns R lb B D E cs [] (Pu.num D a 0 50) e w' ∧ Below B w w') := fnumber R lb B D E a 0 50 cs [] w h (by omega) (by omega)
  clear h
  cases hn : Pu.num D a 0 50 with
  | none =>
    have HX : Hid (Pu.grpsUp D E cs.length a = none) := by simp [Hid, Pu.grpsUp, hn]
    rw [hn] at V
    clear hn
    go_enter Try.func49, Try.ntmps49
    go_wp2_with fail
    refine V.out.mono ?_
    rintro e w' ⟨rfl, hbel⟩
    go_wp2
    go_ret
    exact ⟨by rw [HX.out]; rfl, hbel⟩
  | some pr =>
    obtain ⟨N, a0⟩ := pr
    have HX : Hid (Pu.grpsUp D E cs.length a = Pu.grpsGo D E cs.length N a0 []) := by simp [Hid, Pu.grpsUp, hn]
    obtain ⟨_, hN1, hN2, _, _⟩ := num_some hn
    rw [hn] at V
    clear hn
    go_enter Try.func49, Try.ntmps49
    go_wp2_with fail
    refine V.out.mono ?_
    rintro e w1 ⟨⟨rfl, hS⟩, hbel⟩
    have HS : Hid (FSt w1 R lb B D E a0 cs []) := hS
    clear hS
    go_wp2
    go_loopw [13] (fun i wr => ∃ (a : Nat) (gs : List (Nat × List (Nat × Nat))), gs.length ≤ N ∧ i = .int .i64 gs.length ∧ Hid (Pu.grpsGo D E cs.length N a0 [] = Pu.grpsGo D E cs.length (N - gs.length) a gs) ∧ Hid (FSt wr R lb B D E a cs (gs.map Prod.fst)) ∧ Hid (Below B w wr)) (fun i _ => N - (intOf i).toNat)
    case atStart => exact ⟨a0, [], by simp, rfl, rfl, HS, hbel⟩
    case round =>
      obtain ⟨b, gs, hcl, rfl, HG, HF, HB⟩ := hrel
      by_cases hk : gs.length < N
      · have CO : Hid (Calls Try.prog 57 #[.pointer (some ⟨R, 0, none⟩)] wr fun e w' => GrAns R lb B D E cs (gs.map Prod.fst) (Pu.grp1 D E cs.length b) e w' ∧ Below B wr w') := fgroup R lb B D E b cs (gs.map Prod.fst) wr HF.out hE hcs (by rw [List.length_map]; omega)
        cases hc : Pu.grp1 D E cs.length b with
        | none =>
          have HY : Hid (Pu.grpsUp D E cs.length a = none) := by rw [Hid, HX.out, HG.out]; exact grpsGo_no (by omega) hc
          rw [hc] at CO
          clear hc
          go_wp2_with fail
          refine CO.out.mono ?_
          rintro e w2 ⟨rfl, hb2⟩
          have hb3 := HB.out.trans hb2
          clear hb2
          go_wp2
          go_ret
          exact ⟨by rw [HY.out]; rfl, hb3⟩
        | some p =>
          obtain ⟨g, b'⟩ := p
          have HY : Hid (Pu.grpsGo D E cs.length N a0 [] = Pu.grpsGo D E cs.length (N - (gs ++ [g]).length) b' (gs ++ [g])) := by rw [Hid, HG.out, grpsGo_yes (by omega) hc]; simp [Nat.sub_sub]
          rw [hc] at CO
          clear hc
          go_wp2_with fail
          refine CO.out.mono ?_
          rintro e w2 ⟨⟨rfl, hS2⟩, hb2⟩
          have HS2 : Hid (FSt w2 R lb B D E b' cs ((gs ++ [g]).map Prod.fst)) := by rw [Hid, List.map_append]; exact hS2
          have HB2 : Hid (Below B w w2) := HB.out.trans hb2
          clear hb2 hS2
          go_wp2
          go_roundw
          case rel => exact ⟨b', gs ++ [g], by simp; omega, by simp, HY, HS2, HB2⟩
          case measure => simp [intOf]; omega
      · obtain rfl : gs.length = N := by omega
        have HY : Hid (Pu.grpsUp D E cs.length a = some (gs, b)) := by rw [Hid, HX.out, HG.out, Nat.sub_self]; rfl
        go_wp2
        go_ret
        rw [HY.out]
        exact ⟨⟨rfl, HF.out⟩, HB.out⟩

def WhAns (R lb B : Nat) (D : List UInt8) (E : Nat) (r : Option (List Pu.Col × List (Nat × List (Nat × Nat)))) (e : Ending) (w' : World) : Prop :=
  match r with
  | none => e = .returned (.bool false)
  | some (cs, gs) => e = .returned (.bool true) ∧ FSt w' R lb B D E D.length cs (gs.map Prod.fst)

set_option maxHeartbeats 2000000 in
set_option maxRecDepth 100000 in
theorem fwhole (R lb B : Nat) (D : List UInt8) (E : Nat) (w : World) (h : FSt w R lb B D E 0 [] []) (hE : E ≤ 140737488355328) :
    Calls Try.prog 37 #[.pointer (some ⟨R, 0, none⟩)] w fun e w' => WhAns R lb B D E (Pu.foot D E) e w' ∧ Below B w w' := by
  have V : Hid (Calls Try.prog 48 #[.pointer (some ⟨R, 0, none⟩)] w fun e w' => ColsAnsP R lb B D E [] (Pu.cols D) e w' ∧ Below B w w') := fcolumns R lb B D E [] w h
  clear h
  cases hc : Pu.cols D with
  | none =>
    have HX : Hid (Pu.foot D E = none) := by simp [Hid, Pu.foot, hc]
    rw [hc] at V
    clear hc
    go_enter Try.func37, Try.ntmps37
    go_wp2_with fail
    refine V.out.mono ?_
    rintro e w' ⟨rfl, hbel⟩
    go_wp2
    go_ret
    exact ⟨by rw [HX.out]; rfl, hbel⟩
  | some pr =>
    obtain ⟨cs, a⟩ := pr
    obtain ⟨_, hcs, _⟩ := Pu.cols_spec hc
    rw [hc] at V
    have HF0 : Hid (Pu.foot D E = match Pu.grpsUp D E cs.length a with | none => none | some (gs, a2) => if a2 = D.length then some (cs, gs) else none) := by
      simp only [Hid, Pu.foot, hc, grps_up]
      cases Pu.grpsUp D E cs.length a with
      | none => rfl
      | some q =>
        obtain ⟨gs, a2⟩ := q
        simp only
        by_cases h : a2 = D.length
        · rw [if_pos h, if_pos h]
        · rw [if_neg h, if_neg h]
    clear hc
    go_enter Try.func37, Try.ntmps37
    go_wp2_with fail
    refine V.out.mono ?_
    rintro e w1 ⟨⟨rfl, hS⟩, hbel⟩
    have G : Hid (Calls Try.prog 49 #[.pointer (some ⟨R, 0, none⟩)] w1 fun e w' => GrsAns R lb B D E cs (Pu.grpsUp D E cs.length a) e w' ∧ Below B w1 w') := fgroups R lb B D E a cs w1 hS hE hcs
    clear hS
    cases hg : Pu.grpsUp D E cs.length a with
    | none =>
      have HX : Hid (Pu.foot D E = none) := by rw [Hid, HF0.out, hg]
      rw [hg] at G
      clear hg HF0
      go_wp2_with fail
      refine G.out.mono ?_
      rintro e w2 ⟨rfl, hb2⟩
      have hb3 := hbel.trans hb2
      clear hb2 hbel
      go_wp2
      go_ret
      exact ⟨by rw [HX.out]; rfl, hb3⟩
    | some q =>
      obtain ⟨gs, a2⟩ := q
      have HF1 : Hid (Pu.foot D E = if a2 = D.length then some (cs, gs) else none) := by rw [Hid, HF0.out, hg]
      rw [hg] at G
      clear hg HF0
      go_wp2_with fail
      refine G.out.mono ?_
      rintro e w2 ⟨⟨rfl, hS2⟩, hb2⟩
      have hb3 := hbel.trans hb2
      have hle := hS2.le
      have L : Hid (Calls Try.prog 28 #[.pointer (some ⟨R, 0, none⟩)] w2 fun e w' => e = .returned (.int .i64 ((D.length - a2 : Nat) : Int)) ∧ w' = w2) := by
        obtain ⟨ao, cap, vc, vr, hb, _⟩ := hS2
        exact left_any R 0 ao (D.length - a2) cap w2 hb.c0
      have HS2 : Hid (FSt w2 R lb B D E a2 cs (gs.map Prod.fst)) := hS2
      clear hb2 hbel hS2
      by_cases hend : a2 = D.length
      · have HX : Hid (Pu.foot D E = some (cs, gs)) := by rw [Hid, HF1.out, if_pos hend]
        have hz : D.length - a2 = 0 := by omega
        rw [hz] at L
        rw [hend] at HS2
        clear hend HF1 hz
        go_wp2_with fail
        refine L.out.mono ?_
        rintro e w' ⟨rfl, hw'⟩
        subst w'
        go_wp2
        go_ret
        rw [HX.out]
        exact ⟨⟨rfl, HS2.out⟩, hb3⟩
      · have HX : Hid (Pu.foot D E = none) := by rw [Hid, HF1.out, if_neg hend]
        obtain ⟨k, hk⟩ : ∃ k, k = D.length - a2 := ⟨_, rfl⟩
        have hk0 : 0 < k := by omega
        have hkd : ((k : Int) == 0) = false := by simp; omega
        rw [← hk] at L
        clear hend HF1 hk
        go_wp2_with fail
        refine L.out.mono ?_
        rintro e w' ⟨rfl, hw'⟩
        subst w'
        go_wp2
        go_ret
        exact ⟨by rw [HX.out]; rfl, hb3⟩

end Go.Proofs.Ytigcnmlcnlellaa
