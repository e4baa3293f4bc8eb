/- The program's Dictionary.Repeats, Indices. -/
import Derived.Test.YtjobhlncllfdmaaM23
namespace Go.Proofs.Ytjobhlncllfdmaa
open Go.RowKit Go.Maps

theorem repeats_any (aw ai : Option Addr) (nw cw ni ci : Nat) (w : World) :
    Calls Try.prog 100 #[.agg #[.slice aw nw cw, .slice ai ni ci]] w fun e w' => e = .returned (.bool (decide (nw < ni))) ∧ Below w.heap.size w w' := by
  obtain ⟨W1, hW1⟩ : ∃ W1, W1 = w.alloc (.cells #[.slice aw nw cw, .slice ai ni ci] 164) := ⟨_, rfl⟩
  have hb : Below w.heap.size w W1 := by rw [hW1]; exact bbox w _
  have c0 : W1.cell? ⟨w.heap.size, 0, none⟩ = some (.slice aw nw cw) := by rw [hW1, cell_of_row _ _ 0 _ _ _ (heap_alloc_new w _)]; rfl
  have c1 : W1.cell? ⟨w.heap.size, 1, none⟩ = some (.slice ai ni ci) := by rw [hW1, cell_of_row _ _ 1 _ _ _ (heap_alloc_new w _)]; rfl
  have hW1' : w.alloc (.cells #[.slice aw nw cw, .slice ai ni ci] 164) = W1 := hW1.symm
  clear hW1
  go_enter Try.func100, Try.ntmps100
  go_wp2
  go_ret
  refine ⟨?_, hb⟩
  simp

theorem bitLenAux_le : ∀ (f x k : Nat), x < 2 ^ k → Lib.bitLenAux f x ≤ k
  | 0, _, _, _ => Nat.zero_le _
  | f + 1, x, k, h => by
    unfold Lib.bitLenAux
    split
    · exact Nat.zero_le _
    · rename_i h0
      cases k with
      | zero => simp at h; omega
      | succ k =>
        have := bitLenAux_le f (x / 2) k (by rw [Nat.pow_succ] at h; omega)
        omega
theorem widL_le {n : Nat} (h : n ≤ 100000) : widL n ≤ 17 := bitLenAux_le 64 _ 17 (by omega)

theorem dic_lt (l : List Pu.Cl) : ∀ k, k ≤ l.length → ∀ x ∈ (dic (l.take k)).2, x ≤ k
  | 0, _ => by simp [dic]
  | k + 1, h => by
    have ih := dic_lt l k (by omega)
    have hl := dic_len l k (by omega)
    rw [dic_take l k (by omega)]
    intro x hx
    have hx' : x ∈ (dic (l.take k)).2 ++ [ix (dic (l.take k)).1 (l[k]'(by omega)).s] := hx
    rcases List.mem_append.1 hx' with hx' | hx'
    · have := ih x hx'; omega
    · have e := List.mem_singleton.1 hx'
      have := ix_le (dic (l.take k)).1 (l[k]'(by omega)).s
      omega
theorem dic_lt' (l : List Pu.Cl) : ∀ x ∈ (dic l).2, x ≤ l.length := by
  have := dic_lt l l.length (Nat.le_refl _)
  rw [List.take_length] at this
  exact this
theorem dic_len' (l : List Pu.Cl) : (dic l).1.length ≤ l.length ∧ (dic l).2.length = l.length := by
  have := dic_len l l.length (Nat.le_refl _)
  rw [List.take_length] at this
  exact this

/-- the bytes of a page of indices -/
def indicesL (nulls : Bool) (l ws : List Pu.Cl) (is : List Nat) : List UInt8 := (if nulls = true then levelsL l else []) ++ [UInt8.ofNat (widL ws.length)] ++ runsL (widL ws.length) is

/-- what follows behind the levels -/
def InTail (w : World) (R : Nat) (vd : Value) (nw : Nat) (vi : Value) (P : List UInt8) (w1 : World) : Prop :=
  w1.cell? ⟨R - 1, 1, none⟩ = some vi ∧ (∃ vw, vd = .agg #[vw, vi] ∧ w1.cell? ⟨R - 1, 0, none⟩ = some vw) ∧ Calls Try.prog 110 #[vd] w1 fun e w2 => e = .returned (.int .i64 (widL nw : Int)) ∧
    Calls Try.prog 75 #[.pointer (some ⟨R, 0, none⟩), .int .u64 (widL nw : Int), .int .i64 1] w2 fun e w3 => e = .returned (.tuple #[]) ∧ w3.cell? ⟨R - 1, 1, none⟩ = some vi ∧
      Calls Try.prog 111 #[vi, .int .i64 (widL nw : Int)] w3 fun e w4 => ∃ a4 n4 c4, e = .returned (.slice a4 n4 c4) ∧
        Calls Try.prog 74 #[.pointer (some ⟨R, 0, none⟩), .slice a4 n4 c4] w4 fun e w5 => e = .returned (.tuple #[]) ∧
          ∃ v, Calls Try.prog 60 #[.pointer (some ⟨R, 0, none⟩)] w5 (fun e w6 => e = .returned v ∧ w6 = w5) ∧ w5.ownsRow R 5 1 v P.length (bytesV P) ∧ Below (R - 1) w w5

theorem indices_tail {w w1 : World} {R : Nat} {aw ai : Option Addr} {cw ci B : Nat} {v1 : Value} {M : List UInt8} {ws : List Pu.Cl} {is : List Nat} (hR : R = w.heap.size + 1) (hi : w.ownsRow B 3 1 (.slice ai is.length ci) is.length (ints is)) (hw0 : 0 < ws.length) (hwl : ws.length ≤ 100000) (his : is.length ≤ 100000) (hix : ∀ x ∈ is, x ≤ 100000)
    (o1 : OS w1 R R v1 M) (b1 : Below (R - 1) w w1) (hd : w1.heap[R - 1]? = some (.cells #[.slice aw ws.length cw, .slice ai is.length ci] 164 (0, 0))) (hM : M.length ≤ 100000000) : InTail w R (.agg #[.slice aw ws.length cw, .slice ai is.length ci]) ws.length (.slice ai is.length ci) (M ++ [UInt8.ofNat (widL ws.length)] ++ runsL (widL ws.length) is) w1 := by
  have hb1 := b1.size
  have hRlt := o1.lt
  refine ⟨by rw [cell_of_row _ _ 1 _ _ _ hd]; rfl, ⟨_, rfl, by rw [cell_of_row _ _ 0 _ _ _ hd]; rfl⟩, ?_⟩
  refine (dictWidth_any ws.length aw cw _ w1 hw0 (by omega) ⟨_, _, _, rfl⟩).mono ?_
  rintro e w2 ⟨rfl, hb2⟩
  have hb2s := hb2.size
  refine ⟨rfl, ?_⟩
  have hwid := widL_le hwl
  have o2 := o1.below hb2
  have hg := (OG.refl o2).num (by omega) (widL ws.length) 1 (by omega) (by omega) (by omega)
  rw [leB_one _ (by omega)] at hg
  refine hg.mono ?_
  rintro e w3 ⟨rfl, hg3⟩
  have b2 : Below (R - 1) w w2 := b1.trans (hb2.mono (by omega))
  obtain ⟨v3, o3, f3, g3⟩ := hg3
  have hf3 := f3.size
  have b3 : Below (R - 1) w w3 := b2.trans (f3.below (by omega) (fun k e => by
    rcases e with rfl | e
    · omega
    · have := (o2.own.lt k e).1; omega))
  have hd3 : w3.heap[R - 1]? = some (.cells #[.slice aw ws.length cw, .slice ai is.length ci] 164 (0, 0)) := by
    rw [f3.block (R - 1) (by omega) (fun e => by
      rcases e with e | e
      · omega
      · have := (o2.own.lt _ e).1; omega), hb2.block (R - 1) (by omega)]
    exact hd
  refine ⟨rfl, by rw [cell_of_row _ _ 1 _ _ _ hd3]; rfl, ?_⟩
  have hi3 : w3.ownsRow B 3 1 (.slice ai is.length ci) is.length (ints is) := own_agree hi (fun k hk => b3.block k (by have := (hi.lt k hk).2; omega))
  obtain ⟨lbi, hri, hlbi⟩ := Rs.own_or hi3 R
  have hlt : lbi < w3.heap.size := by
    rcases hlbi with rfl | h
    · exact o3.lt
    · exact (hi3.lt lbi h).2
  have hrl := length_runsL (width := widL ws.length) (by omega) (l := is) (by omega)
  refine (runsWrite_any lbi (widL ws.length) ci is ai w3 hri hlt (fun x hx => by have := hix x hx; omega) (by omega) (by omega)).mono ?_
  rintro e w4 ⟨vp, rfl, hp, hb4⟩
  obtain ⟨a4, c4, rfl⟩ := slen_of hp
  have hb4s := hb4.size
  refine ⟨a4, _, c4, rfl, ?_⟩
  have o4 := o3.below hb4
  refine ((OG.refl o4).piece (by omega) hp (by rw [List.length_append]; simp; omega)).mono ?_
  rintro e w5 ⟨rfl, hg5⟩
  have b4 : Below (R - 1) w w4 := b3.trans (hb4.mono (by omega))
  obtain ⟨v5, o5, f5, _⟩ := hg5
  refine ⟨rfl, v5, outBytes_any R R v5 _ w5 o5, o5.own, b4.trans (f5.below (by omega) (fun k e => ?_))⟩
  rcases e with rfl | e
  · omega
  · have := (o4.own.lt k e).1; omega
end Go.Proofs.Ytjobhlncllfdmaa

/- The program's Dictionary.Indices: the walk. -/
namespace Go.Proofs.Ytjobhlncllfdmaa
open Go.RowKit Go.Maps

theorem hid {p : Prop} (h : p) : Hid p := h

set_option maxHeartbeats 4000000 in
set_option maxRecDepth 100000 in
theorem indices_any (lb cap B : Nat) (nulls : Bool) (l ws : List Pu.Cl) (is : List Nat) (ao aw ai : Option Addr) (cw ci : Nat) (w : World) (hr : Rs w 3 lb ao l.length cap (clsV l)) (hlb : lb < w.heap.size) (hl : l.length ≤ 100000)
    (hi : w.ownsRow B 3 1 (.slice ai is.length ci) is.length (ints is)) (hw0 : 0 < ws.length) (hwl : ws.length ≤ 100000) (his : is.length ≤ 100000) (hix : ∀ x ∈ is, x ≤ 100000) :
    Calls Try.prog 103 #[.agg #[.slice aw ws.length cw, .slice ai is.length ci], .slice ao l.length cap, .bool nulls] w fun e w' => ∃ v, e = .returned v ∧ w'.ownsRow w.heap.size 5 1 v (indicesL nulls l ws is).length (bytesV (indicesL nulls l ws is)) ∧ Below w.heap.size w w' := by
  obtain ⟨S, hS⟩ : ∃ S, S = w.heap.size := ⟨_, rfl⟩
  obtain ⟨R, hR⟩ : ∃ R, R = S + 1 := ⟨_, rfl⟩
  obtain ⟨W0, hW0⟩ : ∃ W0, W0 = w.alloc (.cells #[.slice aw ws.length cw, .slice ai is.length ci] 164) := ⟨_, rfl⟩
  have s0 : W0.heap.size = S + 1 := by rw [hW0, size_alloc', hS]
  obtain ⟨W1, hW1⟩ : ∃ W1, W1 = W0.alloc (.cells #[.slice none 0 0] 116) := ⟨_, rfl⟩
  have s1 : W1.heap.size = S + 2 := by rw [hW1, size_alloc', s0]
  have o0 : OS W1 R R (.slice none 0 0) [] := ⟨by rw [hW1, hR, ← s0]; exact heap_alloc_new W0 _, World.ownsRow_nil _ _ _ _⟩
  have hRS : R - 1 = S := by omega
  have b0 : Below (R - 1) w W1 := by
    rw [hRS, hW1, hW0, hS]
    exact ((Below.refl _ _).alloc (Nat.le_refl _) _).alloc (by rw [size_alloc']; omega) _
  have d0 : W1.heap[R - 1]? = some (.cells #[.slice aw ws.length cw, .slice ai is.length ci] 164 (0, 0)) := by
    rw [hRS, hW1, Below.heap_alloc W0 _ _ (by omega), hW0, hS]; exact heap_alloc_new w _
  obtain ⟨N, hN⟩ : ∃ N, N = l.length := ⟨_, rfl⟩
  have HL : Hid (Calls Try.prog 108 #[.pointer (some ⟨R, 0, none⟩), .slice ao N cap] W1 fun e w' => e = .returned (.tuple #[]) ∧ InTail w R (.agg #[.slice aw ws.length cw, .slice ai is.length ci]) ws.length (.slice ai is.length ci) (levelsL l ++ [UInt8.ofNat (widL ws.length)] ++ runsL (widL ws.length) is) w') := by
    have hll := length_levelsL l hl
    rw [Hid, hN]
    refine (writeLevels_any R R lb cap _ [] l ao W1 o0 (by omega) (hr.kept (b0.block _ (by omega))) (by omega) (by omega) (by simp)).mono ?_
    rintro e w1 ⟨rfl, hg⟩
    rw [List.nil_append] at hg
    obtain ⟨v1, o1, f1, _⟩ := hg
    have b1 : Below (R - 1) w w1 := b0.trans (f1.below (by omega) (fun k e => by
      rcases e with rfl | e
      · omega
      · simp [Value.ownBlock] at e))
    refine ⟨rfl, indices_tail (by omega) hi hw0 hwl his hix o1 b1 ?_ (by omega)⟩
    rw [f1.block (R - 1) (by omega) (fun e => by
      rcases e with e | e
      · omega
      · simp [Value.ownBlock] at e)]
    exact d0
  have HZ : Hid (InTail w R (.agg #[.slice aw ws.length cw, .slice ai is.length ci]) ws.length (.slice ai is.length ci) ([] ++ [UInt8.ofNat (widL ws.length)] ++ runsL (widL ws.length) is) W1) := indices_tail (by omega) hi hw0 hwl his hix o0 b0 d0 (by simp)
  have e0 : w.alloc (.cells #[.slice aw ws.length cw, .slice ai is.length ci] 164) = W0 := hW0.symm
  have e1 : W0.alloc (.cells #[.slice none 0 0] 116) = W1 := hW1.symm
  have hsz : w.heap.size = S := hS.symm
  rw [← hN]
  rw [hsz]
  rw [hR, Nat.add_sub_cancel] at d0
  have q0 : W1.cell? ⟨S, 0, none⟩ = some (.slice aw ws.length cw) := by rw [cell_of_row _ _ 0 _ _ _ d0]; rfl
  have q1 : W1.cell? ⟨S, 1, none⟩ = some (.slice ai is.length ci) := by rw [cell_of_row _ _ 1 _ _ _ d0]; rfl
  unfold InTail at HL HZ
  rw [hR, Nat.add_sub_cancel] at HL HZ
  obtain ⟨nw, hnw⟩ : ∃ nw, nw = ws.length := ⟨_, rfl⟩
  obtain ⟨ni, hni⟩ : ∃ ni, ni = is.length := ⟨_, rfl⟩
  obtain ⟨P, hP⟩ : ∃ P, P = indicesL nulls l ws is := ⟨_, rfl⟩
  obtain ⟨wd, hwd⟩ : ∃ wd, wd = widL nw := ⟨_, rfl⟩
  have hwd17 : wd ≤ 17 := by rw [hwd, hnw]; exact widL_le hwl
  rw [← hP]
  cases nulls
  · have hP2 : P = [] ++ [UInt8.ofNat (widL ws.length)] ++ runsL (widL ws.length) is := by rw [hP]; rfl
    rw [← hP2, ← hnw, ← hni, ← hwd] at HZ
    rw [← hnw, ← hni] at e0
    rw [← hnw] at q0
    rw [← hni] at q1
    rw [← hnw, ← hni]
    obtain ⟨_, _, C0⟩ := HZ.out
    have C0' := hid C0
    clear C0 HZ HL hP hP2 hr hi o0 b0 d0 hix his hN hS hR hRS hW0 hW1 hnw hni hwd hw0 hwl
    go_enter Try.func103, Try.ntmps103
    go_wp2_with fail
    refine C0'.out.mono ?_
    rintro e w2 ⟨rfl, C1⟩
    have C1' := hid C1
    clear C1 C0'
    go_wp2_with fail
    refine C1'.out.mono ?_
    rintro e w3 ⟨rfl, q3, C2⟩
    have C2' := hid C2
    clear C2 C1'
    go_wp2_with fail
    refine C2'.out.mono ?_
    rintro e w4 ⟨a4, n4, c4, rfl, C3⟩
    have C3' := hid C3
    clear C3 C2'
    go_wp2_with fail
    refine C3'.out.mono ?_
    rintro e w5 ⟨rfl, v, C4, ho, hb⟩
    have C4' := hid C4
    clear C4 C3'
    go_wp2_with fail
    refine C4'.out.mono ?_
    rintro e w6 ⟨rfl, hw6⟩
    subst w6
    go_wp2
    go_ret
    exact ⟨v, rfl, ho.mono (by omega), hb⟩
  · have hP2 : P = levelsL l ++ [UInt8.ofNat (widL ws.length)] ++ runsL (widL ws.length) is := by rw [hP]; rfl
    rw [← hP2, ← hnw, ← hni, ← hwd] at HL
    rw [← hnw, ← hni] at e0
    rw [← hnw] at q0
    rw [← hni] at q1
    rw [← hnw, ← hni]
    have HL' := hid HL.out
    clear HL HZ hP hP2 hr hi o0 b0 d0 hix his hN hS hR hRS hW0 hW1 hnw hni hwd hw0 hwl
    go_enter Try.func103, Try.ntmps103
    go_wp2_with fail
    refine HL'.out.mono ?_
    rintro e w1 ⟨rfl, q2, ⟨vw, hvw, q4⟩, C0⟩
    simp only [Value.agg.injEq, Array.mk.injEq, List.cons.injEq, and_true] at hvw
    rw [← hvw] at q4
    have C0' := hid C0
    clear C0 HL' q0 q1 hvw
    go_wp2_with fail
    refine C0'.out.mono ?_
    rintro e w2 ⟨rfl, C1⟩
    have C1' := hid C1
    clear C1 C0'
    go_wp2_with fail
    refine C1'.out.mono ?_
    rintro e w3 ⟨rfl, q3, C2⟩
    have C2' := hid C2
    clear C2 C1'
    go_wp2_with fail
    refine C2'.out.mono ?_
    rintro e w4 ⟨a4, n4, c4, rfl, C3⟩
    have C3' := hid C3
    clear C3 C2'
    go_wp2_with fail
    refine C3'.out.mono ?_
    rintro e w5 ⟨rfl, v, C4, ho, hb⟩
    have C4' := hid C4
    clear C4 C3'
    go_wp2_with fail
    refine C4'.out.mono ?_
    rintro e w6 ⟨rfl, hw6⟩
    subst w6
    go_wp2
    go_ret
    exact ⟨v, rfl, ho.mono (by omega), hb⟩
end Go.Proofs.Ytjobhlncllfdmaa

/- The program's table.writePart: what its calls do. -/
namespace Go.Proofs.Ytjobhlncllfdmaa
open Go.RowKit Go.Maps

/-- the pages of a column in a group, and how many -/
def partL (kind : Nat) (opt : Bool) (l : List Pu.Cl) : List UInt8 × Nat :=
  if kind = 2 ∧ (dic (valsL l)).1.length < (dic (valsL l)).2.length then
    (pageL 1 (dic (valsL l)).1.length (plainL 2 false (dic (valsL l)).1) ++ pageL 2 l.length (indicesL opt l (dic (valsL l)).1 (dic (valsL l)).2), 2)
  else (pageL 0 l.length (plainL kind opt l), 1)

/-- cells that may stand in a column of a kind -/
def CellsOk (kind : Nat) (l : List Pu.Cl) : Prop := (∀ c ∈ l, c.s.length ≤ 1000) ∧ (kind = 0 → ∀ c ∈ valsL l, c.n = 0 ∨ c.n = 1)

theorem dic_sub (l : List Pu.Cl) : ∀ k, k ≤ l.length → ∀ c ∈ (dic (l.take k)).1, c ∈ l
  | 0, _ => by simp [dic]
  | k + 1, h => by
    have ih := dic_sub l k (by omega)
    rw [dic_take l k (by omega)]
    intro c hc
    have hc' : c ∈ (if ix (dic (l.take k)).1 (l[k]'(by omega)).s < (dic (l.take k)).1.length then (dic (l.take k)).1 else (dic (l.take k)).1 ++ [l[k]'(by omega)]) := hc
    split at hc'
    · exact ih c hc'
    · rcases List.mem_append.1 hc' with h' | h'
      · exact ih c h'
      · rw [List.mem_singleton.1 h']; exact List.getElem_mem _
theorem dic_sub' (l : List Pu.Cl) : ∀ c ∈ (dic l).1, c ∈ l := by
  have := dic_sub l l.length (Nat.le_refl _)
  rw [List.take_length] at this
  exact this

theorem length_boolsL (l : List Pu.Cl) : (boolsL l).length ≤ l.length + 1 := by unfold boolsL; rw [length_pkRow]; omega
theorem length_valuesL (kind : Nat) (l : List Pu.Cl) (h : ∀ c ∈ l, c.s.length ≤ 1000) : (valuesL kind l).length ≤ 1007 * l.length + 1 := by
  unfold valuesL
  have h1 := length_boolsL l
  have h2 := length_val kind l h
  split <;> omega
theorem length_plainL (kind : Nat) (nulls : Bool) (l : List Pu.Cl) (hl : l.length ≤ 100000) (h : ∀ c ∈ l, c.s.length ≤ 1000) : (plainL kind nulls l).length ≤ 200000000 := by
  have h1 := length_levelsL l hl
  have h2 := length_valuesL kind (valsL l) (fun c hc => h c (List.mem_filter.1 hc).1)
  have h3 := length_valsL l
  unfold plainL
  rw [List.length_append]
  cases nulls
  · simp; omega
  · simp; omega
theorem length_indicesL (nulls : Bool) (l ws : List Pu.Cl) (is : List Nat) (hl : l.length ≤ 100000) (hw : ws.length ≤ 100000) (hi : is.length ≤ 100000) : (indicesL nulls l ws is).length ≤ 200000000 := by
  have h1 := length_levelsL l hl
  have h2 := length_runsL (width := widL ws.length) (by have := widL_le hw; omega) (l := is) (by omega)
  unfold indicesL
  rw [List.length_append, List.length_append]
  cases nulls
  · simp; omega
  · simp; omega

section
variable {w : World} {R B : Nat} {v : Value} {L : List UInt8}
/-- a page of bytes that were made just now -/
theorem page_fresh {w1 w2 : World} (_h : OS w R B v L) (hB : B ≤ w.heap.size) {M : List UInt8} (hg : OG w R B v M w1) (hb : Below w1.heap.size w1 w2) {x : Value} {D : List UInt8} (hx : w2.ownsRow w1.heap.size 5 1 x D.length (bytesV D)) (so ce : Nat) (hso : so < 256) (hce : ce ≤ 1000000) (hD : D.length ≤ 1000000000) (hs : M.length + 2000000000 ≤ 140737488355328) :
    Calls Try.prog 101 #[.pointer (some ⟨R, 0, none⟩), .int .u32 so, .int .i64 ce, x] w2 fun e w' => e = .returned (.tuple #[]) ∧ OG w R B v (M ++ pageL so ce D) w' := by
  have hg2 := hg.later hb
  obtain ⟨v2, o2, f2, g2⟩ := hg2
  obtain ⟨v1, o1, f1, g1⟩ := hg
  have hv : v1 = v2 := by
    have := (o1.below hb).c0.symm.trans o2.c0
    exact Option.some.inj this
  subst hv
  refine (pageWrite_any R B _ so ce v1 x M D w2 o2 (by have := f2.size; omega) hx (fun k hk => ?_) hso hce hD hs).mono ?_
  · have a := hx.lt k hk
    have c := o1.lt
    refine ⟨by omega, fun e => ?_⟩
    have := (o1.own.lt k e).2
    omega
  · rintro e w' ⟨rfl, h⟩
    exact ⟨rfl, OG.step o2 f2 g2 h⟩
/-- a block that is none of the writer's stays -/
theorem OG.blk {w1 : World} {M : List UInt8} (hg : OG w R B v M w1) {k : Nat} (hk : k < w.heap.size) (h1 : k ≠ R) (h2 : v.ownBlock ≠ some k) : w1.heap[k]? = w.heap[k]? := by
  obtain ⟨_, _, f, _⟩ := hg
  exact f.block k hk (fun e => by
    rcases e with e | e
    · exact h1 e
    · exact h2 e)
end

/-- one page alone -/
def OnePg (w : World) (R B : Nat) (v : Value) (kind : Nat) (opt : Bool) (N cap : Nat) (ao : Option Addr) (P : List UInt8) (W : World) : Prop :=
  Calls Try.prog 102 #[.slice ao N cap, .int .i64 kind, .bool opt] W fun e w2 => ∃ a2 n2 c2, e = .returned (.slice a2 n2 c2) ∧
    Calls Try.prog 101 #[.pointer (some ⟨R, 0, none⟩), .int .u32 0, .int .i64 N, .slice a2 n2 c2] w2 fun e w3 => e = .returned (.tuple #[]) ∧ OG w R B v P w3

theorem onePg_any {w W : World} {R B lb cap kind : Nat} {v : Value} {L : List UInt8} {opt : Bool} {l : List Pu.Cl} {ao : Option Addr} (h : OS w R B v L) (hB : B ≤ w.heap.size) (hr : Rs w 3 lb ao l.length cap (clsV l)) (hlb : lb < w.heap.size) (hl : l.length ≤ 100000) (hkind : kind ≤ 2) (hok : CellsOk kind l) (hs : L.length + 4000000000 ≤ 140737488355328)
    (hb : Below w.heap.size w W) : OnePg w R B v kind opt l.length cap ao (L ++ pageL 0 l.length (plainL kind opt l)) W := by
  have hbs := hb.size
  refine (cellsPlain_any lb cap kind opt l ao W (hr.kept (hb.block _ hlb)) (by omega) hl hkind hok.2 hok.1).mono ?_
  rintro e w2 ⟨vp, rfl, hp, hb2⟩
  obtain ⟨a2, c2, rfl⟩ := slen_of hp
  refine ⟨a2, _, c2, rfl, ?_⟩
  exact page_fresh h hB ((OG.refl h).later hb) hb2 hp 0 l.length (by omega) (by omega) (by have := length_plainL kind opt l hl hok.1; omega) (by omega)

/-- two pages: the words, the indices -/
def TwoPg (w : World) (R B : Nat) (v : Value) (opt : Bool) (N cap : Nat) (ao : Option Addr) (T4 T7 : Nat) (aw ai : Option Addr) (nw cw ni ci : Nat) (P : List UInt8) (W : World) : Prop :=
  Calls Try.prog 102 #[.slice aw nw cw, .int .i64 2, .bool false] W fun e w2 => ∃ a2 n2 c2, e = .returned (.slice a2 n2 c2) ∧ (w2.heap[T4]? = W.heap[T4]? ∧ w2.heap[T7]? = W.heap[T7]?) ∧
    Calls Try.prog 101 #[.pointer (some ⟨R, 0, none⟩), .int .u32 1, .int .i64 nw, .slice a2 n2 c2] w2 fun e w3 => e = .returned (.tuple #[]) ∧ (w3.heap[T4]? = W.heap[T4]? ∧ w3.heap[T7]? = W.heap[T7]?) ∧
      Calls Try.prog 103 #[.agg #[.slice aw nw cw, .slice ai ni ci], .slice ao N cap, .bool opt] w3 fun e w4 => ∃ a4 n4 c4, e = .returned (.slice a4 n4 c4) ∧
        Calls Try.prog 101 #[.pointer (some ⟨R, 0, none⟩), .int .u32 2, .int .i64 N, .slice a4 n4 c4] w4 fun e w5 => e = .returned (.tuple #[]) ∧ OG w R B v P w5

theorem twoPg_any {w W : World} {R B lb cap T4 T7 : Nat} {v : Value} {L : List UInt8} {opt : Bool} {l ws : List Pu.Cl} {is : List Nat} {ao aw ai : Option Addr} {cw ci : Nat} (h : OS w R B v L) (hB : B ≤ w.heap.size) (hr : Rs w 3 lb ao l.length cap (clsV l)) (hlb : lb < w.heap.size) (hlR : lb ≠ R) (hlv : v.ownBlock ≠ some lb) (hl : l.length ≤ 100000) (hok : ∀ c ∈ ws, c.s.length ≤ 1000) (hs : L.length + 4000000000 ≤ 140737488355328)
    (hb : Below w.heap.size w W) (hT4 : w.heap.size ≤ T4 ∧ T4 < W.heap.size) (hT7 : w.heap.size ≤ T7 ∧ T7 < W.heap.size) (how : W.ownsRow w.heap.size 66 3 (.slice aw ws.length cw) ws.length (clsV ws)) (hoi : W.ownsRow w.heap.size 3 1 (.slice ai is.length ci) is.length (ints is)) (hw0 : 0 < ws.length) (hwl : ws.length ≤ 100000) (his : is.length ≤ 100000) (hix : ∀ x ∈ is, x ≤ 100000) :
    TwoPg w R B v opt l.length cap ao T4 T7 aw ai ws.length cw is.length ci (L ++ (pageL 1 ws.length (plainL 2 false ws) ++ pageL 2 l.length (indicesL opt l ws is))) W := by
  have hbs := hb.size
  obtain ⟨lbw, hrw, hlbw⟩ := Rs.own_or how lb
  have hltw : lbw < W.heap.size := by
    rcases hlbw with rfl | h'
    · omega
    · exact (how.lt lbw h').2
  refine (cellsPlain_any lbw cw 2 false ws aw W hrw hltw hwl (by omega) (fun e => by omega) hok).mono ?_
  rintro e w2 ⟨vp, rfl, hp, hb2⟩
  obtain ⟨a2, c2, rfl⟩ := slen_of hp
  have hb2s := hb2.size
  refine ⟨a2, _, c2, rfl, ⟨hb2.block _ hT4.2, hb2.block _ hT7.2⟩, ?_⟩
  have hpl := length_plainL 2 false ws hwl hok
  have bw2 : Below w.heap.size w w2 := hb.trans (hb2.mono hbs)
  have o2 := h.below bw2
  have hRlt := h.lt
  have hvl : ∀ k, v.ownBlock = some k → k < w.heap.size := fun k hk => (h.own.lt k hk).2
  refine (pageWrite_any R B _ 1 ws.length v _ L (plainL 2 false ws) w2 o2 (by omega) hp (fun k hk => ?_) (by omega) (by omega) (by omega) (by omega)).mono ?_
  · have a := hp.lt k hk
    exact ⟨by omega, fun e => by have := hvl k e; omega⟩
  rintro e w3 ⟨rfl, hg3⟩
  have hold : ∀ k, k < w2.heap.size → w.heap.size ≤ k → w3.heap[k]? = w2.heap[k]? := fun k hk hk2 => hg3.blk hk (by omega) (fun e => by have := hvl k e; omega)
  have hg3s := hg3.size
  have hr3 : Rs w3 3 lb ao l.length cap (clsV l) := hr.kept (by rw [hg3.blk (by omega) hlR hlv, bw2.block _ hlb])
  have hoi3 : w3.ownsRow w.heap.size 3 1 (.slice ai is.length ci) is.length (ints is) := own_agree hoi (fun k hk => by
    have a := hoi.lt k hk
    rw [hold k (by omega) a.1, hb2.block k a.2])
  refine ⟨rfl, ⟨by rw [hold _ (by omega) hT4.1, hb2.block _ hT4.2], by rw [hold _ (by omega) hT7.1, hb2.block _ hT7.2]⟩, ?_⟩
  refine (indices_any lb cap _ opt l ws is ao aw ai cw ci w3 hr3 (by omega) hl hoi3 hw0 hwl his hix).mono ?_
  rintro e w4 ⟨vq, rfl, hq, hb4⟩
  obtain ⟨a4, c4, rfl⟩ := slen_of hq
  refine ⟨a4, _, c4, rfl, ?_⟩
  have hil := length_indicesL opt l ws is hl hwl his
  have hpg : (pageL 1 ws.length (plainL 2 false ws)).length ≤ 300000000 := by
    have l1 := length_vb8 (n := ws.length) (by omega)
    have l2 := length_vb8 (n := (plainL 2 false ws).length) (by omega)
    have l3 := length_leB 4 (Pu.sum (plainL 2 false ws))
    unfold pageL
    simp only [List.length_append, l3]
    simp; omega
  refine (page_fresh o2 (by omega) hg3 hb4 hq 2 l.length (by omega) (by omega) (by omega) (by rw [List.length_append]; omega)).mono ?_
  rintro e w5 ⟨rfl, hg5⟩
  rw [List.append_assoc] at hg5
  exact ⟨rfl, OG.after bw2 hg5⟩
end Go.Proofs.Ytjobhlncllfdmaa
