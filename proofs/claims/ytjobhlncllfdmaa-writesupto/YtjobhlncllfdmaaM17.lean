/- The program's cells.writeLevels. -/
import Derived.Test.YtjobhlncllfdmaaM16
namespace Go.Proofs.Ytjobhlncllfdmaa
open Go.RowKit

theorem length_ruL (width : Nat) (hw : width ≤ 24) : ∀ (f : Nat) (l : List Nat), l.length ≤ 1000000 → (ruL width f l).length ≤ 32 * l.length
  | 0, l, _ => by simp [ruL]
  | f + 1, l, hl => by
    unfold ruL
    split
    · simp
    · rename_i hne
      have hpos := eqs_pos hne
      have hle := eqs_le (l.headD 0) l
      have hl0 : 0 < l.length := List.length_pos_iff.2 hne
      split
      · have ih := length_ruL width hw f (l.drop (eqs (l.headD 0) l)) (by rw [List.length_drop]; omega)
        have l1 := length_vb8 (n := 2 * eqs (l.headD 0) l) (by omega)
        have l2 := length_leB ((width + 7) / 8) (l.headD 0)
        rw [List.length_drop] at ih
        rw [List.length_append, List.length_append, l2]
        omega
      · have ih := length_ruL width hw f (l.drop (min l.length 8)) (by rw [List.length_drop]; omega)
        have l1 := length_eightL width (l.take (min l.length 8)) hw
        rw [List.length_drop] at ih
        rw [List.length_append]
        omega
theorem length_runsL {width : Nat} (hw : width ≤ 24) {l : List Nat} (hl : l.length ≤ 1000000) : (runsL width l).length ≤ 32 * l.length := length_ruL width hw _ l hl

section
variable {w w' : World} {R B : Nat} {v : Value} {L L' : List UInt8}
/-- another row stays as it was while the writer goes on -/
theorem OG.row {B2 : Nat} {e : TypeId} {x : Value} {n : Nat} {xs : List Value} (hg : OG w R B v L' w') (hx : w.ownsRow B2 e 1 x n xs) (hne : ∀ k, x.ownBlock = some k → k ≠ R ∧ v.ownBlock ≠ some k) : w'.ownsRow B2 e 1 x n xs := by
  obtain ⟨v', _, f, _⟩ := hg
  refine own_agree hx (fun k hk => f.block k (hx.lt k hk).2 (fun e => ?_))
  rcases e with e | e
  · exact (hne k hk).1 e
  · exact (hne k hk).2 e
/-- a piece, its length ahead of it -/
theorem out_sized {w0 : World} (hb : Below w0.heap.size w0 w) (h0 : OS w0 R B v L) (hB : B ≤ w0.heap.size) {x : Value} {P : List UInt8} (hx : w.ownsRow w0.heap.size 5 1 x P.length (bytesV P)) (hs : L.length + P.length + 1000 ≤ 140737488355328) :
    Calls Try.prog 91 #[.pointer (some ⟨R, 0, none⟩), .int .i64 (P.length : Int)] w fun e w2 => e = .returned (.tuple #[]) ∧
      Calls Try.prog 74 #[.pointer (some ⟨R, 0, none⟩), x] w2 fun e w' => e = .returned (.tuple #[]) ∧ OG w0 R B v (L ++ (vb P.length ++ P)) w' := by
  have h1 := h0.below hb
  have hbs := hb.size
  refine (outVarint_any R B P.length v L w h1 (by omega) (by omega) (by omega)).mono ?_
  rintro e w2 ⟨rfl, hg⟩
  refine ⟨rfl, ?_⟩
  have hx2 := hg.row hx (fun k hk => by
    have a := (hx.lt k hk).1
    have c := h0.lt
    refine ⟨by omega, fun e => ?_⟩
    have := (h0.own.lt k e).2
    omega)
  obtain ⟨v2, o2, f2, g2⟩ := hg
  have hl := length_vb8 (n := P.length) (by omega)
  refine (outPiece_any R B _ v2 x (L ++ vb P.length) P w2 o2 hx2 (by have := f2.size; omega) (by rw [List.length_append]; omega)).mono ?_
  rintro e w3 ⟨rfl, h⟩
  rw [List.append_assoc] at h
  exact ⟨rfl, OG.after hb (OG.step o2 f2 g2 h)⟩
end

/-- a number for each cell: 0, if it is null -/
def lvL (l : List Pu.Cl) : List Nat := l.map fun c => if c.null = true then 0 else 1
theorem lvL_take (l : List Pu.Cl) (k : Nat) (hk : k < l.length) : lvL (l.take (k + 1)) = lvL (l.take k) ++ [if l[k].null = true then 0 else 1] := by
  unfold lvL; rw [List.take_succ_eq_append_getElem hk, List.map_append]; rfl
theorem length_lvL (l : List Pu.Cl) : (lvL l).length = l.length := by simp [lvL]
theorem lvL_lt (l : List Pu.Cl) : ∀ x ∈ lvL l, x < 4294967296 := fun x hx => by
  obtain ⟨c, _, rfl⟩ := List.mem_map.1 hx
  split <;> omega
/-- the levels as a page has them -/
def levelsL (l : List Pu.Cl) : List UInt8 := vb (runsL 1 (lvL l)).length ++ runsL 1 (lvL l)

set_option maxHeartbeats 4000000 in
set_option maxRecDepth 100000 in
theorem writeLevels_any (R B lb cap : Nat) (v : Value) (L : List UInt8) (l : List Pu.Cl) (ao : Option Addr) (w : World) (h : OS w R B v L) (hB : B ≤ w.heap.size) (hr : Rs w 3 lb ao l.length cap (clsV l)) (hlb : lb < w.heap.size) (hl : l.length ≤ 1000000) (hs : L.length + 100000000 ≤ 140737488355328) :
    Calls Try.prog 108 #[.pointer (some ⟨R, 0, none⟩), .slice ao l.length cap] w fun e w' => e = .returned (.tuple #[]) ∧ OG w R B v (L ++ levelsL l) w' := by
  obtain ⟨N, hN⟩ : ∃ N, N = l.length := ⟨_, rfl⟩
  obtain ⟨S, hS⟩ : ∃ S, S = w.heap.size := ⟨_, rfl⟩
  have HC : Hid (∀ (wr : World) (k : Nat), Below S w wr → (hk : k < l.length) → ∃ o, ao = some ⟨lb, o, none⟩ ∧ wr.cell? ⟨lb, o + k * 3, none⟩ = some (.bool l[k].null) ∧ wr.cell? ⟨lb, o + k * 3 + 1, none⟩ = some (.int .i64 l[k].n) ∧ wr.cell? ⟨lb, o + k * 3 + 2, none⟩ = some (strV l[k].s)) := fun wr k hb hk =>
    (hr.kept (hb.block _ (by omega))).cl3 k hk
  have hrl := length_runsL (width := 1) (by omega) (l := lvL l) (by rw [length_lvL]; exact hl)
  rw [length_lvL] at hrl
  obtain ⟨Q, hQ⟩ : ∃ Q, Q = (runsL 1 (lvL l)).length := ⟨_, rfl⟩
  have HW : Hid (∀ (wr : World) (a : Option Addr) (c : Nat), wr.ownsRow S 3 1 (.slice a N c) N (ints (lvL l)) → Below S w wr → Calls Try.prog 111 #[.slice a N c, .int .i64 1] wr (fun e w' => ∃ a2 c2, e = .returned (.slice a2 Q c2) ∧ Calls Try.prog 91 #[.pointer (some ⟨R, 0, none⟩), .int .i64 Q] w' (fun e w2 => e = .returned (.tuple #[]) ∧ Calls Try.prog 74 #[.pointer (some ⟨R, 0, none⟩), .slice a2 Q c2] w2 fun e w' => e = .returned (.tuple #[]) ∧ OG w R B v (L ++ levelsL l) w'))) := fun wr a c ho hb => by
    have hbs := hb.size
    have hNl : N = (lvL l).length := by rw [hN, length_lvL]
    rw [hNl] at ho
    obtain ⟨lb2, hr2, hk2⟩ := Rs.ofOwn ho
    have hlb2 : lb2 < wr.heap.size ∨ (lvL l) = [] := by
      by_cases he : lvL l = []
      · exact .inr he
      · left
        obtain ⟨o, rfl, _⟩ := hr2.at (List.length_pos_iff.2 he)
        exact ((ho.lt lb2 rfl)).2
    have hRs : ∃ lb3, Rs wr 1 lb3 a (lvL l).length c (ints (lvL l)) ∧ lb3 < wr.heap.size := by
      rcases hlb2 with h' | h'
      · exact ⟨lb2, hr2, h'⟩
      · refine ⟨R, ⟨hr2.1, hr2.2.1, hr2.2.2.1, .inl (by rw [h']; rfl)⟩, ?_⟩
        have := h.lt; omega
    obtain ⟨lb3, hr3, hlb3⟩ := hRs
    rw [hNl]
    refine (runsWrite_any lb3 1 c (lvL l) a wr hr3 hlb3 (lvL_lt l) (by omega) (by rw [length_lvL]; exact hl)).mono ?_
    rintro e w' ⟨vp, rfl, hp, hbp⟩
    obtain ⟨a2, c2, rfl⟩ := slen_of hp
    rw [← hQ]
    refine ⟨a2, c2, rfl, ?_⟩
    have hbw : Below w.heap.size w w' := by
      have := hb.trans (hbp.mono (show S ≤ wr.heap.size by omega))
      rw [hS] at this; exact this
    have := out_sized (P := runsL 1 (lvL l)) (x := .slice a2 Q c2) hbw h hB (by rw [← hQ] at hp ⊢; exact hp.mono (by omega)) (by omega)
    rw [← hQ] at this
    unfold levelsL
    rw [← hQ]
    exact this
  have HN : Hid (N = l.length) := hN
  have HS : Hid (S = w.heap.size) := hS
  rw [← hN] at hl ⊢
  clear hr hN hS h hQ
  go_enter Try.func108, Try.ntmps108
  go_wp2
  go_loopw [4, 10] (fun v i wr => ∃ (k : Nat), k ≤ N ∧ i = .int .i64 k ∧ Hid (wr.ownsRow S 3 1 v k (ints (lvL (l.take k)))) ∧ Hid (Below S w wr))
    (fun _ i _ => N - (intOf i).toNat)
  case atStart => exact ⟨0, Nat.zero_le _, rfl, World.ownsRow_nil _ _ _ _, Below.refl _ _⟩
  case round =>
    obtain ⟨k, hk, rfl, Ho, Hb⟩ := hrel
    obtain ⟨av, cv, rfl⟩ := slen_of Ho.out
    by_cases hk2 : k < N
    · have hkl : k < l.length := by rw [← HN.out]; exact hk2
      obtain ⟨o, rfl, h0, h1, h2⟩ := HC.out wr k Hb.out hkl
      obtain ⟨c, hc⟩ : ∃ c, c = l[k] := ⟨_, rfl⟩
      rw [← hc] at h0 h1 h2
      have htk := lvL_take l k hkl
      rw [← hc] at htk
      obtain ⟨b, x, s⟩ := c
      simp only at h0 h1 h2 htk
      obtain ⟨t, ht⟩ : ∃ t : ByteArray, strV s = .string t := ⟨_, rfl⟩
      rw [ht] at h2
      obtain ⟨i0, hi, hz0, hz1, hz2⟩ := info_parts Try.info3
      have hsz := size_alloc' wr (.cells #[.bool b, .int .i64 x, .string t] 66)
      have hbs := Hb.out.size
      obtain ⟨y, hy⟩ : ∃ y : Nat, y = if b = true then 0 else 1 := ⟨_, rfl⟩
      rw [← hy] at htk
      obtain ⟨a1, c1, w1, run, own, gr, lies⟩ := own_push (P := Try.prog) (t := 26) Try.underlying26 hi hz0 hz1 hz2 rfl (Ho.out.alloc (.cells #[.bool b, .int .i64 x, .string t] 66)) #[.int .i64 (y : Int)] rfl (by intro u hu; simp at hu; subst hu; rfl) (by unfold maxLen; omega) (by omega) (by rw [HS.out]; omega)
      rw [hsz] at run
      have RN : Hid ((Builtin.append_ #[26, 26] 26 #[.slice av k cv, .slice (some ⟨wr.heap.size + 1, 0, none⟩) 1 1]).run Try.prog ((wr.alloc (.cells #[.bool b, .int .i64 x, .string t] 66)).alloc (.cells #[.int .i64 (y : Int)] 3)) = .ok (.slice a1 (k + 1) c1) w1) := run
      have Ho2 : Hid (w1.ownsRow S 3 1 (.slice a1 (k + 1) c1) (k + 1) (ints (lvL (l.take (k + 1))))) := by
        rw [htk, ints, List.map_append]; exact own
      have Hb2 : Hid (Below S w w1) := below_grown (Hb.out.alloc (by rw [HS.out]; exact hbs) _) (by rw [HS.out]; exact Nat.le_refl _) gr (fun k hk => ((Ho.out).lt k hk).1)
      clear run own gr lies hc htk Ho Hb hsz hbs ht
      cases b
      · simp only [Bool.false_eq_true, if_false] at hy
        subst hy
        go_wp2_with (first | (at_builtin; refine wpList_append_run rfl (.tmp 19) (.tmp 20) 26 26 rfl _ _ _ rfl rfl RN.out ?_) | go_in)
        go_roundw
        case rel => exact ⟨k + 1, by omega, by go_num, Ho2, Hb2⟩
        case measure => simp [intOf]; omega
      · simp only [if_true] at hy
        subst hy
        go_wp2_with (first | (at_builtin; refine wpList_append_run rfl (.tmp 16) (.tmp 17) 26 26 rfl _ _ _ rfl rfl RN.out ?_) | go_in)
        go_roundw
        case rel => exact ⟨k + 1, by omega, by go_num, Ho2, Hb2⟩
        case measure => simp [intOf]; omega
    · obtain rfl : k = N := by omega
      have htl : l.take k = l := List.take_of_length_le (by rw [HN.out]; exact Nat.le_refl _)
      have C1 : Hid (Calls Try.prog 111 #[.slice av k cv, .int .i64 1] wr (fun e w' => ∃ a2 c2, e = .returned (.slice a2 Q c2) ∧ Calls Try.prog 91 #[.pointer (some ⟨R, 0, none⟩), .int .i64 Q] w' (fun e w2 => e = .returned (.tuple #[]) ∧ Calls Try.prog 74 #[.pointer (some ⟨R, 0, none⟩), .slice a2 Q c2] w2 fun e w' => e = .returned (.tuple #[]) ∧ OG w R B v (L ++ levelsL l) w'))) := HW.out wr av cv (by have := Ho.out; rw [htl] at this; exact this) Hb.out
      clear Ho Hb HW HC htl
      go_wp2_with fail
      refine C1.out.mono ?_
      rintro e w1 ⟨a2, c2, rfl, C2⟩
      have C2' : Hid (Calls Try.prog 91 #[.pointer (some ⟨R, 0, none⟩), .int .i64 Q] w1 (fun e w2 => e = .returned (.tuple #[]) ∧ Calls Try.prog 74 #[.pointer (some ⟨R, 0, none⟩), .slice a2 Q c2] w2 fun e w' => e = .returned (.tuple #[]) ∧ OG w R B v (L ++ levelsL l) w')) := C2
      clear C1 C2
      go_wp2_with fail
      refine C2'.out.mono ?_
      rintro e w2 ⟨rfl, C3⟩
      have C3' : Hid (Calls Try.prog 74 #[.pointer (some ⟨R, 0, none⟩), .slice a2 Q c2] w2 fun e w' => e = .returned (.tuple #[]) ∧ OG w R B v (L ++ levelsL l) w') := C3
      clear C2' C3
      go_wp2_with fail
      refine C3'.out.mono ?_
      rintro e w3 ⟨rfl, h3⟩
      go_wp2
      go_end0
      exact ⟨rfl, h3⟩
end Go.Proofs.Ytjobhlncllfdmaa

/- The program's cells.writeBools, writeValues. -/
namespace Go.Proofs.Ytjobhlncllfdmaa
open Go.RowKit

/-- the bits of cells -/
def bN (l : List Pu.Cl) (i : Nat) : Nat := ((l.getD i ⟨false, 0, []⟩).n).toNat % 2
theorem bN_le (l : List Pu.Cl) (i : Nat) : bN l i ≤ 1 := by unfold bN; omega
def boolsL (l : List Pu.Cl) : List UInt8 := pkRow (bN l) ((l.length + 7) / 8) l.length

set_option maxHeartbeats 4000000 in
set_option maxRecDepth 100000 in
theorem writeBools_any (R B lb cap : Nat) (v : Value) (L : List UInt8) (l : List Pu.Cl) (ao : Option Addr) (w : World) (h : OS w R B v L) (hB : B ≤ w.heap.size) (hr : Rs w 3 lb ao l.length cap (clsV l)) (hlb : lb < w.heap.size) (hl : l.length ≤ 100000) (hbool : ∀ c ∈ l, c.n = 0 ∨ c.n = 1) (hs : L.length + 100000000 ≤ 140737488355328) :
    Calls Try.prog 112 #[.pointer (some ⟨R, 0, none⟩), .slice ao l.length cap] w fun e w' => e = .returned (.tuple #[]) ∧ OG w R B v (L ++ boolsL l) w' := by
  obtain ⟨N, hN⟩ : ∃ N, N = l.length := ⟨_, rfl⟩
  obtain ⟨S, hS⟩ : ∃ S, S = w.heap.size := ⟨_, rfl⟩
  obtain ⟨Q, hQ⟩ : ∃ Q, Q = (N + 7) / 8 := ⟨_, rfl⟩
  have hmk := make_b8 Q (by omega) w
  obtain ⟨W0, hW0⟩ : ∃ W0, W0 = w.alloc (.cells (bytesV (List.replicate Q 0)).toArray 5) := ⟨_, rfl⟩
  rw [← hW0, ← hS] at hmk
  have H0 : Hid (By8 W0 S (pkRow (bN l) Q 0)) := by rw [Hid, pkRow_zero, hW0, hS]; exact heap_alloc_new w _
  have B0 : Hid (Below S w W0) := by rw [hW0, hS]; exact bbox w _
  have HC : Hid (∀ (wr : World) (k : Nat), Below S w wr → (hk : k < l.length) → ∃ o, ao = some ⟨lb, o, none⟩ ∧ wr.cell? ⟨lb, o + k * 3, none⟩ = some (.bool l[k].null) ∧ wr.cell? ⟨lb, o + k * 3 + 1, none⟩ = some (.int .i64 l[k].n) ∧ wr.cell? ⟨lb, o + k * 3 + 2, none⟩ = some (strV l[k].s)) := fun wr k hb hk =>
    (hr.kept (hb.block _ (by omega))).cl3 k hk
  have HP : Hid (∀ wr, By8 wr S (pkRow (bN l) Q N) → Below S w wr → Calls Try.prog 74 #[.pointer (some ⟨R, 0, none⟩), .slice (some ⟨S, 0, none⟩) Q Q] wr fun e w' => e = .returned (.tuple #[]) ∧ OG w R B v (L ++ boolsL l) w') := fun wr hb hbl => by
    have hlp := length_pkRow (bN l) Q N
    have hown := hb.own (B := S) (by rw [hlp]; unfold maxLen; omega) (Nat.le_refl _)
    rw [hlp] at hown
    have hbl' : Below w.heap.size w wr := by rw [hS] at hbl; exact hbl
    have hbs := hbl'.size
    refine (outPiece_any R B S v _ L (pkRow (bN l) Q N) wr (h.below hbl') (by rw [hlp]; exact hown) (by omega) (by rw [hlp]; omega)).mono ?_
    rintro e w' ⟨rfl, hg⟩
    refine ⟨rfl, OG.after hbl' ?_⟩
    unfold boolsL
    rw [← hN, ← hQ]
    exact hg
  have HBo : Hid (∀ c ∈ l, c.n = 0 ∨ c.n = 1) := hbool
  have HN : Hid (N = l.length) := hN
  have HS : Hid (S = w.heap.size) := hS
  have hQ8 : 8 * Q ≥ N := by omega
  have e2 : ((N : Int) + 7).tdiv 8 = (Q : Int) := by rw [Int.tdiv_eq_ediv_of_nonneg (by omega)]; omega
  have e3 : ((N : Int) + 7) / 8 = (Q : Int) := by omega
  rw [← hN] at hl ⊢
  clear hr hN hS h hQ hW0 hbool
  go_enter Try.func112, Try.ntmps112
  go_wp2
  go_loopw [14] (fun i wr => ∃ (k : Nat), k ≤ N ∧ i = .int .i64 k ∧ Hid (By8 wr S (pkRow (bN l) Q k)) ∧ Hid (Below S w wr))
    (fun i _ => N - (intOf i).toNat)
  case atStart => exact ⟨0, Nat.zero_le _, rfl, H0, B0⟩
  case round =>
    obtain ⟨k, hk, rfl, Hy, Hb⟩ := hrel
    by_cases hk2 : k < N
    · have hkl : k < l.length := by rw [← HN.out]; exact hk2
      obtain ⟨o, rfl, h0, h1, h2⟩ := HC.out wr k Hb.out hkl
      obtain ⟨c, hc⟩ : ∃ c, c = l[k] := ⟨_, rfl⟩
      rw [← hc] at h0 h1 h2
      have hbc := HBo.out c (by rw [hc]; exact List.getElem_mem hkl)
      have hbk : bN l k = c.n.toNat := by
        unfold bN
        rw [List.getD_eq_getElem?_getD, List.getElem?_eq_getElem hkl, Option.getD_some, ← hc]
        rcases hbc with h | h <;> rw [h] <;> rfl
      obtain ⟨b, x, s⟩ := c
      simp only at h0 h1 h2 hbc hbk
      obtain ⟨t, ht⟩ : ∃ t : ByteArray, strV s = .string t := ⟨_, rfl⟩
      rw [ht] at h2
      obtain ⟨xn, rfl⟩ : ∃ xn : Nat, x = (xn : Int) := ⟨x.toNat, by omega⟩
      rw [Int.toNat_natCast] at hbk
      obtain ⟨W1, hW1⟩ : ∃ W1, W1 = wr.alloc (.cells #[.bool b, .int .i64 xn, .string t] 66) := ⟨_, rfl⟩
      have hb1 : By8 W1 S (pkRow (bN l) Q k) := Hy.out.kept (by rw [hW1]; exact Below.heap_alloc wr _ _ Hy.out.lt)
      have hx1 : W1.cell? ⟨wr.heap.size, 1, none⟩ = some (.int .i64 xn) := by rw [hW1, cell_of_row _ _ 1 _ _ _ (heap_alloc_new wr _)]; rfl
      have hfrW : Below S w W1 := by rw [hW1]; exact Hb.out.alloc (by have := Hb.out.size; rw [HS.out]; exact this) _
      have hl := length_pkRow (bN l) Q k
      obtain ⟨p, hp⟩ : ∃ p, p = k / 8 := ⟨_, rfl⟩
      obtain ⟨r, hr⟩ : ∃ r, r = k % 8 := ⟨_, rfl⟩
      have hpl : p < Q := by omega
      obtain ⟨y, hy⟩ : ∃ y, y = pk (bN l) k p := ⟨_, rfl⟩
      have hy256 : y < 256 := by rw [hy]; exact pk_lt (bN_le l) _ _
      have hcy : W1.cell? ⟨S, p, none⟩ = some (.int .u8 (y : Int)) := by
        rw [hb1.cell p (by omega), hy]
        simp [pkRow, Nat.mod_eq_of_lt (pk_lt (bN_le l) k p)]
      have hfz := hb1.fz p
      have hq1 : (k : Int).tdiv 8 = (p : Int) := by rw [Int.tdiv_eq_ediv_of_nonneg (by omega)]; omega
      have hr1 : (k : Int).tmod 8 = (r : Int) := by rw [Int.tmod_eq_emod_of_nonneg (by omega)]; omega
      have hwp : IntKind.i64.wrap (p : Int) = (p : Int) := by rw [IntKind.wrap_i64]; omega
      have hwr : IntKind.i64.wrap (r : Int) = (r : Int) := by rw [IntKind.wrap_i64]; omega
      obtain ⟨hor, hz256⟩ := bit_or y xn r (by rw [hy, hp, hr]; exact pk_low (bN_le l) _) (by omega) (by omega)
      obtain ⟨z, hz'⟩ : ∃ z, z = y + xn * 2 ^ r := ⟨_, rfl⟩
      rw [← hz'] at hor hz256
      have Hy2 : Hid (By8 (W1.setCell ⟨S, p, none⟩ (.int .u8 (z : Int))).drew S (pkRow (bN l) Q (k + 1))) := by
        have := hb1.set p (UInt8.ofNat z)
        rw [UInt8.toNat_ofNat', Nat.mod_eq_of_lt (by omega), hz', hy, hp, hr, ← hbk, pkRow_set] at this
        rw [hz', hy, hp, hr, ← hbk]
        exact this
      have Hb2 : Hid (Below S w (W1.setCell ⟨S, p, none⟩ (.int .u8 (z : Int))).drew) := (hfrW.trans (Fr.below (B := S) Fr.set (Nat.le_of_lt hb1.lt) (fun k e => by omega))).drew
      have hW1' : wr.alloc (.cells #[.bool b, .int .i64 xn, .string t] 66) = W1 := hW1.symm
      have hSne : S ≠ wr.heap.size := by have := Hy.out.lt; omega
      have hxw : (xn : Int) % 256 = (xn : Int) := by omega
      clear hp hr hy hb1 hl hz' Hy Hb hW1 hfrW hc hbk ht
      go_wp2
      refine wp_region_noPanic ?_
      go_region
      all_goals
        refine NoPanic.normal ?_
        go_wp2
        go_roundw
        case rel => exact ⟨k + 1, by omega, by go_num, Hy2, Hb2⟩
        case measure => simp [intOf]; omega
    · obtain rfl : k = N := by omega
      have C : Hid (Calls Try.prog 74 #[.pointer (some ⟨R, 0, none⟩), .slice (some ⟨S, 0, none⟩) Q Q] wr fun e w' => e = .returned (.tuple #[]) ∧ OG w R B v (L ++ boolsL l) w') := HP.out wr Hy.out Hb.out
      clear HP HC Hy Hb
      go_wp2_with fail
      refine C.out.mono ?_
      rintro e w3 ⟨rfl, h3⟩
      go_wp2
      go_end0
      exact ⟨rfl, h3⟩
end Go.Proofs.Ytjobhlncllfdmaa
