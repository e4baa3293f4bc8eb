/- package cells: runs that are all; how many; spread. -/
import Derived.Test.YtjobhlncllfdmaaGreatM29
import Derived.Test.YtjobhlncllfdmaaGreatM28
import Derived.Test.YtjobhlncllfdmaaGreatM18
import Derived.Test.YtjobhlncllfdmaaGreatM22
import Derived.Test.YtjobhlncllfdmaaGreatM19
namespace Go.Proofs.YtjobhlncllfdmaaGreat
open Go.RowKit

def RrAns (B : Nat) (r : Option (List Nat)) (e : Ending) (w' : World) : Prop :=
  match r with
  | none => e = .returned (.tuple #[.slice none 0 0, .bool false])
  | some l => ∃ v, e = .returned (.tuple #[v, .bool true]) ∧ w'.ownsRow B 3 1 v l.length (ints l)

set_option maxHeartbeats 4000000 in
set_option maxRecDepth 100000 in
theorem readRuns_any (ao : Option Addr) (cap lb W C : Nat) (L : List UInt8) (w : World) (hr : Rest w lb ao cap L) (hlb : lb < w.heap.size) (hW : W ≤ 24) (hC : C ≤ 100000) :
    Calls Tryz.prog 95 #[.slice ao L.length cap, .int .i64 (W : Int), .int .i64 (C : Int)] w fun e w' => RrAns w.heap.size (Pu.rsAll L W C) e w' ∧ Below w.heap.size w w' := by
  have RD : Hid (Calls Tryz.prog 105 #[.slice ao L.length cap, .int .i64 W, .int .i64 C] w fun e w' => ReadAns w.heap.size (Pu.rs L W C C 0 []) e w' ∧ Below w.heap.size w w') := read_any ao cap lb W C L w hr hlb hW hC
  have hLm : L.length ≤ 9223372036854775807 := by have := hr.1; have := hr.2.1; unfold maxLen at this; omega
  have HL : Hid (∀ l u, Pu.rs L W C C 0 [] = some (l, u) → u ≤ L.length) := fun l u h => (Pu.rs_length C 0 [] l u (Nat.zero_le _) (Nat.zero_le _) h).2
  clear hr
  cases h : Pu.rs L W C C 0 [] with
  | none =>
    have HX : Hid (Pu.rsAll L W C = none) := by unfold Hid Pu.rsAll; rw [h]
    rw [h] at RD
    clear h HL
    go_enter Tryz.func95, Tryz.ntmps95
    go_wp2_with fail
    refine RD.out.mono ?_
    rintro e w1 ⟨rfl, hb1⟩
    go_wp2
    go_ret2
    rw [HX.out]
    exact ⟨rfl, hb1⟩
  | some p =>
    obtain ⟨l, u⟩ := p
    have hu := HL.out l u h
    rw [h] at RD
    obtain ⟨n, hn⟩ : ∃ n, n = L.length := ⟨_, rfl⟩
    rw [← hn] at RD hLm hu ⊢
    by_cases he : u = n
    · have HX : Hid (Pu.rsAll L W C = some l) := by unfold Hid Pu.rsAll; rw [h]; simp only []; rw [if_pos (by omega)]
      have hed : ((u : Int) != (n : Int)) = false := by simp; omega
      clear h HL hn he
      go_enter Tryz.func95, Tryz.ntmps95
      go_wp2_with fail
      refine RD.out.mono ?_
      rintro e w1 ⟨⟨v, rfl, hv⟩, hb1⟩
      have HV : Hid (w1.ownsRow w.heap.size 3 1 v l.length (ints l)) := hv
      clear hv
      go_wp2
      go_ret2
      rw [HX.out]
      exact ⟨⟨_, rfl, HV.out⟩, hb1⟩
    · have HX : Hid (Pu.rsAll L W C = none) := by unfold Hid Pu.rsAll; rw [h]; simp only []; rw [if_neg (by omega)]
      have hed : ((u : Int) != (n : Int)) = true := by simp; omega
      clear h HL hn he
      go_enter Tryz.func95, Tryz.ntmps95
      go_wp2_with fail
      refine RD.out.mono ?_
      rintro e w1 ⟨⟨v, rfl, _⟩, hb1⟩
      go_wp2
      go_ret2
      rw [HX.out]
      exact ⟨rfl, hb1⟩

set_option maxHeartbeats 4000000 in
set_option maxRecDepth 100000 in
theorem howMany_any (al : Option Addr) (cl B : Nat) (ls : List Nat) (w : World) (h : w.ownsRow B 3 1 (.slice al ls.length cl) ls.length (ints ls)) (h2 : ∀ x ∈ ls, x < 2) (hl : ls.length ≤ 100000) :
    Calls Tryz.prog 85 #[.slice al ls.length cl] w fun e w' => e = .returned (.int .i64 ((Pu.total ls : Nat) : Int)) ∧ w' = w := by
  have HT : Hid (∀ k, Pu.total (ls.take k) ≤ k ∧ Pu.total (ls.take k) = Pu.nz (ls.take k)) := Pu.total_le h2
  have Hl2 : Hid (∀ x ∈ ls, x < 2) := h2
  have HL1 : Hid (∀ k, (hk : k < ls.length) → ∃ g, al = some ⟨g, 0, none⟩ ∧ w.cell? ⟨g, k, none⟩ = some (.int .i64 ((ls[k] : Nat) : Int)) ∧ g < w.heap.size) := ints_cell h
  clear h h2
  go_enter Tryz.func85, Tryz.ntmps85
  go_wp2
  go_loop [3, 8] (fun m i => ∃ k : Nat, k ≤ ls.length ∧ i = .int .i64 k ∧ m = .int .i64 (Pu.total (ls.take k) : Nat)) (fun _ i => ls.length - (intOf i).toNat)
  case atStart => exact ⟨0, Nat.zero_le _, rfl, rfl⟩
  case round =>
    obtain ⟨k, hk, rfl, rfl⟩ := hrel
    by_cases hk2 : k < ls.length
    · obtain ⟨gl, hgl, hlc, hglt⟩ := HL1.out k hk2
      subst hgl
      have hlk := Hl2.out ls[k] (List.getElem_mem hk2)
      have hts : Hid (Pu.total (ls.take (k + 1)) = Pu.total (ls.take k) + ls[k]) := by rw [Hid, List.take_succ_eq_append_getElem hk2, Pu.total_snoc]
      have htk := (HT.out k).1
      generalize ls[k] = x at *
      generalize Pu.total (ls.take k) = y at *
      have hkd : decide ((k : Int) < (ls.length : Int)) = true := by simp; omega
      go_wp2
      go_round
      case rel => exact ⟨k + 1, by omega, by go_num, by rw [hts.out]; go_num⟩
      case measure => simp [intOf]; omega
    · obtain rfl : k = ls.length := by omega
      rw [List.take_length]
      go_wp2
      go_ret
      exact ⟨rfl, rfl⟩

theorem make_cells (n : Nat) (hn : n ≤ 100000) : ∃ cs : Array Value, cs.size = n * 3 ∧ ∀ w2 : World, (Instr.makeSlice 47 (.int .i64 0) (.int .i64 (n : Int))).run Tryz.prog w2 = .ok (.slice (some ⟨w2.heap.size, 0, none⟩) 0 n) (w2.alloc (.cells cs 57)) := by
  obtain ⟨i0, hi, hz0, hz1, hz2⟩ := info_parts Tryz.info57
  refine ⟨madeCells (Value.agg #[.bool false, .int .i64 0, .string ByteArray.empty]).cells (n * i0.size), ?_, fun w2 => ?_⟩
  · rw [size_madeCells, hz1]
  · have := run_make (P := Tryz.prog) w2 47 57 i0 (.agg #[.bool false, .int .i64 0, .string ByteArray.empty]) Tryz.underlying47 hi hz0 .i64 .i64 0 n (Int.le_refl _) (by omega) (by rw [hz2]; omega) (by omega)
    simpa using this

set_option maxHeartbeats 4000000 in
set_option maxRecDepth 100000 in
theorem spread_any (al av : Option Addr) (cl cv B B2 : Nat) (ls : List Nat) (vs : List Pu.Cl) (w : World) (hlo : w.ownsRow B 3 1 (.slice al ls.length cl) ls.length (ints ls)) (hvo : w.ownsRow B2 57 3 (.slice av vs.length cv) vs.length (clsV vs)) (h2 : ∀ x ∈ ls, x < 2) (hl : ls.length ≤ 100000) (hvl : vs.length = Pu.total ls) :
    Calls Tryz.prog 86 #[.slice al ls.length cl, .slice av vs.length cv] w fun e w' => (∃ v, e = .returned v ∧ w'.ownsRow w.heap.size 57 3 v ls.length (clsV (Pu.spr ls vs))) ∧ Below w.heap.size w w' := by
  have HT : Hid (∀ k, Pu.total (ls.take k) ≤ k ∧ Pu.total (ls.take k) = Pu.nz (ls.take k)) := Pu.total_le h2
  have Hl2 : Hid (∀ x ∈ ls, x < 2) := h2
  have HL2 : Hid (∀ k, (hk : k < ls.length) → ∃ g, al = some ⟨g, 0, none⟩ ∧ w.cell? ⟨g, k, none⟩ = some (.int .i64 ((ls[k] : Nat) : Int)) ∧ g < w.heap.size) := ints_cell hlo
  have HV2 : Hid (∀ k, (hk : k < vs.length) → ∃ g, av = some ⟨g, 0, none⟩ ∧ w.cell? ⟨g, k * 3, none⟩ = some (.bool vs[k].null) ∧ w.cell? ⟨g, k * 3 + 1, none⟩ = some (.int .i64 vs[k].n) ∧ w.cell? ⟨g, k * 3 + 2, none⟩ = some (strV vs[k].s) ∧ g < w.heap.size) := cls_cell' hvo
  have HNZ : Hid (Pu.nz ls = vs.length) := by have := (HT.out ls.length).2; rw [List.take_length] at this; rw [Hid, hvl, this]
  have hvl2 : vs.length ≤ 100000 := by have := (HT.out ls.length).1; rw [List.take_length] at this; omega
  obtain ⟨cs, hcs, hmk⟩ := make_cells ls.length hl
  have H0 : Hid ((w.alloc (.cells cs 57)).ownsRow w.heap.size 57 3 (.slice (some ⟨w.heap.size, 0, none⟩) 0 ls.length) 0 (clsV (Pu.sprTo ls vs 0))) := ⟨by simp [Pu.sprTo, clsV], .inr ⟨w.heap.size, ls.length, cs, rfl, Nat.le_refl _, heap_alloc_new w _, Nat.zero_le _, by unfold maxLen; omega, by omega, by simp [Pu.sprTo, clsV]⟩⟩
  clear hlo hvo h2 hcs hvl
  go_enter Tryz.func86, Tryz.ntmps86
  go_wp2
  clear hmk
  go_loopw [5, 6, 14] (fun o m i wr => ∃ k : Nat, k ≤ ls.length ∧ i = .int .i64 k ∧ m = .int .i64 (Pu.nz (ls.take k) : Nat) ∧ wr.ownsRow w.heap.size 57 3 o k (clsV (Pu.sprTo ls vs k)) ∧ Below w.heap.size w wr) (fun _ _ i _ => ls.length - (intOf i).toNat)
  case atStart => exact ⟨0, Nat.zero_le _, rfl, rfl, H0.out, bbox w _⟩
  case round =>
    clear H0
    obtain ⟨k, hk, rfl, rfl, hown, hbel⟩ := hrel
    obtain ⟨ao, cap, rfl⟩ := slen_of hown
    have hnzk : Pu.nz (ls.take k) ≤ k := by have := HT.out k; omega
    by_cases hk2 : k < ls.length
    · obtain ⟨gl, hgl, hlc, hglt⟩ := HL2.out k hk2
      subst hgl
      have hlc' : wr.cell? ⟨gl, k, none⟩ = some (.int .i64 ((ls[k] : Nat) : Int)) := by rw [hbel.cell (p := ⟨gl, k, none⟩) hglt]; exact hlc
      have hlk := Hl2.out ls[k] (List.getElem_mem hk2)
      have hkd : decide ((k : Int) < (ls.length : Int)) = true := by simp; omega
      have HNS : Hid (Pu.nz (ls.take (k + 1)) = Pu.nz (ls.take k) + if ls[k] = 0 then 0 else 1) := by rw [Hid, List.take_succ_eq_append_getElem hk2, Pu.nz_snoc]
      clear hlc
      by_cases h0 : ls[k] = 0
      · have HS2 : Hid (clsV (Pu.sprTo ls vs (k + 1)) = clsV (Pu.sprTo ls vs k) ++ clV Pu.nullC) := spr_null (vs := vs) hk2 h0
        rw [h0, if_pos rfl] at HNS
        rw [h0] at hlc'
        clear h0 hlk
        obtain ⟨i0, hi, hz0, hz1, hz2⟩ := info_parts Tryz.info57
        go_wp2_with (first
          | (at_builtin; refine wpList_append_own _ rfl _ _ 47 rfl w.heap.size 57 i0 (.agg #[.bool false, .int .i64 0, .string ByteArray.empty]) 3 32 Tryz.underlying47 hi hz0 hz1 hz2 rfl (by decide) _ _ _ rfl (hown.alloc _) ⟨_, 0, none⟩ 1 1 [.bool true, .int .i64 0, .string ByteArray.empty] rfl rfl ?c1 ?c2 ?c3 ?c4 ?c5 ?_)
          | go_in)
        case c1 => exact three_new rfl
        case c2 => exact cl_cells
        case c3 => unfold maxLen; omega
        case c4 => omega
        case c5 => rw [size_alloc']; have := hbel.size; omega
        intro v' w3 hown3 hg _
        have hbel3 := below_append hbel (Nat.le_refl _) hg (fun k e => (hown.lt k e).1)
        have hown4 : w3.ownsRow w.heap.size 57 3 v' (k + 1) (clsV (Pu.sprTo ls vs (k + 1))) := by rw [HS2.out]; exact hown3
        clear hg hown hbel hown3
        go_wp2
        go_roundw
        case rel => exact ⟨k + 1, by omega, by go_num, by rw [HNS.out]; rfl, hown4, hbel3⟩
        case measure => simp [intOf]; omega
      · have hnv : Pu.nz (ls.take k) < vs.length := by have := Pu.nz_lt ls k hk2 h0; rw [HNZ.out] at this; exact this
        have HS2 : Hid (clsV (Pu.sprTo ls vs (k + 1)) = clsV (Pu.sprTo ls vs k) ++ clV vs[Pu.nz (ls.take k)]) := spr_val hk2 h0 hnv
        obtain ⟨gv, hgv, e0, e1, e2, hgvl⟩ := HV2.out _ hnv
        subst hgv
        rw [if_neg h0] at HNS
        have e0' : wr.cell? ⟨gv, Pu.nz (ls.take k) * 3, none⟩ = some (.bool vs[Pu.nz (ls.take k)].null) := by rw [hbel.cell (p := ⟨gv, _, none⟩) hgvl]; exact e0
        have e1' : wr.cell? ⟨gv, Pu.nz (ls.take k) * 3 + 1, none⟩ = some (.int .i64 vs[Pu.nz (ls.take k)].n) := by rw [hbel.cell (p := ⟨gv, _, none⟩) hgvl]; exact e1
        have e2' : wr.cell? ⟨gv, Pu.nz (ls.take k) * 3 + 2, none⟩ = some (.string ⟨vs[Pu.nz (ls.take k)].s.toArray⟩) := by rw [hbel.cell (p := ⟨gv, _, none⟩) hgvl]; exact e2
        have hl0 : ((ls[k] : Int) == 0) = false := by simp; exact h0
        unfold clV strV at HS2
        clear e0 e1 e2 h0
        generalize vs[Pu.nz (ls.take k)].null = xb at *
        generalize vs[Pu.nz (ls.take k)].n = xn at *
        generalize (⟨vs[Pu.nz (ls.take k)].s.toArray⟩ : ByteArray) = xs at *
        generalize ls[k] = x at *
        generalize Pu.nz (ls.take k) = y at *
        obtain ⟨i0, hi, hz0, hz1, hz2⟩ := info_parts Tryz.info57
        go_wp2_with (first
          | (at_builtin; refine wpList_append_own _ rfl _ _ 47 rfl w.heap.size 57 i0 (.agg #[.bool false, .int .i64 0, .string ByteArray.empty]) 3 32 Tryz.underlying47 hi hz0 hz1 hz2 rfl (by decide) _ _ _ rfl (hown.alloc _) ⟨_, 0, none⟩ 1 1 [.bool xb, .int .i64 xn, .string xs] rfl rfl ?c1 ?c2 ?c3 ?c4 ?c5 ?_)
          | go_in)
        case c1 => exact three_new rfl
        case c2 => exact cl_cells
        case c3 => unfold maxLen; omega
        case c4 => omega
        case c5 => rw [size_alloc']; have := hbel.size; omega
        intro v' w3 hown3 hg _
        have hbel3 := below_append hbel (Nat.le_refl _) hg (fun k e => (hown.lt k e).1)
        have hown4 : w3.ownsRow w.heap.size 57 3 v' (k + 1) (clsV (Pu.sprTo ls vs (k + 1))) := by rw [HS2.out]; exact hown3
        clear hg hown hbel hown3
        go_wp2
        go_roundw
        case rel => exact ⟨k + 1, by omega, by go_num, by rw [HNS.out]; go_num, hown4, hbel3⟩
        case measure => simp [intOf]; omega
    · obtain rfl : k = ls.length := by omega
      go_wp2
      go_ret
      exact ⟨⟨_, rfl, hown⟩, hbel⟩
end Go.Proofs.YtjobhlncllfdmaaGreat

/- package cells: a number, a text. -/
namespace Go.Proofs.YtjobhlncllfdmaaGreat
open Go.RowKit

def C1Ans (w : World) (R o : Nat) (C : Array Value) (T : TypeId) (lb : Nat) (F : List UInt8) (r : Option (Pu.Cl × Nat)) (e : Ending) (w' : World) : Prop :=
  match r with
  | none => (∃ b n s, e = .returned (.tuple #[.agg #[.bool b, .int .i64 n, .string s], .bool false])) ∧ Fr (fun k => k = R) w w'
  | some (c, a') => e = .returned (.tuple #[.agg #[.bool c.null, .int .i64 c.n, .string ⟨c.s.toArray⟩], .bool true]) ∧ Fr (fun k => k = R) w w' ∧ ∃ C', InSt w' R o C' T lb F a' ∧ SameBut o C C'

structure Three (W : World) (b : Nat) (x0 x1 x2 : Value) : Prop where
  k0 : W.cell? ⟨b, 0, none⟩ = some x0
  k1 : W.cell? ⟨b, 1, none⟩ = some x1
  k2 : W.cell? ⟨b, 2, none⟩ = some x2
  fz : ∀ j, W.frozen? ⟨b, j, none⟩ = false
theorem three_of {W : World} {b : Nat} {x0 x1 x2 : Value} {t : TypeId} (h : W.heap[b]? = some (.cells #[x0, x1, x2] t (0, 0))) : Three W b x0 x1 x2 :=
  ⟨by rw [cell_of_row _ _ 0 _ _ _ h]; rfl, by rw [cell_of_row _ _ 1 _ _ _ h]; rfl, by rw [cell_of_row _ _ 2 _ _ _ h]; rfl, fun j => frozen_of_row _ _ _ _ _ h⟩
def set3 (w : World) (b : Nat) (y0 y1 y2 : Value) : World := ((w.setCell ⟨b, 0, none⟩ y0).setCell ⟨b, 1, none⟩ y1).setCell ⟨b, 2, none⟩ y2
theorem set3_row' {w : World} {b : Nat} {x0 x1 x2 : Value} {t : TypeId} (h : w.heap[b]? = some (.cells #[x0, x1, x2] t (0, 0))) (y0 y1 y2 : Value) : (set3 w b y0 y1 y2).heap[b]? = some (.cells #[y0, y1, y2] t (0, 0)) := by
  unfold set3
  rw [row_set (row_set (row_set h _) _) _]
  rfl
theorem set3_off' {w : World} {b k : Nat} (h : k ≠ b) (y0 y1 y2 : Value) : (set3 w b y0 y1 y2).heap[k]? = w.heap[k]? := by
  unfold set3
  rw [row_off h, row_off h, row_off h]
theorem set3_fr {w W : World} {R b : Nat} (h : Fr (fun k => k = R) w W) (hb : w.heap.size ≤ b) (y0 y1 y2 : Value) : Fr (fun k => k = R) w (set3 W b y0 y1 y2) := by
  have key : ∀ (X : World) (j : Nat) (u : Value), Fr (fun k => k = R) w X → Fr (fun k => k = R) w (X.setCell ⟨b, j, none⟩ u) := fun X j u hX => hX.trans (Fr.set' (T := fun k => k = b) rfl) (fun k hk e => by omega)
  unfold set3
  exact key _ _ _ (key _ _ _ (key _ _ _ h))

/-- the text of bytes that are read, none too -/
theorem text_of_restE {w : World} {lb : Nat} {ao : Option Addr} {cap : Nat} {L : List UInt8} (h : Rest w lb ao cap L) : (convert 25 9 (.slice ao L.length cap)).run Tryz.prog w = .ok (.string ⟨L.toArray⟩) w := by
  by_cases h0 : 0 < L.length
  · exact text_of_rest h h0
  · have hL : L = [] := List.eq_nil_of_length_eq_zero (by omega)
    subst hL
    cases ao with
    | none =>
      rw [show ([] : List UInt8).length = 0 from rfl, run_convert_bytes_string w 25 9 5 none 0 cap Tryz.underlying25 Tryz.underlying5 Tryz.underlying9]
      rfl
    | some a =>
      exact run_convert_bytes_back (P := Tryz.prog) w 25 9 5 a cap [] Tryz.underlying25 Tryz.underlying5 Tryz.underlying9 (fun j hj => by simp at hj)

theorem le_append (A B : List UInt8) : Pu.le (A ++ B) = Pu.le A + 256 ^ A.length * Pu.le B := by
  induction A with
  | nil => simp [Pu.le]
  | cons x r ih =>
    rw [List.cons_append, Pu.le, Pu.le, ih, List.length_cons, Nat.pow_succ, Nat.mul_add, ← Nat.mul_assoc, Nat.mul_comm 256 (256 ^ r.length)]
    omega
theorem le_eight (F : List UInt8) (a : Nat) (h : a + 8 ≤ F.length) : Pu.le (Pu.piece F a 8) = Pu.le ((F.drop a).take 4) + 4294967296 * Pu.le ((F.drop (a + 4)).take 4) := by
  have e : Pu.piece F a 8 = (F.drop a).take 4 ++ (F.drop (a + 4)).take 4 := by
    unfold Pu.piece
    rw [show (8 : Nat) = 4 + 4 from rfl, List.take_add, List.drop_drop]
  rw [e, le_append, show ((F.drop a).take 4).length = 4 by simp; omega]
theorem or64 (hi lo : Nat) (h1 : hi < 4294967296) (h2 : lo < 4294967296) : bits .or .u64 ((hi : Int) * 4294967296) (lo : Int) = ((lo + 4294967296 * hi : Nat) : Int) := by
  have e : (hi : Int) * 4294967296 = ((hi * 4294967296 : Nat) : Int) := by omega
  rw [e, u64_or_nat _ _ (by omega) (by omega), show (4294967296 : Nat) = 2 ^ 32 from rfl, or_shift hi lo 32 (by omega)]
  omega

set_option maxHeartbeats 4000000 in
set_option maxRecDepth 100000 in
theorem readInt_any (R o : Nat) (C : Array Value) (T : TypeId) (lb : Nat) (F : List UInt8) (a : Nat) (w : World) (h : InSt w R o C T lb F a) (hlb : lb < w.heap.size) :
    Calls Tryz.prog 99 #[.pointer (some ⟨R, o, none⟩)] w fun e w' => C1Ans w R o C T lb F (Pu.cell1 1 F a) e w' := by
  have hR := h.lt
  obtain ⟨W0, hW0⟩ : ∃ W0, W0 = w.alloc (.cells #[.bool false, .int .i64 0, .string ⟨#[]⟩] 57) := ⟨_, rfl⟩
  have r0 : W0.heap[w.heap.size]? = some (.cells #[.bool false, .int .i64 0, .string ⟨#[]⟩] 57 (0, 0)) := by rw [hW0]; exact heap_alloc_new w _
  have F0 : Fr (fun k => k = R) w W0 := by rw [hW0]; exact Fr.alloc'
  have I0 : InSt W0 R o C T lb F a := by rw [hW0]; exact h.below hlb (bbox w _)
  have s0 : W0.heap.size = w.heap.size + 1 := by rw [hW0, size_alloc']
  clear h
  rcases in_number R o C T lb F a 4 W0 I0 (by omega) with ⟨hb1, hc1⟩ | ⟨hf1, w1, C1, hc1, hS1⟩
  · have HX : Hid (Pu.cell1 1 F a = none) := by unfold Hid Pu.cell1; rw [if_pos rfl, if_pos (by omega)]
    have N1 : Hid (Calls Tryz.prog 59 #[.pointer (some ⟨R, o, none⟩), .int .i64 4] (w.alloc (.cells #[.bool false, .int .i64 0, .string ⟨#[]⟩] 57)) fun e w' => e = .returned (.tuple #[.int .u32 0, .bool false]) ∧ w' = W0) := by
      have := hc1; rw [hW0] at this ⊢; exact this
    obtain ⟨k0, k1, k2, kf⟩ := three_of r0
    obtain ⟨q0, q1, q2, _⟩ := three_of (set3_row' r0 (.bool false) (.int .i64 0) (.string ⟨#[]⟩))
    unfold set3 at q0 q1 q2
    have HF : Hid (Fr (fun k => k = R) w (set3 W0 w.heap.size (.bool false) (.int .i64 0) (.string ⟨#[]⟩))) := set3_fr F0 (Nat.le_refl _) _ _ _
    clear hc1 hW0 I0 s0 r0
    go_enter Tryz.func99, Tryz.ntmps99
    go_wp2_with fail
    refine N1.out.mono ?_
    rintro e w' ⟨rfl, hw'⟩
    subst w'
    go_wp2
    exact bodyPost_ret (v := .tuple #[.agg #[.bool false, .int .i64 0, .string ⟨#[]⟩], .bool false]) (by simp [results, Tryz.results99, go_sem, q0, q1, q2]) rfl (by rw [HX.out]; exact ⟨⟨_, _, _, rfl⟩, HF.out⟩)
  · obtain ⟨lo, hlo⟩ : ∃ lo, lo = Pu.le ((F.drop a).take 4) := ⟨_, rfl⟩
    have N1 : Hid (Calls Tryz.prog 59 #[.pointer (some ⟨R, o, none⟩), .int .i64 4] (w.alloc (.cells #[.bool false, .int .i64 0, .string ⟨#[]⟩] 57)) fun e w' => e = .returned (.tuple #[.int .u32 (lo : Int), .bool true]) ∧ w' = w1) := by
      have := hc1
      rw [hW0, ← hlo] at this
      exact this
    have r1 : w1.heap[w.heap.size]? = some (.cells #[.bool false, .int .i64 0, .string ⟨#[]⟩] 57 (0, 0)) := by rw [hS1.fr.block _ (by omega) (by omega)]; exact r0
    have F1 : Fr (fun k => k = R) w w1 := F0.trans hS1.fr (fun _ _ h => h)
    have s1 : w1.heap.size = w.heap.size + 1 := by rw [hS1.size]; exact s0
    have I1 := hS1.st
    have B1 := hS1.same
    have Hlo : Hid (lo = Pu.le ((F.drop a).take 4)) := hlo
    have hlol : lo < 4294967296 := by
      rw [hlo]; have := Pu.le_lt ((F.drop a).take 4)
      rw [show ((F.drop a).take 4).length = 4 by simp; omega] at this
      exact this
    clear hc1 hW0 I0 r0 F0 hS1 s0 hlo
    rcases in_number R o C1 T lb F (a + 4) 4 w1 I1 (by omega) with ⟨hb2, hc2⟩ | ⟨hf2, w2, C2, hc2, hS2⟩
    · have HX : Hid (Pu.cell1 1 F a = none) := by unfold Hid Pu.cell1; rw [if_pos rfl, if_pos (by omega)]
      have N2 : Hid (Calls Tryz.prog 59 #[.pointer (some ⟨R, o, none⟩), .int .i64 4] w1 fun e w' => e = .returned (.tuple #[.int .u32 0, .bool false]) ∧ w' = w1) := hc2
      clear hc2
      go_enter Tryz.func99, Tryz.ntmps99
      go_wp2_with fail
      refine N1.out.mono ?_
      rintro e w' ⟨rfl, hw'⟩
      subst w'
      go_wp2_with fail
      refine N2.out.mono ?_
      rintro e w' ⟨rfl, hw'⟩
      subst w'
      obtain ⟨k0, k1, k2, kf⟩ := three_of r1
      obtain ⟨q0, q1, q2, _⟩ := three_of (set3_row' r1 (.bool false) (.int .i64 (wrap64 (bits .or .u64 0 (lo : Int)))) (.string ⟨#[]⟩))
      unfold set3 at q0 q1 q2
      have HF : Hid (Fr (fun k => k = R) w (set3 w1 w.heap.size (.bool false) (.int .i64 (wrap64 (bits .or .u64 0 (lo : Int)))) (.string ⟨#[]⟩))) := set3_fr F1 (Nat.le_refl _) _ _ _
      clear r1
      go_wp2
      exact bodyPost_ret (v := .tuple #[.agg #[.bool false, .int .i64 (wrap64 (bits .or .u64 0 (lo : Int))), .string ⟨#[]⟩], .bool false]) (by simp [results, Tryz.results99, go_sem, q0, q1, q2]) rfl (by rw [HX.out]; exact ⟨⟨_, _, _, rfl⟩, HF.out⟩)
    · obtain ⟨hi, hhi⟩ : ∃ hi, hi = Pu.le ((F.drop (a + 4)).take 4) := ⟨_, rfl⟩
      have N2 : Hid (Calls Tryz.prog 59 #[.pointer (some ⟨R, o, none⟩), .int .i64 4] w1 fun e w' => e = .returned (.tuple #[.int .u32 (hi : Int), .bool true]) ∧ w' = w2) := by rw [hhi]; exact hc2
      have r2 : w2.heap[w.heap.size]? = some (.cells #[.bool false, .int .i64 0, .string ⟨#[]⟩] 57 (0, 0)) := by rw [hS2.fr.block _ (by omega) (by omega)]; exact r1
      have F2 : Fr (fun k => k = R) w w2 := F1.trans hS2.fr (fun _ _ h => h)
      have Hhi : Hid (hi = Pu.le ((F.drop (a + 4)).take 4)) := hhi
      have hhil : hi < 4294967296 := by
        rw [hhi]; have := Pu.le_lt ((F.drop (a + 4)).take 4)
        rw [show ((F.drop (a + 4)).take 4).length = 4 by simp; omega] at this
        exact this
      clear hc2 I1 r1 F1 s1 hhi
      go_enter Tryz.func99, Tryz.ntmps99
      go_wp2_with fail
      refine N1.out.mono ?_
      rintro e w' ⟨rfl, hw'⟩
      subst w'
      go_wp2_with fail
      refine N2.out.mono ?_
      rintro e w' ⟨rfl, hw'⟩
      subst w'
      obtain ⟨k0, k1, k2, kf⟩ := three_of r2
      obtain ⟨q0, q1, q2, _⟩ := three_of (set3_row' r2 (.bool false) (.int .i64 (wrap64 (bits .or .u64 ((hi : Int) * 4294967296) (lo : Int)))) (.string ⟨#[]⟩))
      unfold set3 at q0 q1 q2
      have HV : Hid (wrap64 (bits .or .u64 ((hi : Int) * 4294967296) (lo : Int)) = Pu.i64of (Pu.le (Pu.piece F a 8))) := by
        rw [Hid, or64 hi lo hhil hlol, wrap64_eq, le_eight F a (by omega), Hlo.out, Hhi.out]; rfl
      have HX : Hid (Pu.cell1 1 F a = some (⟨false, Pu.i64of (Pu.le (Pu.piece F a 8)), []⟩, a + 8)) := by unfold Hid Pu.cell1; rw [if_pos rfl, if_neg (by omega)]
      have HF : Hid (C1Ans w R o C T lb F (Pu.cell1 1 F a) (.returned (.tuple #[.agg #[.bool false, .int .i64 (wrap64 (bits .or .u64 ((hi : Int) * 4294967296) (lo : Int))), .string ⟨#[]⟩], .bool true])) (set3 w2 w.heap.size (.bool false) (.int .i64 (wrap64 (bits .or .u64 ((hi : Int) * 4294967296) (lo : Int)))) (.string ⟨#[]⟩))) := by
        rw [HX.out]
        refine ⟨by rw [HV.out], set3_fr F2 (Nat.le_refl _) _ _ _, C2, ?_, B1.trans hS2.same⟩
        exact hS2.st.kept (set3_off' (by omega) _ _ _) (set3_off' (by omega) _ _ _)
      clear r2 hS2
      go_wp2
      exact bodyPost_ret (v := .tuple #[.agg #[.bool false, .int .i64 (wrap64 (bits .or .u64 ((hi : Int) * 4294967296) (lo : Int))), .string ⟨#[]⟩], .bool true]) (by simp [results, Tryz.results99, go_sem, q0, q1, q2]) rfl HF.out

set_option maxHeartbeats 4000000 in
set_option maxRecDepth 100000 in
theorem readText_any (R o : Nat) (C : Array Value) (T : TypeId) (lb : Nat) (F : List UInt8) (a : Nat) (w : World) (h : InSt w R o C T lb F a) (hlb : lb < w.heap.size) :
    Calls Tryz.prog 100 #[.pointer (some ⟨R, o, none⟩)] w fun e w' => C1Ans w R o C T lb F (Pu.cell1 2 F a) e w' := by
  have hR := h.lt
  obtain ⟨W0, hW0⟩ : ∃ W0, W0 = w.alloc (.cells #[.bool false, .int .i64 0, .string ⟨#[]⟩] 57) := ⟨_, rfl⟩
  have r0 : W0.heap[w.heap.size]? = some (.cells #[.bool false, .int .i64 0, .string ⟨#[]⟩] 57 (0, 0)) := by rw [hW0]; exact heap_alloc_new w _
  have F0 : Fr (fun k => k = R) w W0 := by rw [hW0]; exact Fr.alloc'
  have I0 : InSt W0 R o C T lb F a := by rw [hW0]; exact h.below hlb (bbox w _)
  have s0 : W0.heap.size = w.heap.size + 1 := by rw [hW0, size_alloc']
  clear h
  rcases in_varint R o C T lb F a W0 I0 with ⟨hv, hc1⟩ | ⟨z, nx, w1, C1, hv, hc1, hS1⟩
  · have HX : Hid (Pu.cell1 2 F a = none) := by unfold Hid Pu.cell1; rw [if_neg (by decide), hv]
    have N1 : Hid (Calls Tryz.prog 89 #[.pointer (some ⟨R, o, none⟩)] (w.alloc (.cells #[.bool false, .int .i64 0, .string ⟨#[]⟩] 57)) fun e w' => e = .returned (.tuple #[.int .u32 0, .bool false]) ∧ w' = W0) := by
      have := hc1; rw [hW0] at this ⊢; exact this
    obtain ⟨k0, k1, k2, kf⟩ := three_of r0
    obtain ⟨q0, q1, q2, _⟩ := three_of (set3_row' r0 (.bool false) (.int .i64 0) (.string ⟨#[]⟩))
    unfold set3 at q0 q1 q2
    have HF : Hid (Fr (fun k => k = R) w (set3 W0 w.heap.size (.bool false) (.int .i64 0) (.string ⟨#[]⟩))) := set3_fr F0 (Nat.le_refl _) _ _ _
    clear hc1 hW0 I0 s0 r0
    go_enter Tryz.func100, Tryz.ntmps100
    go_wp2_with fail
    refine N1.out.mono ?_
    rintro e w' ⟨rfl, hw'⟩
    subst w'
    go_wp2
    exact bodyPost_ret (v := .tuple #[.agg #[.bool false, .int .i64 0, .string ⟨#[]⟩], .bool false]) (by simp [results, Tryz.results100, go_sem, q0, q1, q2]) rfl (by rw [HX.out]; exact ⟨⟨_, _, _, rfl⟩, HF.out⟩)
  · have hzl := (Pu.vi_lt hv).2.2
    have N1 : Hid (Calls Tryz.prog 89 #[.pointer (some ⟨R, o, none⟩)] (w.alloc (.cells #[.bool false, .int .i64 0, .string ⟨#[]⟩] 57)) fun e w' => e = .returned (.tuple #[.int .u32 (z : Int), .bool true]) ∧ w' = w1) := by
      have := hc1; rw [hW0] at this; exact this
    have r1 : w1.heap[w.heap.size]? = some (.cells #[.bool false, .int .i64 0, .string ⟨#[]⟩] 57 (0, 0)) := by rw [hS1.fr.block _ (by omega) (by omega)]; exact r0
    have F1 : Fr (fun k => k = R) w w1 := F0.trans hS1.fr (fun _ _ h => h)
    have s1 : w1.heap.size = w.heap.size + 1 := by rw [hS1.size]; exact s0
    have I1 := hS1.st
    have B1 := hS1.same
    clear hc1 hW0 I0 r0 F0 hS1 s0
    rcases in_take R o C1 T lb F nx z w1 I1 with ⟨hb2, hc2⟩ | ⟨hf2, w2, C2, ap, hc2, hS2, hR2⟩
    · have HX : Hid (Pu.cell1 2 F a = none) := by unfold Hid Pu.cell1; rw [if_neg (by decide), hv]; simp only []; rw [if_pos hb2]
      have N2 : Hid (Calls Tryz.prog 75 #[.pointer (some ⟨R, o, none⟩), .int .i64 (z : Int)] w1 fun e w' => e = .returned (.tuple #[.slice none 0 0, .bool false]) ∧ w' = w1) := hc2
      obtain ⟨k0, k1, k2, kf⟩ := three_of r1
      obtain ⟨q0, q1, q2, _⟩ := three_of (set3_row' r1 (.bool false) (.int .i64 0) (.string ⟨#[]⟩))
      unfold set3 at q0 q1 q2
      have HF : Hid (Fr (fun k => k = R) w (set3 w1 w.heap.size (.bool false) (.int .i64 0) (.string ⟨#[]⟩))) := set3_fr F1 (Nat.le_refl _) _ _ _
      have hcv : (convert 25 9 (.slice none 0 0)).run Tryz.prog w1 = .ok (.string ⟨#[]⟩) w1 := conv_own (World.ownsRow_nil w1 0 5 1)
      clear hc2 r1 hv I1
      go_enter Tryz.func100, Tryz.ntmps100
      go_wp2_with fail
      refine N1.out.mono ?_
      rintro e w' ⟨rfl, hw'⟩
      subst w'
      go_wp2_with fail
      refine N2.out.mono ?_
      rintro e w' ⟨rfl, hw'⟩
      subst w'
      go_wp2
      exact bodyPost_ret (v := .tuple #[.agg #[.bool false, .int .i64 0, .string ⟨#[]⟩], .bool false]) (by simp [results, Tryz.results100, go_sem, q0, q1, q2]) rfl (by rw [HX.out]; exact ⟨⟨_, _, _, rfl⟩, HF.out⟩)
    · have N2 : Hid (Calls Tryz.prog 75 #[.pointer (some ⟨R, o, none⟩), .int .i64 (z : Int)] w1 fun e w' => e = .returned (.tuple #[.slice ap z z, .bool true]) ∧ w' = w2) := hc2
      have hpl : (Pu.piece F nx z).length = z := Pu.length_piece _ _ _ hf2
      have r2 : w2.heap[w.heap.size]? = some (.cells #[.bool false, .int .i64 0, .string ⟨#[]⟩] 57 (0, 0)) := by rw [hS2.fr.block _ (by omega) (by omega)]; exact r1
      have F2 : Fr (fun k => k = R) w w2 := F1.trans hS2.fr (fun _ _ h => h)
      have HX : Hid (Pu.cell1 2 F a = some (⟨false, 0, Pu.piece F nx z⟩, nx + z)) := by unfold Hid Pu.cell1; rw [if_neg (by decide), hv]; simp only []; rw [if_neg (by omega)]
      have hcv : (convert 25 9 (.slice ap z z)).run Tryz.prog w2 = .ok (.string ⟨(Pu.piece F nx z).toArray⟩) w2 := by
        have := text_of_restE (cap := z) hR2
        rw [hpl] at this
        exact this
      obtain ⟨k0, k1, k2, kf⟩ := three_of r2
      have HQ := three_of (set3_row' r2 (.bool false) (.int .i64 0) (.string ⟨(Pu.piece F nx z).toArray⟩))
      have HF : Hid (C1Ans w R o C T lb F (Pu.cell1 2 F a) (.returned (.tuple #[.agg #[.bool false, .int .i64 0, .string ⟨(Pu.piece F nx z).toArray⟩], .bool true])) (set3 w2 w.heap.size (.bool false) (.int .i64 0) (.string ⟨(Pu.piece F nx z).toArray⟩))) := by
        rw [HX.out]
        refine ⟨rfl, set3_fr F2 (Nat.le_refl _) _ _ _, C2, ?_, B1.trans hS2.same⟩
        exact hS2.st.kept (set3_off' (by omega) _ _ _) (set3_off' (by omega) _ _ _)
      generalize (⟨(Pu.piece F nx z).toArray⟩ : ByteArray) = x at *
      obtain ⟨q0, q1, q2, _⟩ := HQ
      unfold set3 at q0 q1 q2
      clear r2 hS2 hR2 hc2 hv I1 r1
      go_enter Tryz.func100, Tryz.ntmps100
      go_wp2_with fail
      refine N1.out.mono ?_
      rintro e w' ⟨rfl, hw'⟩
      subst w'
      go_wp2_with fail
      refine N2.out.mono ?_
      rintro e w' ⟨rfl, hw'⟩
      subst w'
      go_wp2
      exact bodyPost_ret (v := .tuple #[.agg #[.bool false, .int .i64 0, .string x], .bool true]) (by simp [results, Tryz.results100, go_sem, q0, q1, q2]) rfl HF.out
end Go.Proofs.YtjobhlncllfdmaaGreat
