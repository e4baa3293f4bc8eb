/- package table: layout, keep, newPart. -/
import Derived.Test.YtjobhlncllfdmaaGreatM25
import Derived.Test.YtjobhlncllfdmaaGreatM28
import Derived.Test.YtjobhlncllfdmaaGreatM12
namespace Go.Proofs.YtjobhlncllfdmaaGreat
open Go.RowKit

set_option maxHeartbeats 4000000 in
set_option maxRecDepth 100000 in
theorem layout_any (P : Nat) (nm : ByteArray) (kind rows pages : Nat) (opt known : Bool) (vin vc : Value) (ad : Option Addr) (nd cd : Nat) (p : Pu.Pg) (x4 : Nat) (x5 : Value) (w : World) (h : PtR w P nm kind opt rows vin pages known (.slice ad nd cd) vc) (hp : p.sort ≤ 2) :
    Calls Tryz.prog 69 #[.pointer (some ⟨P, 0, none⟩), .agg (pgRow p.sort p.cells p.size p.packed x4 x5)] w fun e w' => e = .returned (.agg #[.int .i64 (kind : Int), .bool (opt && decide (p.sort ≠ 1)), .int .i64 (p.cells : Int), .bool (decide (p.sort = 2)), .slice ad nd cd]) ∧ Below w.heap.size w w' := by
  have c1 := h.c1
  have c2 := h.c2
  have c7 := h.c7
  have hPl := h.lt
  obtain ⟨so, ce, pa, si, su, bo⟩ := p
  simp only at hp ⊢
  unfold pgRow
  clear h
  have hPw : P ≠ w.heap.size := by omega
  have hPw1 : P ≠ w.heap.size + 1 := by omega
  obtain ⟨i2, hi2⟩ : ∃ i2 : Bool, i2 = decide (so = 2) := ⟨_, rfl⟩
  have h2d : ((so : Int) == 2) = i2 := by
    rw [hi2]
    by_cases e : so = 2
    · subst e; rfl
    · rw [decide_eq_false e, beq_eq_false_iff_ne]; omega
  rw [← hi2]
  clear hi2
  cases opt with
  | false =>
    simp only [Bool.false_and]
    go_enter Tryz.func69, Tryz.ntmps69
    go_upto_region 1 with fail
    go_region
    all_goals
      go_wp2
      exact bodyPost_ret (v := .agg #[.int .i64 (kind : Int), .bool false, .int .i64 (ce : Int), .bool i2, .slice ad nd cd]) (by simp [results, Tryz.results69, go_sem]) rfl ⟨rfl, two_below w _ _⟩
  | true =>
    simp only [Bool.true_and]
    obtain ⟨i1, hi1⟩ : ∃ i1 : Bool, i1 = decide (so ≠ 1) := ⟨_, rfl⟩
    have h1d : ((so : Int) != 1) = i1 := by
      rw [hi1]
      by_cases e : so = 1
      · subst e; rfl
      · rw [decide_eq_true (show so ≠ 1 from e), bne_iff_ne]; omega
    rw [← hi1]
    clear hi1
    go_enter Tryz.func69, Tryz.ntmps69
    go_upto_region 1 with fail
    go_region
    all_goals
      go_wp2
      exact bodyPost_ret (v := .agg #[.int .i64 (kind : Int), .bool i1, .int .i64 (ce : Int), .bool i2, .slice ad nd cd]) (by simp [results, Tryz.results69, go_sem]) rfl ⟨rfl, two_below w _ _⟩

/-- a part, and what it knows -/
def PSta (w : World) (P B : Nat) (nm : ByteArray) (kind : Nat) (opt : Bool) (rows lb : Nat) (F : List UInt8) (a pages : Nat) (st : Pu.Sta) : Prop :=
  ∃ ao cap vd vc, PtR w P nm kind opt rows (.slice ao (F.length - a) cap) pages st.known vd vc ∧ Rest w lb ao cap (F.drop a) ∧ a ≤ F.length ∧ P ≠ lb ∧ w.ownsRow B 57 3 vd st.dict.length (clsV st.dict) ∧ w.ownsRow B 57 3 vc st.cells.length (clsV st.cells) ∧ (∀ k, vd.ownBlock = some k → vc.ownBlock ≠ some k) ∧ B ≤ P ∧ lb < B ∧ st.cells.length + st.left = rows

theorem PSta.below {w w' : World} {P B : Nat} {nm : ByteArray} {kind : Nat} {opt : Bool} {rows lb : Nat} {F : List UInt8} {a pages : Nat} {st : Pu.Sta} (h : PSta w P B nm kind opt rows lb F a pages st) (hb : Below w.heap.size w w') : PSta w' P B nm kind opt rows lb F a pages st := by
  obtain ⟨ao, cap, vd, vc, h1, h2, h3, h4, h5, h6, h7, h8, h9, h10⟩ := h
  have hPl := h1.lt
  exact ⟨ao, cap, vd, vc, h1.kept (hb.block P hPl), h2.kept (hb.block lb (by omega)), h3, h4, own_below h5 hb, own_below h6 hb, h7, h8, h9, h10⟩

theorem PSta.in {w : World} {P B : Nat} {nm : ByteArray} {kind : Nat} {opt : Bool} {rows lb : Nat} {F : List UInt8} {a pages : Nat} {st : Pu.Sta} (h : PSta w P B nm kind opt rows lb F a pages st) : ∃ ao cap vd vc, InSt w P 4 (ptRow nm kind opt rows (.slice ao (F.length - a) cap) pages st.known vd vc) 90 lb F a := by
  obtain ⟨ao, cap, vd, vc, h1, h2, h3, h4, _⟩ := h
  exact ⟨ao, cap, vd, vc, h1, h3, h4, ao, cap, rfl, h2⟩

theorem ptRow_same {nm : ByteArray} {kind : Nat} {opt : Bool} {rows : Nat} {vin vin' : Value} {pages : Nat} {known : Bool} {vd vc : Value} {C' : Array Value} (h : SameBut 4 (ptRow nm kind opt rows vin pages known vd vc) C') (h4 : C'[4]? = some vin') : C' = ptRow nm kind opt rows vin' pages known vd vc := by
  obtain ⟨h1, h2⟩ := h
  have hs : (ptRow nm kind opt rows vin pages known vd vc).size = 9 := rfl
  have hs' : (ptRow nm kind opt rows vin' pages known vd vc).size = 9 := rfl
  apply Array.ext_getElem?
  intro i
  by_cases hi : i = 4
  · subst hi; rw [h4]; rfl
  · rw [h2 i hi]
    match i, hi with
    | 0, _ => rfl
    | 1, _ => rfl
    | 2, _ => rfl
    | 3, _ => rfl
    | 4, h => exact absurd rfl h
    | 5, _ => rfl
    | 6, _ => rfl
    | 7, _ => rfl
    | 8, _ => rfl
    | n + 9, _ => rw [Array.getElem?_eq_none (by rw [hs]; omega), Array.getElem?_eq_none (by rw [hs']; omega)]

/-- behind a page's bytes -/
theorem PSta.moved {w w' : World} {P B : Nat} {nm : ByteArray} {kind : Nat} {opt : Bool} {rows lb : Nat} {F : List UInt8} {a nx pages : Nat} {st : Pu.Sta} {ao : Option Addr} {cap : Nat} {vd vc : Value} {C' : Array Value}
    (h1 : PtR w P nm kind opt rows (.slice ao (F.length - a) cap) pages st.known vd vc) (h5 : w.ownsRow B 57 3 vd st.dict.length (clsV st.dict)) (h6 : w.ownsRow B 57 3 vc st.cells.length (clsV st.cells)) (h7 : ∀ k, vd.ownBlock = some k → vc.ownBlock ≠ some k) (h8 : B ≤ P) (h9 : lb < B) (h10 : st.cells.length + st.left = rows)
    (hin : InSt w' P 4 C' 90 lb F nx) (hs : SameBut 4 (ptRow nm kind opt rows (.slice ao (F.length - a) cap) pages st.known vd vc) C') (hf : Fr (fun k => k = P) w w') : PSta w' P B nm kind opt rows lb F nx pages st := by
  obtain ⟨g1, g2, g3, ao', cap', g4, g5⟩ := hin
  have hC := ptRow_same hs g4
  refine ⟨ao', cap', vd, vc, by unfold PtR; rw [g1, hC], g5, g2, g3, own_agreeS h5 (fun k hk => hf.block k (own_tyS h5 hk).lt (Ty.ne (own_tyS h5 hk) h1.ty (by decide))), own_agreeS h6 (fun k hk => hf.block k (own_tyS h6 hk).lt (Ty.ne (own_tyS h6 hk) h1.ty (by decide))), h7, h8, h9, h10⟩

def KpAns (w : World) (P B : Nat) (nm : ByteArray) (kind : Nat) (opt : Bool) (rows lb : Nat) (F : List UInt8) (a pages : Nat) (st : Pu.Sta) (w' : World) : Prop := PSta w' P B nm kind opt rows lb F a pages st ∧ Fr (fun k => B ≤ k) w w'

set_option maxHeartbeats 4000000 in
set_option maxRecDepth 100000 in
theorem keep_any (P B : Nat) (nm : ByteArray) (kind : Nat) (opt : Bool) (rows lb : Nat) (F : List UInt8) (a pages so : Nat) (st : Pu.Sta) (l : List Pu.Cl) (av : Option Addr) (cv B2 : Nat) (w : World) (h : PSta w P B nm kind opt rows lb F a pages st) (hl : w.ownsRow B2 57 3 (.slice av l.length cv) l.length (clsV l)) (hB2 : B ≤ B2) (hnv : ∀ vc, w.cell? ⟨P, 8, none⟩ = some vc → ∀ k, vc.ownBlock = some k → k < B2) (hpg : pages ≤ 1073741824) (hr : rows ≤ 100000) (_hlm : l.length ≤ 100000) (_hso : so ≤ 2) (hle : so ≠ 1 → l.length ≤ st.left) :
    Calls Tryz.prog 71 #[.pointer (some ⟨P, 0, none⟩), .int .u32 (so : Int), .slice av l.length cv] w fun e w' => e = .returned (.tuple #[]) ∧ KpAns w P B nm kind opt rows lb F a (pages + 1) (st.with so l) w' := by
  obtain ⟨ao, cap, vd, vc, h1, h2, h3, h4, h5, h6, h7, h8, h9, h10⟩ := h
  have c5 := h1.c5
  have c6 := h1.c6
  have c7 := h1.c7
  have c8 := h1.c8
  have fz : ∀ j, w.frozen? ⟨P, j, none⟩ = false := fun j => h1.fz j
  have hPl := h1.lt
  by_cases hs1 : so = 1
  · have hs1d : ((so : Int) == 1) = true := by simp; omega
    have HK : Hid (KpAns w P B nm kind opt rows lb F a (pages + 1) (st.with so l) (((w.setCell ⟨P, 5, none⟩ (.int .i64 ((pages : Int) + 1))).setCell ⟨P, 6, none⟩ (.bool true)).setCell ⟨P, 7, none⟩ (.slice av l.length cv))) := by
      have e1 : st.with so l = ⟨st.left, l, true, st.cells⟩ := by unfold Pu.Sta.with; rw [if_pos hs1]
      rw [e1]
      have hvc := hnv vc c8
      have off : ∀ k, k ≠ P → (((w.setCell ⟨P, 5, none⟩ (.int .i64 ((pages : Int) + 1))).setCell ⟨P, 6, none⟩ (.bool true)).setCell ⟨P, 7, none⟩ (.slice av l.length cv)).heap[k]? = w.heap[k]? := fun k hk => by rw [row_off hk, row_off hk, row_off hk]
      refine ⟨⟨ao, cap, .slice av l.length cv, vc, ?_, h2.kept (off lb (fun e => h4 e.symm)), h3, h4, own_agreeS (hl.mono hB2) (fun k hk => off k (Ty.ne (own_tyS hl hk) h1.ty (by decide))), own_agreeS h6 (fun k hk => off k (Ty.ne (own_tyS h6 hk) h1.ty (by decide))), fun k hk e => ?_, h8, h9, h10⟩, ?_⟩
      · unfold PtR
        rw [row_set (row_set (row_set h1 _) _) _]
        simp [ptRow]
      · have := hvc k e
        have := (hl.lt k hk).1
        omega
      · exact ((Fr.set' (T := fun k => B ≤ k) h8).trans (Fr.set' (T := fun k => B ≤ k) h8) (fun _ _ h => h)).trans (Fr.set' (T := fun k => B ≤ k) h8) (fun _ _ h => h)
    clear h1 h2 h5 h6 hl hnv hs1 hle
    go_enter Tryz.func71, Tryz.ntmps71
    go_wp2
    exact bodyPost_ret (v := .tuple #[]) (by simp [results, Tryz.results71, go_sem]) rfl ⟨rfl, HK.out⟩
  · have hs1d : ((so : Int) == 1) = false := by simp; omega
    have hle' := hle hs1
    obtain ⟨ac, cc, rfl⟩ := slen_of h6
    obtain ⟨i0, hi, hz0, hz1, hz2⟩ := info_parts Tryz.info57
    -- the number of pages is kept first
    have off1 : ∀ k, k ≠ P → (w.setCell ⟨P, 5, none⟩ (.int .i64 ((pages : Int) + 1))).heap[k]? = w.heap[k]? := fun k hk => row_off hk _
    have g6 : (w.setCell ⟨P, 5, none⟩ (.int .i64 ((pages : Int) + 1))).ownsRow B 57 3 (.slice ac st.cells.length cc) st.cells.length (clsV st.cells) := own_agreeS h6 (fun k hk => off1 k (Ty.ne (own_tyS h6 hk) h1.ty (by decide)))
    have gl : (w.setCell ⟨P, 5, none⟩ (.int .i64 ((pages : Int) + 1))).ownsRow B2 57 3 (.slice av l.length cv) l.length (clsV l) := own_agreeS hl (fun k hk => off1 k (Ty.ne (own_tyS hl hk) h1.ty (by decide)))
    have g1 : PtR (w.setCell ⟨P, 5, none⟩ (.int .i64 ((pages : Int) + 1))) P nm kind opt rows (.slice ao (F.length - a) cap) (pages + 1) st.known vd (.slice ac st.cells.length cc) := by
      unfold PtR; rw [row_set h1]; simp [ptRow]
    obtain ⟨a5, k5, w5, run5, own5, gr5, at5⟩ := appendM (w.setCell ⟨P, 5, none⟩ (.int .i64 ((pages : Int) + 1))) 47 47 57 i0 (.agg #[.bool false, .int .i64 0, .string ByteArray.empty]) 3 32 B Tryz.underlying47 hi hz0 hz1 hz2 rfl (by decide) (.slice ac st.cells.length cc) st.cells.length (clsV st.cells) g6 av l.length cv B2 (clsV l) gl (cls_one l) (by unfold maxLen; omega) (by omega) (by rw [size_set]; omega)
    have R5 : Hid ((Builtin.append_ #[47, 47] 47 #[.slice ac st.cells.length cc, .slice av l.length cv]).run Tryz.prog (w.setCell ⟨P, 5, none⟩ (.int .i64 ((pages : Int) + 1))) = .ok (.slice a5 (st.cells.length + l.length) k5) w5) := run5
    have hcP : (Value.slice ac st.cells.length cc).ownBlock ≠ some P := fun e => Ty.ne (own_tyS g6 e) g1.ty (by decide) rfl
    have g15 : PtR w5 P nm kind opt rows (.slice ao (F.length - a) cap) (pages + 1) st.known vd (.slice ac st.cells.length cc) := g1.kept (gr5.block P g1.lt (fun e => hcP e.symm))
    have m8 := g15.c8
    have y8 := g15.fz 8
    have n8 := g1.c8
    have HK : Hid (KpAns w P B nm kind opt rows lb F a (pages + 1) (st.with so l) (w5.setCell ⟨P, 8, none⟩ (.slice a5 (st.cells.length + l.length) k5))) := by
      have e1 : st.with so l = ⟨st.left - l.length, st.dict, st.known, st.cells ++ l⟩ := by unfold Pu.Sta.with; rw [if_neg hs1]
      rw [e1]
      have hsz : (w.setCell ⟨P, 5, none⟩ (.int .i64 ((pages : Int) + 1))).heap.size = w.heap.size := size_set _ _ _
      have off : ∀ k, k < w.heap.size → k ≠ P → (Value.slice ac st.cells.length cc).ownBlock ≠ some k → (w5.setCell ⟨P, 8, none⟩ (.slice a5 (st.cells.length + l.length) k5)).heap[k]? = w.heap[k]? := fun k hk hkP hkc => by
        rw [row_off hkP, gr5.block k (by omega) (fun e => hkc e.symm), off1 k hkP]
      have hvP : (Value.slice a5 (st.cells.length + l.length) k5).ownBlock ≠ some P := fun e => Ty.ne (own_tyS own5 e) g15.ty (by decide) rfl
      refine ⟨⟨ao, cap, vd, .slice a5 (st.cells.length + l.length) k5, ?_, h2.kept (off lb (by omega) (fun e => h4 e.symm) (fun e => by have := (h6.lt lb e).1; omega)), h3, h4, own_agreeS h5 (fun k hk => off k (own_tyS h5 hk).lt (Ty.ne (own_tyS h5 hk) h1.ty (by decide)) (h7 k hk)), ?_, fun k hk e => ?_, h8, h9, ?_⟩, ?_⟩
      · unfold PtR
        rw [row_set g15]
        simp [ptRow]
      · simp only
        rw [List.length_append, show clsV (st.cells ++ l) = clsV st.cells ++ clsV l by simp [clsV]]
        exact ownsRow_set_other' own5 hvP
      · rcases at5 with hat | ⟨hat, _⟩
        · rw [hat] at e; exact h7 k hk e
        · rw [hat] at e
          simp only [Option.some.injEq] at e
          have := (own_tyS h5 hk).lt
          omega
      · simp only [List.length_append]; omega
      · have f1 : Fr (fun k => B ≤ k) (w.setCell ⟨P, 5, none⟩ (.int .i64 ((pages : Int) + 1))) w5 := ⟨gr5.os, gr5.tape, gr5.output, gr5.size, fun k hk hkB => gr5.block k hk (fun e => hkB (by have := (g6.lt k e.symm).1; exact this))⟩
        exact ((Fr.set' (T := fun k => B ≤ k) h8).trans f1 (fun _ _ h => h)).trans (Fr.set' (T := fun k => B ≤ k) h8) (fun _ _ h => h)
    clear h1 h2 h5 h6 hl hnv hs1 hle g6 gl g1 g15 run5 own5 gr5 at5 off1 hcP
    go_enter Tryz.func71, Tryz.ntmps71
    go_wp2_with (first | (at_builtin; refine wpList_append_run rfl (.tmp 26) (.tmp 27) 47 47 rfl _ _ _ rfl rfl R5.out ?_) | go_in)
    go_end0
    exact ⟨rfl, HK.out⟩

set_option maxHeartbeats 4000000 in
set_option maxRecDepth 100000 in
theorem newPart_any (nm : ByteArray) (kind rows : Nat) (opt : Bool) (ap : Option Addr) (n cap : Nat) (w : World) :
    Calls Tryz.prog 34 #[.agg #[.string nm, .int .i64 (kind : Int), .bool opt], .int .i64 (rows : Int), .slice ap n cap] w fun e w' => e = .returned (.agg (ptRow nm kind opt rows (.slice ap n cap) 0 false (.slice none 0 0) (.slice none 0 0))) ∧ Below w.heap.size w w' := by
  go_enter Tryz.func34, Tryz.ntmps34
  go_upto_region 1 with fail
  go_region_with (go_at_call 47; refine (new_any _ _ _ _).mono ?_; rintro e w' ⟨rfl, rfl⟩)
  all_goals
    go_wp2
    exact bodyPost_ret (v := .agg (ptRow nm kind opt rows (.slice ap n cap) 0 false (.slice none 0 0) (.slice none 0 0))) (by simp [results, Tryz.results34, go_sem, ptRow]) rfl ⟨rfl, by first | exact three_below w _ _ _ | exact ((((Below.refl _ _).alloc (Nat.le_refl _) _).alloc (by simp) _).alloc (by simp; omega) _).drew⟩
end Go.Proofs.YtjobhlncllfdmaaGreat

/- Numbers in runs that stand behind something. -/
namespace Go.Proofs.YtjobhlncllfdmaaGreat.Pu

theorem byteAt_app (X Y : List UInt8) (k : Nat) : byteAt (X ++ Y) (X.length + k) = byteAt Y k := by
  unfold byteAt
  rw [List.getD_eq_getElem?_getD, List.getD_eq_getElem?_getD, List.getElem?_append_right (by omega), show X.length + k - X.length = k by omega]
theorem piece_app (X Y : List UInt8) (k n : Nat) : piece (X ++ Y) (X.length + k) n = piece Y k n := by
  unfold piece
  rw [List.drop_append, List.drop_of_length_le (by omega), List.nil_append, show X.length + k - X.length = k by omega]
theorem lo_app (X Y : List UInt8) (k n : Nat) : lo (X ++ Y) (X.length + k) n = lo Y k n := by
  unfold lo
  rw [piece_app, List.length_append]
  by_cases h : k + n ≤ Y.length
  · rw [if_pos h, if_pos (by omega)]
  · rw [if_neg h, if_neg (by omega)]

theorem viGo_app (X Y : List UInt8) (k : Nat) : ∀ f i n, viGo (X ++ Y) (X.length + k) f i n = (viGo Y k f i n).map fun p => (p.1, X.length + p.2) := by
  intro f
  induction f with
  | zero => intro i n; rfl
  | succ f ih =>
    intro i n
    unfold viGo
    rw [Nat.add_assoc, byteAt_app, List.length_append]
    by_cases h : k + i < Y.length
    · rw [if_pos h, if_pos (by omega)]
      split
      · split
        · simp [Nat.add_assoc]
        · rfl
      · exact ih _ _
    · rw [if_neg h, if_neg (by omega)]
      rfl
theorem vi_app (X Y : List UInt8) (k : Nat) : vi (X ++ Y) (X.length + k) = (vi Y k).map fun p => (p.1, X.length + p.2) := viGo_app X Y k 5 0 0

theorem step_app (X Y : List UInt8) (w c k : Nat) (out : List Nat) : step (X ++ Y) w c (X.length + k) out = (step Y w c k out).map fun p => (X.length + p.1, p.2) := by
  unfold step
  rw [vi_app]
  cases vi Y k with
  | none => rfl
  | some p =>
    obtain ⟨h, a⟩ := p
    simp only [Option.map_some]
    split
    · rfl
    · split
      · rw [lo_app]
        cases lo Y a ((w + 7) / 8) with
        | none => rfl
        | some x =>
          simp only
          split
          · rfl
          · simp [Nat.add_assoc]
      · rw [piece_app, List.length_append]
        by_cases hb : c - out.length ≤ 8 * (h / 2) - 8 ∨ Y.length < a + h / 2 * w
        · rw [if_pos hb, if_pos (by omega)]; rfl
        · rw [if_neg hb, if_neg (by omega)]
          split
          · simp [Nat.add_assoc]
          · rfl

theorem rs_app (X Y : List UInt8) (w c : Nat) : ∀ f k out, rs (X ++ Y) w c f (X.length + k) out = (rs Y w c f k out).map fun p => (p.1, X.length + p.2) := by
  intro f
  induction f with
  | zero =>
    intro k out
    unfold rs
    split
    · rfl
    · rfl
  | succ f ih =>
    intro k out
    unfold rs
    split
    · simp only
      rw [step_app]
      cases step Y w c k out with
      | none => rfl
      | some p =>
        obtain ⟨a, o⟩ := p
        simp only [Option.map_some]
        exact ih _ _
    · rfl

/-- runs that are all of L -/
def rsAll (L : List UInt8) (w c : Nat) : Option (List Nat) :=
  match rs L w c c 0 [] with
  | none => none
  | some (l, u) => if u = L.length then some l else none

theorem rs_drop (D : List UInt8) (a w c : Nat) (ha : a ≤ D.length) : rs D w c c a [] = (rs (D.drop a) w c c 0 []).map fun p => (p.1, a + p.2) := by
  have h := rs_app (D.take a) (D.drop a) w c c 0 []
  rw [List.take_append_drop, List.length_take, Nat.min_eq_left ha, Nat.add_zero] at h
  exact h
theorem rs_upto (D : List UInt8) (a n w c : Nat) (ha : a + n ≤ D.length) : rs (D.take (a + n)) w c c a [] = (rs (piece D a n) w c c 0 []).map fun p => (p.1, a + p.2) := by
  have h := rs_drop (D.take (a + n)) a w c (by rw [List.length_take]; omega)
  rw [h, List.drop_take, show a + n - a = n by omega]
  rfl

/-- the levels, as the program reads them -/
def lvT (nulls : Bool) (F : List UInt8) (c : Nat) : Option (List Nat × Nat) :=
  if nulls = false then some (List.replicate c 1, 0) else
  match vi F 0 with
  | none => none
  | some (n, a) => if F.length < a + n then none else
    match rsAll (piece F a n) 1 c with
    | none => none
    | some l => some (l, a + n)

theorem lv_T (opt : Bool) (p : Pg) : lv opt p = lvT (opt && decide (p.sort ≠ 1)) p.body p.cells := by
  unfold lv lvT
  by_cases h : opt = false ∨ p.sort = 1
  · rw [if_pos h, if_pos]
    rcases h with h | h
    · rw [h]; rfl
    · simp [h]
  · rw [if_neg h, if_neg]
    · cases vi p.body 0 with
      | none => rfl
      | some q =>
        obtain ⟨n, a⟩ := q
        simp only
        split
        · rfl
        · rename_i hn
          rw [rs_upto _ _ _ _ _ (by omega)]
          unfold rsAll
          cases rs (piece p.body a n) 1 p.cells p.cells 0 [] with
          | none => rfl
          | some q =>
            obtain ⟨l, u⟩ := q
            simp only [Option.map_some, length_piece _ _ _ (show a + n ≤ p.body.length by omega)]
            by_cases e : u = n
            · rw [if_pos e, if_pos (by omega)]
            · rw [if_neg e, if_neg (by omega)]
    · simp only [not_or] at h
      simp only [Bool.not_eq_false, Bool.and_eq_true, decide_eq_true_eq]
      exact ⟨by simpa using h.1, h.2⟩

/-- bools, as the program reads them -/
def boolsT (F : List UInt8) (a n : Nat) : Option (List Cl × Nat) :=
  if F.length < a + (n + 7) / 8 then none else
  if ((nums (piece F a ((n + 7) / 8)) 1 (8 * ((n + 7) / 8))).drop n).all (· == 0) then some (((nums (piece F a ((n + 7) / 8)) 1 (8 * ((n + 7) / 8))).take n).map boolC, a + (n + 7) / 8) else none

/-- indices, as the program reads them -/
def idxT (dict : List Cl) (F : List UInt8) (a n : Nat) : Option (List Cl × Nat) :=
  if F.length < a + 1 then none else
  if 16 < byteAt F a then none else
  match rsAll (F.drop (a + 1)) (byteAt F a) n with
  | none => none
  | some l => (pick dict l).map fun c => (c, F.length)

/-- values, and the place behind them -/
def valsT (idx : Bool) (kind : Nat) (dict : List Cl) (F : List UInt8) (a n : Nat) : Option (List Cl × Nat) :=
  if idx = true then idxT dict F a n else if kind = 0 then boolsT F a n else eachGo kind F n a []

theorem vals_T (sort kind : Nat) (dict : List Cl) (D : List UInt8) (a n : Nat) (ha : a ≤ D.length) : vals sort kind dict D a n = match valsT (decide (sort = 2)) kind dict D a n with
    | none => none
    | some (l, e) => if e = D.length then some l else none := by
  have key1 : ∀ (c : Bool) (l : List Cl) (e : Nat), e = D.length → (if c = true then some l else none) = (match (if c = true then some (l, e) else none) with
      | none => none
      | some (l, e) => if e = D.length then some l else none) := by intro c l e he; cases c <;> simp [he]
  have key2 : ∀ (c : Bool) (l : List Cl) (e : Nat), e ≠ D.length → none = (match (if c = true then some (l, e) else none) with
      | none => none
      | some (l, e) => if e = D.length then some l else none) := by intro c l e he; cases c <;> simp [he]
  unfold vals valsT
  by_cases hs : sort = 2
  · rw [if_neg (show ¬ sort ≠ 2 by omega), if_pos (show decide (sort = 2) = true by simp [hs])]
    unfold idxT
    by_cases h1 : D.length ≤ a ∨ 16 < byteAt D a
    · rw [if_pos h1]
      by_cases h2 : D.length < a + 1
      · rw [if_pos h2]
      · rw [if_neg h2, if_pos (by omega)]
    · rw [if_neg h1, if_neg (by omega), if_neg (by omega), rs_drop D (a + 1) _ _ (by omega)]
      unfold rsAll
      cases rs (D.drop (a + 1)) (byteAt D a) n n 0 [] with
      | none => rfl
      | some q =>
        obtain ⟨l, u⟩ := q
        simp only [Option.map_some, List.length_drop]
        by_cases e : u = D.length - (a + 1)
        · rw [if_pos e, if_neg (by omega)]
          simp only
          cases hp : pick dict l with
          | none => simp
          | some c => simp
        · rw [if_neg e, if_pos (by omega)]
  · rw [if_pos (show sort ≠ 2 from hs), if_neg (show ¬ decide (sort = 2) = true by simp [hs])]
    unfold plain
    by_cases hk : kind = 0
    · rw [if_pos hk, if_pos hk]
      unfold bools boolsT
      by_cases hm : D.length < a + (n + 7) / 8
      · rw [if_pos (by omega), if_pos hm]
      · rw [if_neg hm]
        by_cases he : D.length - a = (n + 7) / 8
        · rw [if_neg (by simpa using he), ← he]
          have hd : piece D a (D.length - a) = D.drop a := by
            unfold piece
            rw [List.take_of_length_le (by simp)]
          have hb : bitsL (D.drop a) (8 * (D.length - a)) = nums (D.drop a) 1 (8 * (D.length - a)) := by
            unfold bitsL nums
            simp [nAt]
          rw [hd, hb]
          exact key1 _ _ _ (by omega)
        · rw [if_pos (by simpa using he)]
          exact key2 _ _ _ (by omega)
    · rw [if_neg hk, if_neg hk]
      rfl

end Go.Proofs.YtjobhlncllfdmaaGreat.Pu
