/- Contracts of footer.Look and strata.Look. -/
import Derived.Test.YtjobhlncllfdmaaFtH
namespace Go.Proofs.Ytjobhlncllfdmaa
open Go.RowKit

def LookAnsP (base : Nat) (r : Pu.Seen) (e : Ending) (w' : World) : Prop :=
  match r with
  | .bad k => e = .returned (.tuple #[.agg #[.slice none 0 0, .slice none 0 0], .int .i64 (k : Int)])
  | .good _ cs gs => ∃ vc vr, e = .returned (.tuple #[.agg #[vc, vr], .int .i64 0]) ∧ w'.ownsRow base 45 3 vc cs.length (colsV cs) ∧ w'.ownsRow base 3 1 vr gs.length (ints (gs.map Prod.fst))

theorem lookP_good {w w2 : World} {E : Nat} {cs : List Pu.Col} {gs : List (Nat × List (Nat × Nat))} {av ar : Option Addr} {cv cr : Nat} (hc : w2.ownsRow (w.heap.size + 1) 45 3 (.slice av cs.length cv) cs.length (colsV cs)) (hr : w2.ownsRow (w.heap.size + 1) 3 1 (.slice ar gs.length cr) gs.length (ints (gs.map Prod.fst))) {u v : Value} :
    LookAnsP w.heap.size (.good E cs gs) (.returned (.tuple #[.agg #[.slice av cs.length cv, .slice ar gs.length cr], .int .i64 0])) ((w2.setCell ⟨w.heap.size, 0, none⟩ u).setCell ⟨w.heap.size, 1, none⟩ v) := by
  have n1 : (Value.slice av cs.length cv).ownBlock ≠ some w.heap.size := fun e' => by have := (hc.lt _ e').1; omega
  have n2 : (Value.slice ar gs.length cr).ownBlock ≠ some w.heap.size := fun e' => by have := (hr.lt _ e').1; omega
  refine ⟨_, _, rfl, (ownsRow_set_other' (ownsRow_set_other' hc n1) n1).mono (by omega), ?_⟩
  exact (ownsRow_set_other' (R := w.heap.size) (j := 1) (u := v) (ownsRow_set_other' (R := w.heap.size) (j := 0) (u := u) hr n2) n2).mono (base' := w.heap.size) (by omega)

theorem look_small {D : List UInt8} {E : Nat} {cs : List Pu.Col} {gs : List (Nat × List (Nat × Nat))} (h : Pu.look D = .good E cs gs) : cs.length ≤ 20 ∧ gs.length ≤ 50 := by
  rw [look_find] at h
  split at h
  · cases h
  · split at h
    · cases h
    · split at h
      · cases h
      · rename_i hf
        simp only [Pu.Seen.good.injEq] at h
        obtain ⟨rfl, rfl, rfl⟩ := h
        unfold Pu.foot at hf
        split at hf
        · cases hf
        · rename_i hc
          split at hf
          · cases hf
          · rename_i hg
            simp only [Option.some.injEq, Prod.mk.injEq] at hf
            obtain ⟨rfl, rfl⟩ := hf
            exact ⟨(Pu.cols_spec hc).2.1, Pu.grps_spec hg⟩

theorem look_badk {D : List UInt8} {k : Nat} (h : Pu.look D = .bad k) : k ≠ 0 := by
  rw [look_find] at h
  split at h
  · simp only [Pu.Seen.bad.injEq] at h; omega
  · split at h
    · simp only [Pu.Seen.bad.injEq] at h; omega
    · split at h
      · simp only [Pu.Seen.bad.injEq] at h; omega
      · cases h

theorem length_grsV (ws : List (Nat × Value)) : (grsV ws).length = ws.length * 2 := by
  induction ws with
  | nil => rfl
  | cons x xs ih => rw [show grsV (x :: xs) = grV x ++ grsV xs from rfl, List.length_append, ih, List.length_cons]; simp [grV]; omega
theorem grsV_at (ws : List (Nat × Value)) : ∀ k (h : k < ws.length), (grsV ws)[k * 2]? = some (.int .i64 (ws[k].1 : Int)) ∧ (grsV ws)[k * 2 + 1]? = some ws[k].2 := by
  induction ws with
  | nil => intro k h; simp at h
  | cons x xs ih =>
    intro k h
    rw [show grsV (x :: xs) = grV x ++ grsV xs from rfl]
    match k, h with
    | 0, _ => exact ⟨rfl, rfl⟩
    | k + 1, h =>
      have := ih k (by simpa using h)
      rw [List.getElem?_append_right (by simp [grV]; omega), List.getElem?_append_right (by simp [grV]; omega)]
      rw [show (k + 1) * 2 - (grV x).length = k * 2 by simp [grV]; omega, show (k + 1) * 2 + 1 - (grV x).length = k * 2 + 1 by simp [grV]; omega]
      simpa using this
theorem grs_cell {w : World} {B : Nat} {ao : Option Addr} {cap : Nat} {ws : List (Nat × Value)} (h : w.ownsRow B 105 2 (.slice ao ws.length cap) ws.length (grsV ws)) :
    ∀ k, (hk : k < ws.length) → ∃ g, ao = some ⟨g, 0, none⟩ ∧ w.cell? ⟨g, k * 2, none⟩ = some (.int .i64 (ws[k].1 : Int)) ∧ w.cell? ⟨g, k * 2 + 1, none⟩ = some ws[k].2 := by
  intro k hk
  obtain ⟨g, cap', he, _, _⟩ := h.form (by omega)
  simp only [Value.slice.injEq] at he
  obtain ⟨rfl, _, rfl⟩ := he
  refine ⟨g, rfl, ?_, ?_⟩
  · rw [h.cellAt _ (by omega)]; exact (grsV_at ws k hk).1
  · rw [h.cellAt _ (by omega)]; exact (grsV_at ws k hk).2
theorem GL.fsts {w : World} {B : Nat} {ws : List (Nat × Value)} {gs : List (Nat × List (Nat × Nat))} (h : GL w B ws gs) : ws.map Prod.fst = gs.map Prod.fst := by
  apply List.ext_getElem (by simp [h.1])
  intro i h1 h2
  simp only [List.length_map] at h1 h2
  rw [List.getElem_map, List.getElem_map]
  exact (h.2 i _ _ (List.getElem?_eq_getElem h1) (List.getElem?_eq_getElem h2)).1

/-- Look's state: its result in block K, the shape in block S -/
def LkSt (K : Nat) (W : World) (S : Nat) (vc vr v : Value) (cs : List Pu.Col) (ws : List (Nat × Value)) (k : Nat) : Prop :=
  W.heap[K]? = some (.cells #[.slice none 0 0, .slice none 0 0] 39 (0, 0)) ∧ W.heap[S]? = some (.cells #[vc, v] 39 (0, 0)) ∧ K < S ∧ W.ownsRow (K + 1) 45 3 vc cs.length (colsV cs) ∧ W.ownsRow (K + 1) 105 2 vr ws.length (grsV ws) ∧ W.ownsRow (K + 1) 3 1 v k (ints ((ws.map Prod.fst).take k))

section
variable {K : Nat} {W W' : World} {S : Nat} {vc vr v v' : Value} {cs : List Pu.Col} {ws : List (Nat × Value)} {k : Nat}
theorem LkSt.below (h : LkSt K W S vc vr v cs ws k) (hb : Below W.heap.size W W') : LkSt K W' S vc vr v cs ws k := by
  obtain ⟨h1, h2, h3, h4, h5, h6⟩ := h
  exact ⟨by rw [hb.block _ (Array.getElem?_eq_some_iff.1 h1).1]; exact h1, by rw [hb.block _ (Array.getElem?_eq_some_iff.1 h2).1]; exact h2, h3, own_agreeS h4 (fun k hk => hb.block k (own_tyS h4 hk).lt), own_agreeS h5 (fun k hk => hb.block k (own_tyS h5 hk).lt), own_agreeS h6 (fun k hk => hb.block k (own_tyS h6 hk).lt)⟩
theorem LkSt.push {o : Obj} (h : LkSt K W S vc vr v cs ws k) (hk : k < ws.length) (hg : (W.alloc o).grownBy W' v.ownBlock) (ho : W'.ownsRow (K + 1) 3 1 v' (k + 1) (ints ((ws.map Prod.fst).take k) ++ [.int .i64 (ws[k].1 : Int)])) :
    W'.heap[S]? = some (.cells #[vc, v] 39 (0, 0)) ∧ LkSt K (W'.setCell ⟨S, 1, none⟩ v') S vc vr v' cs ws (k + 1) ∧ Below K W (W'.setCell ⟨S, 1, none⟩ v') := by
  obtain ⟨h1, h2, h3, h4, h5, h6⟩ := h
  have t1 : Ty W K 39 := ⟨_, h1⟩
  have t2 : Ty W S 39 := ⟨_, h2⟩
  have ne : ∀ t, t ≠ 3 → ∀ k, Ty W k t → v.ownBlock ≠ some k := fun t ht k hk e' => Ty.ne (own_tyS h6 e') hk (fun e => ht e.symm) rfl
  have hag : ∀ k, k < W.heap.size → v.ownBlock ≠ some k → k ≠ S → (W'.setCell ⟨S, 1, none⟩ v').heap[k]? = W.heap[k]? := fun k a b c => agree_set hg a b c
  have hS : W'.heap[S]? = some (.cells #[vc, v] 39 (0, 0)) := by rw [agree_step hg t2.lt (ne 39 (by decide) S t2)]; exact h2
  refine ⟨hS, ⟨by rw [hag K t1.lt (ne 39 (by decide) K t1) (by omega)]; exact h1, by rw [heap_setCell_same W' S 1 _ _ _ hS]; rfl, h3, own_agreeS h4 (fun k hk => hag k (own_tyS h4 hk).lt (ne 45 (by decide) k (own_tyS h4 hk)) (Ty.ne (own_tyS h4 hk) t2 (by decide))), own_agreeS h5 (fun k hk => hag k (own_tyS h5 hk).lt (ne 105 (by decide) k (own_tyS h5 hk)) (Ty.ne (own_tyS h5 hk) t2 (by decide))), ?_⟩, ?_⟩
  · rw [ints_snoc] at ho
    rw [List.take_succ_eq_append_getElem (by simpa using hk), List.getElem_map]
    exact ownsRow_set_other' ho (fun e' => Ty.ne (own_tyS ho e') ⟨_, hS⟩ (by decide) rfl)
  · have hs : K ≤ W.heap.size := Nat.le_of_lt t1.lt
    exact (((Below.refl K W).alloc hs o).grown hg (by rw [size_alloc']; omega) (fun k e => by have := (h6.lt k e).1; omega)).setCell (by simp only []; omega) v'
end

set_option maxHeartbeats 4000000 in
set_option maxRecDepth 100000 in
theorem flook_any (lb : Nat) (ao : Option Addr) (cap : Nat) (D : List UInt8) (w : World) (h : Rest w lb ao cap D) (hlb : lb < w.heap.size) (hD : D.length ≤ 140737488355328) :
    Calls Try.prog 24 #[.slice ao D.length cap] w fun e w' => LookAnsP w.heap.size (Pu.look D) e w' ∧ Below w.heap.size w w' := by
  have RD : Hid (Calls Try.prog 48 #[.slice ao D.length cap] (w.alloc (.cells #[.slice none 0 0, .slice none 0 0] 39)) fun e w' => FootAns (w.heap.size + 1) (Pu.look D) e w' ∧ Below (w.heap.size + 1) (w.alloc (.cells #[.slice none 0 0, .slice none 0 0] 39)) w') := by
    have := read_any lb ao cap D (w.alloc (.cells #[.slice none 0 0, .slice none 0 0] 39)) (h.kept (Below.heap_alloc _ _ _ hlb)) (by rw [size_alloc']; omega) hD
    rw [size_alloc'] at this
    exact this
  have F0 : Hid (∀ W : World, Below (w.heap.size + 1) (w.alloc (.cells #[.slice none 0 0, .slice none 0 0] 39)) W → W.heap[w.heap.size]? = some (.cells #[.slice none 0 0, .slice none 0 0] 39 (0, 0)) ∧ Below w.heap.size w W) := fun W hW => by
    refine ⟨?_, ((Below.refl _ _).alloc (Nat.le_refl _) _).trans (hW.mono (by omega))⟩
    rw [hW.block _ (by omega)]; exact heap_alloc_new w _
  clear h
  cases hl : Pu.look D with
  | bad k =>
    rw [hl] at RD
    have hk0 : ((k : Int) != 0) = true := by have := look_badk hl; simp; omega
    clear hl
    go_enter Try.func24, Try.ntmps24
    go_wp2_with fail
    refine RD.out.mono ?_
    rintro e w1 ⟨rfl, hb1⟩
    obtain ⟨r1, B1⟩ := F0.out w1 hb1
    have hlt : w.heap.size < w1.heap.size := (Array.getElem?_eq_some_iff.1 r1).1
    have k0 : w1.cell? ⟨w.heap.size, 0, none⟩ = some (.slice none 0 0) := by rw [cell_of_row _ _ 0 _ _ _ r1]; rfl
    have k1 : w1.cell? ⟨w.heap.size, 1, none⟩ = some (.slice none 0 0) := by rw [cell_of_row _ _ 1 _ _ _ r1]; rfl
    have g0 := frozen_of_row _ _ 0 _ _ r1
    have g1 := frozen_of_row _ _ 1 _ _ r1
    have FF := row_alloc (set2_row r1 (.slice none 0 0) (.slice none 0 0)) (.cells #[.slice none 0 0, .slice none 0 0, .int .i64 0] 100)
    have q0 := cell_of_row _ _ 0 _ _ _ FF
    have q1 := cell_of_row _ _ 1 _ _ _ FF
    simp only [List.getElem?_toArray, List.getElem?_cons_zero, List.getElem?_cons_succ] at q0 q1
    clear FF r1 hb1
    go_wp2
    exact bodyPost_ret (v := .tuple #[.agg #[.slice none 0 0, .slice none 0 0], .int .i64 (k : Int)]) (by simp [results, Try.results24, go_sem, q0, q1]) rfl ⟨rfl, ((B1.setCell (Nat.le_refl _) _).setCell (Nat.le_refl _) _).alloc (by rw [size_set, size_set]; omega) _⟩
  | good E cs gs =>
    rw [hl] at RD
    obtain ⟨hcs, hgs⟩ := look_small hl
    clear hl
    go_enter Try.func24, Try.ntmps24
    go_wp2_with fail
    refine RD.out.mono ?_
    rintro e w1 ⟨⟨vc, vr, ws, rfl, hc, hr, hL⟩, hb1⟩
    obtain ⟨av, cv, rfl⟩ := slen_of hc
    obtain ⟨ar, cr, rfl⟩ := slen_of hr
    obtain ⟨r1, B1⟩ := F0.out w1 hb1
    have hlt : w.heap.size < w1.heap.size := (Array.getElem?_eq_some_iff.1 r1).1
    have HFs : Hid (ws.map Prod.fst = gs.map Prod.fst) := hL.fsts
    have HLn : Hid (ws.length = gs.length) := hL.1
    have HVp : Hid (∀ k, (hk : k < ws.length) → ∃ a n c, ws[k].2 = .slice a n c) := fun k hk => by
      have := (hL.2 k _ _ (List.getElem?_eq_getElem hk) (List.getElem?_eq_getElem (by rw [← hL.1]; exact hk))).2
      obtain ⟨a, c, e⟩ := slen_of this
      exact ⟨a, _, c, e⟩
    have hwl : ws.length ≤ 50 := by rw [hL.1]; exact hgs
    -- the state at the loop's beginning
    have HS0 : Hid (LkSt w.heap.size ((w1.alloc (.cells #[.slice av cs.length cv, .slice ar ws.length cr, .int .i64 (E : Int)] 100)).alloc (.cells #[.slice av cs.length cv, .slice none 0 0] 39)) (w1.heap.size + 1) (.slice av cs.length cv) (.slice ar ws.length cr) (.slice none 0 0) cs ws 0) := by
      have hb : Below w1.heap.size w1 ((w1.alloc (.cells #[.slice av cs.length cv, .slice ar ws.length cr, .int .i64 (E : Int)] 100)).alloc (.cells #[.slice av cs.length cv, .slice none 0 0] 39)) := ((Below.refl _ _).alloc (Nat.le_refl _) _).alloc (by rw [size_alloc']; omega) _
      refine ⟨by rw [hb.block _ hlt]; exact r1, ?_, by omega, own_agreeS hc (fun k hk => hb.block k (own_tyS hc hk).lt), own_agreeS hr (fun k hk => hb.block k (own_tyS hr hk).lt), World.ownsRow_nil _ _ _ _⟩
      have := heap_alloc_new (w1.alloc (.cells #[.slice av cs.length cv, .slice ar ws.length cr, .int .i64 (E : Int)] 100)) (.cells #[.slice av cs.length cv, .slice none 0 0] 39)
      rw [size_alloc'] at this
      exact this
    have HB0 : Hid (Below w.heap.size w ((w1.alloc (.cells #[.slice av cs.length cv, .slice ar ws.length cr, .int .i64 (E : Int)] 100)).alloc (.cells #[.slice av cs.length cv, .slice none 0 0] 39))) := (B1.alloc (by omega) _).alloc (by rw [size_alloc']; omega) _
    clear r1 B1 hb1 hc hr hL
    go_wp2
    go_loopw [24] (fun i wr => ∃ (k : Nat) (a5 : Option Addr) (c5 : Nat), k ≤ ws.length ∧ i = .int .i64 k ∧ Hid (LkSt w.heap.size wr (w1.heap.size + 1) (.slice av cs.length cv) (.slice ar ws.length cr) (.slice a5 k c5) cs ws k) ∧ Hid (Below w.heap.size w wr)) (fun i _ => ws.length - (intOf i).toNat)
    case atStart => exact ⟨0, none, 0, by omega, rfl, HS0, HB0⟩
    case round =>
      obtain ⟨k, a5, c5, hk, rfl, HS, HB⟩ := hrel
      by_cases hk2 : k < ws.length
      · obtain ⟨g, rfl, d1, d2⟩ := grs_cell HS.out.2.2.2.2.1 k hk2
        obtain ⟨r, hr⟩ : ∃ r, r = ws[k].1 := ⟨_, rfl⟩
        obtain ⟨pa, pn, pc, hvp⟩ := HVp.out k hk2
        rw [← hr] at d1
        rw [hvp] at d2
        have HSa : Hid (LkSt w.heap.size (wr.alloc (.cells #[.int .i64 (r : Int), .slice pa pn pc] 105)) (w1.heap.size + 1) (.slice av cs.length cv) (.slice (some ⟨g, 0, none⟩) ws.length cr) (.slice a5 k c5) cs ws k) := HS.out.below ((Below.refl _ _).alloc (Nat.le_refl _) _)
        have hszw : w.heap.size ≤ wr.heap.size := HB.out.size
        have HBa : Hid (Below w.heap.size w (wr.alloc (.cells #[.int .i64 (r : Int), .slice pa pn pc] 105))) := HB.out.alloc hszw _
        have e1 := cell_of_row _ _ 1 _ _ _ HSa.out.2.1
        simp only [List.getElem?_toArray, List.getElem?_cons_zero, List.getElem?_cons_succ] at e1
        have ho := HSa.out.2.2.2.2.2
        obtain ⟨i0, hi, hz0, hz1, hz2⟩ := info_parts Try.info3
        have Hr : Hid (r = ws[k].1) := hr
        clear hr hvp
        go_wp2_with (first
          | (at_builtin; refine wpList_append_own _ rfl _ _ 26 rfl (w.heap.size + 1) 3 i0 (.int .i64 0) 1 8 Try.underlying26 hi hz0 hz1 hz2 rfl (by decide) _ _ _ rfl (ho.alloc _) ⟨_, 0, none⟩ 1 1 [.int .i64 (r : Int)] rfl rfl ?d1 ?d2 ?d3 ?d4 ?d5 ?_)
          | go_in)
        case d1 => exact one_new (by rw [size_alloc'])
        case d2 => exact one_cell
        case d3 => unfold maxLen; omega
        case d4 => omega
        case d5 => rw [size_alloc', size_alloc']; omega
        intro v' w4 own4 gr4 hnn
        clear hnn
        obtain ⟨a6, c6, hv6⟩ := slen_of own4
        rw [hv6] at own4 ⊢
        clear hv6 v'
        rw [Hr.out] at own4
        obtain ⟨p1, p2, p3⟩ := HSa.out.push hk2 gr4 own4
        have e2 := cell_of_row _ _ 1 _ _ _ p1
        have f2 := frozen_of_row _ _ 1 _ _ p1
        simp only [List.getElem?_toArray, List.getElem?_cons_zero, List.getElem?_cons_succ] at e2
        have HS4 : Hid (LkSt w.heap.size (w4.setCell ⟨w1.heap.size + 1, 1, none⟩ (.slice a6 (k + 1) c6)) (w1.heap.size + 1) (.slice av cs.length cv) (.slice (some ⟨g, 0, none⟩) ws.length cr) (.slice a6 (k + 1) c6) cs ws (k + 1)) := p2
        have HB4 : Hid (Below w.heap.size w (w4.setCell ⟨w1.heap.size + 1, 1, none⟩ (.slice a6 (k + 1) c6))) := HBa.out.trans p3
        clear own4 gr4 p1 p2 p3 ho HSa HBa
        go_wp2
        go_roundw
        case rel => exact ⟨k + 1, _, _, by omega, by go_num, HS4, HB4⟩
        case measure => simp [intOf]; omega
      · obtain rfl : k = ws.length := by omega
        obtain ⟨h1, h2, h3, h4, h5, h6⟩ := HS.out
        have e0 := cell_of_row _ _ 0 _ _ _ h2
        have e1 := cell_of_row _ _ 1 _ _ _ h2
        have k0 := cell_of_row _ _ 0 _ _ _ h1
        have k1 := cell_of_row _ _ 1 _ _ _ h1
        have g0 := frozen_of_row _ _ 0 _ _ h1
        have g1 := frozen_of_row _ _ 1 _ _ h1
        have FF := set2_row h1 (.slice av cs.length cv) (.slice a5 ws.length c5)
        have q0 := cell_of_row _ _ 0 _ _ _ FF
        have q1 := cell_of_row _ _ 1 _ _ _ FF
        simp only [List.getElem?_toArray, List.getElem?_cons_zero, List.getElem?_cons_succ] at e0 e1 k0 k1 q0 q1
        have HA : Hid (LookAnsP w.heap.size (.good E cs gs) (.returned (.tuple #[.agg #[.slice av cs.length cv, .slice a5 ws.length c5], .int .i64 0])) ((wr.setCell ⟨w.heap.size, 0, none⟩ (.slice av cs.length cv)).setCell ⟨w.heap.size, 1, none⟩ (.slice a5 ws.length c5))) := by
          have h6' := h6
          rw [show (ws.map Prod.fst).take ws.length = ws.map Prod.fst from by rw [List.take_of_length_le (by simp)], HFs.out] at h6'
          have hln := HLn.out
          rw [hln] at h6' ⊢
          exact lookP_good h4 h6'
        clear FF h1 h2 h4 h5 h6
        go_wp2
        exact bodyPost_ret (v := .tuple #[.agg #[.slice av cs.length cv, .slice a5 ws.length c5], .int .i64 0]) (by simp [results, Try.results24, go_sem, q0, q1]) rfl ⟨HA.out, (HB.out.setCell (Nat.le_refl _) _).setCell (Nat.le_refl _) _⟩

set_option maxHeartbeats 2000000 in
set_option maxRecDepth 100000 in
theorem look_any (lb : Nat) (ao : Option Addr) (cap : Nat) (D : List UInt8) (w : World) (h : Rest w lb ao cap D) (hlb : lb < w.heap.size) (hD : D.length ≤ 140737488355328) :
    Calls Try.prog 9 #[.slice ao D.length cap] w fun e w' => LookAnsP w.heap.size (Pu.look D) e w' ∧ Below w.heap.size w w' := by
  have RD : Hid (Calls Try.prog 24 #[.slice ao D.length cap] (w.alloc (.cells #[.slice none 0 0, .slice none 0 0] 39)) fun e w' => LookAnsP (w.heap.size + 1) (Pu.look D) e w' ∧ Below (w.heap.size + 1) (w.alloc (.cells #[.slice none 0 0, .slice none 0 0] 39)) w') := by
    have := flook_any lb ao cap D (w.alloc (.cells #[.slice none 0 0, .slice none 0 0] 39)) (h.kept (Below.heap_alloc _ _ _ hlb)) (by rw [size_alloc']; omega) hD
    rw [size_alloc'] at this
    exact this
  have F0 : Hid (∀ W : World, Below (w.heap.size + 1) (w.alloc (.cells #[.slice none 0 0, .slice none 0 0] 39)) W → W.heap[w.heap.size]? = some (.cells #[.slice none 0 0, .slice none 0 0] 39 (0, 0)) ∧ Below w.heap.size w W) := fun W hW => by
    refine ⟨?_, ((Below.refl _ _).alloc (Nat.le_refl _) _).trans (hW.mono (by omega))⟩
    rw [hW.block _ (by omega)]; exact heap_alloc_new w _
  clear h
  cases hl : Pu.look D with
  | bad k =>
    rw [hl] at RD
    clear hl
    go_enter Try.func9, Try.ntmps9
    go_wp2_with fail
    refine RD.out.mono ?_
    rintro e w1 ⟨rfl, hb1⟩
    obtain ⟨r1, B1⟩ := F0.out w1 hb1
    have k0 : w1.cell? ⟨w.heap.size, 0, none⟩ = some (.slice none 0 0) := by rw [cell_of_row _ _ 0 _ _ _ r1]; rfl
    have k1 : w1.cell? ⟨w.heap.size, 1, none⟩ = some (.slice none 0 0) := by rw [cell_of_row _ _ 1 _ _ _ r1]; rfl
    have g0 := frozen_of_row _ _ 0 _ _ r1
    have g1 := frozen_of_row _ _ 1 _ _ r1
    have FF := set2_row r1 (.slice none 0 0) (.slice none 0 0)
    have q0 := cell_of_row _ _ 0 _ _ _ FF
    have q1 := cell_of_row _ _ 1 _ _ _ FF
    simp only [List.getElem?_toArray, List.getElem?_cons_zero, List.getElem?_cons_succ] at q0 q1
    clear FF r1 hb1
    go_wp2
    exact bodyPost_ret (v := .tuple #[.agg #[.slice none 0 0, .slice none 0 0], .int .i64 (k : Int)]) (by simp [results, Try.results9, go_sem, q0, q1]) rfl ⟨rfl, (B1.setCell (Nat.le_refl _) _).setCell (Nat.le_refl _) _⟩
  | good E cs gs =>
    rw [hl] at RD
    clear hl
    go_enter Try.func9, Try.ntmps9
    go_wp2_with fail
    refine RD.out.mono ?_
    rintro e w1 ⟨⟨vc, vr, rfl, hc, hr⟩, hb1⟩
    obtain ⟨av, cv, rfl⟩ := slen_of hc
    obtain ⟨ar, cr, rfl⟩ := slen_of hr
    obtain ⟨r1, B1⟩ := F0.out w1 hb1
    have k0 : w1.cell? ⟨w.heap.size, 0, none⟩ = some (.slice none 0 0) := by rw [cell_of_row _ _ 0 _ _ _ r1]; rfl
    have k1 : w1.cell? ⟨w.heap.size, 1, none⟩ = some (.slice none 0 0) := by rw [cell_of_row _ _ 1 _ _ _ r1]; rfl
    have g0 := frozen_of_row _ _ 0 _ _ r1
    have g1 := frozen_of_row _ _ 1 _ _ r1
    have FF := set2_row r1 (.slice av cs.length cv) (.slice ar gs.length cr)
    have q0 := cell_of_row _ _ 0 _ _ _ FF
    have q1 := cell_of_row _ _ 1 _ _ _ FF
    simp only [List.getElem?_toArray, List.getElem?_cons_zero, List.getElem?_cons_succ] at q0 q1
    have Hc : Hid (w1.ownsRow (w.heap.size + 1) 45 3 (.slice av cs.length cv) cs.length (colsV cs)) := hc
    have Hr : Hid (w1.ownsRow (w.heap.size + 1) 3 1 (.slice ar gs.length cr) gs.length (ints (gs.map Prod.fst))) := hr
    clear FF r1 hb1 hc hr
    go_wp2
    exact bodyPost_ret (v := .tuple #[.agg #[.slice av cs.length cv, .slice ar gs.length cr], .int .i64 0]) (by simp [results, Try.results9, go_sem, q0, q1]) rfl ⟨lookP_good Hc.out Hr.out, (B1.setCell (Nat.le_refl _) _).setCell (Nat.le_refl _) _⟩
end Go.Proofs.Ytjobhlncllfdmaa
