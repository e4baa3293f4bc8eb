/- Writes: its walk. -/
import Derived.Test.YtjobhlncllfdmaaM48
import Derived.Test.YtjobhlncllfdmaaM49
namespace Go.Proofs.Ytjobhlncllfdmaa
open Go.RowKit Go.Maps

theorem TI.mono {w : World} {Bt Bt' : Nat} {ac : Option Addr} {cc : Nat} {at' : Option Addr} {ct : Nat} {rs : List RC} {ts : List (List Pu.Cl)} {vs : List Value} (h : TI w Bt ac cc at' ct rs ts vs) (hb : Bt ≤ Bt') : TI w Bt' ac cc at' ct rs ts vs := by
  obtain ⟨l1, a1, b1⟩ := h.cols
  obtain ⟨l2, a2, b2⟩ := h.lists
  refine ⟨⟨l1, a1, fun q => Nat.lt_of_lt_of_le (b1 q) hb⟩, ⟨l2, a2, fun q => Nat.lt_of_lt_of_le (b2 q) hb⟩, fun i hi => ?_, h.names, h.texts, h.few, h.fewT⟩
  obtain ⟨ai, ci, lbi, e1, e2, e3⟩ := h.each i hi
  exact ⟨ai, ci, lbi, e1, e2, fun q => Nat.lt_of_lt_of_le (e3 q) hb⟩

/-- the document's table -/
def exRs : List RC := [([97], 1, false)]
def exTs : List (List Pu.Cl) := [[⟨false, 1, []⟩, ⟨false, 2, []⟩]]
theorem ex_tr {W : World} {gc gt gl : Nat} (h : ExT W gc gt gl) : TR W W.heap.size (some ⟨gc, 0, none⟩) 1 (some ⟨gt, 0, none⟩) 1 exRs exTs gc gt [.slice (some ⟨gl, 0, none⟩) 2 2] := by
  obtain ⟨c0, c1, c2, c3, c4, c5, c6, c7, c8, c9⟩ := h.cells
  obtain ⟨h1, h2, h3⟩ := h
  refine ⟨⟨Nat.le_refl 1, by decide, rfl, .inr ⟨0, rfl, fun j hj => ?_⟩⟩, (Array.getElem?_eq_some_iff.1 h1).1, ⟨Nat.le_refl 1, by decide, rfl, .inr ⟨0, rfl, fun j hj => ?_⟩⟩, (Array.getElem?_eq_some_iff.1 h2).1, fun i hi => ?_, fun c hc => ?_, fun t ht => ?_⟩
  · match j, hj with
    | 0, _ => exact c0
    | 1, _ => exact c1
    | 2, _ => exact c2
  · match j, hj with
    | 0, _ => exact c3
  · match i, hi with
    | 0, _ =>
      refine ⟨some ⟨gl, 0, none⟩, 2, gl, rfl, ⟨Nat.le_refl 2, by decide, rfl, .inr ⟨0, rfl, fun j hj => ?_⟩⟩, (Array.getElem?_eq_some_iff.1 h3).1⟩
      match j, hj with
      | 0, _ => exact c4
      | 1, _ => exact c5
      | 2, _ => exact c6
      | 3, _ => exact c7
      | 4, _ => exact c8
      | 5, _ => exact c9
  · simp [exRs] at hc
    subst hc
    decide
  · simp [exTs] at ht
    subst ht
    refine ⟨by decide, fun c hc => ?_⟩
    simp at hc
    rcases hc with rfl | rfl <;> decide
theorem ex_err : wrE exRs exTs 10 = 0 := by decide +kernel

set_option maxHeartbeats 4000000 in
set_option maxRecDepth 100000 in
theorem writes_top (rows : Int) (ac : Option Addr) (cc : Nat) (at' : Option Addr) (ct : Nat) (rs : List RC) (ts : List (List Pu.Cl)) (vs : List Value) (w : World) (hTI : TI w w.heap.size ac cc at' ct rs ts vs) :
    Calls Try.prog 5 #[.agg #[.slice ac rs.length cc, .slice at' ts.length ct], .int .i64 rows] w fun e w' => e = .returned (.bool true) ∧ Below w.heap.size w w' := by
  obtain ⟨S, hS⟩ : ∃ S, S = w.heap.size := ⟨_, rfl⟩
  obtain ⟨N, hN⟩ : ∃ N, N = rs.length := ⟨_, rfl⟩
  obtain ⟨T, hTl⟩ : ∃ T, T = ts.length := ⟨_, rfl⟩
  obtain ⟨W1, hW1⟩ : ∃ W1, W1 = w.alloc (.cells #[.slice ac N cc, .slice at' T ct] 50) := ⟨_, rfl⟩
  have s1 : W1.heap.size = S + 1 := by rw [hW1, size_alloc', hS]
  have b1 : Below S w W1 := by rw [hS, hW1]; exact bbox w _
  have r1 : W1.heap[S]? = some (.cells #[.slice ac N cc, .slice at' T ct] 50 (0, 0)) := by rw [hW1, hS]; exact heap_alloc_new w _
  obtain ⟨W2, hW2⟩ : ∃ W2, W2 = W1.alloc (.cells #[.int .i64 0, .slice none 0 0, .slice none 0 0, .slice none 0 0, .slice none 0 0, .slice none 0 0, .slice none 0 0, .slice none 0 0, .slice none 0 0, .slice none 0 0, .slice none 0 0] 31) := ⟨_, rfl⟩
  have b2 : Below (S + 1) W1 W2 := by rw [← s1, hW2]; exact bbox W1 _
  have hbk := Book5.start W1
  rw [s1] at hbk
  have BK2 : Book5 W2 (S + 1) (S + 1) (fun k => k = S + 1) 0 := by rw [hW2]; exact hbk
  have tb : Ty W2 (S + 1) 31 := ⟨_, by rw [hW2, ← s1]; exact heap_alloc_new W1 _⟩
  have s2 : W2.heap.size = S + 2 := by rw [hW2, size_alloc', s1]
  -- the table, its box, later
  have HTI : Hid (∀ W, Below (S + 1) W1 W → TI W (S + 1) ac cc at' ct rs ts vs) := fun W hW => (hTI.kept (w' := W) (fun k hk => by rw [hW.block k (by omega), b1.block k (by omega)])).mono (by omega)
  have BOX : Hid (∀ W, Below (S + 1) W1 W → W.cell? ⟨S, 0, none⟩ = some (.slice ac N cc) ∧ W.cell? ⟨S, 1, none⟩ = some (.slice at' T ct)) := fun W hW => by
    have : W.heap[S]? = some (.cells #[.slice ac N cc, .slice at' T ct] 50 (0, 0)) := by rw [hW.block S (by omega)]; exact r1
    exact ⟨by rw [cell_of_row _ _ 0 _ _ _ this]; rfl, by rw [cell_of_row _ _ 1 _ _ _ this]; rfl⟩
  obtain ⟨D, hD⟩ : ∃ D, D = wrB exRs exTs 10 := ⟨_, rfl⟩
  obtain ⟨td, htd⟩ : ∃ td : ByteArray, td = ⟨D.toArray⟩ := ⟨_, rfl⟩
  obtain ⟨n, hn⟩ : ∃ n, n = D.length := ⟨_, rfl⟩
  have EX : Hid (∀ W : World, Calls Try.prog 14 #[] W fun e w' => ∃ gc gt gl : Nat, e = .returned (.agg #[.slice (some ⟨gc, 0, none⟩) 1 1, .slice (some ⟨gt, 0, none⟩) 1 1]) ∧ Hid (ExT w' gc gt gl ∧ Below W.heap.size W w')) := fun W => example_any W
  have C13 : Hid (∀ (W : World) (gc gt gl : Nat), ExT W gc gt gl → Calls Try.prog 13 #[.agg #[.slice (some ⟨gc, 0, none⟩) 1 1, .slice (some ⟨gt, 0, none⟩) 1 1], .int .i64 10] W fun e w' => e = .returned (.tuple #[.string td, .int .i64 0]) ∧ Below W.heap.size W w') := fun W gc gt gl h => by
    have := refWrite_any W.heap.size 10 _ 1 _ 1 exRs exTs gc gt _ W (ex_tr h) (Nat.le_refl _) (by decide) (by decide)
    rw [ex_err, ← hD, ← htd] at this
    exact this
  have C15 : Hid (∀ (W : World) (gc gt gl : Nat), ExT W gc gt gl → Calls Try.prog 15 #[.agg #[.slice (some ⟨gc, 0, none⟩) 1 1, .slice (some ⟨gt, 0, none⟩) 1 1], .int .i64 10] W fun e w' => ∃ av cv, e = .returned (.tuple #[.slice av n cv, .int .i64 0]) ∧ Hid (Below W.heap.size W w' ∧ w'.ownsRow W.heap.size 5 1 (.slice av n cv) n (bytesV D))) := fun W gc gt gl h => by
    have := strataWrite_any W.heap.size 10 _ 1 _ 1 exRs exTs gc gt _ W (ex_tr h) (Nat.le_refl _) (by decide) (by decide)
    rw [ex_err, ← hD] at this
    refine this.mono ?_
    rintro e w' ⟨hb, v, rfl, ho⟩
    obtain ⟨a, c, rfl⟩ := slen_of ho
    rw [hn]
    exact ⟨a, c, rfl, hb, ho⟩
  have C16 : Hid (∀ W, Below (S + 2) W2 W → Calls Try.prog 16 #[.pointer (some ⟨S + 1, 0, none⟩), .agg #[.slice ac N cc, .slice at' T ct], .int .i64 rows] W fun e w' => e = .returned (.bool true) ∧ Hid (∃ A', Chain W (S + 1) (S + 1) 20000000 A' w' ∧ ∀ x, x < W.heap.size → x ≠ S + 1 → w'.heap[x]? = W.heap[x]?)) := fun W hW => by
    have hb1 : Below (S + 1) W1 W := b2.trans (hW.mono (by omega))
    have hbk : Book5 W (S + 1) (S + 1) (fun k => k = S + 1) 0 := BK2.below hW (by omega)
    have := bwrites (S + 1) (S + 1) 0 (fun k => k = S + 1) rows ac cc at' ct rs ts vs W hbk (HTI.out W hb1) (by omega)
    rw [← hN, ← hTl] at this
    exact this
  have C8 : Hid (∀ (W : World) (A : Nat → Prop), Book5 W (S + 1) (S + 1) A 20000000 → Calls Try.prog 8 #[.pointer (some ⟨S + 1, 0, none⟩)] W fun e w' => e = .returned (.bool true) ∧ ∃ q, w' = W.drewN q) := fun W A h => looks5 (S + 1) (S + 1) A 20000000 W h (by omega)
  have HTD := hid (show td = ⟨D.toArray⟩ from htd)
  have Hn := hid hn
  have HB1 := hid b1
  have HB2 := hid b2
  have HTB := hid tb
  have Hs2 := hid s2
  rw [← hN, ← hTl, ← hS]
  have hW1' : w.alloc (.cells #[.slice ac N cc, .slice at' T ct] 50) = W1 := hW1.symm
  have hW2' : W1.alloc (.cells #[.int .i64 0, .slice none 0 0, .slice none 0 0, .slice none 0 0, .slice none 0 0, .slice none 0 0, .slice none 0 0, .slice none 0 0, .slice none 0 0, .slice none 0 0, .slice none 0 0] 31) = W2 := hW2.symm
  have hsz : w.heap.size = S := hS.symm
  clear hTI hN hTl hW1 hW2 hS b1 b2 r1 hbk BK2 tb hD htd hn s2 HTI
  go_enter Try.func5, Try.ntmps5
  go_wp2_with fail
  refine (EX.out _).mono ?_
  rintro e w3 ⟨gc, gt, gl, rfl, H3⟩
  have B3 : Hid (Below (S + 2) W2 w3) := by rw [Hid, ← Hs2.out]; exact H3.out.2
  have C13' := hid (C13.out w3 gc gt gl H3.out.1)
  clear H3 C13
  go_wp2_with fail
  refine C13'.out.mono ?_
  rintro e w4 ⟨rfl, hb4⟩
  have B4 : Hid (Below (S + 2) W2 w4) := B3.out.trans (hb4.mono (by have h1 := B3.out.size; have h2 := Hs2.out; omega))
  clear hb4 C13' B3
  go_wp2_with fail
  refine (EX.out _).mono ?_
  rintro e w5 ⟨gc2, gt2, gl2, rfl, H5⟩
  have B5 : Hid (Below (S + 2) W2 w5) := B4.out.trans (H5.out.2.mono (by have h1 := B4.out.size; have h2 := Hs2.out; omega))
  have C15' := hid (C15.out w5 gc2 gt2 gl2 H5.out.1)
  clear H5 C15 EX B4
  go_wp2_with fail
  refine C15'.out.mono ?_
  rintro e w6 ⟨av, cv, rfl, H6⟩
  have B6 : Hid (Below (S + 2) W2 w6) := B5.out.trans (H6.out.1.mono (by have h1 := B5.out.size; have h2 := Hs2.out; omega))
  have HO6 : Hid (w6.ownsRow w5.heap.size 5 1 (.slice av n cv) n (bytesV D)) := H6.out.2
  have B16 : Hid (Below (S + 1) W1 w6) := HB2.out.trans (B6.out.mono (by omega))
  obtain ⟨q0, q1⟩ := BOX.out w6 B16.out
  have C16' := hid (C16.out w6 B6.out)
  clear H6 C15' C16 BOX
  go_wp2_with fail
  refine C16'.out.mono ?_
  rintro e w7 ⟨rfl, H7⟩
  obtain ⟨A7, c7, f7⟩ := H7.out
  have HO7 : Hid (w7.ownsRow w5.heap.size 5 1 (.slice av n cv) n (bytesV D)) := own_agreeS HO6.out (fun k hk => f7 k (own_tyS HO6.out hk).lt (fun e => by
    have t6 : Ty w6 (S + 1) 31 := by
      obtain ⟨cur, h⟩ := HTB.out
      exact ⟨cur, by rw [B6.out.block (S + 1) (by omega)]; exact h⟩
    subst e
    exact Ty.ne (own_tyS HO6.out hk) t6 (by decide) rfl))
  have B7 : Hid (Below S w w7) := HB1.out.trans ((B16.out.mono (by omega)).trans (c7.2.mono (by omega)))
  have C8' := hid (C8.out w7 A7 c7.1)
  clear c7 f7 H7 C16' C8 HO6 B16 B6 B5
  go_wp2_with fail
  refine C8'.out.mono ?_
  rintro e w' ⟨rfl, q, hw'⟩
  have HO8 : Hid (w'.ownsRow w5.heap.size 5 1 (.slice av n cv) n (bytesV D)) := by
    rw [hw']
    exact own_agreeS HO7.out (fun k hk => (below_drewN (Below.refl w7.heap.size w7) q).block k (own_tyS HO7.out hk).lt)
  have B8 : Hid (Below S w w') := by rw [hw']; exact below_drewN B7.out q
  have hcv : (convert 24 9 (.slice av n cv)).run Try.prog w' = .ok (.string td) w' := by
    have h := HO8.out
    rw [Hn.out] at h ⊢
    rw [HTD.out]
    exact text_own h
  clear hw' C8' HO7 B7 HO8
  go_wp2
  go_ret
  exact ⟨rfl, B8.out⟩
end Go.Proofs.Ytjobhlncllfdmaa
