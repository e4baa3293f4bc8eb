/- (*Book).writes. -/
import Derived.Test.YtjobhlncllfdmaaM36
import Derived.Test.YtjobhlncllfdmaaM37
import Derived.Test.YtjobhlncllfdmaaM48
import Derived.Test.YtjobhlncllfdmaaM49
import Derived.Test.YtjobhlncllfdmaaM44
namespace Go.Proofs.Ytjobhlncllfdmaa
open Go.RowKit Go.Maps

theorem wrE_le (rs : List RC) (ts : List (List Pu.Cl)) (rows : Int) : wrE rs ts rows ≤ 14 := by
  unfold wrE
  split
  · omega
  · split <;> omega
theorem length_wrB (rs : List RC) (ts : List (List Pu.Cl)) (rows : Int) : (wrB rs ts rows).length ≤ 100000000000000 := by
  unfold wrB
  split
  · rename_i h
    unfold wrE at h
    split at h
    · omega
    · rename_i hr
      split at h
      · rename_i ht
        obtain ⟨r, rfl⟩ : ∃ r : Nat, rows = (r : Int) := ⟨rows.toNat, by omega⟩
        rw [Int.toNat_natCast] at ht ⊢
        unfold tabOk at ht
        simp only [Bool.and_eq_true] at ht
        obtain ⟨⟨hsh, hco⟩, hce⟩ := ht
        obtain ⟨g1, g2, g3, g4, g5, g6⟩ := shapeOk_spec hsh
        have hcsp := colsOk_spec hco
        have hcl : (rs.map toCol).length = rs.length := List.length_map ..
        have htx : ∀ t ∈ ts, ∀ c ∈ t, c.s.length ≤ 1000 := fun t ht c hc => by
          obtain ⟨i, hi, rfl⟩ := List.getElem_of_mem ht
          exact (fits_ok (cellsOk_spec hce i (by omega) hi c hc)).1
        obtain ⟨k1, k2, k3⟩ := gsGo_ok (rs.map toCol) ts r (nRows ts) (by omega) (by omega) g4 g5 (by omega) (by omega) htx (nRows ts) 0 stra [] (by omega) (by simp [stra]) (by simp) (by simp) (fun g hg => by cases hg)
        have hft := length_footL (rs.map toCol) (gsGo (rs.map toCol) ts r (nRows ts) (nRows ts) 0 stra []).2 (by omega) (fun c hc => by
          obtain ⟨d, hd, rfl⟩ := List.mem_map.1 hc
          have := (hcsp d hd).2.1
          show d.1.length ≤ 1000
          omega) k1 k2
        unfold fileL endL
        simp only [List.length_append, length_leB]
        have : stra.length = 4 := rfl
        omega
      · omega
  · simp

set_option maxRecDepth 100000 in
/-- bytes of one's own as a text -/
theorem text_own {w : World} {B : Nat} {ao : Option Addr} {cap : Nat} {D : List UInt8} (h : w.ownsRow B 5 1 (.slice ao D.length cap) D.length (bytesV D)) : (convert 24 9 (.slice ao D.length cap)).run Try.prog w = .ok (.string ⟨D.toArray⟩) w := by
  rcases h.2 with ⟨hv, h0⟩ | ⟨g, cap', cur, hv, _⟩
  · simp only [Value.slice.injEq] at hv
    obtain ⟨rfl, _, rfl⟩ := hv
    have hD : D = [] := List.eq_nil_of_length_eq_zero h0
    subst hD
    have := run_convert_bytes_back (P := Try.prog) w 24 9 5 ⟨0, 0, none⟩ 0 [] Try.underlying24 Try.underlying5 Try.underlying9 (fun j hj => by simp at hj)
    first | exact this | simpa using this | rfl
  · simp only [Value.slice.injEq, true_and] at hv
    obtain ⟨rfl, rfl⟩ := hv
    exact text_of_row h

set_option maxHeartbeats 4000000 in
set_option maxRecDepth 100000 in
theorem bwrites (B b nb : Nat) (A : Nat → Prop) (rows : Int) (ac : Option Addr) (cc : Nat) (at' : Option Addr) (ct : Nat) (rs : List RC) (ts : List (List Pu.Cl)) (vs : List Value) (w : World) (hBk : Book5 w B b A nb) (hTI : TI w B ac cc at' ct rs ts vs) (hnb : nb ≤ 1000) :
    Calls Try.prog 16 #[.pointer (some ⟨b, 0, none⟩), .agg #[.slice ac rs.length cc, .slice at' ts.length ct], .int .i64 rows] w fun e w' => e = .returned (.bool true) ∧ ∃ A', Chain w B b 20000000 A' w' ∧ ∀ x, x < w.heap.size → ¬ A x → w'.heap[x]? = w.heap[x]? := by
  obtain ⟨S, hS⟩ : ∃ S, S = w.heap.size := ⟨_, rfl⟩
  obtain ⟨N, hN⟩ : ∃ N, N = rs.length := ⟨_, rfl⟩
  obtain ⟨T, hTl⟩ : ∃ T, T = ts.length := ⟨_, rfl⟩
  obtain ⟨W1, hW1⟩ : ∃ W1, W1 = w.alloc (.cells #[.slice ac N cc, .slice at' T ct] 50) := ⟨_, rfl⟩
  have s1 : W1.heap.size = S + 1 := by rw [hW1, size_alloc', hS]
  have b1 : Below S w W1 := by rw [hS, hW1]; exact bbox w _
  have r1 : W1.heap[S]? = some (.cells #[.slice ac N cc, .slice at' T ct] 50 (0, 0)) := by rw [hW1, hS]; exact heap_alloc_new w _
  have q0 : W1.cell? ⟨S, 0, none⟩ = some (.slice ac N cc) := by rw [cell_of_row _ _ 0 _ _ _ r1]; rfl
  have q1 : W1.cell? ⟨S, 1, none⟩ = some (.slice at' T ct) := by rw [cell_of_row _ _ 1 _ _ _ r1]; rfl
  have hB : B ≤ S := by rw [hS]; exact hBk.bsize
  have hfew := hTI.few
  have hfewT := hTI.fewT
  -- the table and its box, later
  have tabT : ∀ W, Below (S + 1) W1 W → ∃ lbc lbt, TR W (S + 1) ac cc at' ct rs ts lbc lbt vs := fun W hW => (hTI.kept (w' := W) (fun k hk => by rw [hW.block k (by omega), b1.block k (by omega)])).tr (by omega) (by omega)
  have box : ∀ W, Below (S + 1) W1 W → W.cell? ⟨S, 0, none⟩ = some (.slice ac N cc) ∧ W.cell? ⟨S, 1, none⟩ = some (.slice at' T ct) := fun W hW => by
    have : W.heap[S]? = some (.cells #[.slice ac N cc, .slice at' T ct] 50 (0, 0)) := by rw [hW.block S (by omega)]; exact r1
    exact ⟨by rw [cell_of_row _ _ 0 _ _ _ this]; rfl, by rw [cell_of_row _ _ 1 _ _ _ this]; rfl⟩
  obtain ⟨E, hE⟩ : ∃ E, E = wrE rs ts rows := ⟨_, rfl⟩
  obtain ⟨L, hL⟩ : ∃ L, L = wrB rs ts rows := ⟨_, rfl⟩
  have hE14 : E ≤ 14 := by rw [hE]; exact wrE_le _ _ _
  have hLl : L.length ≤ 100000000000000 := by rw [hL]; exact length_wrB _ _ _
  have C36 : Hid (Calls Try.prog 36 #[.agg #[.slice ac N cc, .slice at' T ct]] W1 fun e w2 => ∃ gc cu gt cv aw cw vsl vsw, e = .returned (.tuple #[.agg #[.slice (some ⟨gc, 0, none⟩) N cu, .slice (some ⟨gt, 0, none⟩) T cv], .slice aw T cw]) ∧ Hid (Lent W1 w2 (S + 1) rs ts gc cu gt cv aw cw vsl vsw)) := by
    obtain ⟨lbc, lbt, hT1⟩ := tabT W1 (Below.refl _ _)
    have := lendTable_any (S + 1) ac cc at' ct rs ts lbc lbt vs W1 hT1 (by omega) (by omega) (by omega)
    rw [← hN, ← hTl, s1] at this
    exact this
  have C15 : Hid (∀ (W : World) (gc cu gt cv : Nat) (aw : Option Addr) (cw : Nat) (vsl vsw : List Value), Lent W1 W (S + 1) rs ts gc cu gt cv aw cw vsl vsw → Calls Try.prog 15 #[.agg #[.slice (some ⟨gc, 0, none⟩) N cu, .slice (some ⟨gt, 0, none⟩) T cv], .int .i64 rows] W fun e w' => ∃ av cv', e = .returned (.tuple #[.slice av L.length cv', .int .i64 (E : Int)]) ∧ Hid (Below W.heap.size W w' ∧ w'.ownsRow W.heap.size 5 1 (.slice av L.length cv') L.length (bytesV L))) := fun W gc cu gt cv aw cw vsl vsw h => by
    have hTr := h.tr (fun c hc => by have := hTI.names c hc; omega) (fun t ht => ⟨by have := (hTI.texts t ht).1; omega, fun c hc => by have := (hTI.texts t ht).2 c hc; omega⟩)
    have := strataWrite_any W.heap.size rows _ cu _ cv rs ts gc gt vsl W hTr (Nat.le_refl _) (by omega) (by omega)
    rw [← hN, ← hTl, ← hE, ← hL] at this
    refine this.mono ?_
    rintro e w' ⟨hb, v, rfl, ho⟩
    obtain ⟨a, c, rfl⟩ := slen_of ho
    exact ⟨a, c, rfl, hb, ho⟩
  have C13 : Hid (∀ W, Below (S + 1) W1 W → Calls Try.prog 13 #[.agg #[.slice ac N cc, .slice at' T ct], .int .i64 rows] W fun e w' => e = .returned (.tuple #[.string ⟨L.toArray⟩, .int .i64 (E : Int)]) ∧ Below W.heap.size W w') := fun W hW => by
    obtain ⟨lbc, lbt, hTr⟩ := tabT W hW
    have := refWrite_any (S + 1) rows ac cc at' ct rs ts lbc lbt vs W hTr (by have := hW.size; omega) (by omega) (by omega)
    rw [← hN, ← hTl, ← hE, ← hL] at this
    exact this
  have C37 : Hid (∀ (W : World) (gc cu gt cv : Nat) (aw : Option Addr) (cw : Nat) (vsl vsw : List Value), Chain w B b nb A W → Below (S + 1) W1 W → Lent W1 W (S + 1) rs ts gc cu gt cv aw cw vsl vsw → Calls Try.prog 37 #[.pointer (some ⟨b, 0, none⟩), .agg #[.slice (some ⟨gc, 0, none⟩) N cu, .slice (some ⟨gt, 0, none⟩) T cv], .slice aw T cw, .agg #[.slice ac N cc, .slice at' T ct]] W fun e w' => e = .returned (.bool true) ∧ Hid (∃ A', Chain w B b 10000000 A' w' ∧ ∀ x, (Ty W x 5 ∨ x < S + 1) → ¬ A x → w'.heap[x]? = W.heap[x]? ∧ ¬ A' x)) := fun W gc cu gt cv aw cw vsl vsw hC hW h => by
    obtain ⟨lbc, lbt, hTr⟩ := tabT W hW
    have := backTable_any B b nb A w W1 W (S + 1) rs ts gc cu gt cv aw cw vsl vsw ac cc at' ct lbc lbt vs hC h (by omega) (fun k hk => by have := (hBk.lt k hk).2; omega) hTr hfew hfewT (fun t ht => (hTI.texts t ht).1) hnb
    rw [← hN, ← hTl] at this
    exact this
  have C38 : Hid (∀ (W : World) (A' : Nat → Prop) (B0 : Nat) (av : Option Addr) (cv' : Nat), Chain w B b 10000000 A' W → B ≤ B0 → W.ownsRow B0 5 1 (.slice av L.length cv') L.length (bytesV L) → (∀ k, (Value.slice av L.length cv').ownBlock = some k → ¬ A' k) → Calls Try.prog 38 #[.pointer (some ⟨b, 0, none⟩), .slice av L.length cv'] W fun e w' => e = .returned (.tuple #[]) ∧ ∃ A2, Chain w B b 20000000 A2 w' ∧ ∀ x, x < B0 → x < W.heap.size → ¬ A' x → w'.heap[x]? = W.heap[x]?) := fun W A' B0 av cv' hC hB0 ho hA' => by
    refine (keepBytes5 B b L.length A' 10000000 av cv' _ W hC.1 (ho.mono hB0) hA' (by omega) (by omega)).mono ?_
    rintro e w' ⟨he, hK⟩
    obtain ⟨A2, c2, af⟩ := hC.kept hK (fun k hk => by have := (ho.lt k hk).1; omega)
    exact ⟨he, A2, ⟨c2.1.mono (by omega), c2.2⟩, fun x hx hxW hA => af.2.1 x hxW hA (fun e => by have := (ho.lt x e).1; omega)⟩
  have HC1 : Hid (Chain w B b nb A W1) := Chain.below ⟨hBk, Below.refl _ _⟩ (by rw [← hS]; exact b1)
  have HAl : Hid (∀ k, A k → k < S) := fun k hk => by rw [hS]; exact (hBk.lt k hk).2
  have BOX := hid box
  have Hb1 := hid b1
  have Hs1 := hid s1
  obtain ⟨n, hn⟩ : ∃ n, n = L.length := ⟨_, rfl⟩
  have Hn := hid hn
  rw [← hn] at C15 C38 hLl
  rw [← hN, ← hTl]
  have hW1' : w.alloc (.cells #[.slice ac N cc, .slice at' T ct] 50) = W1 := hW1.symm
  have hsz : w.heap.size = S := hS.symm
  obtain ⟨tl, htl⟩ : ∃ tl : ByteArray, tl = ⟨L.toArray⟩ := ⟨_, rfl⟩
  rw [← htl] at C13
  have HTL := hid htl
  clear hBk hTI hN hTl hW1 hS b1 r1 tabT box hE hL hn htl s1 hfew hfewT
  go_enter Try.func16, Try.ntmps16
  go_wp2_with fail
  refine C36.out.mono ?_
  rintro e w2 ⟨gc, cu, gt, cv, aw, cw, vsl, vsw, rfl, HLe⟩
  obtain ⟨U, hU⟩ : ∃ U, U = w2.heap.size := ⟨_, rfl⟩
  obtain ⟨W3, hW3⟩ : ∃ W3, W3 = w2.alloc (.cells #[.slice (some ⟨gc, 0, none⟩) N cu, .slice (some ⟨gt, 0, none⟩) T cv] 50) := ⟨_, rfl⟩
  have b23 : Below w2.heap.size w2 W3 := by rw [hW3]; exact bbox w2 _
  have r3 : W3.heap[U]? = some (.cells #[.slice (some ⟨gc, 0, none⟩) N cu, .slice (some ⟨gt, 0, none⟩) T cv] 50 (0, 0)) := by rw [hW3, hU]; exact heap_alloc_new w2 _
  have hl3 := HLe.out.below b23
  have HL3 := hid hl3
  have B13 : Hid (Below (S + 1) W1 W3) := hl3.bel
  have hs3 : U < W3.heap.size := (Array.getElem?_eq_some_iff.1 r3).1
  have u0 : W3.cell? ⟨U, 0, none⟩ = some (.slice (some ⟨gc, 0, none⟩) N cu) := by rw [cell_of_row _ _ 0 _ _ _ r3]; rfl
  have u1 : W3.cell? ⟨U, 1, none⟩ = some (.slice (some ⟨gt, 0, none⟩) T cv) := by rw [cell_of_row _ _ 1 _ _ _ r3]; rfl
  have UB : Hid (∀ W, Below W3.heap.size W3 W → W.cell? ⟨U, 0, none⟩ = some (.slice (some ⟨gc, 0, none⟩) N cu) ∧ W.cell? ⟨U, 1, none⟩ = some (.slice (some ⟨gt, 0, none⟩) T cv)) := fun W hW => by
    have : W.heap[U]? = some (.cells #[.slice (some ⟨gc, 0, none⟩) N cu, .slice (some ⟨gt, 0, none⟩) T cv] 50 (0, 0)) := by rw [hW.block U hs3]; exact r3
    exact ⟨by rw [cell_of_row _ _ 0 _ _ _ this]; rfl, by rw [cell_of_row _ _ 1 _ _ _ this]; rfl⟩
  have C15' := hid (C15.out W3 gc cu gt cv aw cw vsl vsw hl3)
  have hS3 : S + 1 ≤ W3.heap.size := hl3.size
  have HS3 := hid hS3
  have hU' : w2.heap.size = U := hU.symm
  have hW3' : w2.alloc (.cells #[.slice (some ⟨gc, 0, none⟩) N cu, .slice (some ⟨gt, 0, none⟩) T cv] 50) = W3 := hW3.symm
  clear HLe hU hW3 b23 r3 hl3 hs3 C36 C15 q0 q1 hS3
  go_wp2_with fail
  refine C15'.out.mono ?_
  rintro e w4 ⟨av, cv', rfl, H4⟩
  have B14 : Hid (Below (S + 1) W1 w4) := B13.out.trans (H4.out.1.mono HS3.out)
  obtain ⟨q0, q1⟩ := BOX.out w4 B14.out
  have C13' := hid (C13.out w4 B14.out)
  clear C15' C13 u0 u1
  go_wp2_with fail
  refine C13'.out.mono ?_
  rintro e w5 ⟨rfl, hb5⟩
  have B35 : Hid (Below W3.heap.size W3 w5) := H4.out.1.trans (hb5.mono H4.out.1.size)
  have B15 : Hid (Below (S + 1) W1 w5) := B13.out.trans (B35.out.mono HS3.out)
  have HO5 : Hid (w5.ownsRow W3.heap.size 5 1 (.slice av n cv') n (bytesV L)) := own_agreeS H4.out.2 (fun k hk => hb5.block k (own_tyS H4.out.2 hk).lt)
  have hcv : (convert 24 9 (.slice av n cv')).run Try.prog w5 = .ok (.string tl) w5 := by
    have h := HO5.out
    rw [Hn.out] at h ⊢
    rw [HTL.out]
    exact text_own h
  obtain ⟨q0', q1'⟩ := BOX.out w5 B15.out
  obtain ⟨u0, u1⟩ := UB.out w5 B35.out
  have hL5 := HL3.out.below B35.out
  have HC5 : Hid (Chain w B b nb A w5) := HC1.out.below (by rw [Hs1.out]; exact B15.out)
  have C37' := hid (C37.out w5 gc cu gt cv aw cw vsl vsw HC5.out B15.out hL5)
  have NUM := hid (num_any (E : Int) w5 (by omega))
  have HK : Hid (∀ (W6 : World), (∃ A', Chain w B b 10000000 A' W6 ∧ ∀ x, (Ty w5 x 5 ∨ x < S + 1) → ¬ A x → W6.heap[x]? = w5.heap[x]? ∧ ¬ A' x) → Calls Try.prog 38 #[.pointer (some ⟨b, 0, none⟩), .slice av n cv'] W6 fun e w' => e = .returned (.tuple #[]) ∧ Hid (∃ A', Chain w B b 20000000 A' w' ∧ ∀ x, x < w.heap.size → ¬ A x → w'.heap[x]? = w.heap[x]?)) := fun W6 h => by
    obtain ⟨A', c6, hf⟩ := h
    have ho := HO5.out
    have nA : ∀ k, (Value.slice av n cv').ownBlock = some k → ¬ A k := fun k hk ha => by
      have := (ho.lt k hk).1
      have := HAl.out k ha
      have := HS3.out
      omega
    rw [Hn.out] at ho nA C38 ⊢
    have hS3' := HS3.out
    have h5s := B15.out.size
    refine (C38.out W6 A' W3.heap.size av cv' c6 (by omega) (own_agreeS ho (fun k hk => (hf k (.inl (own_tyS ho hk)) (nA k hk)).1)) (fun k hk => (hf k (.inl (own_tyS ho hk)) (nA k hk)).2)).mono ?_
    rintro e w' ⟨he, A2, c2, hfr⟩
    refine ⟨he, A2, c2, fun x hx hAx => ?_⟩
    rw [hsz] at hx
    obtain ⟨f1, f2⟩ := hf x (.inr (by omega)) hAx
    have hx6 : x < W6.heap.size := by
      have h0 : w5.heap[x]? = w.heap[x]? := by rw [B15.out.block x (by omega)]; exact Hb1.out.block x hx
      rw [h0, Array.getElem?_eq_getElem (show x < w.heap.size by rw [hsz]; exact hx)] at f1
      exact (Array.getElem?_eq_some_iff.1 f1).1
    rw [hfr x (by omega) hx6 f2, f1, B15.out.block x (by omega)]
    exact Hb1.out.block x hx
  have hee : ((E : Int) == (E : Int)) = true := by simp
  clear C13' C37 C38 hL5 hb5 q0 q1 H4 B14 B15 B35 HO5 HL3 UB BOX HC5 HC1 B13
  go_wp2_with fail
  refine NUM.out.mono ?_
  rintro e w' ⟨rfl, hw'⟩
  subst w'
  go_wp2_with fail
  refine C37'.out.mono ?_
  rintro e w6 ⟨rfl, H6⟩
  have C38' := hid (HK.out w6 H6.out)
  clear C37' HK H6 hcv
  go_wp2_with fail
  refine C38'.out.mono ?_
  rintro e w7 ⟨rfl, H7⟩
  clear C38'
  go_wp2
  go_ret
  exact ⟨rfl, H7.out⟩
end Go.Proofs.Ytjobhlncllfdmaa

/- The document's table: example. -/
namespace Go.Proofs.Ytjobhlncllfdmaa
open Go.RowKit

theorem rowAlloc {w : World} {b : Nat} {x : Obj} (h : w.heap[b]? = some x) (o : Obj) : (w.alloc o).heap[b]? = some x := by
  rw [Below.heap_alloc _ _ _ (Array.getElem?_eq_some_iff.1 h).1]; exact h

/-- the document's table in memory -/
def ExT (W : World) (gc gt gl : Nat) : Prop :=
  W.heap[gc]? = some (.cells #[.string ⟨#[97]⟩, .int .i64 1, .bool false] 45 (0, 0)) ∧ W.heap[gt]? = some (.cells #[.slice (some ⟨gl, 0, none⟩) 2 2] 64 (0, 0)) ∧ W.heap[gl]? = some (.cells #[.bool false, .int .i64 1, .string ⟨#[]⟩, .bool false, .int .i64 2, .string ⟨#[]⟩] 66 (0, 0))
theorem ExT.below {W W' : World} {gc gt gl : Nat} (h : ExT W gc gt gl) (hb : Below W.heap.size W W') : ExT W' gc gt gl := by
  obtain ⟨h1, h2, h3⟩ := h
  exact ⟨by rw [hb.block _ (Array.getElem?_eq_some_iff.1 h1).1]; exact h1, by rw [hb.block _ (Array.getElem?_eq_some_iff.1 h2).1]; exact h2, by rw [hb.block _ (Array.getElem?_eq_some_iff.1 h3).1]; exact h3⟩
theorem ExT.cells {W : World} {gc gt gl : Nat} (h : ExT W gc gt gl) : W.cell? ⟨gc, 0, none⟩ = some (.string ⟨#[97]⟩) ∧ W.cell? ⟨gc, 1, none⟩ = some (.int .i64 1) ∧ W.cell? ⟨gc, 2, none⟩ = some (.bool false) ∧ W.cell? ⟨gt, 0, none⟩ = some (.slice (some ⟨gl, 0, none⟩) 2 2) ∧ W.cell? ⟨gl, 0, none⟩ = some (.bool false) ∧ W.cell? ⟨gl, 1, none⟩ = some (.int .i64 1) ∧ W.cell? ⟨gl, 2, none⟩ = some (.string ⟨#[]⟩) ∧ W.cell? ⟨gl, 3, none⟩ = some (.bool false) ∧ W.cell? ⟨gl, 4, none⟩ = some (.int .i64 2) ∧ W.cell? ⟨gl, 5, none⟩ = some (.string ⟨#[]⟩) := by
  obtain ⟨h1, h2, h3⟩ := h
  refine ⟨?_, ?_, ?_, ?_, ?_, ?_, ?_, ?_, ?_, ?_⟩
  all_goals first | (rw [cell_of_row _ _ _ _ _ _ h1]; rfl) | (rw [cell_of_row _ _ _ _ _ _ h2]; rfl) | (rw [cell_of_row _ _ _ _ _ _ h3]; rfl)

set_option maxHeartbeats 2000000 in
set_option maxRecDepth 100000 in
theorem example_any (w : World) : Calls Try.prog 14 #[] w fun e w' => ∃ gc gt gl : Nat, e = .returned (.agg #[.slice (some ⟨gc, 0, none⟩) 1 1, .slice (some ⟨gt, 0, none⟩) 1 1]) ∧ ExT w' gc gt gl ∧ Below w.heap.size w w' := by
  go_enter Try.func14, Try.ntmps14
  go_wp2
  have q0 := rowAlloc (rowAlloc (rowAlloc (heap_alloc_new w (.cells #[.slice (some ⟨w.heap.size + 1, 0, none⟩) 1 1, .slice (some ⟨w.heap.size + 1 + 1 + 1, 0, none⟩) 1 1] 50)) (.cells #[.string ⟨#[97]⟩, .int .i64 1, .bool false] 45)) (.cells #[.bool false, .int .i64 1, .string ⟨#[]⟩, .bool false, .int .i64 2, .string ⟨#[]⟩] 66)) (.cells #[.slice (some ⟨w.heap.size + 1 + 1, 0, none⟩) 2 2] 64)
  have q1 := heap_alloc_new (w.alloc (.cells #[.slice (some ⟨w.heap.size + 1, 0, none⟩) 1 1, .slice (some ⟨w.heap.size + 1 + 1 + 1, 0, none⟩) 1 1] 50)) (.cells #[.string ⟨#[97]⟩, .int .i64 1, .bool false] 45)
  rw [size_alloc'] at q1
  have q1' := rowAlloc (rowAlloc q1 (.cells #[.bool false, .int .i64 1, .string ⟨#[]⟩, .bool false, .int .i64 2, .string ⟨#[]⟩] 66)) (.cells #[.slice (some ⟨w.heap.size + 1 + 1, 0, none⟩) 2 2] 64)
  have q2 := heap_alloc_new ((w.alloc (.cells #[.slice (some ⟨w.heap.size + 1, 0, none⟩) 1 1, .slice (some ⟨w.heap.size + 1 + 1 + 1, 0, none⟩) 1 1] 50)).alloc (.cells #[.string ⟨#[97]⟩, .int .i64 1, .bool false] 45)) (.cells #[.bool false, .int .i64 1, .string ⟨#[]⟩, .bool false, .int .i64 2, .string ⟨#[]⟩] 66)
  rw [size_alloc', size_alloc'] at q2
  have q2' := rowAlloc q2 (.cells #[.slice (some ⟨w.heap.size + 1 + 1, 0, none⟩) 2 2] 64)
  have q3 := heap_alloc_new (((w.alloc (.cells #[.slice (some ⟨w.heap.size + 1, 0, none⟩) 1 1, .slice (some ⟨w.heap.size + 1 + 1 + 1, 0, none⟩) 1 1] 50)).alloc (.cells #[.string ⟨#[97]⟩, .int .i64 1, .bool false] 45)).alloc (.cells #[.bool false, .int .i64 1, .string ⟨#[]⟩, .bool false, .int .i64 2, .string ⟨#[]⟩] 66)) (.cells #[.slice (some ⟨w.heap.size + 1 + 1, 0, none⟩) 2 2] 64)
  rw [size_alloc', size_alloc', size_alloc'] at q3
  have k0 := cell_of_row _ _ 0 _ _ _ q0
  have k1 := cell_of_row _ _ 1 _ _ _ q0
  simp only [List.getElem?_toArray, List.getElem?_cons_zero, List.getElem?_cons_succ] at k0 k1
  exact bodyPost_ret (v := .agg #[.slice (some ⟨w.heap.size + 1, 0, none⟩) 1 1, .slice (some ⟨w.heap.size + 1 + 1 + 1, 0, none⟩) 1 1]) (by simp [results, Try.results14, go_sem, k0, k1]) rfl ⟨_, _, _, rfl, ⟨q1', q3, q2'⟩, (((bbox w _).alloc (by rw [size_alloc']; omega) _).alloc (by rw [size_alloc', size_alloc']; omega) _).alloc (by rw [size_alloc', size_alloc', size_alloc']; omega) _⟩

end Go.Proofs.Ytjobhlncllfdmaa
