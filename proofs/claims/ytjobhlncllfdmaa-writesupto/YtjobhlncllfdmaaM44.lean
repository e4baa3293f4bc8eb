/- The program's table.Write: what it needs of the groups. -/
import Derived.Test.YtjobhlncllfdmaaM32
namespace Go.Proofs.Ytjobhlncllfdmaa
open Go.RowKit Go.Maps

theorem partL_two (kind : Nat) (opt : Bool) (l : List Pu.Cl) : (partL kind opt l).2 ≤ 2 := by unfold partL; split <;> simp

/-- what is so of a group that was written -/
theorem grpW_ok (cs : List Pu.Col) (ts : List (List Pu.Cl)) (fr to n : Nat) (L : List UInt8) (hcs : cs.length = ts.length) (hc20 : cs.length ≤ 20) (hn : ∀ t ∈ ts, t.length = n) (hft : fr ≤ to) (htn : to ≤ n) (hn5 : n ≤ 100000) (hok : ∀ t ∈ ts, ∀ c ∈ t, c.s.length ≤ 1000) :
    (grpW cs ts fr to L).2.length = cs.length ∧ ∀ p ∈ (grpW cs ts fr to L).2, p.1 ≤ L.length + 10000000000 ∧ p.2 ≤ 2 := by
  have key : ∀ k, k ≤ cs.length → (grpN cs ts fr to L k).1.length ≤ L.length + 500000000 * k ∧ ∀ p ∈ (grpN cs ts fr to L k).2, p.1 ≤ L.length + 10000000000 ∧ p.2 ≤ 2 := fun k => by
    induction k with
    | zero => intro _; exact ⟨Nat.le_refl _, fun p hp => by cases hp⟩
    | succ k ih =>
      intro hk
      obtain ⟨ih1, ih2⟩ := ih (by omega)
      rw [grpN_succ cs ts fr to L k (by omega) (by omega)]
      have hsl := length_segL fr to (ts[k]'(by omega)) (by rw [hn _ (List.getElem_mem _)]; exact htn) hft
      have hp := length_partL (cs[k]'(by omega)).kind (cs[k]'(by omega)).opt (segL fr to (ts[k]'(by omega))) (by omega) (fun c hc => hok _ (List.getElem_mem (by omega)) c (segL_sub _ _ _ c hc))
      refine ⟨?_, fun p hpm => ?_⟩
      · show List.length (_ ++ _) ≤ _
        rw [List.length_append]
        simp only
        omega
      · have hpm' : p ∈ (grpN cs ts fr to L k).2 ++ [((grpN cs ts fr to L k).1.length, (partL (cs[k]'(by omega)).kind (cs[k]'(by omega)).opt (segL fr to (ts[k]'(by omega)))).2)] := hpm
        rcases List.mem_append.1 hpm' with h | h
        · exact ih2 p h
        · rw [List.mem_singleton.1 h]
          exact ⟨by simp only; omega, partL_two _ _ _⟩
  have e : grpN cs ts fr to L cs.length = grpW cs ts fr to L := by unfold grpN grpW; rw [List.take_of_length_le (by rw [List.length_zip]; omega)]
  obtain ⟨_, h2⟩ := key cs.length (Nat.le_refl _)
  rw [e] at h2
  refine ⟨?_, h2⟩
  rw [← e]
  exact grpN_len cs ts fr to L cs.length (Nat.le_refl _) (by omega)

theorem gsGo_ok (cs : List Pu.Col) (ts : List (List Pu.Cl)) (rows n : Nat) (hcs : cs.length = ts.length) (hc20 : cs.length ≤ 20) (hn : ∀ t ∈ ts, t.length = n) (hn5 : n ≤ 5000) (hrows : 1 ≤ rows) (hrows2 : rows ≤ 1000) (hok : ∀ t ∈ ts, ∀ c ∈ t, c.s.length ≤ 1000) : ∀ (f fr : Nat) (L : List UInt8) (gs : List (Nat × List (Nat × Nat))), fr ≤ 6000 → L.length ≤ 10000000000 * fr + 1000 → gs.length ≤ fr → gs.length ≤ 5000 → GsOk gs →
    GsOk (gsGo cs ts rows n f fr L gs).2 ∧ (gsGo cs ts rows n f fr L gs).2.length ≤ 5000 ∧ (gsGo cs ts rows n f fr L gs).1.length ≤ 10000000000 * 6000 + 1000
  | 0, fr, L, gs, h1, h2, h3, h4, h5 => ⟨h5, h4, by show L.length ≤ _; omega⟩
  | f + 1, fr, L, gs, h1, h2, h3, h4, h5 => by
    unfold gsGo
    split
    · rename_i hfr
      have hmin : min (fr + rows) n ≤ n := Nat.min_le_right _ _
      have hle : fr ≤ min (fr + rows) n := by omega
      have hl := length_grpW cs ts fr (min (fr + rows) n) n L hcs hc20 hn hle hmin (by omega) hok
      obtain ⟨g1, g2⟩ := grpW_ok cs ts fr (min (fr + rows) n) n L hcs hc20 hn hle hmin (by omega) hok
      refine gsGo_ok cs ts rows n hcs hc20 hn hn5 hrows hrows2 hok f (fr + rows) _ _ (by omega) (by omega) (by rw [List.length_append]; simp; omega) (by rw [List.length_append]; simp; omega) (fun g hg => ?_)
      rcases List.mem_append.1 hg with h | h
      · exact h5 g h
      · rw [List.mem_singleton.1 h]
        exact ⟨by simp only; omega, by simp only; omega, fun p hp => by have := g2 p hp; omega⟩
    · exact ⟨h5, h4, by show L.length ≤ _; omega⟩

/-- a column as it is once it may stand -/
def toCol (c : RC) : Pu.Col := ⟨c.1, c.2.1.toNat, c.2.2⟩
theorem colsV_toCol (l : List RC) (h : ∀ c ∈ l, 0 ≤ c.2.1) : colsV (l.map toCol) = rcsV l := by
  induction l with
  | nil => rfl
  | cons c r ih =>
    have h0 := h c (by simp)
    have ih := ih (fun d hd => h d (by simp [hd]))
    have e : colV (toCol c) = rcV c := by
      unfold colV rcV toCol
      simp only
      rw [Int.toNat_of_nonneg h0]
    simp only [colsV, rcsV, List.map_cons, List.flatMap_cons] at ih ⊢
    rw [e, ih]
theorem colsOk_spec {l : List RC} (h : colsOk l = true) : ∀ c ∈ l, 1 ≤ c.1.length ∧ c.1.length ≤ 20 ∧ 0 ≤ c.2.1 ∧ c.2.1 ≤ 2 := fun c hc => by
  obtain ⟨k, hk, rfl⟩ := List.getElem_of_mem hc
  unfold colsOk at h
  have := (List.all_eq_true.1 h) k (List.mem_range.2 hk)
  unfold okAt at this
  rw [List.getElem?_eq_getElem hk] at this
  simp only [Bool.and_eq_true, decide_eq_true_eq] at this
  obtain ⟨⟨⟨⟨h1, h2⟩, _⟩, h4⟩, h5⟩ := this
  exact ⟨h1, h2, h4, h5⟩
theorem cellsOk_spec {rs : List RC} {ts : List (List Pu.Cl)} (h : cellsOk rs ts = true) (k : Nat) (h1 : k < rs.length) (h2 : k < ts.length) : ∀ c ∈ ts[k], fitsR rs[k].2.1 rs[k].2.2 c = true := fun c hc => by
  unfold cellsOk at h
  have := (List.all_eq_true.1 h) k (List.mem_range.2 h1)
  unfold cellsAt at this
  rw [List.getElem?_eq_getElem h1, List.getElem?_eq_getElem h2] at this
  exact (List.all_eq_true.1 this) c hc
theorem fits_ok {k : Int} {opt : Bool} {c : Pu.Cl} (h : fitsR k opt c = true) : c.s.length ≤ 1000 ∧ (k = 0 → c.null = false → c.n = 0 ∨ c.n = 1) := by
  unfold fitsR at h
  split at h
  · rename_i hn
    simp only [Bool.and_eq_true, decide_eq_true_eq] at h
    exact ⟨by rw [h.2]; simp, fun _ h' => by rw [hn] at h'; cases h'⟩
  · split at h
    · simp only [Bool.and_eq_true, Bool.or_eq_true, decide_eq_true_eq] at h
      exact ⟨by rw [h.2]; simp, fun _ _ => h.1⟩
    · rename_i hk0
      split at h
      · simp only [decide_eq_true_eq] at h
        exact ⟨by rw [h]; simp, fun e _ => absurd e hk0⟩
      · simp only [Bool.and_eq_true, decide_eq_true_eq] at h
        exact ⟨h.2, fun e _ => absurd e hk0⟩

/-- the file of a table -/
def fileL (cs : List Pu.Col) (ts : List (List Pu.Cl)) (rows n : Nat) : List UInt8 :=
  (gsGo cs ts rows n n 0 stra []).1 ++ endL (footL cs (gsGo cs ts rows n n 0 stra []).2)
end Go.Proofs.Ytjobhlncllfdmaa

/- The program's table.Write. -/
namespace Go.Proofs.Ytjobhlncllfdmaa
open Go.RowKit Go.Maps

set_option maxHeartbeats 4000000 in
set_option maxRecDepth 100000 in
theorem tableWrite_arg (ac : Option Addr) (nc cc : Nat) (at' : Option Addr) (nt ct : Nat) (rows : Int) (w : World) (h : rows < 1 ∨ 1000 < rows) :
    Calls Try.prog 35 #[.agg #[.slice ac nc cc, .slice at' nt ct], .int .i64 rows] w fun e w' => e = .returned (.tuple #[.slice none 0 0, .int .i64 1]) ∧ Below w.heap.size w w' := by
  obtain ⟨W1, hW1⟩ : ∃ W1, W1 = w.alloc (.cells #[.slice ac nc cc, .slice at' nt ct] 50) := ⟨_, rfl⟩
  have b1 := hid (show Below w.heap.size w W1 by rw [hW1]; exact bbox w _)
  have hW1' : w.alloc (.cells #[.slice ac nc cc, .slice at' nt ct] 50) = W1 := hW1.symm
  clear hW1
  by_cases h1 : rows < 1
  · have d1 : decide (rows < 1) = true := decide_eq_true h1
    go_enter Try.func35, Try.ntmps35
    go_wp2
    go_ret2
    exact ⟨rfl, b1.out⟩
  · have d1 : decide (rows < 1) = false := decide_eq_false h1
    have d2 : decide (1000 < rows) = true := decide_eq_true (by omega)
    go_enter Try.func35, Try.ntmps35
    go_wp2
    go_ret2
    exact ⟨rfl, b1.out⟩

/-- behind mayBe: the file is written -/
def TwTail (w : World) (S R N T : Nat) (ac : Option Addr) (cc : Nat) (at' : Option Addr) (ct rows : Nat) (F : List UInt8) (W : World) : Prop :=
  Calls Try.prog 57 #[.pointer (some ⟨R, 0, none⟩)] W fun e w4 => e = .returned (.tuple #[]) ∧ w4.cell? ⟨S, 0, none⟩ = some (.slice ac N cc) ∧ w4.cell? ⟨S, 1, none⟩ = some (.slice at' T ct) ∧
    Calls Try.prog 58 #[.pointer (some ⟨R, 0, none⟩), .agg #[.slice ac N cc, .slice at' T ct], .int .i64 rows] w4 fun e w5 => ∃ ag ng cg, e = .returned (.slice ag ng cg) ∧ w5.cell? ⟨S, 0, none⟩ = some (.slice ac N cc) ∧
      Calls Try.prog 59 #[.pointer (some ⟨R, 0, none⟩), .slice ac N cc, .slice ag ng cg] w5 fun e w6 => e = .returned (.tuple #[]) ∧
        ∃ v, Calls Try.prog 60 #[.pointer (some ⟨R, 0, none⟩)] w6 (fun e w' => e = .returned v ∧ w' = w6) ∧ w6.ownsRow S 5 1 v F.length (bytesV F) ∧ Below S w w6

theorem tw_tail {w w2 : World} {S R Bt rows : Nat} {ac : Option Addr} {cc : Nat} {at' : Option Addr} {ct : Nat} {rs : List RC} {ts : List (List Pu.Cl)} {lbc lbt : Nat} {vs : List Value} (hS : S = w.heap.size) (hBt : Bt ≤ S) (hT : TR w Bt ac cc at' ct rs ts lbc lbt vs) (h1 : 1 ≤ rows) (h2 : rows ≤ 1000) (htab : tabOk rs ts rows = true)
    (hb : Below S w w2) (hR : R = w2.heap.size) (hSR : S < R) (r1 : w2.heap[S]? = some (.cells #[.slice ac rs.length cc, .slice at' ts.length ct] 50 (0, 0))) :
    TwTail w S R rs.length ts.length ac cc at' ct rows (fileL (rs.map toCol) ts rows (nRows ts)) (w2.alloc (.cells #[.slice none 0 0] 116)) := by
  unfold tabOk at htab
  simp only [Bool.and_eq_true] at htab
  obtain ⟨⟨hsh, hco⟩, hce⟩ := htab
  obtain ⟨g1, g2, g3, g4, g5, g6⟩ := shapeOk_spec hsh
  have hcs := colsOk_spec hco
  obtain ⟨cs, hcsd⟩ : ∃ cs, cs = rs.map toCol := ⟨_, rfl⟩
  have hcl : cs.length = rs.length := by rw [hcsd]; simp
  have hcv : colsV cs = rcsV rs := by rw [hcsd]; exact colsV_toCol rs (fun c hc => (hcs c hc).2.2.1)
  have hkind : ∀ c ∈ cs, c.kind ≤ 2 ∧ c.name.length ≤ 1000 := fun c hc => by
    rw [hcsd] at hc
    obtain ⟨d, hd, rfl⟩ := List.mem_map.1 hc
    have := hcs d hd
    exact ⟨by show d.2.1.toNat ≤ 2; omega, by show d.1.length ≤ 1000; omega⟩
  have hokc : ∀ i, (h1 : i < cs.length) → (h2 : i < ts.length) → CellsOk cs[i].kind ts[i] := fun i hi1 hi2 => by
    have hf := cellsOk_spec hce i (by omega) hi2
    have hk : (cs[i]'hi1).kind = (rs[i]'(by omega)).2.1.toNat := by subst hcsd; simp [toCol]
    have hn0 := (hcs _ (List.getElem_mem (show i < rs.length by omega))).2.2.1
    refine ⟨fun c hc => (fits_ok (hf c hc)).1, fun e c hc => ?_⟩
    obtain ⟨hc1, hc2⟩ := List.mem_filter.1 hc
    exact (fits_ok (hf c hc1)).2 (by omega) (by simpa using hc2)
  have hokt : ∀ t ∈ ts, ∀ c ∈ t, c.s.length ≤ 1000 := fun t ht c hc => by
    obtain ⟨i, hi, rfl⟩ := List.getElem_of_mem ht
    exact (hokc i (by omega) hi).1 c hc
  obtain ⟨n, hn⟩ : ∃ n, n = nRows ts := ⟨_, rfl⟩
  rw [← hn] at g4 g5 g6 ⊢
  rw [← hcsd]
  obtain ⟨G, hG⟩ : ∃ G, G = gsGo cs ts rows n n 0 stra [] := ⟨_, rfl⟩
  obtain ⟨k1, k2, k3⟩ := gsGo_ok cs ts rows n (by omega) (by omega) g4 g5 h1 h2 hokt n 0 stra [] (by omega) (by simp [stra]) (by simp) (by simp) (fun g hg => by cases hg)
  rw [← hG] at k1 k2 k3
  obtain ⟨W3, hW3⟩ : ∃ W3, W3 = w2.alloc (.cells #[.slice none 0 0] 116) := ⟨_, rfl⟩
  have o3 : OS W3 R R (.slice none 0 0) [] := ⟨by rw [hW3, hR]; exact heap_alloc_new w2 _, World.ownsRow_nil _ _ _ _⟩
  have b3 : Below R w2 W3 := by rw [hR, hW3]; exact bbox w2 _
  have tbl : ∀ W : World, Below R w2 W → TB W Bt ac cc at' ct cs ts lbc lbt vs := fun W hW => by
    have hk : ∀ j, j < Bt → W.heap[j]? = w.heap[j]? := fun j hj => by rw [hW.block j (by omega), hb.block j (by omega)]
    have := hT.kept hk
    exact ⟨by rw [hcl, hcv]; exact this.cols, this.lbc, this.lists, this.lbt, this.each⟩
  have cel : ∀ W : World, Below R w2 W → W.cell? ⟨S, 0, none⟩ = some (.slice ac rs.length cc) ∧ W.cell? ⟨S, 1, none⟩ = some (.slice at' ts.length ct) := fun W hW => by
    have : W.heap[S]? = some (.cells #[.slice ac rs.length cc, .slice at' ts.length ct] 50 (0, 0)) := by rw [hW.block S hSR]; exact r1
    exact ⟨by rw [cell_of_row _ _ 0 _ _ _ this]; rfl, by rw [cell_of_row _ _ 1 _ _ _ this]; rfl⟩
  rw [← hW3]
  have hb3 := b3.size
  refine (fwBegin_any R R _ [] W3 o3 (by omega) (by simp)).mono ?_
  rintro e w4 ⟨rfl, hg4⟩
  rw [List.nil_append] at hg4
  obtain ⟨v4, o4, b4⟩ := FwS.of hR o3 b3 hg4
  have hb4 := b4.size
  obtain ⟨x0, x1⟩ := cel w4 b4
  refine ⟨rfl, x0, x1, ?_⟩
  have key := writeGroups_any R R Bt rows n v4 stra ac cc at' ct cs ts lbc lbt vs w4 o4 (by omega) (tbl w4 b4) (by omega) (by omega) (by omega) (by omega) (by omega) g4 g5 h1 h2 (fun c hc => (hkind c hc).1) hokc (by simp [stra])
  rw [hcl, ← hG] at key
  refine key.mono ?_
  rintro e w5 ⟨vg, ws, rfl, hg5, hog, hgl⟩
  obtain ⟨ag, cg, rfl⟩ := slen_of hog
  obtain ⟨v5, o5, b5⟩ := FwS.of hR o4 b4 hg5
  have hb5 := b5.size
  obtain ⟨y0, _⟩ := cel w5 b5
  refine ⟨ag, _, cg, rfl, y0, ?_⟩
  have hT5 := tbl w5 b5
  have hlbc := hT.lbc
  obtain ⟨lbg, hrg, hlg⟩ := Rs.own_or hog lbc
  have hlg' : lbg < w5.heap.size := by
    rcases hlg with rfl | h
    · omega
    · exact (hog.lt lbg h).2
  have key2 := fwEnd_any R R lbc cc lbg cg _ ac ag cs ws G.2 v5 G.1 w5 o5 (by omega) hT5.cols (by omega) (by omega) hkind hrg hlg' hgl k1 k2 (by omega)
  rw [hcl] at key2
  refine key2.mono ?_
  rintro e w6 ⟨rfl, hg6⟩
  obtain ⟨v6, o6, b6⟩ := FwS.of hR o5 b5 hg6
  have e6 : G.1 ++ endL (footL cs G.2) = fileL cs ts rows n := by unfold fileL; rw [← hG]
  rw [e6] at o6
  exact ⟨rfl, v6, outBytes_any R R v6 _ w6 o6, o6.own.mono (by omega), hb.trans (b6.mono (by omega))⟩

set_option maxHeartbeats 8000000 in
set_option maxRecDepth 100000 in
theorem tableWrite_any (Bt rows : Nat) (ac : Option Addr) (cc : Nat) (at' : Option Addr) (ct : Nat) (rs : List RC) (ts : List (List Pu.Cl)) (lbc lbt : Nat) (vs : List Value) (w : World) (hT : TR w Bt ac cc at' ct rs ts lbc lbt vs) (hBt : Bt ≤ w.heap.size) (hrl : rs.length ≤ 10000000) (htl : ts.length ≤ 10000000) (h1 : 1 ≤ rows) (h2 : rows ≤ 1000) :
    Calls Try.prog 35 #[.agg #[.slice ac rs.length cc, .slice at' ts.length ct], .int .i64 rows] w fun e w' => Below w.heap.size w w' ∧
      ((tabOk rs ts rows = false ∧ e = .returned (.tuple #[.slice none 0 0, .int .i64 14])) ∨
       (tabOk rs ts rows = true ∧ ∃ v, e = .returned (.tuple #[v, .int .i64 0]) ∧ w'.ownsRow w.heap.size 5 1 v (fileL (rs.map toCol) ts rows (nRows ts)).length (bytesV (fileL (rs.map toCol) ts rows (nRows ts))))) := by
  obtain ⟨S, hS⟩ : ∃ S, S = w.heap.size := ⟨_, rfl⟩
  obtain ⟨N, hN⟩ : ∃ N, N = rs.length := ⟨_, rfl⟩
  obtain ⟨T, hTl⟩ : ∃ T, T = ts.length := ⟨_, rfl⟩
  obtain ⟨W1, hW1⟩ : ∃ W1, W1 = w.alloc (.cells #[.slice ac N cc, .slice at' T ct] 50) := ⟨_, rfl⟩
  have s1 : W1.heap.size = S + 1 := by rw [hW1, size_alloc', hS]
  have b1 : Below S w W1 := by rw [hS, hW1]; exact bbox w _
  have r1 : W1.heap[S]? = some (.cells #[.slice ac N cc, .slice at' T ct] 50 (0, 0)) := by rw [hW1, hS]; exact heap_alloc_new w _
  have q0 : W1.cell? ⟨S, 0, none⟩ = some (.slice ac N cc) := by rw [cell_of_row _ _ 0 _ _ _ r1]; rfl
  have q1 : W1.cell? ⟨S, 1, none⟩ = some (.slice at' T ct) := by rw [cell_of_row _ _ 1 _ _ _ r1]; rfl
  obtain ⟨F, hF⟩ : ∃ F, F = fileL (rs.map toCol) ts rows (nRows ts) := ⟨_, rfl⟩
  have C1 : Hid (Calls Try.prog 56 #[.agg #[.slice ac N cc, .slice at' T ct], .int .i64 rows] W1 fun e w2 => e = .returned (.bool (tabOk rs ts rows)) ∧ Below S w w2 ∧ (tabOk rs ts rows = true → TwTail w S w2.heap.size N T ac cc at' ct rows F (w2.alloc (.cells #[.slice none 0 0] 116)))) := by
    have := mayBe_any Bt rows ac cc at' ct rs ts lbc lbt vs W1 (hT.kept (fun j hj => b1.block j (by omega))) (by omega) hrl htl h2
    rw [← hN, ← hTl] at this
    refine this.mono ?_
    rintro e w2 ⟨rfl, hb2⟩
    have hb2s := hb2.size
    have bw2 : Below S w w2 := b1.trans (hb2.mono (by omega))
    refine ⟨rfl, bw2, fun htab => ?_⟩
    rw [hF, hN, hTl]
    exact tw_tail hS (by omega) hT h1 h2 htab bw2 rfl (by omega) (by rw [hb2.block S (by omega), r1, hN, hTl])
  obtain ⟨f, hf⟩ : ∃ f, f = tabOk rs ts rows := ⟨_, rfl⟩
  rw [← hf] at C1
  rw [← hf, ← hF, ← hN, ← hTl, ← hS]
  have hW1' : w.alloc (.cells #[.slice ac N cc, .slice at' T ct] 50) = W1 := hW1.symm
  have hsz : w.heap.size = S := hS.symm
  have d1 : decide ((rows : Int) < 1) = false := by simp; omega
  have d2 : decide (1000 < (rows : Int)) = false := by simp; omega
  clear hT hN hTl hW1 hS b1 r1 hF hBt s1 hf hrl htl
  cases f
  · go_enter Try.func35, Try.ntmps35
    go_wp2_with fail
    refine C1.out.mono ?_
    rintro e w2 ⟨rfl, hb, _⟩
    have HB := hid hb
    clear hb C1
    go_wp2
    go_ret2
    exact ⟨HB.out, .inl ⟨(by simp), rfl⟩⟩
  · go_enter Try.func35, Try.ntmps35
    go_wp2_with fail
    refine C1.out.mono ?_
    rintro e w2 ⟨rfl, hb, ht⟩
    have HT := hid (ht (by simp))
    clear hb ht C1
    unfold TwTail at HT
    obtain ⟨W3, hW3⟩ : ∃ W3, W3 = w2.alloc (.cells #[.slice none 0 0] 116) := ⟨_, rfl⟩
    rw [← hW3] at HT
    have hW3' : w2.alloc (.cells #[.slice none 0 0] 116) = W3 := hW3.symm
    clear hW3
    go_wp2_with fail
    refine HT.out.mono ?_
    rintro e w4 ⟨rfl, x0, x1, C2⟩
    have C2' := hid C2
    clear C2 HT
    go_wp2_with fail
    refine C2'.out.mono ?_
    rintro e w5 ⟨ag, ng, cg, rfl, y0, C3⟩
    have C3' := hid C3
    clear C3 C2'
    go_wp2_with fail
    refine C3'.out.mono ?_
    rintro e w6 ⟨rfl, v, C4, ho, hb⟩
    have C4' := hid C4
    clear C4 C3'
    go_wp2_with fail
    refine C4'.out.mono ?_
    rintro e w7 ⟨rfl, hw7⟩
    subst w7
    go_wp2
    go_ret2
    exact ⟨hb, .inr ⟨(by simp), v, rfl, ho⟩⟩
end Go.Proofs.Ytjobhlncllfdmaa

/- The program's strata.Write. -/
namespace Go.Proofs.Ytjobhlncllfdmaa
open Go.RowKit Go.Maps

/-- what Write answers: the number of its error, its bytes -/
def wrE (rs : List RC) (ts : List (List Pu.Cl)) (rows : Int) : Nat := if rows < 1 ∨ 1000 < rows then 1 else if tabOk rs ts rows.toNat = true then 0 else 14
def wrB (rs : List RC) (ts : List (List Pu.Cl)) (rows : Int) : List UInt8 := if wrE rs ts rows = 0 then fileL (rs.map toCol) ts rows.toNat (nRows ts) else []

theorem tableWrite_all (Bt : Nat) (rows : Int) (ac : Option Addr) (cc : Nat) (at' : Option Addr) (ct : Nat) (rs : List RC) (ts : List (List Pu.Cl)) (lbc lbt : Nat) (vs : List Value) (w : World) (hT : TR w Bt ac cc at' ct rs ts lbc lbt vs) (hBt : Bt ≤ w.heap.size) (hrl : rs.length ≤ 10000000) (htl : ts.length ≤ 10000000) :
    Calls Try.prog 35 #[.agg #[.slice ac rs.length cc, .slice at' ts.length ct], .int .i64 rows] w fun e w' => Below w.heap.size w w' ∧ ∃ v, e = .returned (.tuple #[v, .int .i64 (wrE rs ts rows : Int)]) ∧ w'.ownsRow w.heap.size 5 1 v (wrB rs ts rows).length (bytesV (wrB rs ts rows)) := by
  by_cases h : rows < 1 ∨ 1000 < rows
  · have e1 : wrE rs ts rows = 1 := by unfold wrE; rw [if_pos h]
    have e2 : wrB rs ts rows = [] := by unfold wrB; rw [e1]; rfl
    refine (tableWrite_arg ac rs.length cc at' ts.length ct rows w h).mono ?_
    rintro e w' ⟨rfl, hb⟩
    rw [e1, e2]
    exact ⟨hb, _, rfl, World.ownsRow_nil _ _ _ _⟩
  · obtain ⟨r, rfl⟩ : ∃ r : Nat, rows = (r : Int) := ⟨rows.toNat, by omega⟩
    refine (tableWrite_any Bt r ac cc at' ct rs ts lbc lbt vs w hT hBt hrl htl (by omega) (by omega)).mono ?_
    rintro e w' ⟨hb, hc⟩
    refine ⟨hb, ?_⟩
    rcases hc with ⟨ht, rfl⟩ | ⟨ht, v, rfl, ho⟩
    · have e1 : wrE rs ts (r : Int) = 14 := by unfold wrE; rw [if_neg h, Int.toNat_natCast, ht]; rfl
      have e2 : wrB rs ts (r : Int) = [] := by unfold wrB; rw [e1]; rfl
      rw [e1, e2]
      exact ⟨_, rfl, World.ownsRow_nil _ _ _ _⟩
    · have e1 : wrE rs ts (r : Int) = 0 := by unfold wrE; rw [if_neg h, Int.toNat_natCast, if_pos ht]
      have e2 : wrB rs ts (r : Int) = fileL (rs.map toCol) ts r (nRows ts) := by unfold wrB; rw [if_pos e1, Int.toNat_natCast]
      rw [e1, e2]
      exact ⟨v, rfl, ho⟩

set_option maxHeartbeats 4000000 in
set_option maxRecDepth 100000 in
theorem strataWrite_any (Bt : Nat) (rows : Int) (ac : Option Addr) (cc : Nat) (at' : Option Addr) (ct : Nat) (rs : List RC) (ts : List (List Pu.Cl)) (lbc lbt : Nat) (vs : List Value) (w : World) (hT : TR w Bt ac cc at' ct rs ts lbc lbt vs) (hBt : Bt ≤ w.heap.size) (hrl : rs.length ≤ 10000000) (htl : ts.length ≤ 10000000) :
    Calls Try.prog 15 #[.agg #[.slice ac rs.length cc, .slice at' ts.length ct], .int .i64 rows] w fun e w' => Below w.heap.size w w' ∧ ∃ v, e = .returned (.tuple #[v, .int .i64 (wrE rs ts rows : Int)]) ∧ w'.ownsRow w.heap.size 5 1 v (wrB rs ts rows).length (bytesV (wrB rs ts rows)) := by
  obtain ⟨S, hS⟩ : ∃ S, S = w.heap.size := ⟨_, rfl⟩
  obtain ⟨N, hN⟩ : ∃ N, N = rs.length := ⟨_, rfl⟩
  obtain ⟨T, hTl⟩ : ∃ T, T = ts.length := ⟨_, rfl⟩
  obtain ⟨W1, hW1⟩ : ∃ W1, W1 = w.alloc (.cells #[.slice ac N cc, .slice at' T ct] 50) := ⟨_, rfl⟩
  have s1 : W1.heap.size = S + 1 := by rw [hW1, size_alloc', hS]
  have b1 : Below S w W1 := by rw [hS, hW1]; exact bbox w _
  have r1 : W1.heap[S]? = some (.cells #[.slice ac N cc, .slice at' T ct] 50 (0, 0)) := by rw [hW1, hS]; exact heap_alloc_new w _
  have q0 : W1.cell? ⟨S, 0, none⟩ = some (.slice ac N cc) := by rw [cell_of_row _ _ 0 _ _ _ r1]; rfl
  have q1 : W1.cell? ⟨S, 1, none⟩ = some (.slice at' T ct) := by rw [cell_of_row _ _ 1 _ _ _ r1]; rfl
  obtain ⟨E, hE⟩ : ∃ E, E = wrE rs ts rows := ⟨_, rfl⟩
  obtain ⟨F, hF⟩ : ∃ F, F = wrB rs ts rows := ⟨_, rfl⟩
  have C : Hid (Calls Try.prog 35 #[.agg #[.slice ac N cc, .slice at' T ct], .int .i64 rows] W1 fun e w' => ∃ a n c, e = .returned (.tuple #[.slice a n c, .int .i64 (E : Int)]) ∧ Below S w w' ∧ w'.ownsRow S 5 1 (.slice a n c) F.length (bytesV F)) := by
    have := tableWrite_all Bt rows ac cc at' ct rs ts lbc lbt vs W1 (hT.kept (fun j hj => b1.block j (by omega))) (by omega) hrl htl
    rw [← hN, ← hTl, ← hE, ← hF] at this
    refine this.mono ?_
    rintro e w' ⟨hb, v, rfl, ho⟩
    obtain ⟨a, c, rfl⟩ := slen_of ho
    exact ⟨a, _, c, rfl, b1.trans (hb.mono (by omega)), ho.mono (by omega)⟩
  rw [← hE, ← hF, ← hN, ← hTl, ← hS]
  have hW1' : w.alloc (.cells #[.slice ac N cc, .slice at' T ct] 50) = W1 := hW1.symm
  have hsz : w.heap.size = S := hS.symm
  clear hT hN hTl hW1 hS b1 r1 hF hE hBt s1 hrl htl
  go_enter Try.func15, Try.ntmps15
  go_wp2_with fail
  refine C.out.mono ?_
  rintro e w2 ⟨a, n, c, rfl, hb, ho⟩
  have HB := hid hb
  have HO := hid ho
  clear hb ho C
  go_wp2
  go_ret2
  exact ⟨HB.out, _, rfl, HO.out⟩
end Go.Proofs.Ytjobhlncllfdmaa
