/- The program's footer: writeColumn, writeGroup. -/
import Derived.Test.YtjobhlncllfdmaaM27
namespace Go.Proofs.Ytjobhlncllfdmaa
open Go.RowKit Go.Maps

/-- a column of a footer -/
def colL (c : Pu.Col) : List UInt8 := vb c.name.length ++ c.name ++ [UInt8.ofNat (c.kind + if c.opt = true then 4 else 0)]
/-- a group of a footer -/
def plcL (p : Nat × Nat) : List UInt8 := vb p.1 ++ vb p.2
def grL (g : Nat × List (Nat × Nat)) : List UInt8 := vb g.1 ++ g.2.flatMap plcL

theorem or4 (k : Nat) (hk : k ≤ 2) : bits .or .u64 (k : Int) 4 = ((k + 4 : Nat) : Int) := by
  rcases (show k = 0 ∨ k = 1 ∨ k = 2 by omega) with rfl | rfl | rfl <;> decide

set_option maxHeartbeats 4000000 in
set_option maxRecDepth 100000 in
theorem writeColumn_any (R B : Nat) (c : Pu.Col) (v : Value) (L : List UInt8) (w : World) (h : OS w R B v L) (hB : B ≤ w.heap.size) (hk : c.kind ≤ 2) (hn : c.name.length ≤ 1000) (hs : L.length + 10000 ≤ 140737488355328) :
    Calls Try.prog 92 #[.pointer (some ⟨R, 0, none⟩), .agg #[strV c.name, .int .i64 (c.kind : Int), .bool c.opt]] w fun e w' => e = .returned (.tuple #[]) ∧ OG w R B v (L ++ colL c) w' := by
  obtain ⟨nm, kind, opt⟩ := c
  simp only at hk hn
  obtain ⟨S, hS⟩ : ∃ S, S = w.heap.size := ⟨_, rfl⟩
  obtain ⟨t, ht⟩ : ∃ t : ByteArray, t = ⟨nm.toArray⟩ := ⟨_, rfl⟩
  have hts : t.size = nm.length := by rw [ht]; simp [ByteArray.size]
  have htd : t.data.toList = nm := by rw [ht]
  obtain ⟨W1, hW1⟩ : ∃ W1, W1 = w.alloc (.cells #[.string t, .int .i64 (kind : Int), .bool opt] 45) := ⟨_, rfl⟩
  have b1 : Below w.heap.size w W1 := by rw [hW1]; exact bbox w _
  have r1 : W1.heap[S]? = some (.cells #[.string t, .int .i64 (kind : Int), .bool opt] 45 (0, 0)) := by rw [hW1, hS]; exact heap_alloc_new w _
  have s1 : W1.heap.size = S + 1 := by rw [hW1, size_alloc', hS]
  have o1 := h.below b1
  have hRl := h.lt
  have hl1 := length_vb8 (n := t.size) (by omega)
  have HC : Hid (∀ M w2, OG W1 R B v M w2 → w2.cell? ⟨S, 0, none⟩ = some (.string t) ∧ w2.cell? ⟨S, 1, none⟩ = some (.int .i64 (kind : Int)) ∧ w2.cell? ⟨S, 2, none⟩ = some (.bool opt)) := fun M w2 hg => by
    have r2 : w2.heap[S]? = some (.cells #[.string t, .int .i64 (kind : Int), .bool opt] 45 (0, 0)) := by
      rw [hg.blk (by omega) (by omega) (fun e => by have := (h.own.lt S e).2; omega)]; exact r1
    exact ⟨by rw [cell_of_row _ _ 0 _ _ _ r2]; rfl, by rw [cell_of_row _ _ 1 _ _ _ r2]; rfl, by rw [cell_of_row _ _ 2 _ _ _ r2]; rfl⟩
  obtain ⟨q0, q1, q2⟩ := HC.out L W1 (OG.refl o1)
  have S1 : Hid (Calls Try.prog 91 #[.pointer (some ⟨R, 0, none⟩), .int .i64 (t.size : Int)] W1 fun e w' => e = .returned (.tuple #[]) ∧ OG W1 R B v (L ++ vb t.size) w') := (OG.refl o1).var (by omega) t.size (by omega) (by omega)
  have S2 : Hid (∀ w2, OG W1 R B v (L ++ vb t.size) w2 → Calls Try.prog 71 #[.pointer (some ⟨R, 0, none⟩), .string t] w2 fun e w' => e = .returned (.tuple #[]) ∧ OG W1 R B v (L ++ vb t.size ++ t.data.toList) w') := fun w2 hg => hg.text (by omega) t (by rw [List.length_append]; omega)
  obtain ⟨kk, hkk⟩ : ∃ kk, kk = kind + if opt = true then 4 else 0 := ⟨_, rfl⟩
  have hk6 : kk ≤ 6 := by rw [hkk]; split <;> omega
  have S3 : Hid (∀ w2, OG W1 R B v (L ++ vb t.size ++ t.data.toList) w2 → Calls Try.prog 75 #[.pointer (some ⟨R, 0, none⟩), .int .u64 (kk : Int), .int .i64 1] w2 fun e w' => e = .returned (.tuple #[]) ∧ OG w R B v (L ++ colL ⟨nm, kind, opt⟩) w') := fun w2 hg => by
    refine (hg.num (by omega) kk 1 (by omega) (by omega) (by simp; omega)).mono ?_
    rintro e w' ⟨rfl, hg2⟩
    refine ⟨rfl, OG.after b1 ?_⟩
    rw [leB_one _ (by omega), hts, htd] at hg2
    unfold colL
    rw [← hkk, ← List.append_assoc, ← List.append_assoc]
    exact hg2
  have hor := or4 kind hk
  obtain ⟨k4, hk4⟩ : ∃ k4, k4 = kind + 4 := ⟨_, rfl⟩
  rw [← hk4] at hor
  rw [show strV nm = .string t by rw [ht]; rfl]
  have hW1' : w.alloc (.cells #[.string t, .int .i64 (kind : Int), .bool opt] 45) = W1 := hW1.symm
  have hsz : w.heap.size = S := hS.symm
  have ku : (kind : Int) % 18446744073709551616 = (kind : Int) := by omega
  clear h o1 ht hW1 hS b1 r1 s1 hts htd hn
  go_enter Try.func92, Try.ntmps92
  go_wp2_with fail
  refine S1.out.mono ?_
  rintro e w2 ⟨rfl, h2⟩
  obtain ⟨q3, q4, q5⟩ := HC.out _ w2 h2
  have C2 := hid (S2.out w2 h2)
  clear S1 S2 h2 q0 q1 q2
  go_wp2_with fail
  refine C2.out.mono ?_
  rintro e w3 ⟨rfl, h3⟩
  obtain ⟨q6, q7, q8⟩ := HC.out _ w3 h3
  have C3 := hid (S3.out w3 h3)
  clear S3 h3 q3 q4 q5 C2 HC
  cases opt
  · simp only [Bool.false_eq_true, if_false, Nat.add_zero] at hkk
    subst hkk
    go_wp2_with fail
    refine C3.out.mono ?_
    rintro e w4 ⟨rfl, h4⟩
    go_wp2
    go_end0
    exact ⟨rfl, h4⟩
  · simp only [if_true] at hkk
    rw [← hk4] at hkk
    subst hkk
    clear hk4
    go_wp2_with fail
    refine C3.out.mono ?_
    rintro e w4 ⟨rfl, h4⟩
    go_wp2
    go_end0
    exact ⟨rfl, h4⟩

/-- a place of a list -/
theorem Rs.pl2 {w : World} {lb : Nat} {ao : Option Addr} {cap : Nat} {l : List (Nat × Nat)} (h : Rs w 2 lb ao l.length cap (plsV l)) (k : Nat) (hk : k < l.length) :
    ∃ o, ao = some ⟨lb, o, none⟩ ∧ w.cell? ⟨lb, o + k * 2, none⟩ = some (.int .i64 (l[k].1 : Int)) ∧ w.cell? ⟨lb, o + k * 2 + 1, none⟩ = some (.int .i64 (l[k].2 : Int)) := by
  obtain ⟨o, rfl, hc⟩ := h.at (by omega)
  have hl : ∀ l : List (Nat × Nat), (plsV l).length = l.length * 2 := fun l => by
    induction l with
    | nil => rfl
    | cons p r ih =>
      have : (plsV (p :: r)).length = 2 + (plsV r).length := by simp [plsV, plV]; omega
      rw [this, ih, List.length_cons]; omega
  have hat : ∀ (l : List (Nat × Nat)) (k j : Nat) (h : k < l.length), j < 2 → (plsV l)[k * 2 + j]? = (plV l[k])[j]? := fun l => by
    induction l with
    | nil => intro k j h; simp at h
    | cons c r ih =>
      intro k j h hj
      have e : plsV (c :: r) = plV c ++ plsV r := by simp [plsV]
      have hl2 : (plV c).length = 2 := rfl
      rw [e]
      cases k with
      | zero => rw [List.getElem?_append_left (by omega)]; simp
      | succ k =>
        rw [List.getElem?_append_right (by omega), show (k + 1) * 2 + j - (plV c).length = k * 2 + j by omega, ih k j (by simpa using h) hj]
        simp
  have hh : ∀ j, (hj : j < 2) → ∀ u, (plV l[k])[j]? = some u → w.cell? ⟨lb, o + (k * 2 + j), none⟩ = some u := fun j hj u hu => by
    have hll := hl l
    rw [hc (k * 2 + j) (by omega)]
    have := hat l k j hk hj
    rw [List.getElem?_eq_getElem (by omega), hu] at this
    exact this
  exact ⟨o, rfl, hh 0 (by omega) _ rfl, hh 1 (by omega) _ rfl⟩
end Go.Proofs.Ytjobhlncllfdmaa

/- The program's footer: writeGroup. -/
namespace Go.Proofs.Ytjobhlncllfdmaa
open Go.RowKit Go.Maps

theorem plc_take (l : List (Nat × Nat)) (k : Nat) (hk : k < l.length) : (l.take (k + 1)).flatMap plcL = (l.take k).flatMap plcL ++ (vb l[k].1 ++ vb l[k].2) := by
  rw [List.take_succ_eq_append_getElem hk, List.flatMap_append]; simp [plcL]
theorem length_plc (l : List (Nat × Nat)) (h : ∀ p ∈ l, p.1 ≤ 140737488355328 ∧ p.2 ≤ 140737488355328) : (l.flatMap plcL).length ≤ 14 * l.length := by
  induction l with
  | nil => simp
  | cons p r ih =>
    have ih := ih (fun q hq => h q (by simp [hq]))
    have hp := h p (by simp)
    have l1 := length_vb8 hp.1
    have l2 := length_vb8 hp.2
    rw [List.flatMap_cons, List.length_append, List.length_cons]
    have : (plcL p).length ≤ 14 := by unfold plcL; rw [List.length_append]; omega
    omega

set_option maxHeartbeats 4000000 in
set_option maxRecDepth 100000 in
theorem fwGroup_any (R B lb rows cp : Nat) (ap : Option Addr) (ps : List (Nat × Nat)) (v : Value) (L : List UInt8) (w : World) (h : OS w R B v L) (hB : B ≤ w.heap.size) (hr : Rs w 2 lb ap ps.length cp (plsV ps)) (hlb : lb < w.heap.size) (hlR : lb ≠ R) (hlv : v.ownBlock ≠ some lb) (hrows : rows ≤ 1000000) (hps : ps.length ≤ 1000) (hp : ∀ p ∈ ps, p.1 ≤ 140737488355328 ∧ p.2 ≤ 140737488355328) (hs : L.length + 100000 ≤ 140737488355328) :
    Calls Try.prog 93 #[.pointer (some ⟨R, 0, none⟩), .agg #[.int .i64 (rows : Int), .slice ap ps.length cp]] w fun e w' => e = .returned (.tuple #[]) ∧ OG w R B v (L ++ grL (rows, ps)) w' := by
  obtain ⟨S, hS⟩ : ∃ S, S = w.heap.size := ⟨_, rfl⟩
  obtain ⟨N, hN⟩ : ∃ N, N = ps.length := ⟨_, rfl⟩
  obtain ⟨W1, hW1⟩ : ∃ W1, W1 = w.alloc (.cells #[.int .i64 (rows : Int), .slice ap N cp] 105) := ⟨_, rfl⟩
  have b1 : Below w.heap.size w W1 := by rw [hW1]; exact bbox w _
  have r1 : W1.heap[S]? = some (.cells #[.int .i64 (rows : Int), .slice ap N cp] 105 (0, 0)) := by rw [hW1, hS]; exact heap_alloc_new w _
  have s1 : W1.heap.size = S + 1 := by rw [hW1, size_alloc', hS]
  have o1 := h.below b1
  have hRl := h.lt
  have hl1 := length_vb8 (n := rows) (by omega)
  have q0 : W1.cell? ⟨S, 0, none⟩ = some (.int .i64 (rows : Int)) := by rw [cell_of_row _ _ 0 _ _ _ r1]; rfl
  have HC : Hid (∀ M w2, OG W1 R B v M w2 → w2.cell? ⟨S, 1, none⟩ = some (.slice ap N cp)) := fun M w2 hg => by
    have r2 : w2.heap[S]? = some (.cells #[.int .i64 (rows : Int), .slice ap N cp] 105 (0, 0)) := by
      rw [hg.blk (by omega) (by omega) (fun e => by have := (h.own.lt S e).2; omega)]; exact r1
    rw [cell_of_row _ _ 1 _ _ _ r2]; rfl
  have HP : Hid (∀ (M : List UInt8) (wr : World) (k : Nat), OG W1 R B v M wr → (hk : k < ps.length) → ∃ o, ap = some ⟨lb, o, none⟩ ∧ wr.cell? ⟨lb, o + k * 2, none⟩ = some (.int .i64 (ps[k].1 : Int)) ∧ wr.cell? ⟨lb, o + k * 2 + 1, none⟩ = some (.int .i64 (ps[k].2 : Int))) := fun M wr k hg hk =>
    (hr.kept (w' := wr) (by rw [hg.blk (by omega) hlR hlv, b1.block _ hlb])).pl2 k hk
  have S1 : Hid (Calls Try.prog 91 #[.pointer (some ⟨R, 0, none⟩), .int .i64 (rows : Int)] W1 fun e w' => e = .returned (.tuple #[]) ∧ OG W1 R B v (L ++ vb rows ++ (ps.take 0).flatMap plcL) w') := by
    have := (OG.refl o1).var (by omega) rows (by omega) (by omega)
    rw [Hid, show L ++ vb rows ++ (ps.take 0).flatMap plcL = L ++ vb rows by simp]
    exact this
  have HK : Hid (∀ (k : Nat) (wr : World) (hk : k < ps.length), OG W1 R B v (L ++ vb rows ++ (ps.take k).flatMap plcL) wr → ∀ Wc, Wc = wr.alloc (.cells #[.int .i64 (ps[k].1 : Int), .int .i64 (ps[k].2 : Int)] 158) → Calls Try.prog 91 #[.pointer (some ⟨R, 0, none⟩), .int .i64 (ps[k].1 : Int)] Wc fun e w2 => e = .returned (.tuple #[]) ∧ w2.cell? ⟨wr.heap.size, 1, none⟩ = some (.int .i64 (ps[k].2 : Int)) ∧ Calls Try.prog 91 #[.pointer (some ⟨R, 0, none⟩), .int .i64 (ps[k].2 : Int)] w2 fun e w3 => e = .returned (.tuple #[]) ∧ OG W1 R B v (L ++ vb rows ++ (ps.take (k + 1)).flatMap plcL) w3) := fun k wr hk hg Wc hWc => by
    have hpk := hp _ (List.getElem_mem hk)
    have hlp := length_plc (ps.take k) (fun q hq => hp q (List.mem_of_mem_take hq))
    have hlt : (ps.take k).length ≤ 1000 := by rw [List.length_take]; omega
    have bc : Below wr.heap.size wr Wc := by rw [hWc]; exact bbox wr _
    have hgc := hg.later bc
    have hlen : (L ++ vb rows ++ (ps.take k).flatMap plcL).length + 1000 ≤ 140737488355328 := by simp only [List.length_append]; omega
    have hl2 := length_vb8 hpk.1
    obtain ⟨v1, oc, fc, gc⟩ := hgc
    obtain ⟨v1', oc', fc', gc'⟩ := hg
    have hv : v1' = v1 := Option.some.inj ((oc'.below bc).c0.symm.trans oc.c0)
    subst hv
    have rc : Wc.heap[wr.heap.size]? = some (.cells #[.int .i64 (ps[k].1 : Int), .int .i64 (ps[k].2 : Int)] 158 (0, 0)) := by rw [hWc]; exact heap_alloc_new wr _
    have sc : Wc.heap.size = wr.heap.size + 1 := by rw [hWc, size_alloc']
    have hfs := fc.size
    refine ((OG.refl oc).var (by omega) ps[k].1 hpk.1 (by omega)).mono ?_
    rintro e w2 ⟨rfl, hg2⟩
    refine ⟨rfl, ?_, ?_⟩
    · have hR' := oc'.lt
      rw [World.cell?_of_block (w := Wc) (a := ⟨wr.heap.size, 1, none⟩) (hg2.blk (k := wr.heap.size) (by omega) (by omega) (fun e => by have := (oc'.own.lt _ e).2; omega)), cell_of_row _ _ 1 _ _ _ rc]; rfl
    · refine (hg2.var (by omega) ps[k].2 hpk.2 (by rw [List.length_append]; omega)).mono ?_
      rintro e w3 ⟨rfl, hg3⟩
      refine ⟨rfl, ?_⟩
      rw [plc_take ps k hk, ← List.append_assoc, ← List.append_assoc]
      exact OG.step oc fc gc hg3
  have HF : Hid (∀ w3, OG W1 R B v (L ++ vb rows ++ ps.flatMap plcL) w3 → OG w R B v (L ++ grL (rows, ps)) w3) := fun w3 hg => by
    unfold grL
    rw [← List.append_assoc]
    exact OG.after b1 hg
  have HN : Hid (N = ps.length) := hN
  rw [← hN] at hps ⊢
  have hW1' : w.alloc (.cells #[.int .i64 (rows : Int), .slice ap N cp] 105) = W1 := hW1.symm
  have hsz : w.heap.size = S := hS.symm
  clear h o1 hr hp hW1 hS b1 r1 s1 hN
  go_enter Try.func93, Try.ntmps93
  go_wp2_with fail
  refine S1.out.mono ?_
  rintro e w2 ⟨rfl, h2⟩
  have q1 := HC.out _ w2 h2
  have H0 := hid h2
  clear S1 HC h2
  go_wp2
  go_loopw [13] (fun i wr => ∃ (k : Nat), k ≤ N ∧ i = .int .i64 k ∧ Hid (OG W1 R B v (L ++ vb rows ++ (ps.take k).flatMap plcL) wr))
    (fun i _ => N - (intOf i).toNat)
  case atStart => exact ⟨0, Nat.zero_le _, rfl, H0⟩
  case round =>
    obtain ⟨k, hk, rfl, Hg⟩ := hrel
    by_cases hk2 : k < N
    · have hkl : k < ps.length := by rw [← HN.out]; exact hk2
      obtain ⟨o, rfl, c0, c1⟩ := HP.out _ wr k Hg.out hkl
      obtain ⟨Wc, hWc⟩ : ∃ Wc, Wc = wr.alloc (.cells #[.int .i64 (ps[k].1 : Int), .int .i64 (ps[k].2 : Int)] 158) := ⟨_, rfl⟩
      have C1 := hid (HK.out k wr hkl Hg.out Wc hWc)
      obtain ⟨p1, hp1⟩ : ∃ p1, p1 = ps[k].1 := ⟨_, rfl⟩
      obtain ⟨p2, hp2⟩ : ∃ p2, p2 = ps[k].2 := ⟨_, rfl⟩
      rw [← hp1, ← hp2] at C1 hWc
      rw [← hp1] at c0
      rw [← hp2] at c1
      have y0 : Wc.cell? ⟨wr.heap.size, 0, none⟩ = some (.int .i64 (p1 : Int)) := by rw [hWc, cell_of_row _ _ 0 _ _ _ (heap_alloc_new wr _)]; rfl
      have hWc' : wr.alloc (.cells #[.int .i64 (p1 : Int), .int .i64 (p2 : Int)] 158) = Wc := hWc.symm
      clear hWc hp1 hp2 Hg HK HP
      go_wp2_with fail
      refine C1.out.mono ?_
      rintro e w3 ⟨rfl, y1, C2⟩
      have C2' := hid C2
      clear C1 C2
      go_wp2_with fail
      refine C2'.out.mono ?_
      rintro e w4 ⟨rfl, h4⟩
      have H4 := hid h4
      clear C2' h4
      go_wp2
      go_roundw
      case rel => exact ⟨k + 1, by omega, by go_num, H4⟩
      case measure => simp [intOf]; omega
    · obtain rfl : k = N := by omega
      have htl : ps.take k = ps := List.take_of_length_le (by rw [HN.out]; exact Nat.le_refl _)
      rw [htl] at Hg
      go_wp2
      go_end0
      exact ⟨rfl, HF.out wr Hg.out⟩
end Go.Proofs.Ytjobhlncllfdmaa

/- The program's footer: write. -/
namespace Go.Proofs.Ytjobhlncllfdmaa
open Go.RowKit Go.Maps

/-- a footer -/
def footL (cs : List Pu.Col) (gs : List (Nat × List (Nat × Nat))) : List UInt8 := vb cs.length ++ cs.flatMap colL ++ (vb gs.length ++ gs.flatMap grL)

theorem length_colL (c : Pu.Col) (h : c.name.length ≤ 1000) : (colL c).length ≤ 1010 := by
  have := length_vb8 (n := c.name.length) (by omega)
  unfold colL; simp only [List.length_append]; simp; omega
theorem length_cols (l : List Pu.Col) (h : ∀ c ∈ l, c.name.length ≤ 1000) : (l.flatMap colL).length ≤ 1010 * l.length := by
  induction l with
  | nil => simp
  | cons c r ih =>
    have ih := ih (fun q hq => h q (by simp [hq]))
    have h1 := length_colL c (h c (by simp))
    rw [List.flatMap_cons, List.length_append, List.length_cons]; omega
/-- groups that may be told -/
def GsOk (gs : List (Nat × List (Nat × Nat))) : Prop := ∀ g ∈ gs, g.1 ≤ 1000000 ∧ g.2.length ≤ 1000 ∧ ∀ p ∈ g.2, p.1 ≤ 140737488355328 ∧ p.2 ≤ 140737488355328
theorem length_grs (l : List (Nat × List (Nat × Nat))) (h : GsOk l) : (l.flatMap grL).length ≤ 15000 * l.length := by
  induction l with
  | nil => simp
  | cons g r ih =>
    have ih := ih (fun q hq => h q (by simp [hq]))
    obtain ⟨h1, h2, h3⟩ := h g (by simp)
    have l1 := length_vb8 (n := g.1) (by omega)
    have l2 := length_plc g.2 h3
    rw [List.flatMap_cons, List.length_append, List.length_cons]
    have : (grL g).length ≤ 15000 := by unfold grL; rw [List.length_append]; omega
    omega
theorem col_take (l : List Pu.Col) (k : Nat) (hk : k < l.length) : (l.take (k + 1)).flatMap colL = (l.take k).flatMap colL ++ colL l[k] := by
  rw [List.take_succ_eq_append_getElem hk, List.flatMap_append]; simp
theorem grs_take (l : List (Nat × List (Nat × Nat))) (k : Nat) (hk : k < l.length) : (l.take (k + 1)).flatMap grL = (l.take k).flatMap grL ++ grL l[k] := by
  rw [List.take_succ_eq_append_getElem hk, List.flatMap_append]; simp
theorem length_grsV (l : List (Nat × Value)) : (grsV l).length = l.length * 2 := by
  induction l with
  | nil => rfl
  | cons p r ih =>
    have : (grsV (p :: r)).length = 2 + (grsV r).length := by simp [grsV, grV]; omega
    rw [this, ih, List.length_cons]; omega
theorem grsV_at (l : List (Nat × Value)) (k j : Nat) (h : k < l.length) (hj : j < 2) : (grsV l)[k * 2 + j]? = (grV l[k])[j]? := by
  induction l generalizing k with
  | nil => simp at h
  | cons c r ih =>
    have e : grsV (c :: r) = grV c ++ grsV r := by simp [grsV]
    have hl2 : (grV c).length = 2 := rfl
    rw [e]
    cases k with
    | zero => rw [List.getElem?_append_left (by omega)]; simp
    | succ k =>
      rw [List.getElem?_append_right (by omega), show (k + 1) * 2 + j - (grV c).length = k * 2 + j by omega, ih k (by simpa using h)]
      simp

/-- the writer of the footer under way -/
def FwS (w : World) (R : Nat) (M : List UInt8) (wr : World) : Prop := ∃ v1, OS wr R R v1 M ∧ Below R w wr
theorem FwS.of {w wr w' : World} {R : Nat} {v1 : Value} {M M' : List UInt8} (hR : R = w.heap.size) (o : OS wr R R v1 M) (b : Below R w wr) (hg : OG wr R R v1 M' w') : FwS w R M' w' := hg.fresh b hR o

/-- a round over the columns -/
theorem fw_col {w wr : World} {R lbc cc k : Nat} {ac : Option Addr} {cs : List Pu.Col} {M : List UInt8} (hR : R = w.heap.size) (hr : Rs w 3 lbc ac cs.length cc (colsV cs)) (hlb : lbc < w.heap.size) (hk : k < cs.length) (hc : cs[k].kind ≤ 2 ∧ cs[k].name.length ≤ 1000) (hM : M.length ≤ 1000000000) (h : FwS w R M wr) :
    ∃ (oc : Nat) (nm : ByteArray) (Wc : World), ac = some ⟨lbc, oc, none⟩ ∧ wr.cell? ⟨lbc, oc + k * 3, none⟩ = some (.string nm) ∧ wr.cell? ⟨lbc, oc + k * 3 + 1, none⟩ = some (.int .i64 (cs[k].kind : Int)) ∧ wr.cell? ⟨lbc, oc + k * 3 + 2, none⟩ = some (.bool cs[k].opt) ∧ wr.alloc (.cells #[.string nm, .int .i64 (cs[k].kind : Int), .bool cs[k].opt] 45) = Wc ∧
      Wc.cell? ⟨wr.heap.size, 0, none⟩ = some (.string nm) ∧ Wc.cell? ⟨wr.heap.size, 1, none⟩ = some (.int .i64 (cs[k].kind : Int)) ∧ Wc.cell? ⟨wr.heap.size, 2, none⟩ = some (.bool cs[k].opt) ∧
      Calls Try.prog 92 #[.pointer (some ⟨R, 0, none⟩), .agg #[.string nm, .int .i64 (cs[k].kind : Int), .bool cs[k].opt]] Wc fun e w' => e = .returned (.tuple #[]) ∧ FwS w R (M ++ colL cs[k]) w' := by
  obtain ⟨v1, o1, b1⟩ := h
  obtain ⟨oc, hac, c0, c1, c2⟩ := (hr.kept (b1.block _ (by omega))).col3 k hk
  obtain ⟨nm, hnm⟩ : ∃ nm : ByteArray, nm = ⟨cs[k].name.toArray⟩ := ⟨_, rfl⟩
  obtain ⟨Wc, hWc⟩ : ∃ Wc, Wc = wr.alloc (.cells #[.string nm, .int .i64 (cs[k].kind : Int), .bool cs[k].opt] 45) := ⟨_, rfl⟩
  have rc : Wc.heap[wr.heap.size]? = some (.cells #[.string nm, .int .i64 (cs[k].kind : Int), .bool cs[k].opt] 45 (0, 0)) := by rw [hWc]; exact heap_alloc_new wr _
  have bc : Below wr.heap.size wr Wc := by rw [hWc]; exact bbox wr _
  have hb1 := b1.size
  have hbc := bc.size
  have oc' := o1.below bc
  have bR : Below R w Wc := b1.trans (bc.mono (by omega))
  refine ⟨oc, nm, Wc, hac, by rw [hnm]; exact c0, c1, c2, hWc.symm, by rw [cell_of_row _ _ 0 _ _ _ rc]; rfl, by rw [cell_of_row _ _ 1 _ _ _ rc]; rfl, by rw [cell_of_row _ _ 2 _ _ _ rc]; rfl, ?_⟩
  have := writeColumn_any R R cs[k] v1 M Wc oc' (by omega) hc.1 hc.2 (by omega)
  rw [show strV cs[k].name = .string nm by rw [hnm]; rfl] at this
  refine this.mono ?_
  rintro e w' ⟨rfl, hg⟩
  exact ⟨rfl, FwS.of hR oc' bR hg⟩

/-- a round over the groups -/
theorem fw_grp {w wr : World} {R B lbg cg k : Nat} {ag : Option Addr} {ws : List (Nat × Value)} {gs : List (Nat × List (Nat × Nat))} {M : List UInt8} (hR : R = w.heap.size) (hr : Rs w 2 lbg ag gs.length cg (grsV ws)) (hlb : lbg < w.heap.size) (hgl : GL w B ws gs) (hk : k < gs.length) (hgs : GsOk gs) (hM : M.length ≤ 1000000000) (h : FwS w R M wr) :
    ∃ (og : Nat) (rows : Nat) (ap : Option Addr) (np cp : Nat) (Wc : World), ag = some ⟨lbg, og, none⟩ ∧ wr.cell? ⟨lbg, og + k * 2, none⟩ = some (.int .i64 (rows : Int)) ∧ wr.cell? ⟨lbg, og + k * 2 + 1, none⟩ = some (.slice ap np cp) ∧ wr.alloc (.cells #[.int .i64 (rows : Int), .slice ap np cp] 105) = Wc ∧
      Wc.cell? ⟨wr.heap.size, 0, none⟩ = some (.int .i64 (rows : Int)) ∧ Wc.cell? ⟨wr.heap.size, 1, none⟩ = some (.slice ap np cp) ∧
      Calls Try.prog 93 #[.pointer (some ⟨R, 0, none⟩), .agg #[.int .i64 (rows : Int), .slice ap np cp]] Wc fun e w' => e = .returned (.tuple #[]) ∧ FwS w R (M ++ grL gs[k]) w' := by
  obtain ⟨v1, o1, b1⟩ := h
  have hb1 := b1.size
  have hr1 := hr.kept (w' := wr) (b1.block _ (by omega))
  obtain ⟨og, hag, hc⟩ := hr1.at (by omega)
  have hwl := hgl.1
  have hll := length_grsV ws
  have hkw : k < ws.length := by omega
  obtain ⟨e1, e2⟩ := hgl.2 k ws[k] gs[k] (List.getElem?_eq_getElem hkw) (List.getElem?_eq_getElem hk)
  obtain ⟨ap, cp, hvp⟩ := slen_of e2
  have hh : ∀ j, (hj : j < 2) → ∀ u, (grV ws[k])[j]? = some u → wr.cell? ⟨lbg, og + (k * 2 + j), none⟩ = some u := fun j hj u hu => by
    rw [hc (k * 2 + j) (by omega)]
    have := grsV_at ws k j hkw hj
    rw [List.getElem?_eq_getElem (by omega), hu] at this
    exact this
  have c0 : wr.cell? ⟨lbg, og + k * 2, none⟩ = some (.int .i64 (gs[k].1 : Int)) := by
    have := hh 0 (by omega) (.int .i64 (ws[k].1 : Int)) rfl
    rw [e1] at this; exact this
  have c1 : wr.cell? ⟨lbg, og + k * 2 + 1, none⟩ = some (.slice ap gs[k].2.length cp) := by
    have := hh 1 (by omega) ws[k].2 rfl
    rw [hvp] at this; exact this
  obtain ⟨Wc, hWc⟩ : ∃ Wc, Wc = wr.alloc (.cells #[.int .i64 (gs[k].1 : Int), .slice ap gs[k].2.length cp] 105) := ⟨_, rfl⟩
  have rc : Wc.heap[wr.heap.size]? = some (.cells #[.int .i64 (gs[k].1 : Int), .slice ap gs[k].2.length cp] 105 (0, 0)) := by rw [hWc]; exact heap_alloc_new wr _
  have bc : Below wr.heap.size wr Wc := by rw [hWc]; exact bbox wr _
  have hbc := bc.size
  have oc' := o1.below bc
  have bR : Below R w Wc := b1.trans (bc.mono (by omega))
  refine ⟨og, gs[k].1, ap, gs[k].2.length, cp, Wc, hag, c0, c1, hWc.symm, by rw [cell_of_row _ _ 0 _ _ _ rc]; rfl, by rw [cell_of_row _ _ 1 _ _ _ rc]; rfl, ?_⟩
  obtain ⟨g1, g2, g3⟩ := hgs _ (List.getElem_mem hk)
  rw [hvp] at e2
  have e2c : Wc.ownsRow B 158 2 (.slice ap gs[k].2.length cp) gs[k].2.length (plsV gs[k].2) := own_agreeS e2 (fun j hj => bR.block j (by have := (e2.lt j hj).2; omega))
  obtain ⟨lbp, hrp, hlp⟩ := Rs.own_or e2c lbg
  have hlpR : lbp < R := by
    rcases hlp with rfl | h'
    · omega
    · have := (e2.lt lbp h').2; omega
  refine (fwGroup_any R R lbp gs[k].1 cp ap gs[k].2 v1 M Wc oc' (by omega) hrp (by omega) (by omega) (fun e => by have := (o1.own.lt lbp e).1; omega) g1 g2 g3 (by omega)).mono ?_
  rintro e w' ⟨rfl, hg⟩
  exact ⟨rfl, FwS.of hR oc' bR hg⟩
end Go.Proofs.Ytjobhlncllfdmaa
