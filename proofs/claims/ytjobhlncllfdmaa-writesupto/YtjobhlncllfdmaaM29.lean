/- The program's footer: write (the walk), Begin, End. -/
import Derived.Test.YtjobhlncllfdmaaM28
namespace Go.Proofs.Ytjobhlncllfdmaa
open Go.RowKit Go.Maps

set_option maxHeartbeats 8000000 in
set_option maxRecDepth 100000 in
theorem fwWrite_any (lbc cc lbg cg B : Nat) (ac ag : Option Addr) (cs : List Pu.Col) (ws : List (Nat × Value)) (gs : List (Nat × List (Nat × Nat))) (w : World) (hr : Rs w 3 lbc ac cs.length cc (colsV cs)) (hlc : lbc < w.heap.size) (hc20 : cs.length ≤ 20) (hcol : ∀ c ∈ cs, c.kind ≤ 2 ∧ c.name.length ≤ 1000)
    (hrg : Rs w 2 lbg ag gs.length cg (grsV ws)) (hlg : lbg < w.heap.size) (hgl : GL w B ws gs) (hgs : GsOk gs) (hg5 : gs.length ≤ 5000) :
    Calls Try.prog 73 #[.slice ac cs.length cc, .slice ag gs.length cg] w fun e w' => ∃ v, e = .returned v ∧ w'.ownsRow w.heap.size 5 1 v (footL cs gs).length (bytesV (footL cs gs)) ∧ Below w.heap.size w w' := by
  obtain ⟨R, hR⟩ : ∃ R, R = w.heap.size := ⟨_, rfl⟩
  obtain ⟨W0, hW0⟩ : ∃ W0, W0 = w.alloc (.cells #[.slice none 0 0] 116) := ⟨_, rfl⟩
  have o0 : OS W0 R R (.slice none 0 0) [] := ⟨by rw [hW0, hR]; exact heap_alloc_new w _, World.ownsRow_nil _ _ _ _⟩
  have b0 : Below R w W0 := by rw [hR, hW0]; exact bbox w _
  obtain ⟨N, hN⟩ : ∃ N, N = cs.length := ⟨_, rfl⟩
  obtain ⟨G, hG⟩ : ∃ G, G = gs.length := ⟨_, rfl⟩
  have lc := length_cols cs (fun c hc => (hcol c hc).2)
  have lct : ∀ k, ((cs.take k).flatMap colL).length ≤ 1010 * 20 := fun k => by
    have := length_cols (cs.take k) (fun c hc => (hcol c (List.mem_of_mem_take hc)).2)
    have h2 : (cs.take k).length ≤ 20 := by rw [List.length_take]; omega
    omega
  have lgt : ∀ k, ((gs.take k).flatMap grL).length ≤ 15000 * 5000 := fun k => by
    have := length_grs (gs.take k) (fun g hg => hgs g (List.mem_of_mem_take hg))
    have h2 : (gs.take k).length ≤ 5000 := by rw [List.length_take]; omega
    omega
  have l1 := length_vb8 (n := N) (by omega)
  have l2 := length_vb8 (n := G) (by omega)
  have S1 : Hid (Calls Try.prog 91 #[.pointer (some ⟨R, 0, none⟩), .int .i64 (N : Int)] W0 fun e w' => e = .returned (.tuple #[]) ∧ FwS w R (vb N ++ (cs.take 0).flatMap colL) w') := by
    refine ((OG.refl o0).var (by have := b0.size; omega) N (by omega) (by simp)).mono ?_
    rintro e w' ⟨rfl, hg⟩
    exact ⟨rfl, by have := FwS.of hR o0 b0 hg; simpa using this⟩
  have HC : Hid (∀ (k : Nat) (wr : World) (hk : k < cs.length), FwS w R (vb N ++ (cs.take k).flatMap colL) wr → ∃ (oc : Nat) (nm : ByteArray) (Wc : World) (kind : Nat) (opt : Bool), ac = some ⟨lbc, oc, none⟩ ∧ wr.cell? ⟨lbc, oc + k * 3, none⟩ = some (.string nm) ∧ wr.cell? ⟨lbc, oc + k * 3 + 1, none⟩ = some (.int .i64 (kind : Int)) ∧ wr.cell? ⟨lbc, oc + k * 3 + 2, none⟩ = some (.bool opt) ∧ wr.alloc (.cells #[.string nm, .int .i64 (kind : Int), .bool opt] 45) = Wc ∧
      Wc.cell? ⟨wr.heap.size, 0, none⟩ = some (.string nm) ∧ Wc.cell? ⟨wr.heap.size, 1, none⟩ = some (.int .i64 (kind : Int)) ∧ Wc.cell? ⟨wr.heap.size, 2, none⟩ = some (.bool opt) ∧
      Calls Try.prog 92 #[.pointer (some ⟨R, 0, none⟩), .agg #[.string nm, .int .i64 (kind : Int), .bool opt]] Wc fun e w' => e = .returned (.tuple #[]) ∧ FwS w R (vb N ++ (cs.take (k + 1)).flatMap colL) w') := fun k wr hk h => by
    have := fw_col hR hr hlc hk (hcol _ (List.getElem_mem hk)) (by have := lct k; rw [List.length_append]; omega) h
    obtain ⟨oc, nm, Wc, r⟩ := this
    rw [List.append_assoc, ← col_take cs k hk] at r
    exact ⟨oc, nm, Wc, _, _, r⟩
  obtain ⟨H, hH⟩ : ∃ H, H = vb N ++ cs.flatMap colL := ⟨_, rfl⟩
  have hHl : H.length ≤ 30000 := by rw [hH, List.length_append]; omega
  have S2 : Hid (∀ wr, FwS w R H wr → Calls Try.prog 91 #[.pointer (some ⟨R, 0, none⟩), .int .i64 (G : Int)] wr fun e w' => e = .returned (.tuple #[]) ∧ FwS w R (H ++ vb G ++ (gs.take 0).flatMap grL) w') := fun wr h => by
    obtain ⟨v1, o1, b1⟩ := h
    refine ((OG.refl o1).var (by have := b1.size; omega) G (by omega) (by omega)).mono ?_
    rintro e w' ⟨rfl, hg⟩
    exact ⟨rfl, by have := FwS.of hR o1 b1 hg; simpa using this⟩
  have HG : Hid (∀ (k : Nat) (wr : World) (hk : k < gs.length), FwS w R (H ++ vb G ++ (gs.take k).flatMap grL) wr → ∃ (og : Nat) (rows : Nat) (ap : Option Addr) (np cp : Nat) (Wc : World), ag = some ⟨lbg, og, none⟩ ∧ wr.cell? ⟨lbg, og + k * 2, none⟩ = some (.int .i64 (rows : Int)) ∧ wr.cell? ⟨lbg, og + k * 2 + 1, none⟩ = some (.slice ap np cp) ∧ wr.alloc (.cells #[.int .i64 (rows : Int), .slice ap np cp] 105) = Wc ∧
      Wc.cell? ⟨wr.heap.size, 0, none⟩ = some (.int .i64 (rows : Int)) ∧ Wc.cell? ⟨wr.heap.size, 1, none⟩ = some (.slice ap np cp) ∧
      Calls Try.prog 93 #[.pointer (some ⟨R, 0, none⟩), .agg #[.int .i64 (rows : Int), .slice ap np cp]] Wc fun e w' => e = .returned (.tuple #[]) ∧ FwS w R (H ++ vb G ++ (gs.take (k + 1)).flatMap grL) w') := fun k wr hk h => by
    have := fw_grp hR hrg hlg hgl hk hgs (by have := lgt k; simp only [List.length_append]; omega) h
    rw [List.append_assoc (H ++ vb G), ← grs_take gs k hk] at this
    exact this
  have HE : Hid (∀ wr, FwS w R (H ++ vb G ++ gs.flatMap grL) wr → ∃ v, Calls Try.prog 60 #[.pointer (some ⟨R, 0, none⟩)] wr (fun e w' => e = .returned v ∧ w' = wr) ∧ wr.ownsRow R 5 1 v (footL cs gs).length (bytesV (footL cs gs)) ∧ Below R w wr) := fun wr h => by
    obtain ⟨v1, o1, b1⟩ := h
    have e : H ++ vb G ++ gs.flatMap grL = footL cs gs := by unfold footL; rw [hH, hN, hG, List.append_assoc]
    rw [e] at o1
    exact ⟨v1, outBytes_any R R v1 _ wr o1, o1.own, b1⟩
  have HN : Hid (N = cs.length) := hN
  have HGn : Hid (G = gs.length) := hG
  have HH : Hid (H = vb N ++ cs.flatMap colL) := hH
  have hW0' : w.alloc (.cells #[.slice none 0 0] 116) = W0 := hW0.symm
  have hsz : w.heap.size = R := hR.symm
  rw [hsz, ← hN, ← hG]
  have hN20 : N ≤ 20 := by omega
  have hG5 : G ≤ 5000 := by omega
  clear hr hrg hgl hgs hcol o0 b0 hN hG hH hW0 hR lct lgt lc hlc hlg hc20 hg5
  go_enter Try.func73, Try.ntmps73
  go_wp2_with fail
  refine S1.out.mono ?_
  rintro e w1 ⟨rfl, h1⟩
  have H1 := hid h1
  clear S1 h1
  go_wp2
  go_loopw [15] (fun i wr => ∃ (k : Nat), k ≤ N ∧ i = .int .i64 k ∧ Hid (FwS w R (vb N ++ (cs.take k).flatMap colL) wr))
    (fun i _ => N - (intOf i).toNat)
  case atStart => exact ⟨0, Nat.zero_le _, rfl, H1⟩
  case round =>
    obtain ⟨k, hk, rfl, Hk⟩ := hrel
    by_cases hk2 : k < N
    · have hkl : k < cs.length := by rw [← HN.out]; exact hk2
      obtain ⟨oc, nm, Wc, kind, opt, rfl, c0, c1, c2, hWc, y0, y1, y2, C⟩ := HC.out k wr hkl Hk.out
      have C' := hid C
      clear C Hk HC S2 HG HE
      go_wp2_with fail
      refine C'.out.mono ?_
      rintro e w2 ⟨rfl, h2⟩
      have H2 := hid h2
      clear C' h2
      go_wp2
      go_roundw
      case rel => exact ⟨k + 1, by omega, by go_num, H2⟩
      case measure => simp [intOf]; omega
    · obtain rfl : k = N := by omega
      have htl : cs.take k = cs := List.take_of_length_le (by rw [HN.out]; exact Nat.le_refl _)
      rw [htl, ← HH.out] at Hk
      have C2 := hid (S2.out wr Hk.out)
      clear S2 Hk HC
      go_wp2_with fail
      refine C2.out.mono ?_
      rintro e w2 ⟨rfl, h2⟩
      have H2 := hid h2
      clear C2 h2
      go_wp2
      go_loopw [27] (fun i wr => ∃ (j : Nat), j ≤ G ∧ i = .int .i64 j ∧ Hid (FwS w R (H ++ vb G ++ (gs.take j).flatMap grL) wr))
        (fun i _ => G - (intOf i).toNat)
      case atStart => exact ⟨0, Nat.zero_le _, rfl, H2⟩
      case round =>
        obtain ⟨j, hj, rfl, Hj⟩ := hrel
        by_cases hj2 : j < G
        · have hjl : j < gs.length := by rw [← HGn.out]; exact hj2
          obtain ⟨og, rows, ap, np, cp, Wc, rfl, c0, c1, hWc, y0, y1, C⟩ := HG.out j _ hjl Hj.out
          have C' := hid C
          clear C Hj HG HE
          go_wp2_with fail
          refine C'.out.mono ?_
          rintro e w3 ⟨rfl, h3⟩
          have H3 := hid h3
          clear C' h3
          go_wp2
          go_roundw
          case rel => exact ⟨j + 1, by omega, by go_num, H3⟩
          case measure => simp [intOf]; omega
        · obtain rfl : j = G := by omega
          have htl2 : gs.take j = gs := List.take_of_length_le (by rw [HGn.out]; exact Nat.le_refl _)
          rw [htl2] at Hj
          obtain ⟨v, C3, ho, hb⟩ := HE.out _ Hj.out
          have C3' := hid C3
          clear C3 Hj HE HG
          go_wp2_with fail
          refine C3'.out.mono ?_
          rintro e w4 ⟨rfl, hw4⟩
          subst w4
          go_wp2
          go_ret
          exact ⟨v, rfl, ho, hb⟩
end Go.Proofs.Ytjobhlncllfdmaa

/- The program's footer: Begin, End. -/
namespace Go.Proofs.Ytjobhlncllfdmaa
open Go.RowKit Go.Maps

theorem fwBegin_any (R B : Nat) (v : Value) (L : List UInt8) (w : World) (h : OS w R B v L) (hB : B ≤ w.heap.size) (hs : L.length + 100 ≤ 140737488355328) :
    Calls Try.prog 57 #[.pointer (some ⟨R, 0, none⟩)] w fun e w' => e = .returned (.tuple #[]) ∧ OG w R B v (L ++ stra) w' := by
  have C := hid ((OG.refl h).text hB ⟨#[83, 84, 82, 65]⟩ (by show _ + 4 ≤ _; omega))
  clear h
  go_enter Try.func57, Try.ntmps57
  go_wp2_with fail
  refine C.out.mono ?_
  rintro e w2 ⟨rfl, h2⟩
  go_wp2
  go_end0
  exact ⟨rfl, h2⟩

theorem length_footL (cs : List Pu.Col) (gs : List (Nat × List (Nat × Nat))) (hc20 : cs.length ≤ 20) (hcol : ∀ c ∈ cs, c.name.length ≤ 1000) (hgs : GsOk gs) (hg5 : gs.length ≤ 5000) : (footL cs gs).length ≤ 100000000 := by
  have h1 := length_cols cs hcol
  have h2 := length_grs gs hgs
  have l1 := length_vb8 (n := cs.length) (by omega)
  have l2 := length_vb8 (n := gs.length) (by omega)
  unfold footL
  simp only [List.length_append]
  omega

set_option maxHeartbeats 2000000 in
set_option maxRecDepth 100000 in
theorem fwEnd_any (R B lbc cc lbg cg B2 : Nat) (ac ag : Option Addr) (cs : List Pu.Col) (ws : List (Nat × Value)) (gs : List (Nat × List (Nat × Nat))) (v : Value) (L : List UInt8) (w : World) (h : OS w R B v L) (hB : B ≤ w.heap.size) (hr : Rs w 3 lbc ac cs.length cc (colsV cs)) (hlc : lbc < w.heap.size) (hc20 : cs.length ≤ 20) (hcol : ∀ c ∈ cs, c.kind ≤ 2 ∧ c.name.length ≤ 1000)
    (hrg : Rs w 2 lbg ag gs.length cg (grsV ws)) (hlg : lbg < w.heap.size) (hgl : GL w B2 ws gs) (hgs : GsOk gs) (hg5 : gs.length ≤ 5000) (hs : L.length + 1000000000 ≤ 140737488355328) :
    Calls Try.prog 59 #[.pointer (some ⟨R, 0, none⟩), .slice ac cs.length cc, .slice ag gs.length cg] w fun e w' => e = .returned (.tuple #[]) ∧ OG w R B v (L ++ endL (footL cs gs)) w' := by
  obtain ⟨F, hF⟩ : ∃ F, F = footL cs gs := ⟨_, rfl⟩
  have hFl : F.length ≤ 100000000 := by rw [hF]; exact length_footL cs gs hc20 (fun c hc => (hcol c hc).2) hgs hg5
  obtain ⟨n, hn⟩ : ∃ n, n = F.length := ⟨_, rfl⟩
  obtain ⟨q, hq⟩ : ∃ q, q = Pu.sum F := ⟨_, rfl⟩
  have hql : q < 4294967296 := by rw [hq]; exact Pu.sum_lt _
  have l4 := length_leB 4 n
  have l4' := length_leB 4 q
  have C0 : Hid (Calls Try.prog 73 #[.slice ac cs.length cc, .slice ag gs.length cg] w fun e w1 => ∃ a1 c1, e = .returned (.slice a1 n c1) ∧
      Calls Try.prog 74 #[.pointer (some ⟨R, 0, none⟩), .slice a1 n c1] w1 fun e w2 => e = .returned (.tuple #[]) ∧
        Calls Try.prog 75 #[.pointer (some ⟨R, 0, none⟩), .int .u64 (n : Int), .int .i64 4] w2 fun e w3 => e = .returned (.tuple #[]) ∧
          Calls Try.prog 66 #[.slice a1 n c1] w3 (fun e w' => e = .returned (.int .u32 (q : Int)) ∧ w' = w3) ∧
          Calls Try.prog 75 #[.pointer (some ⟨R, 0, none⟩), .int .u64 (q : Int), .int .i64 4] w3 fun e w4 => e = .returned (.tuple #[]) ∧
            Calls Try.prog 71 #[.pointer (some ⟨R, 0, none⟩), .string ⟨#[83, 84, 82, 65]⟩] w4 fun e w5 => e = .returned (.tuple #[]) ∧ OG w R B v (L ++ endL F) w5) := by
    refine (fwWrite_any lbc cc lbg cg B2 ac ag cs ws gs w hr hlc hc20 hcol hrg hlg hgl hgs hg5).mono ?_
    rintro e w1 ⟨vp, rfl, hp, hb⟩
    rw [← hF] at hp
    obtain ⟨a1, c1, rfl⟩ := slen_of hp
    rw [← hn]
    rw [← hn] at hp
    refine ⟨a1, c1, rfl, ?_⟩
    have o1 := h.below hb
    have hbs := hb.size
    have hRl := h.lt
    have g1 := (OG.refl h).later hb
    have hne : ∀ k, (Value.slice a1 n c1).ownBlock = some k → k ≠ R ∧ v.ownBlock ≠ some k := fun k hk => by
      have a := hp.lt k hk
      exact ⟨by omega, fun e => by have := (h.own.lt k e).2; omega⟩
    refine ((OG.refl o1).piece (P := F) (by omega) (by rw [← hn]; exact hp) (by omega)).mono ?_
    rintro e w2 ⟨rfl, hg2⟩
    refine ⟨rfl, ?_⟩
    refine (hg2.num (by omega) n 4 (by omega) (by omega) (by rw [List.length_append]; omega)).mono ?_
    rintro e w3 ⟨rfl, hg3⟩
    have hp3 := hg3.row hp hne
    refine ⟨rfl, ?_, ?_⟩
    · rw [hn] at hp3
      obtain ⟨lb, hrest⟩ := rest_of_own hp3
      rw [hn, hq]
      exact of_any lb a1 c1 F w3 hrest
    · refine (hg3.num (by omega) q 4 (by omega) (by omega) (by simp only [List.length_append]; omega)).mono ?_
      rintro e w4 ⟨rfl, hg4⟩
      refine ⟨rfl, ?_⟩
      refine (hg4.text (by omega) ⟨#[83, 84, 82, 65]⟩ (by show List.length _ + 4 ≤ _; simp only [List.length_append]; omega)).mono ?_
      rintro e w5 ⟨rfl, hg5'⟩
      refine ⟨rfl, OG.after hb ?_⟩
      have hst : (⟨#[83, 84, 82, 65]⟩ : ByteArray).data.toList = stra := rfl
      have e : L ++ F ++ leB 4 n ++ leB 4 q ++ stra = L ++ endL F := by unfold endL; rw [← hn, ← hq]; simp only [List.append_assoc]
      rw [hst, e] at hg5'
      exact hg5'
  obtain ⟨N, hN⟩ : ∃ N, N = cs.length := ⟨_, rfl⟩
  obtain ⟨G, hG⟩ : ∃ G, G = gs.length := ⟨_, rfl⟩
  rw [← hN, ← hG] at C0
  rw [← hF, ← hN, ← hG]
  have hn9 : n ≤ 100000000 := by omega
  clear h hr hrg hgl hgs hcol hF hn hq hN hG
  go_enter Try.func59, Try.ntmps59
  go_wp2_with fail
  refine C0.out.mono ?_
  rintro e w1 ⟨a1, c1, rfl, C1⟩
  have C1' := hid C1
  clear C0 C1
  go_wp2_with fail
  refine C1'.out.mono ?_
  rintro e w2 ⟨rfl, C2⟩
  have C2' := hid C2
  clear C1' C2
  go_wp2_with fail
  refine C2'.out.mono ?_
  rintro e w3 ⟨rfl, C3, C4⟩
  have C3' := hid C3
  have C4' := hid C4
  clear C2' C3 C4
  go_wp2_with fail
  refine C3'.out.mono ?_
  rintro e w4 ⟨rfl, hw4⟩
  subst w4
  go_wp2_with fail
  refine C4'.out.mono ?_
  rintro e w5 ⟨rfl, C5⟩
  have C5' := hid C5
  clear C4' C5 C3'
  go_wp2_with fail
  refine C5'.out.mono ?_
  rintro e w6 ⟨rfl, h6⟩
  go_wp2
  go_end0
  exact ⟨rfl, h6⟩
end Go.Proofs.Ytjobhlncllfdmaa

/- The program's table.fits. -/
namespace Go.Proofs.Ytjobhlncllfdmaa
open Go.RowKit Go.Maps

/-- may a cell stand in a column of that kind? -/
def fitsR (k : Int) (opt : Bool) (c : Pu.Cl) : Bool :=
  if c.null = true then opt && decide (c.n = 0) && decide (c.s = [])
  else if k = 0 then (decide (c.n = 0) || decide (c.n = 1)) && decide (c.s = [])
  else if k = 1 then decide (c.s = [])
  else decide (c.n = 0) && decide (c.s.length ≤ 1000)

set_option maxHeartbeats 4000000 in
set_option maxRecDepth 100000 in
theorem fits_any (nm : ByteArray) (k : Int) (opt : Bool) (null : Bool) (n : Int) (t : ByteArray) (w : World) (ht : t.size ≤ 140737488355328) :
    Calls Try.prog 88 #[.agg #[.bool null, .int .i64 n, .string t], .agg #[.string nm, .int .i64 k, .bool opt]] w fun e w' => e = .returned (.bool (fitsR k opt ⟨null, n, t.data.toList⟩)) ∧ Below w.heap.size w w' := by
  obtain ⟨W1, hW1⟩ : ∃ W1, W1 = w.alloc (.cells #[.bool null, .int .i64 n, .string t] 66) := ⟨_, rfl⟩
  obtain ⟨W2, hW2⟩ : ∃ W2, W2 = W1.alloc (.cells #[.string nm, .int .i64 k, .bool opt] 45) := ⟨_, rfl⟩
  obtain ⟨S, hS⟩ : ∃ S, S = w.heap.size := ⟨_, rfl⟩
  have s1 : W1.heap.size = S + 1 := by rw [hW1, size_alloc', hS]
  have b2 : Below w.heap.size w W2 := by rw [hW2, hW1]; exact ((Below.refl _ _).alloc (Nat.le_refl _) _).alloc (by rw [size_alloc']; omega) _
  have r1 : W2.heap[S]? = some (.cells #[.bool null, .int .i64 n, .string t] 66 (0, 0)) := by rw [hW2, Below.heap_alloc W1 _ _ (by omega), hW1, hS]; exact heap_alloc_new w _
  have r2 : W2.heap[S + 1]? = some (.cells #[.string nm, .int .i64 k, .bool opt] 45 (0, 0)) := by rw [hW2, ← s1]; exact heap_alloc_new W1 _
  have a0 : W2.cell? ⟨S, 0, none⟩ = some (.bool null) := by rw [cell_of_row _ _ 0 _ _ _ r1]; rfl
  have a1 : W2.cell? ⟨S, 1, none⟩ = some (.int .i64 n) := by rw [cell_of_row _ _ 1 _ _ _ r1]; rfl
  have a2 : W2.cell? ⟨S, 2, none⟩ = some (.string t) := by rw [cell_of_row _ _ 2 _ _ _ r1]; rfl
  have c1 : W2.cell? ⟨S + 1, 1, none⟩ = some (.int .i64 k) := by rw [cell_of_row _ _ 1 _ _ _ r2]; rfl
  have c2 : W2.cell? ⟨S + 1, 2, none⟩ = some (.bool opt) := by rw [cell_of_row _ _ 2 _ _ _ r2]; rfl
  have e1 : w.alloc (.cells #[.bool null, .int .i64 n, .string t] 66) = W1 := hW1.symm
  have e2 : W1.alloc (.cells #[.string nm, .int .i64 k, .bool opt] 45) = W2 := hW2.symm
  have hsz : w.heap.size = S := hS.symm
  have HB := hid b2
  clear hW1 hW2 hS b2 r1 r2
  obtain ⟨s, hs⟩ : ∃ s, s = t.data.toList := ⟨_, rfl⟩
  have hem : t.toList.isEmpty = decide (s = []) := by
    rw [hs, ← decide_eq_emptyBytes]
    refine decide_eq_decide.2 ⟨fun h => by rw [h]; rfl, fun h => bytes_ext (by rw [h]; rfl)⟩
  have hlen : s.length = t.size := by rw [hs]; exact len_data t
  rw [← hs]
  obtain ⟨em, hE⟩ : ∃ em, em = decide (s = []) := ⟨_, rfl⟩
  rw [← hE] at hem
  obtain ⟨r, hr⟩ : ∃ r, r = fitsR k opt ⟨null, n, s⟩ := ⟨_, rfl⟩
  rw [← hr]
  clear hs
  have HR := hid hr
  have HE := hid hE
  have HL := hid hlen
  clear hr hE hlen
  cases null
  · by_cases hk0 : k = 0
    · subst hk0
      go_enter Try.func88, Try.ntmps88
      go_wp2
      all_goals
        go_ret
        exact ⟨by rw [HR.out]; simp [fitsR, HE.out, *], HB.out⟩
    · by_cases hk1 : k = 1
      · subst hk1
        go_enter Try.func88, Try.ntmps88
        go_wp2
        all_goals
          go_ret
          exact ⟨by rw [HR.out]; simp [fitsR, HE.out, *], HB.out⟩
      · have d0 : (k == 0) = false := by simp [hk0]
        have d1 : (k == 1) = false := by simp [hk1]
        go_enter Try.func88, Try.ntmps88
        go_wp2
        all_goals
          go_ret
          exact ⟨by rw [HR.out]; (simp [fitsR, HL.out, *] <;> omega), HB.out⟩
  · cases opt
    · go_enter Try.func88, Try.ntmps88
      go_wp2
      go_ret
      exact ⟨by rw [HR.out]; simp [fitsR], HB.out⟩
    · go_enter Try.func88, Try.ntmps88
      go_wp2
      all_goals
        go_ret
        exact ⟨by rw [HR.out]; simp [fitsR, HE.out, *], HB.out⟩
end Go.Proofs.Ytjobhlncllfdmaa
