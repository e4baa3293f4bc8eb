/- (*Reader).page: the walk. -/
import Derived.Test.YtjobhlncllfdmaaGreatM22
namespace Go.Proofs.YtjobhlncllfdmaaGreat
open Go.RowKit

theorem page_over {opt : Bool} {kind : Nat} {st : Pu.Sta} {p : Pu.Pg} {used budget : Nat} (h : budget < used + p.size) : Pu.page opt kind st p used budget = .error 10 := by unfold Pu.page; rw [if_pos h]
theorem page_sum {opt : Bool} {kind : Nat} {st : Pu.Sta} {p : Pu.Pg} {used budget : Nat} (h : ¬ budget < used + p.size) (hs : Pu.sum p.body ≠ p.sum) : Pu.page opt kind st p used budget = .error 7 := by unfold Pu.page; rw [if_neg h, if_pos hs]
theorem page_rest {opt : Bool} {kind : Nat} {st : Pu.Sta} {p : Pu.Pg} {used budget : Nat} (h : ¬ budget < used + p.size) (hs : Pu.sum p.body = p.sum) : Pu.page opt kind st p used budget = match Pu.unp p with
  | none => .error 4
  | some B => match Pu.dec opt kind st.dict { p with body := B } with
    | .error e => .error e
    | .ok l => if budget < used + p.size + Pu.cost l then .error 10 else .ok (used + p.size + Pu.cost l, st.with p.sort l) := by unfold Pu.page; rw [if_neg h, if_neg (by simpa using hs)]; rfl

theorem cost_take (l : List Pu.Cl) (k : Nat) (hk : k < l.length) : Pu.cost (l.take (k + 1)) = Pu.cost (l.take k) + (8 + l[k].s.length) := by
  rw [List.take_succ_eq_append_getElem hk, Pu.cost_snoc]
theorem cost_mono (l : List Pu.Cl) (M : Nat) (h : ∀ c ∈ l, c.s.length ≤ M) (k : Nat) : Pu.cost (l.take k) ≤ l.length * (8 + M) := by
  have h1 := Pu.cost_le (l.take k) (M := M) (fun c hc => h c (List.mem_of_mem_take hc))
  have h2 : (l.take k).length * (8 + M) ≤ l.length * (8 + M) := Nat.mul_le_mul_right _ (by rw [List.length_take]; omega)
  omega

theorem wf_nat (si : Nat) (h : si ≤ 4294967295) : (Lit.int .i64 (si : Int)).wf = true := by
  simp only [Lit.wf, Bool.and_eq_true, decide_eq_true_eq]
  exact ⟨Int.le_trans (by decide) (Int.natCast_nonneg si), Int.le_trans (Int.ofNat_le.2 h) (by decide)⟩
theorem str_size (l : List UInt8) : (⟨l.toArray⟩ : ByteArray).size = l.length := by rw [← len_dataB]
theorem cls_one (l : List Pu.Cl) : ∀ u ∈ clsV l, u.oneCell' = true := by
  intro u hu
  unfold clsV at hu
  rw [List.mem_flatMap] at hu
  obtain ⟨c, _, hc⟩ := hu
  exact cl_cells u hc

theorem dec_err {opt : Bool} {kind : Nat} {dict : List Pu.Cl} {p : Pu.Pg} {k : Nat} (h : Pu.dec opt kind dict p = .error k) : k = 11 ∨ k = 12 := by
  unfold Pu.dec at h
  cases hl : Pu.lv opt p with
  | none => simp only [hl, Except.error.injEq] at h; omega
  | some q =>
    obtain ⟨ls, a⟩ := q
    simp only [hl] at h
    cases hv : Pu.vals p.sort kind dict p.body a (Pu.total ls) with
    | none => simp only [hv, Except.error.injEq] at h; omega
    | some vs => simp [hv] at h
theorem unpack_err {L O : List UInt8} {m : Int} {k : Nat} (h : Pu.unpack L m = (O, k)) : k ≤ 4 := by
  unfold Pu.unpack at h
  split at h
  · simp only [Prod.mk.injEq] at h; omega
  · split at h
    · simp only [Prod.mk.injEq] at h; omega
    · split at h
      · simp only [Prod.mk.injEq] at h; omega
      · split at h
        · simp only [Prod.mk.injEq] at h; omega
        · simp only [Prod.mk.injEq] at h; omega

set_option maxHeartbeats 8000000 in
set_option maxRecDepth 100000 in
theorem page_any (p : Pu.Pg) (r B : Nat) (nm : ByteArray) (kind : Nat) (opt : Bool) (st : Pu.Sta) (used budget : Nat) (w : World) (h : RSta w r B nm kind opt st) (hk : kind ≤ 2) (hc : p.cells ≤ 100000) (hso : p.sort < 256) (hbl : p.body.length ≤ 1073741824) (hsz : p.size ≤ 4294967295) (hpk : p.packed = true → p.size ≤ 1048576) (hsum : p.sum < 4294967296) (hu : used ≤ budget) (hbu : budget ≤ 1073741824) (hdl : st.dict.length ≤ 100000) (hdt : ∀ c ∈ st.dict, c.s.length ≤ 1073741824) (hcl : st.cells.length ≤ 100000) (hll : st.left ≤ 100000) (hsl : p.sort ≠ 1 → p.cells ≤ st.left) :
    Calls Tryz.prog 41 #[.pointer (some ⟨r, 0, none⟩), pgV p, .int .i64 (used : Int), .int .i64 (budget : Int)] w fun e w' => PgAns w r B nm kind opt (Pu.page opt kind st p used budget) e w' := by
  have hBr : B ≤ r := by obtain ⟨_, _, _, _, _, _, hb⟩ := h; exact hb
  have hrl := h.lt
  have HST : Hid (∀ W : World, Below w.heap.size w W → RSta W r B nm kind opt st) := fun W hW => h.below hW
  have DEC : Hid (∀ (W : World) (q : Pu.Pg), Below w.heap.size w W → q.cells ≤ 100000 → q.sort < 256 → q.body.length ≤ 1073741824 → Calls Tryz.prog 56 #[.pointer (some ⟨r, 0, none⟩), pgV q] W fun e w' => DcAns W.heap.size (Pu.dec opt kind st.dict q) e w' ∧ Below W.heap.size W w') := fun W q hW h1 h2 h3 => by
    obtain ⟨vd, vc, g1, g2, _⟩ := h.below hW
    exact decode_any q r kind nm st.left opt st.known vd vc st.dict B W g1 g2 hk h1 h2 h3 hdl
  have HPG : Hid (∀ (k : Nat), budget < used + p.size → Pu.page opt kind st p used budget = .error 10) := fun _ h => page_over h
  have HPS : Hid (¬ budget < used + p.size → Pu.sum p.body ≠ p.sum → Pu.page opt kind st p used budget = .error 7) := fun h1 h2 => page_sum h1 h2
  have HPR : Hid (¬ budget < used + p.size → Pu.sum p.body = p.sum → Pu.page opt kind st p used budget = match Pu.unp p with
    | none => .error 4
    | some B => match Pu.dec opt kind st.dict { p with body := B } with
      | .error e => .error e
      | .ok l => if budget < used + p.size + Pu.cost l then .error 10 else .ok (used + p.size + Pu.cost l, st.with p.sort l)) := fun h1 h2 => page_rest h1 h2
  have HUN : Hid (Pu.unp p = if p.packed = true then (if (Pu.unpack p.body (p.size : Int)).2 = 0 ∧ (Pu.unpack p.body (p.size : Int)).1.length = p.size then some (Pu.unpack p.body (p.size : Int)).1 else none) else some p.body) := rfl
  obtain ⟨P, hP⟩ : ∃ P, P = Pu.page opt kind st p used budget := ⟨_, rfl⟩
  rw [← hP] at HPG HPS HPR ⊢
  clear hP h
  obtain ⟨so, ce, pa, si, su, bo⟩ := p
  simp only at hc hso hbl hsz hpk hsum hsl HPG HPS HPR HUN ⊢
  unfold pgV
  simp only
  obtain ⟨t, ht⟩ : ∃ t : ByteArray, t = ⟨bo.toArray⟩ := ⟨_, rfl⟩
  have hbo : t.data.toList = bo := by rw [ht]
  have hts : t.size = bo.length := by rw [← len_dataB, hbo]
  have HT : Hid (t = ⟨bo.toArray⟩) := ht
  rw [← ht]
  obtain ⟨u1, hu1⟩ : ∃ u1, u1 = used + si := ⟨_, rfl⟩
  rw [← hu1] at HPG HPS HPR
  have hu2 : (used : Int) + (si : Int) = (u1 : Int) := by omega
  have hu3 : u1 ≤ 6000000000 := by omega
  obtain ⟨s, hs⟩ : ∃ s, s = Pu.sum bo := ⟨_, rfl⟩
  have hsl2 : s < 4294967296 := by rw [hs]; exact Pu.sum_lt _
  rw [← hs] at HPS HPR
  have SUM : Hid (∀ W : World, Calls Tryz.prog 32 #[.string t] W fun e w' => e = .returned (.int .u32 (s : Int)) ∧ w' = W) := fun W => by
    rw [hs, ← hbo]; exact refSum_any t W (by omega)
  have htl : t.size ≤ 1073741824 := by omega
  have UNP : Hid (∀ W : World, Calls Tryz.prog 55 #[.string t, .int .i64 (si : Int)] W fun e w' => RefU (Pu.unpack bo (si : Int)) e ∧ Below W.heap.size W w') := fun W => by
    rw [← hbo]; exact refUnpack_any t (si : Int) W (by omega) (wf_nat si hsz)
  clear ht hbo hts hs hu1
  by_cases hover : budget < u1
  · have HX : Hid (P = .error 10) := HPG.out 0 hover
    go_enter Tryz.func41, Tryz.ntmps41
    go_wp2
    go_ret2
    rw [HX.out]
    exact ⟨rfl, (bbox w _).mono (by omega)⟩
  · have hovd : decide ((budget : Int) < (u1 : Int)) = false := by simp; omega
    by_cases hss : s = su
    · have hsd : ((s : Int) != (su : Int)) = false := by simp; omega
      have HR := HPR.out hover hss
      have HR2 : Hid (P = match Pu.unp ⟨so, ce, pa, si, su, bo⟩ with
        | none => .error 4
        | some B => match Pu.dec opt kind st.dict ⟨so, ce, pa, si, su, B⟩ with
          | .error e => .error e
          | .ok l => if budget < u1 + Pu.cost l then .error 10 else .ok (u1 + Pu.cost l, st.with so l)) := HR
      have Hover : Hid (¬ budget < u1) := hover
      clear HR HPR HPG HPS hss hover
      cases pa with
      | false =>
        have hun : Pu.unp ⟨so, ce, false, si, su, bo⟩ = some bo := by rw [HUN.out]; rfl
        rw [hun] at HR2
        simp only at HR2
        clear hun HUN UNP
        have D1 : Hid (∀ W : World, Below w.heap.size w W → Calls Tryz.prog 56 #[.pointer (some ⟨r, 0, none⟩), .agg #[.int .i64 (so : Int), .int .i64 (ce : Int), .bool false, .int .i64 (si : Int), .int .i64 (su : Int), .string t]] W fun e w' => DcAns W.heap.size (Pu.dec opt kind st.dict ⟨so, ce, false, si, su, bo⟩) e w' ∧ Below W.heap.size W w') := fun W hW => by
          rw [HT.out]; exact DEC.out W ⟨so, ce, false, si, su, bo⟩ hW hc hso hbl
        have HDS : Hid (∀ l, Pu.dec opt kind st.dict ⟨so, ce, false, si, su, bo⟩ = .ok l → l.length = ce ∧ ∀ c ∈ l, c.s.length ≤ 1073741824) := fun l hl => Pu.dec_spec hbl hdt hl
        clear DEC
        cases hd : Pu.dec opt kind st.dict ⟨so, ce, false, si, su, bo⟩ with
        | error k =>
          have HX : Hid (P = .error k) := by rw [Hid, HR2.out, hd]
          rw [hd] at D1
          have hkk : k = 11 ∨ k = 12 := dec_err hd
          clear hd HR2 HDS
          go_enter Tryz.func41, Tryz.ntmps41
          go_wp2
          go_quiet ((go_at_call 32; exact Calls.quiet_of_same (SUM.out _)))
          go_wp2_with fail
          refine (D1.out _ (bboxN w _ _)).mono ?_
          rintro e w4 ⟨rfl, hb4⟩
          have hb : Below w.heap.size w w4 := bself (bboxN w _ _) hb4
          clear hb4
          have hkd : ((k : Int) != 0) = true := by simp; omega
          go_wp2
          go_ret2
          rw [HX.out]
          exact ⟨rfl, hb.mono (by omega)⟩
        | ok l =>
          have HR3 : Hid (P = if budget < u1 + Pu.cost l then .error 10 else .ok (u1 + Pu.cost l, st.with so l)) := by rw [Hid, HR2.out, hd]
          rw [hd] at D1
          obtain ⟨hlc, hlt⟩ := HDS.out l hd
          clear hd HR2 HDS
          go_enter Tryz.func41, Tryz.ntmps41
          go_wp2
          go_quiet ((go_at_call 32; exact Calls.quiet_of_same (SUM.out _)))
          obtain ⟨W, hW⟩ : ∃ W, W = (w.alloc (.cells #[.int .i64 (so : Int), .int .i64 (ce : Int), .bool false, .int .i64 (si : Int), .int .i64 (su : Int), .string t] 109)).drewN nq := ⟨_, rfl⟩
          rw [← hW]
          have hbW : Below w.heap.size w W := by rw [hW]; exact bboxN w _ _
          have rW : W.heap[w.heap.size]? = some (.cells #[.int .i64 (so : Int), .int .i64 (ce : Int), .bool false, .int .i64 (si : Int), .int .i64 (su : Int), .string t] 109 (0, 0)) := by rw [hW]; exact heap_alloc_new w _
          have e0 : W.cell? ⟨w.heap.size, 0, none⟩ = some (.int .i64 (so : Int)) := by rw [cell_of_row _ _ 0 _ _ _ rW]; rfl
          have e1 : W.cell? ⟨w.heap.size, 1, none⟩ = some (.int .i64 (ce : Int)) := by rw [cell_of_row _ _ 1 _ _ _ rW]; rfl
          have e2 : W.cell? ⟨w.heap.size, 2, none⟩ = some (.bool false) := by rw [cell_of_row _ _ 2 _ _ _ rW]; rfl
          have e3 : W.cell? ⟨w.heap.size, 3, none⟩ = some (.int .i64 (si : Int)) := by rw [cell_of_row _ _ 3 _ _ _ rW]; rfl
          have e4 : W.cell? ⟨w.heap.size, 4, none⟩ = some (.int .i64 (su : Int)) := by rw [cell_of_row _ _ 4 _ _ _ rW]; rfl
          have e5 : W.cell? ⟨w.heap.size, 5, none⟩ = some (.string t) := by rw [cell_of_row _ _ 5 _ _ _ rW]; rfl
          have hWl : w.heap.size < W.heap.size := (Array.getElem?_eq_some_iff.1 rW).1
          clear hW rW
          go_wp2_with fail
          refine (D1.out W hbW).mono ?_
          rintro e w4 ⟨⟨v, rfl, hown⟩, hb4⟩
          obtain ⟨av, cv, rfl⟩ := slen_of hown
          have hb : Below w.heap.size w w4 := bself hbW hb4
          have f0 : w4.cell? ⟨w.heap.size, 0, none⟩ = some (.int .i64 (so : Int)) := by rw [hb4.cell (p := ⟨w.heap.size, 0, none⟩) hWl]; exact e0
          have HST4 : Hid (RSta w4 r B nm kind opt st) := HST.out w4 hb
          have HC : Hid (∀ k, (hk : k < l.length) → ∃ g, av = some ⟨g, 0, none⟩ ∧ w4.cell? ⟨g, k * 3, none⟩ = some (.bool l[k].null) ∧ w4.cell? ⟨g, k * 3 + 1, none⟩ = some (.int .i64 l[k].n) ∧ w4.cell? ⟨g, k * 3 + 2, none⟩ = some (strV l[k].s) ∧ g < w4.heap.size) := cls_cell' hown
          have Hown : Hid (w4.ownsRow W.heap.size 57 3 (.slice av l.length cv) l.length (clsV l)) := hown
          have HNV : Hid (∀ vd vc, RB w4 r nm kind opt st.left vd st.known vc → ∀ k, vc.ownBlock = some k → k < W.heap.size) := by
            obtain ⟨vd0, vc0, g1, g2, g3, _⟩ := HST.out W hbW
            intro vd vc hR k hk
            have e1 := hR.c6
            have e2 := (g1.below hb4).c6
            rw [e1] at e2
            simp only [Option.some.injEq] at e2
            rw [e2] at hk
            exact (own_tyS g3 hk).lt
          have Hlt : Hid (∀ c ∈ l, c.s.length ≤ 1073741824) := hlt
          have hlm : l.length ≤ 100000 := by omega
          have HCM : Hid (∀ k, Pu.cost (l.take k) ≤ 107374983200000) := fun k => by
            have h1 := cost_mono l 1073741824 Hlt.out k
            have h2 : l.length * (8 + 1073741824) ≤ 100000 * (8 + 1073741824) := Nat.mul_le_mul_right _ hlm
            omega
          have Hlc : Hid (l.length = ce) := hlc
          have hls : so ≠ 1 → l.length ≤ st.left := fun e => by rw [hlc]; exact hsl e
          have HBW : Hid (w.heap.size ≤ W.heap.size) := hbW.size
          clear hown hb4 hlt hlc hsl HST
          go_wp2
          go_loop [2, 14] (fun u i => ∃ k : Nat, k ≤ l.length ∧ i = .int .i64 k ∧ u = .int .i64 ((u1 + Pu.cost (l.take k) : Nat) : Int)) (fun _ i => l.length - (intOf i).toNat)
          case atStart => exact ⟨0, Nat.zero_le _, rfl, rfl⟩
          case round =>
            obtain ⟨k, hk, rfl, rfl⟩ := hrel
            by_cases hk2 : k < l.length
            · obtain ⟨gv, hgv, _, _, c2, _⟩ := HC.out k hk2
              subst hgv
              have hkd : decide ((k : Int) < (l.length : Int)) = true := by simp; omega
              have HCT : Hid (Pu.cost (l.take (k + 1)) = Pu.cost (l.take k) + (8 + l[k].s.length)) := cost_take l k hk2
              have hcm := HCM.out k
              have hls2 := Hlt.out l[k] (List.getElem_mem hk2)
              have hxs := str_size l[k].s
              unfold strV at c2
              obtain ⟨xs, hx⟩ : ∃ xs : ByteArray, xs = ⟨l[k].s.toArray⟩ := ⟨_, rfl⟩
              rw [← hx] at c2 hxs
              rw [← hxs] at HCT hls2
              obtain ⟨y, hy⟩ : ∃ y, y = u1 + Pu.cost (l.take k) := ⟨_, rfl⟩
              rw [← hy]
              have HYN : Hid (u1 + Pu.cost (l.take (k + 1)) = y + 8 + xs.size) := by rw [Hid, HCT.out, hy]; omega
              have hyl : y ≤ 107380983200000 := by omega
              clear hy hx hxs
              go_wp2
              go_round
              case rel => exact ⟨k + 1, by omega, by go_num, by rw [HYN.out]; go_num⟩
              case measure => simp [intOf]; omega
            · obtain rfl : k = l.length := by omega
              rw [List.take_length]
              have hcm := HCM.out l.length
              rw [List.take_length] at hcm
              obtain ⟨U, hU⟩ : ∃ U, U = u1 + Pu.cost l := ⟨_, rfl⟩
              rw [← hU]
              have HR4 : Hid (P = if budget < U then .error 10 else .ok (U, st.with so l)) := by rw [Hid, HR3.out, hU]
              have hUl : U ≤ 107380983200000 := by omega
              clear hU HR3 hcm
              by_cases hbb : budget < U
              · have HX : Hid (P = .error 10) := by rw [Hid, HR4.out, if_pos hbb]
                have hbd : decide ((budget : Int) < (U : Int)) = true := by simp; omega
                go_wp2
                go_ret2
                rw [HX.out]
                exact ⟨rfl, hb.mono (by omega)⟩
              · have HX : Hid (P = .ok (U, st.with so l)) := by rw [Hid, HR4.out, if_neg hbb]
                have hbd : decide ((budget : Int) < (U : Int)) = false := by simp; omega
                by_cases hs1 : so = 1
                · have hs1d : ((so : Int) == 1) = true := by simp; omega
                  have HXS : Hid (st.with so l = ⟨st.left, l, true, st.cells⟩) := by unfold Hid Pu.Sta.with; rw [if_pos hs1]
                  have HD : Hid (RSta ((w4.setCell ⟨r, 4, none⟩ (.slice av l.length cv)).setCell ⟨r, 5, none⟩ (.bool true)) r B nm kind opt ⟨st.left, l, true, st.cells⟩) := RSta.dict HST4.out Hown.out (by have := HBW.out; omega) HNV.out
                  obtain ⟨vd, vc, g1, _⟩ := HST4.out
                  have c4 := g1.c4
                  have c5 := g1.c5
                  have z4 := g1.fz 4
                  have z5 := g1.fz 5
                  clear hs1 g1
                  go_wp2
                  go_ret2
                  rw [HX.out, HXS.out]
                  exact ⟨rfl, ((hb.mono (by omega)).setCell hBr _).setCell hBr _, HD.out⟩
                · have hs1d : ((so : Int) == 1) = false := by simp; omega
                  have hle := hls hs1
                  obtain ⟨vd, vc, g1, g2, g3, g4, g5⟩ := HST4.out
                  obtain ⟨ac, cc, rfl⟩ := slen_of g3
                  obtain ⟨NN, hNN⟩ : ∃ NN, NN = st.left - l.length := ⟨_, rfl⟩
                  have hN1 : (st.left : Int) - (l.length : Int) = (NN : Int) := by omega
                  have HXS : Hid (st.with so l = ⟨NN, st.dict, st.known, st.cells ++ l⟩) := by unfold Hid Pu.Sta.with; rw [if_neg hs1, hNN]
                  obtain ⟨i0, hi, hz0, hz1, hz2⟩ := info_parts Tryz.info57
                  obtain ⟨a5, c5, w5, run5, own5, gr5, at5⟩ := appendM w4 47 47 57 i0 (.agg #[.bool false, .int .i64 0, .string ByteArray.empty]) 3 32 B Tryz.underlying47 hi hz0 hz1 hz2 rfl (by decide) (.slice ac st.cells.length cc) st.cells.length (clsV st.cells) g3 av l.length cv W.heap.size (clsV l) Hown.out (cls_one l) (by unfold maxLen; omega) (by omega) (by have := g1.lt; omega)
                  have R5 : Hid ((Builtin.append_ #[47, 47] 47 #[.slice ac st.cells.length cc, .slice av l.length cv]).run Tryz.prog w4 = .ok (.slice a5 (st.cells.length + l.length) c5) w5) := run5
                  have PQ := RSta.cells g1 g2 g3 g4 g5 own5 gr5 at5 hNN
                  have k6 := g1.c6
                  have m6 := PQ.1.c6
                  have m3 := PQ.1.c3
                  have y6 := PQ.1.fz 6
                  have y3 := PQ.1.fz 3
                  have HD : Hid (RSta ((w5.setCell ⟨r, 6, none⟩ (.slice a5 (st.cells.length + l.length) c5)).setCell ⟨r, 3, none⟩ (.int .i64 (NN : Int))) r B nm kind opt ⟨NN, st.dict, st.known, st.cells ++ l⟩) := PQ.2.1
                  have HBB : Hid (Below B w4 ((w5.setCell ⟨r, 6, none⟩ (.slice a5 (st.cells.length + l.length) c5)).setCell ⟨r, 3, none⟩ (.int .i64 (NN : Int)))) := PQ.2.2
                  clear PQ run5 own5 gr5 at5 g1 g2 g3 g4 hs1 hNN
                  go_wp2_with (first | (at_builtin; refine wpList_append_run rfl (.tmp 92) (.tmp 93) 47 47 rfl _ _ _ rfl rfl R5.out ?_) | go_in)
                  go_ret2
                  rw [HX.out, HXS.out]
                  exact ⟨rfl, (hb.mono (by omega)).trans HBB.out, HD.out⟩
      | true =>
        have hsi := hpk rfl
        obtain ⟨O, k, hup⟩ : ∃ O k, Pu.unpack bo (si : Int) = (O, k) := ⟨_, _, rfl⟩
        rw [hup] at UNP HUN
        have HU2 : Hid (Pu.unp ⟨so, ce, true, si, su, bo⟩ = if k = 0 ∧ O.length = si then some O else none) := by rw [Hid, HUN.out]; rfl
        have hkl : k ≤ 4 := unpack_err hup
        clear HUN hup
        have hOs := str_size O
        obtain ⟨b, hb⟩ : ∃ b : ByteArray, b = ⟨O.toArray⟩ := ⟨_, rfl⟩
        rw [← hb] at hOs
        have U2 : Hid (∀ W : World, Calls Tryz.prog 55 #[.string t, .int .i64 (si : Int)] W fun e w' => e = .returned (.tuple #[.string b, .int .i64 (k : Int)]) ∧ Below W.heap.size W w') := fun W => by
          refine (UNP.out W).mono ?_
          rintro e w' ⟨h1, h2⟩
          rw [hb]
          exact ⟨h1, h2⟩
        have HB : Hid (b = ⟨O.toArray⟩) := hb
        clear UNP hb
        by_cases hk0 : k = 0
        · subst hk0
          by_cases hO : O.length = si
          · have hun : Pu.unp ⟨so, ce, true, si, su, bo⟩ = some O := by rw [HU2.out, if_pos ⟨rfl, hO⟩]
            rw [hun] at HR2
            simp only at HR2
            clear hun HU2
            have hOd : ((b.size : Int) != (si : Int)) = false := by simp; omega
            have hO2 : O.length ≤ 1073741824 := by omega
            have D1 : Hid (∀ W : World, Below w.heap.size w W → Calls Tryz.prog 56 #[.pointer (some ⟨r, 0, none⟩), .agg #[.int .i64 (so : Int), .int .i64 (ce : Int), .bool true, .int .i64 (si : Int), .int .i64 (su : Int), .string b]] W fun e w' => DcAns W.heap.size (Pu.dec opt kind st.dict ⟨so, ce, true, si, su, O⟩) e w' ∧ Below W.heap.size W w') := fun W hW => by
              rw [HB.out]; exact DEC.out W ⟨so, ce, true, si, su, O⟩ hW hc hso hO2
            have HDS : Hid (∀ l, Pu.dec opt kind st.dict ⟨so, ce, true, si, su, O⟩ = .ok l → l.length = ce ∧ ∀ c ∈ l, c.s.length ≤ 1073741824) := fun l hl => Pu.dec_spec hO2 hdt hl
            clear DEC hOs hO
            have BOX : Hid (∀ W w3 : World, (∃ q, W = (w.alloc (.cells #[.int .i64 (so : Int), .int .i64 (ce : Int), .bool true, .int .i64 (si : Int), .int .i64 (su : Int), .string t] 109)).drewN q) → Below W.heap.size W w3 → w3.heap[w.heap.size]? = some (.cells #[.int .i64 (so : Int), .int .i64 (ce : Int), .bool true, .int .i64 (si : Int), .int .i64 (su : Int), .string t] 109 (0, 0)) ∧ Below w.heap.size w w3) := fun W w3 ⟨q, hW⟩ hb3 => by
              refine ⟨?_, ?_⟩
              · rw [hb3.block _ (by rw [hW]; show w.heap.size < (w.alloc _).heap.size; rw [size_alloc']; exact Nat.lt_succ_self _), hW]; exact heap_alloc_new w _
              · rw [hW] at hb3; exact bself (bboxN w _ _) hb3
            cases hd : Pu.dec opt kind st.dict ⟨so, ce, true, si, su, O⟩ with
            | error k =>
              have HX : Hid (P = .error k) := by rw [Hid, HR2.out, hd]
              rw [hd] at D1
              have hkk : k = 11 ∨ k = 12 := dec_err hd
              clear hd HR2 HDS
              have hkd : ((k : Int) != 0) = true := by simp; omega
              go_enter Tryz.func41, Tryz.ntmps41
              go_wp2
              go_quiet ((go_at_call 32; exact Calls.quiet_of_same (SUM.out _)))
              go_wp2_with fail
              refine (U2.out _).mono ?_
              rintro e w3 ⟨rfl, hb3⟩
              obtain ⟨r3, B3⟩ := BOX.out _ w3 ⟨_, rfl⟩ hb3
              have d0 : w3.cell? ⟨w.heap.size, 0, none⟩ = some (.int .i64 (so : Int)) := by rw [cell_of_row _ _ 0 _ _ _ r3]; rfl
              have d1 : w3.cell? ⟨w.heap.size, 1, none⟩ = some (.int .i64 (ce : Int)) := by rw [cell_of_row _ _ 1 _ _ _ r3]; rfl
              have d2 : w3.cell? ⟨w.heap.size, 2, none⟩ = some (.bool true) := by rw [cell_of_row _ _ 2 _ _ _ r3]; rfl
              have d3 : w3.cell? ⟨w.heap.size, 3, none⟩ = some (.int .i64 (si : Int)) := by rw [cell_of_row _ _ 3 _ _ _ r3]; rfl
              have d4 : w3.cell? ⟨w.heap.size, 4, none⟩ = some (.int .i64 (su : Int)) := by rw [cell_of_row _ _ 4 _ _ _ r3]; rfl
              have d5 : w3.cell? ⟨w.heap.size, 5, none⟩ = some (.string t) := by rw [cell_of_row _ _ 5 _ _ _ r3]; rfl
              have df := frozen_of_row _ _ 5 _ _ r3
              go_wp2_with fail
              refine (D1.out _ (B3.setCell (Nat.le_refl _) _)).mono ?_
              rintro e w4 ⟨rfl, hb4⟩
              have hb : Below w.heap.size w w4 := bself (B3.setCell (Nat.le_refl _) _) hb4
              clear hb4
              go_wp2
              go_ret2
              rw [HX.out]
              exact ⟨rfl, hb.mono (by omega)⟩
            | ok l =>
              have HR3 : Hid (P = if budget < u1 + Pu.cost l then .error 10 else .ok (u1 + Pu.cost l, st.with so l)) := by rw [Hid, HR2.out, hd]
              rw [hd] at D1
              obtain ⟨hlc, hlt⟩ := HDS.out l hd
              clear hd HR2 HDS
              go_enter Tryz.func41, Tryz.ntmps41
              go_wp2
              go_quiet ((go_at_call 32; exact Calls.quiet_of_same (SUM.out _)))
              go_wp2_with fail
              refine (U2.out _).mono ?_
              rintro e w3 ⟨rfl, hb3⟩
              obtain ⟨r3, B3⟩ := BOX.out _ w3 ⟨_, rfl⟩ hb3
              have d0 : w3.cell? ⟨w.heap.size, 0, none⟩ = some (.int .i64 (so : Int)) := by rw [cell_of_row _ _ 0 _ _ _ r3]; rfl
              have d1 : w3.cell? ⟨w.heap.size, 1, none⟩ = some (.int .i64 (ce : Int)) := by rw [cell_of_row _ _ 1 _ _ _ r3]; rfl
              have d2 : w3.cell? ⟨w.heap.size, 2, none⟩ = some (.bool true) := by rw [cell_of_row _ _ 2 _ _ _ r3]; rfl
              have d3 : w3.cell? ⟨w.heap.size, 3, none⟩ = some (.int .i64 (si : Int)) := by rw [cell_of_row _ _ 3 _ _ _ r3]; rfl
              have d4 : w3.cell? ⟨w.heap.size, 4, none⟩ = some (.int .i64 (su : Int)) := by rw [cell_of_row _ _ 4 _ _ _ r3]; rfl
              have d5 : w3.cell? ⟨w.heap.size, 5, none⟩ = some (.string t) := by rw [cell_of_row _ _ 5 _ _ _ r3]; rfl
              have df := frozen_of_row _ _ 5 _ _ r3
              obtain ⟨W, hW⟩ : ∃ W, W = w3.setCell ⟨w.heap.size, 5, none⟩ (.string b) := ⟨_, rfl⟩
              have hbW : Below w.heap.size w W := by rw [hW]; exact B3.setCell (Nat.le_refl _) _
              have rW : W.heap[w.heap.size]? = some (.cells #[.int .i64 (so : Int), .int .i64 (ce : Int), .bool true, .int .i64 (si : Int), .int .i64 (su : Int), .string b] 109 (0, 0)) := by rw [hW, row_set r3]; rfl
              have e0 : W.cell? ⟨w.heap.size, 0, none⟩ = some (.int .i64 (so : Int)) := by rw [cell_of_row _ _ 0 _ _ _ rW]; rfl
              have hWl : w.heap.size < W.heap.size := (Array.getElem?_eq_some_iff.1 rW).1
              have D2 : Hid (Calls Tryz.prog 56 #[.pointer (some ⟨r, 0, none⟩), .agg #[.int .i64 (so : Int), .int .i64 (ce : Int), .bool true, .int .i64 (si : Int), .int .i64 (su : Int), .string b]] (w3.setCell ⟨w.heap.size, 5, none⟩ (.string b)) fun e w' => DcAns W.heap.size (.ok l) e w' ∧ Below W.heap.size W w') := by rw [← hW]; exact D1.out W hbW
              clear hW rW r3 B3 hb3
              go_wp2_with fail
              refine D2.out.mono ?_
              rintro e w4 ⟨⟨v, rfl, hown⟩, hb4⟩
              obtain ⟨av, cv, rfl⟩ := slen_of hown
              have hb : Below w.heap.size w w4 := bself hbW hb4
              have f0 : w4.cell? ⟨w.heap.size, 0, none⟩ = some (.int .i64 (so : Int)) := by rw [hb4.cell (p := ⟨w.heap.size, 0, none⟩) hWl]; exact e0
              have HST4 : Hid (RSta w4 r B nm kind opt st) := HST.out w4 hb
              have HC : Hid (∀ k, (hk : k < l.length) → ∃ g, av = some ⟨g, 0, none⟩ ∧ w4.cell? ⟨g, k * 3, none⟩ = some (.bool l[k].null) ∧ w4.cell? ⟨g, k * 3 + 1, none⟩ = some (.int .i64 l[k].n) ∧ w4.cell? ⟨g, k * 3 + 2, none⟩ = some (strV l[k].s) ∧ g < w4.heap.size) := cls_cell' hown
              have Hown : Hid (w4.ownsRow W.heap.size 57 3 (.slice av l.length cv) l.length (clsV l)) := hown
              have HNV : Hid (∀ vd vc, RB w4 r nm kind opt st.left vd st.known vc → ∀ k, vc.ownBlock = some k → k < W.heap.size) := by
                obtain ⟨vd0, vc0, g1, g2, g3, _⟩ := HST.out W hbW
                intro vd vc hR k hk
                have e1 := hR.c6
                have e2 := (g1.below hb4).c6
                rw [e1] at e2
                simp only [Option.some.injEq] at e2
                rw [e2] at hk
                exact (own_tyS g3 hk).lt
              have Hlt : Hid (∀ c ∈ l, c.s.length ≤ 1073741824) := hlt
              have hlm : l.length ≤ 100000 := by omega
              have HCM : Hid (∀ k, Pu.cost (l.take k) ≤ 107374983200000) := fun k => by
                have h1 := cost_mono l 1073741824 Hlt.out k
                have h2 : l.length * (8 + 1073741824) ≤ 100000 * (8 + 1073741824) := Nat.mul_le_mul_right _ hlm
                omega
              have Hlc : Hid (l.length = ce) := hlc
              have hls : so ≠ 1 → l.length ≤ st.left := fun e => by rw [hlc]; exact hsl e
              have HBW : Hid (w.heap.size ≤ W.heap.size) := hbW.size
              clear hown hb4 hlt hlc hsl HST
              go_wp2
              go_loop [2, 14] (fun u i => ∃ k : Nat, k ≤ l.length ∧ i = .int .i64 k ∧ u = .int .i64 ((u1 + Pu.cost (l.take k) : Nat) : Int)) (fun _ i => l.length - (intOf i).toNat)
              case atStart => exact ⟨0, Nat.zero_le _, rfl, rfl⟩
              case round =>
                obtain ⟨k, hk, rfl, rfl⟩ := hrel
                by_cases hk2 : k < l.length
                · obtain ⟨gv, hgv, _, _, c2, _⟩ := HC.out k hk2
                  subst hgv
                  have hkd : decide ((k : Int) < (l.length : Int)) = true := by simp; omega
                  have HCT : Hid (Pu.cost (l.take (k + 1)) = Pu.cost (l.take k) + (8 + l[k].s.length)) := cost_take l k hk2
                  have hcm := HCM.out k
                  have hls2 := Hlt.out l[k] (List.getElem_mem hk2)
                  have hxs := str_size l[k].s
                  unfold strV at c2
                  obtain ⟨xs, hx⟩ : ∃ xs : ByteArray, xs = ⟨l[k].s.toArray⟩ := ⟨_, rfl⟩
                  rw [← hx] at c2 hxs
                  rw [← hxs] at HCT hls2
                  obtain ⟨y, hy⟩ : ∃ y, y = u1 + Pu.cost (l.take k) := ⟨_, rfl⟩
                  rw [← hy]
                  have HYN : Hid (u1 + Pu.cost (l.take (k + 1)) = y + 8 + xs.size) := by rw [Hid, HCT.out, hy]; omega
                  have hyl : y ≤ 107380983200000 := by omega
                  clear hy hx hxs
                  go_wp2
                  go_round
                  case rel => exact ⟨k + 1, by omega, by go_num, by rw [HYN.out]; go_num⟩
                  case measure => simp [intOf]; omega
                · obtain rfl : k = l.length := by omega
                  rw [List.take_length]
                  have hcm := HCM.out l.length
                  rw [List.take_length] at hcm
                  obtain ⟨U, hU⟩ : ∃ U, U = u1 + Pu.cost l := ⟨_, rfl⟩
                  rw [← hU]
                  have HR4 : Hid (P = if budget < U then .error 10 else .ok (U, st.with so l)) := by rw [Hid, HR3.out, hU]
                  have hUl : U ≤ 107380983200000 := by omega
                  clear hU HR3 hcm
                  by_cases hbb : budget < U
                  · have HX : Hid (P = .error 10) := by rw [Hid, HR4.out, if_pos hbb]
                    have hbd : decide ((budget : Int) < (U : Int)) = true := by simp; omega
                    go_wp2
                    go_ret2
                    rw [HX.out]
                    exact ⟨rfl, hb.mono (by omega)⟩
                  · have HX : Hid (P = .ok (U, st.with so l)) := by rw [Hid, HR4.out, if_neg hbb]
                    have hbd : decide ((budget : Int) < (U : Int)) = false := by simp; omega
                    by_cases hs1 : so = 1
                    · have hs1d : ((so : Int) == 1) = true := by simp; omega
                      have HXS : Hid (st.with so l = ⟨st.left, l, true, st.cells⟩) := by unfold Hid Pu.Sta.with; rw [if_pos hs1]
                      have HD : Hid (RSta ((w4.setCell ⟨r, 4, none⟩ (.slice av l.length cv)).setCell ⟨r, 5, none⟩ (.bool true)) r B nm kind opt ⟨st.left, l, true, st.cells⟩) := RSta.dict HST4.out Hown.out (by have := HBW.out; omega) HNV.out
                      obtain ⟨vd, vc, g1, _⟩ := HST4.out
                      have c4 := g1.c4
                      have c5 := g1.c5
                      have z4 := g1.fz 4
                      have z5 := g1.fz 5
                      clear hs1 g1
                      go_wp2
                      go_ret2
                      rw [HX.out, HXS.out]
                      exact ⟨rfl, ((hb.mono (by omega)).setCell hBr _).setCell hBr _, HD.out⟩
                    · have hs1d : ((so : Int) == 1) = false := by simp; omega
                      have hle := hls hs1
                      obtain ⟨vd, vc, g1, g2, g3, g4, g5⟩ := HST4.out
                      obtain ⟨ac, cc, rfl⟩ := slen_of g3
                      obtain ⟨NN, hNN⟩ : ∃ NN, NN = st.left - l.length := ⟨_, rfl⟩
                      have hN1 : (st.left : Int) - (l.length : Int) = (NN : Int) := by omega
                      have HXS : Hid (st.with so l = ⟨NN, st.dict, st.known, st.cells ++ l⟩) := by unfold Hid Pu.Sta.with; rw [if_neg hs1, hNN]
                      obtain ⟨i0, hi, hz0, hz1, hz2⟩ := info_parts Tryz.info57
                      obtain ⟨a5, c5, w5, run5, own5, gr5, at5⟩ := appendM w4 47 47 57 i0 (.agg #[.bool false, .int .i64 0, .string ByteArray.empty]) 3 32 B Tryz.underlying47 hi hz0 hz1 hz2 rfl (by decide) (.slice ac st.cells.length cc) st.cells.length (clsV st.cells) g3 av l.length cv W.heap.size (clsV l) Hown.out (cls_one l) (by unfold maxLen; omega) (by omega) (by have := g1.lt; omega)
                      have R5 : Hid ((Builtin.append_ #[47, 47] 47 #[.slice ac st.cells.length cc, .slice av l.length cv]).run Tryz.prog w4 = .ok (.slice a5 (st.cells.length + l.length) c5) w5) := run5
                      have PQ := RSta.cells g1 g2 g3 g4 g5 own5 gr5 at5 hNN
                      have k6 := g1.c6
                      have m6 := PQ.1.c6
                      have m3 := PQ.1.c3
                      have y6 := PQ.1.fz 6
                      have y3 := PQ.1.fz 3
                      have HD : Hid (RSta ((w5.setCell ⟨r, 6, none⟩ (.slice a5 (st.cells.length + l.length) c5)).setCell ⟨r, 3, none⟩ (.int .i64 (NN : Int))) r B nm kind opt ⟨NN, st.dict, st.known, st.cells ++ l⟩) := PQ.2.1
                      have HBB : Hid (Below B w4 ((w5.setCell ⟨r, 6, none⟩ (.slice a5 (st.cells.length + l.length) c5)).setCell ⟨r, 3, none⟩ (.int .i64 (NN : Int)))) := PQ.2.2
                      clear PQ run5 own5 gr5 at5 g1 g2 g3 g4 hs1 hNN
                      go_wp2_with (first | (at_builtin; refine wpList_append_run rfl (.tmp 92) (.tmp 93) 47 47 rfl _ _ _ rfl rfl R5.out ?_) | go_in)
                      go_ret2
                      rw [HX.out, HXS.out]
                      exact ⟨rfl, (hb.mono (by omega)).trans HBB.out, HD.out⟩
          · have hun : Pu.unp ⟨so, ce, true, si, su, bo⟩ = none := by rw [HU2.out, if_neg (fun h => hO h.2)]
            have HX : Hid (P = .error 4) := by rw [Hid, HR2.out, hun]
            have hOd : ((b.size : Int) != (si : Int)) = true := by simp; omega
            have BX : Hid (∀ W w3 : World, (∃ q, W = (w.alloc (.cells #[.int .i64 (so : Int), .int .i64 (ce : Int), .bool true, .int .i64 (si : Int), .int .i64 (su : Int), .string t] 109)).drewN q) → Below W.heap.size W w3 → w3.cell? ⟨w.heap.size, 3, none⟩ = some (.int .i64 (si : Int)) ∧ Below w.heap.size w w3) := fun W w3 ⟨q, hW⟩ hb3 => by
              refine ⟨?_, ?_⟩
              · rw [hb3.cell (p := ⟨w.heap.size, 3, none⟩) (by rw [hW]; show w.heap.size < (w.alloc _).heap.size; rw [size_alloc']; exact Nat.lt_succ_self _), hW]
                exact cell_of_row (w.alloc _) _ 3 _ _ _ (heap_alloc_new w _)
              · rw [hW] at hb3; exact bself (bboxN w _ _) hb3
            clear hun HU2 HR2 hO hOs DEC
            go_enter Tryz.func41, Tryz.ntmps41
            go_wp2
            go_quiet ((go_at_call 32; exact Calls.quiet_of_same (SUM.out _)))
            go_wp2_with fail
            refine (U2.out _).mono ?_
            rintro e w3 ⟨rfl, hb3⟩
            obtain ⟨d3, B3⟩ := BX.out _ w3 ⟨_, rfl⟩ hb3
            clear hb3
            go_wp2
            go_ret2
            rw [HX.out]
            exact ⟨rfl, B3.mono (by omega)⟩
        · have hun : Pu.unp ⟨so, ce, true, si, su, bo⟩ = none := by rw [HU2.out, if_neg (fun h => hk0 h.1)]
          have HX : Hid (P = .error 4) := by rw [Hid, HR2.out, hun]
          have hkd : ((k : Int) != 0) = true := by simp; omega
          clear hun HU2 HR2 hk0 hOs DEC
          go_enter Tryz.func41, Tryz.ntmps41
          go_wp2
          go_quiet ((go_at_call 32; exact Calls.quiet_of_same (SUM.out _)))
          go_wp2_with fail
          refine (U2.out _).mono ?_
          rintro e w3 ⟨rfl, hb3⟩
          have hb : Below w.heap.size w w3 := bself (bboxN w _ _) hb3
          clear hb3
          go_wp2
          go_ret2
          rw [HX.out]
          exact ⟨rfl, hb.mono (by omega)⟩
    · have HX : Hid (P = .error 7) := HPS.out hover hss
      have hsd : ((s : Int) != (su : Int)) = true := by simp; omega
      clear HPG HPS HPR DEC UNP
      go_enter Tryz.func41, Tryz.ntmps41
      go_wp2
      go_quiet ((go_at_call 32; exact Calls.quiet_of_same (SUM.out _)))
      go_wp2
      go_ret2
      rw [HX.out]
      exact ⟨rfl, (bboxN w _ _).mono (by omega)⟩
end Go.Proofs.YtjobhlncllfdmaaGreat
