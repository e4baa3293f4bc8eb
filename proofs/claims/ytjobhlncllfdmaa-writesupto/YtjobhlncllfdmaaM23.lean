/- The program's cells.DictionaryOf: the walk. -/
import Derived.Test.YtjobhlncllfdmaaM22
namespace Go.Proofs.Ytjobhlncllfdmaa
open Go.RowKit Go.Maps

theorem atKey_none {D : DataW Unit} {k : Lit} (hm : IsMap D) (h : Maps.has D k = false) (z : DataW Unit) : D.atKey k z = z := by
  obtain ⟨es, rfl⟩ := hm
  have h' : es.any (fun p => p.1.sameKey k) = false := h
  have h2 : es.find? (fun p => p.1.sameKey k) = none := List.find?_eq_none.2 (fun p hp => by have := List.any_eq_false.1 h' p hp; simpa using this)
  simp only [DataW.atKey, h2]

/-- a look-up of which it is known what it tells -/
theorem wpList_look_at {ops : Array Oper} {rest : List Oper} {o : Oper} {a : Act} {Q : Exit → Act → World → Prop} (w : World) (hg : o.guard = none) (m x : Operand) (hop : o.op = Op.lookup 174 m x true) (b n : Nat) (D : DataW Unit)
    (hm : a.eval m = .map (some b)) (hown : w.ownsMap Try.prog 9 (plainElem Try.prog 3) b n D) (key : Value) (kl : Lit) (hx : a.eval x = key) (hkey : keyOf Try.prog 9 key = some kl) (q : Int) (kn : Bool) (hq : D.atKey kl z0 = .lit (.int .i64 q)) (hb : Maps.has D kl = kn)
    (h : wpList Try.prog ops Q rest (a.put o.dst (.tuple #[.int .i64 q, .bool kn])) w) : wpList Try.prog ops Q (o :: rest) a w :=
  wpList_lookup_own_ok_int w hg m x 174 hop 9 3 .i64 law9 Try.underlying174 Try.underlying3 (zero3 w) b n D hm hown key kl hx hkey (fun c hat _ => by
    have e : q = c := by
      have := hq.symm.trans hat
      simpa using this
    rw [← e, hb]; exact h)

theorem oneC (b : Bool) (x : Int) (t : ByteArray) : ∀ u ∈ (#[.bool b, .int .i64 x, .string t] : Array Value).toList, u.oneCell' = true := by
  intro u hu; simp at hu; rcases hu with rfl | rfl | rfl <;> rfl
theorem oneI (x : Int) : ∀ u ∈ (#[.int .i64 x] : Array Value).toList, u.oneCell' = true := by
  intro u hu; simp at hu; subst hu; rfl

set_option maxHeartbeats 8000000 in
set_option maxRecDepth 100000 in
theorem dictOf_any (lb cap : Nat) (l : List Pu.Cl) (ao : Option Addr) (w : World) (hr : Rs w 3 lb ao l.length cap (clsV l)) (hlb : lb < w.heap.size) (hl : l.length ≤ 100000) (htext : ∀ c ∈ l, c.s.length ≤ 1000) :
    Calls Try.prog 99 #[.slice ao l.length cap] w fun e w' => ∃ vw vi, e = .returned (.agg #[vw, vi]) ∧ w'.ownsRow w.heap.size 66 3 vw (dic (valsL l)).1.length (clsV (dic (valsL l)).1) ∧ w'.ownsRow w.heap.size 3 1 vi (dic (valsL l)).2.length (ints (dic (valsL l)).2) ∧ Below w.heap.size w w' := by
  obtain ⟨S, hS⟩ : ∃ S, S = w.heap.size := ⟨_, rfl⟩
  obtain ⟨W1, hW1⟩ : ∃ W1, W1 = w.alloc (.cells #[.slice none 0 0, .slice none 0 0] 164) := ⟨_, rfl⟩
  obtain ⟨W2, hW2⟩ : ∃ W2, W2 = W1.alloc (.cells #[.slice none 0 0, .slice none 0 0] 164) := ⟨_, rfl⟩
  obtain ⟨W3, hW3⟩ : ∃ W3, W3 = W2.alloc (.map #[] 0) := ⟨_, rfl⟩
  have s1 : W1.heap.size = S + 1 := by rw [hW1, size_alloc', hS]
  have s2 : W2.heap.size = S + 2 := by rw [hW2, size_alloc', s1]
  have s3 : W3.heap.size = S + 3 := by rw [hW3, size_alloc', s2]
  have b3 : Below S w W3 := by
    rw [hW3, hW2, hW1, hS]
    exact (((Below.refl _ _).alloc (Nat.le_refl _) _).alloc (by rw [size_alloc']; omega) _).alloc (by rw [size_alloc', size_alloc']; omega) _
  obtain ⟨vals, hvals⟩ : ∃ vals, vals = valsL l := ⟨_, rfl⟩
  have hvl : vals.length ≤ l.length := by rw [hvals]; exact length_valsL l
  obtain ⟨N, hN⟩ : ∃ N, N = vals.length := ⟨_, rfl⟩
  have ht1 : W3.heap[S]? = some (.cells #[.slice none 0 0, .slice none 0 0] 164 (0, 0)) := by
    rw [hW3, Below.heap_alloc W2 _ _ (by omega), hW2, Below.heap_alloc W1 _ _ (by omega), hW1, hS]; exact heap_alloc_new w _
  have ht2 : W3.heap[S + 1]? = some (.cells #[.slice none 0 0, .slice none 0 0] 164 (0, 0)) := by
    rw [hW3, Below.heap_alloc W2 _ _ (by omega), hW2, ← s1]; exact heap_alloc_new W1 _
  have hmap : W3.ownsMap Try.prog 9 (plainElem Try.prog 3) (S + 2) 0 (.map [] : DataW Unit) := by rw [hW3, ← s2]; exact World.ownsMap_made _ _ _ _
  have CV : Hid (Calls Try.prog 107 #[.slice ao l.length cap] W3 fun e w4 => ∃ av cv, e = .returned (.slice av N cv) ∧ (0 < N → ∃ g, av = some ⟨g, 0, none⟩) ∧ DS w S w4.heap.size vals (.slice av N cv) 0 (.map []) (.slice none 0 0) (.slice none 0 0) [] [] w4) := by
    refine (valuesOf_any lb cap l ao W3 (hr.kept (b3.block _ (by omega))) (by omega) (by omega)).mono ?_
    rintro e w4 ⟨vv, rfl, ho, hb⟩
    rw [← hvals, ← hN, s3] at ho
    obtain ⟨av, cv, rfl⟩ := slen_of ho
    have h4 := hb.size
    refine ⟨av, cv, rfl, fun h0 => ?_, ?_⟩
    · obtain ⟨g, cap', he, _, _⟩ := ho.form h0
      simp only [Value.slice.injEq] at he
      exact ⟨g, he.1⟩
    · have kp : ∀ k, k < W3.heap.size → w4.heap[k]? = W3.heap[k]? := fun k hk => hb.block k hk
      refine ⟨by rw [kp S (by omega)]; exact ht1, by rw [kp (S + 1) (by omega)]; exact ht2, ?_, by rw [← hN]; exact ho, fun k hk => (ho.lt k hk).2, World.ownsRow_nil _ _ _ _, World.ownsRow_nil _ _ _ _, b3.trans (hb.mono (by omega)), by omega, Nat.le_refl _, hS⟩
      exact hmap.kept (row := none) ⟨hb.os, hb.tape, hb.output, hb.size, fun k hk _ => hb.block k hk⟩ (by simp)
  have HT : Hid (∀ c ∈ vals, c.s.length ≤ 1000) := fun c hc => htext c (by rw [hvals] at hc; exact (List.mem_filter.1 hc).1)
  have HN : Hid (N = vals.length) := hN
  rw [← hvals, ← hS]
  have hmm := @run_makeMap Try.prog
  have e1 : w.alloc (.cells #[.slice none 0 0, .slice none 0 0] 164) = W1 := hW1.symm
  have e2 : W1.alloc (.cells #[.slice none 0 0, .slice none 0 0] 164) = W2 := hW2.symm
  have e3 : W2.alloc (.map #[] 0) = W3 := hW3.symm
  have hsz : w.heap.size = S := hS.symm
  obtain ⟨N0, hN0⟩ : ∃ N0, N0 = l.length := ⟨_, rfl⟩
  have hNN : N ≤ 100000 := by omega
  rw [← hN0] at CV ⊢
  clear hr hW1 hW2 hW3 hS hvals hN htext b3 ht1 ht2 hmap hvl hN0 hl hlb s3
  go_enter Try.func99, Try.ntmps99
  go_wp2_with fail
  refine CV.out.mono ?_
  rintro e w4 ⟨av, cv, rfl, hav, hds⟩
  obtain ⟨S4, hS4⟩ : ∃ S4, S4 = w4.heap.size := ⟨_, rfl⟩
  rw [← hS4] at hds
  have H0 : Hid (∃ vw vi D m, DS w S S4 vals (.slice av N cv) m D vw vi (dic (vals.take 0)).1 (dic (vals.take 0)).2 w4 ∧ DR D (dic (vals.take 0)).1 ∧ m ≤ 0) := ⟨_, _, _, _, hds, DR.nil, Nat.le_refl _⟩
  have HAV : Hid (0 < N → ∃ g, av = some ⟨g, 0, none⟩) := hav
  clear CV hds hav hS4 e1 e2 e3 hmm s1 s2
  go_wp2
  go_loopw [13] (fun i wr => ∃ (k : Nat), k ≤ N ∧ i = .int .i64 k ∧ Hid (∃ vw vi D m, DS w S S4 vals (.slice av N cv) m D vw vi (dic (vals.take k)).1 (dic (vals.take k)).2 wr ∧ DR D (dic (vals.take k)).1 ∧ m ≤ k))
    (fun i _ => N - (intOf i).toNat)
  case atStart => exact ⟨0, Nat.zero_le _, rfl, H0⟩
  case round =>
    obtain ⟨k, hk, rfl, HD⟩ := hrel
    by_cases hk2 : k < N
    · have hkl : k < vals.length := by rw [← HN.out]; exact hk2
      obtain ⟨vw, vi, D, m, hds, hdr, hm⟩ := HD.out
      have hlen := dic_len vals k (Nat.le_of_lt hkl)
      have htk := dic_take vals k hkl
      obtain ⟨ws, hws⟩ : ∃ ws, ws = (dic (vals.take k)).1 := ⟨_, rfl⟩
      obtain ⟨is, his⟩ : ∃ is, is = (dic (vals.take k)).2 := ⟨_, rfl⟩
      rw [← hws, ← his] at hlen
      rw [← hws, ← his] at hds
      rw [← hws] at hdr
      obtain ⟨g, rfl⟩ := HAV.out (by omega)
      have hvr := hds.vals
      rw [← HN.out] at hvr
      have hcel := Rs.ofOwn hvr
      obtain ⟨lbv, hrv, hlbv⟩ := hcel
      have hgl := hlbv g rfl
      subst hgl
      rw [HN.out] at hrv
      obtain ⟨o, ho, h0, h1, h2⟩ := hrv.cl3 k hkl
      simp only [Option.some.injEq, Addr.mk.injEq, true_and, and_true] at ho
      subst ho
      rw [Nat.zero_add] at h0 h1 h2
      obtain ⟨c, hc⟩ : ∃ c, c = vals[k] := ⟨_, rfl⟩
      rw [← hc] at h0 h1 h2 htk
      have hct := HT.out c (by rw [hc]; exact List.getElem_mem hkl)
      have hhas := hdr.has c.s
      have hat := hdr.at' c.s
      have hput := hdr.put c
      obtain ⟨b, x, sx⟩ := c
      simp only at h0 h1 h2 hct hhas hat hput
      obtain ⟨t, ht⟩ : ∃ t : ByteArray, t = ⟨sx.toArray⟩ := ⟨_, rfl⟩
      have hts : t.size = sx.length := by rw [ht]; simp [ByteArray.size]
      have htd : t.data.toList = sx := by rw [ht]
      have h2' : wr.cell? ⟨g, k * 3 + 2, none⟩ = some (.string t) := by rw [ht]; exact h2
      have hkey : keyOf Try.prog 9 (.string t) = some (kS sx) := by
        have := WideMaps.keyOf_string_mk (P := Try.prog) Try.underlying9 (s := t) (by unfold maxLen; omega)
        rw [htd] at this; exact this
      obtain ⟨Wc, hWc⟩ : ∃ Wc, Wc = wr.alloc (.cells #[.bool b, .int .i64 x, .string t] 66) := ⟨_, rfl⟩
      have d1 : DS w S S4 vals (.slice (some ⟨g, 0, none⟩) N cv) m D vw vi ws is Wc := by rw [hWc]; exact hds.alloc _
      have rc : Wc.heap[wr.heap.size]? = some (.cells #[.bool b, .int .i64 x, .string t] 66 (0, 0)) := by rw [hWc]; exact heap_alloc_new wr _
      have c2 : Wc.cell? ⟨wr.heap.size, 2, none⟩ = some (.string t) := by rw [cell_of_row _ _ 2 _ _ _ rc]; rfl
      have hWsz : S4 ≤ Wc.heap.size := d1.s4
      have t30 : Wc.cell? ⟨S + 1, 0, none⟩ = some vw := by rw [cell_of_row _ _ 0 _ _ _ d1.t3]; rfl
      have t31 : Wc.cell? ⟨S + 1, 1, none⟩ = some vi := by rw [cell_of_row _ _ 1 _ _ _ d1.t3]; rfl
      have hws4 : S4 ≤ wr.heap.size := hds.s4
      have hs34 : S + 3 ≤ S4 := hds.s3
      obtain ⟨i3, hi3, hz3, hz3', hz3''⟩ := info_parts Try.info3
      obtain ⟨aw, cw, rfl⟩ := slen_of d1.ow
      obtain ⟨ai, ci, rfl⟩ := slen_of d1.oi
      obtain ⟨nw, hnw⟩ : ∃ nw, nw = ws.length := ⟨_, rfl⟩
      by_cases hkn : ix ws sx < ws.length
      · obtain ⟨q, hq⟩ : ∃ q, q = ix ws sx := ⟨_, rfl⟩
        rw [← hq] at hat
        have HAT : Hid (D.atKey (kS sx) z0 = .lit (.int .i64 (q : Int))) := hat (by rw [hq]; exact hkn)
        have HHAS : Hid (Maps.has D (kS sx) = true) := by rw [Hid, hhas]; exact decide_eq_true hkn
        have HD1 : Hid (DS w S S4 vals (.slice (some ⟨g, 0, none⟩) N cv) m D (.slice aw ws.length cw) (.slice ai is.length ci) ws is Wc) := d1
        have HNX : Hid (∀ (a1 : Option Addr) (c1 : Nat) (w1 : World), w1.ownsRow S4 3 1 (.slice a1 (is.length + 1) c1) (is.length + 1) (ints is ++ [.int .i64 (q : Int)]) → Wc.grownBy w1 (Value.slice ai is.length ci).ownBlock → (∃ vw vi D m, DS w S S4 vals (.slice (some ⟨g, 0, none⟩) N cv) m D vw vi (dic (vals.take (k + 1))).1 (dic (vals.take (k + 1))).2 (w1.setCell ⟨S + 1, 1, none⟩ (.slice a1 (is.length + 1) c1)) ∧ DR D (dic (vals.take (k + 1))).1 ∧ m ≤ k + 1) ∧ w1.cell? ⟨S + 1, 1, none⟩ = some (.slice ai is.length ci) ∧ w1.frozen? ⟨S + 1, 1, none⟩ = false) := fun a1 c1 w1 own gr => by
          have e : (dic (vals.take (k + 1))) = (ws, is ++ [q]) := by
            rw [htk]; unfold dicStep; rw [← hws, ← his]
            show ((if ix ws sx < ws.length then ws else _), is ++ [ix ws sx]) = _
            rw [if_pos hkn, hq]
          have := d1.stepIdx (is' := is ++ [q]) gr (by rw [List.length_append, ints, List.map_append]; exact own)
          rw [e]
          exact ⟨⟨_, _, _, _, this.1, hdr, by omega⟩, this.2.1, this.2.2⟩
        have hWc' : wr.alloc (.cells #[.bool b, .int .i64 x, .string t] 66) = Wc := hWc.symm
        obtain ⟨ni, hni⟩ : ∃ ni, ni = is.length := ⟨_, rfl⟩
        rw [← hni] at HNX t31
        have OI : Hid (Wc.ownsRow S4 3 1 (.slice ai ni ci) ni (ints is)) := by have := d1.oi; rw [← hni] at this; exact this
        have HM : Hid (Wc.ownsMap Try.prog 9 (plainElem Try.prog 3) (S + 2) m D) := d1.map
        have hnik : ni ≤ 100000 := by omega
        rw [← hnw] at t30
        clear hds d1 hdr hhas hat hput hc hct ht hts htd hWc h2 hrv hlbv hvr htk hws his hlen HD hkn hq HD1 hni hnw rc
        go_wp2_with (first
          | (at_lookup; refine wpList_look_at _ rfl _ _ rfl (S + 2) m D rfl HM.out _ _ rfl hkey (q : Int) true HAT.out HHAS.out ?_)
          | (at_builtin; refine wpList_push rfl (.tmp 40) (.tmp 42) 26 rfl rfl Try.underlying26 hi3 hz3 hz3' hz3'' rfl OI.out #[.int .i64 (q : Int)] rfl (oneI _) (by unfold maxLen; omega) (by omega) (by omega) rfl rfl ?_; intro a1 c1 w1 own1 gr1 lies1; have HR := (HNX.out a1 c1 w1 own1 gr1); clear own1 gr1 lies1; obtain ⟨HR1, hcc, hff⟩ := HR; have HR2 : Hid (∃ vw vi D m, DS w S S4 vals (.slice (some ⟨g, 0, none⟩) N cv) m D vw vi (dic (vals.take (k + 1))).1 (dic (vals.take (k + 1))).2 (w1.setCell ⟨S + 1, 1, none⟩ (.slice a1 (ni + 1) c1)) ∧ DR D (dic (vals.take (k + 1))).1 ∧ m ≤ k + 1) := HR1; clear HR1)
          | go_in)
        go_roundw
        case rel => exact ⟨k + 1, by omega, by go_num, HR2⟩
        case measure => simp [intOf]; omega
      · have HAT : Hid (D.atKey (kS sx) z0 = .lit (.int .i64 0)) := atKey_none hdr.isMap (by rw [hhas]; exact decide_eq_false hkn) _
        have HHAS : Hid (Maps.has D (kS sx) = false) := by rw [Hid, hhas]; exact decide_eq_false hkn
        obtain ⟨ni, hni⟩ : ∃ ni, ni = is.length := ⟨_, rfl⟩
        have hni2 : ni ≤ 100000 := by omega
        have hnw2 : nw ≤ 100000 := by omega
        have hm2 : m ≤ 100000 := by omega
        have e : (dic (vals.take (k + 1))) = (ws ++ [⟨b, x, sx⟩], is ++ [nw]) := by
          rw [htk]; unfold dicStep; rw [← hws, ← his]
          show ((if ix ws sx < ws.length then ws else ws ++ [(⟨b, x, sx⟩ : Pu.Cl)]), is ++ [ix ws sx]) = _
          rw [if_neg hkn, show ix ws sx = nw by have := ix_le ws sx; omega]
        have hput2 := hput hkn
        rw [← hnw] at hput2
        rw [← hnw] at t30
        rw [← hnw, ← hni] at d1
        rw [← hni] at t31
        have HM : Hid (Wc.ownsMap Try.prog 9 (plainElem Try.prog 3) (S + 2) m D) := d1.map
        have HMP : Hid (∀ w1 : World, w1.ownsMap Try.prog 9 (plainElem Try.prog 3) (S + 2) (m + 1) (D.put (kS sx) (.lit (.int .i64 (nw : Int)))) → Wc.grownBy w1 (some (S + 2)) →
            DS w S S4 vals (.slice (some ⟨g, 0, none⟩) N cv) (m + 1) (D.put (kS sx) (.lit (.int .i64 (nw : Int)))) (.slice aw nw cw) (.slice ai ni ci) ws is w1 ∧ w1.ownsRow S4 66 3 (.slice aw nw cw) nw (clsV ws) ∧ w1.cell? ⟨wr.heap.size, 0, none⟩ = some (.bool b) ∧ w1.cell? ⟨wr.heap.size, 1, none⟩ = some (.int .i64 x) ∧ w1.cell? ⟨wr.heap.size, 2, none⟩ = some (.string t) ∧ w1.cell? ⟨S + 1, 0, none⟩ = some (.slice aw nw cw)) := fun w1 hm1 hg1 => by
          have d2 := d1.stepMap hg1 hm1
          have rk : w1.heap[wr.heap.size]? = some (.cells #[.bool b, .int .i64 x, .string t] 66 (0, 0)) := by
            rw [hg1.block _ (by rw [hWc, size_alloc']; omega) (fun e => by have := Option.some.inj e; omega)]; exact rc
          exact ⟨d2, by have := d2.ow; rw [← hnw] at this; exact this, by rw [cell_of_row _ _ 0 _ _ _ rk]; rfl, by rw [cell_of_row _ _ 1 _ _ _ rk]; rfl, by rw [cell_of_row _ _ 2 _ _ _ rk]; rfl, by rw [cell_of_row _ _ 0 _ _ _ d2.t3]; rfl⟩
        have HWD : Hid (∀ w1 : World, DS w S S4 vals (.slice (some ⟨g, 0, none⟩) N cv) (m + 1) (D.put (kS sx) (.lit (.int .i64 (nw : Int)))) (.slice aw nw cw) (.slice ai ni ci) ws is w1 → ∀ (a1 : Option Addr) (c1 : Nat) (w2 : World), w2.ownsRow S4 66 3 (.slice a1 (nw + 1) c1) (nw + 1) (clsV ws ++ [.bool b, .int .i64 x, .string t]) → w1.grownBy w2 (Value.slice aw nw cw).ownBlock →
            DS w S S4 vals (.slice (some ⟨g, 0, none⟩) N cv) (m + 1) (D.put (kS sx) (.lit (.int .i64 (nw : Int)))) (.slice a1 (nw + 1) c1) (.slice ai ni ci) (ws ++ [⟨b, x, sx⟩]) is (w2.setCell ⟨S + 1, 0, none⟩ (.slice a1 (nw + 1) c1)) ∧ (w2.setCell ⟨S + 1, 0, none⟩ (.slice a1 (nw + 1) c1)).ownsRow S4 3 1 (.slice ai ni ci) ni (ints is) ∧ w2.cell? ⟨S + 1, 0, none⟩ = some (.slice aw nw cw) ∧ w2.cell? ⟨S + 1, 1, none⟩ = some (.slice ai ni ci) ∧ w2.frozen? ⟨S + 1, 0, none⟩ = false ∧ w2.frozen? ⟨S + 1, 1, none⟩ = false) := fun w1 d2 a1 c1 w2 own2 gr2 => by
          have key := d2.stepWord (ws' := ws ++ [⟨b, x, sx⟩]) (v' := .slice a1 (nw + 1) c1) gr2 ?_
          · exact ⟨key.1, by have := key.1.oi; rw [← hni] at this; exact this, key.2⟩
          rw [← clsV_snoc, List.length_append, ← hnw]
          have e2 : clV (⟨b, x, sx⟩ : Pu.Cl) = [.bool b, .int .i64 x, .string t] := by rw [ht]; rfl
          rw [e2]
          exact own2
        have HIX : Hid (∀ (X : World) (vw' : Value), DS w S S4 vals (.slice (some ⟨g, 0, none⟩) N cv) (m + 1) (D.put (kS sx) (.lit (.int .i64 (nw : Int)))) vw' (.slice ai ni ci) (ws ++ [⟨b, x, sx⟩]) is X → ∀ (a1 : Option Addr) (c1 : Nat) (w3 : World), w3.ownsRow S4 3 1 (.slice a1 (ni + 1) c1) (ni + 1) (ints is ++ [.int .i64 (nw : Int)]) → X.grownBy w3 (Value.slice ai ni ci).ownBlock →
            (∃ vw vi D m, DS w S S4 vals (.slice (some ⟨g, 0, none⟩) N cv) m D vw vi (dic (vals.take (k + 1))).1 (dic (vals.take (k + 1))).2 (w3.setCell ⟨S + 1, 1, none⟩ (.slice a1 (ni + 1) c1)) ∧ DR D (dic (vals.take (k + 1))).1 ∧ m ≤ k + 1) ∧ w3.cell? ⟨S + 1, 1, none⟩ = some (.slice ai ni ci) ∧ w3.frozen? ⟨S + 1, 1, none⟩ = false) := fun X vw' d3 a1 c1 w3 own3 gr3 => by
          have := d3.stepIdx (is' := is ++ [nw]) gr3 (by rw [List.length_append, ← hni, ints, List.map_append]; exact own3)
          rw [e]
          exact ⟨⟨_, _, _, _, this.1, hput2, by omega⟩, this.2.1, this.2.2⟩
        have hWc' : wr.alloc (.cells #[.bool b, .int .i64 x, .string t] 66) = Wc := hWc.symm
        obtain ⟨i66, hi66, hz66, hz66', hz66''⟩ := info_parts Try.info66
        have hwf : (Lit.int .i64 (nw : Int)).wf = true := WalkArith.wf_i64 (by omega)
        clear hds d1 hdr hhas hat hput hput2 hc hct ht hts htd hWc h2 hrv hlbv hvr htk hws his hlen HD hkn hni hnw rc e
        go_wp2_with (first
          | (at_lookup; refine wpList_look_at _ rfl _ _ rfl (S + 2) m D rfl HM.out _ _ rfl hkey 0 false HAT.out HHAS.out ?_)
          | (at_mapUpdate; refine wpList_mapUpdate_own _ rfl _ _ _ 174 rfl 9 3 law9 Try.underlying174 _ (S + 2) m D rfl HM.out (by unfold maxLen; omega) _ _ _ rfl rfl hkey _ [] (plainElem_int Try.underlying3 hwf) ?_; intro w1 hown1 hgrow1; obtain ⟨hd2, ow2, y0, y1, y2, y3⟩ := HMP.out w1 hown1 hgrow1; have OW2 : Hid (w1.ownsRow S4 66 3 (.slice aw nw cw) nw (clsV ws)) := ow2; clear ow2; have HD2 : Hid (DS w S S4 vals (.slice (some ⟨g, 0, none⟩) N cv) (m + 1) (D.put (kS sx) (.lit (.int .i64 (nw : Int)))) (.slice aw nw cw) (.slice ai ni ci) ws is w1) := hd2; have hz1 : S4 ≤ w1.heap.size := hd2.s4; clear hown1 hgrow1 hd2)
          | (at_builtin; refine wpList_push rfl (.tmp 34) (.tmp 36) 64 rfl rfl Try.underlying64 hi66 hz66 hz66' hz66'' rfl OW2.out #[.bool b, .int .i64 x, .string t] rfl (oneC _ _ _) (by unfold maxLen; omega) (by omega) hz1 rfl rfl ?_; intro a1 c1 w2 own2 gr2 lies2; obtain ⟨hd3, oi3, y4, y5, y6, y7⟩ := HWD.out w1 HD2.out a1 c1 w2 own2 gr2; have OI3 : Hid ((w2.setCell ⟨S + 1, 0, none⟩ (.slice a1 (nw + 1) c1)).ownsRow S4 3 1 (.slice ai ni ci) ni (ints is)) := oi3; clear own2 gr2 lies2 oi3; have HD3 : Hid (DS w S S4 vals (.slice (some ⟨g, 0, none⟩) N cv) (m + 1) (D.put (kS sx) (.lit (.int .i64 (nw : Int)))) (.slice a1 (nw + 1) c1) (.slice ai ni ci) (ws ++ [⟨b, x, sx⟩]) is (w2.setCell ⟨S + 1, 0, none⟩ (.slice a1 (nw + 1) c1))) := hd3; have hz2 : S4 ≤ (w2.setCell ⟨S + 1, 0, none⟩ (.slice a1 (nw + 1) c1)).heap.size := hd3.s4; clear hd3)
          | (at_builtin; refine wpList_push rfl (.tmp 40) (.tmp 42) 26 rfl rfl Try.underlying26 hi3 hz3 hz3' hz3'' rfl OI3.out #[.int .i64 (nw : Int)] rfl (oneI _) (by unfold maxLen; omega) (by omega) hz2 rfl (by rw [size_set]; rfl) ?_; intro a2 c2' w3 own3 gr3 lies3; obtain ⟨hr3, y8, y9⟩ := HIX.out _ _ HD3.out a2 c2' w3 own3 gr3; clear own3 gr3 lies3; have HR2 : Hid (∃ vw vi D m, DS w S S4 vals (.slice (some ⟨g, 0, none⟩) N cv) m D vw vi (dic (vals.take (k + 1))).1 (dic (vals.take (k + 1))).2 (w3.setCell ⟨S + 1, 1, none⟩ (.slice a2 (ni + 1) c2')) ∧ DR D (dic (vals.take (k + 1))).1 ∧ m ≤ k + 1) := hr3; clear hr3)
          | go_in)
        go_roundw
        case rel => exact ⟨k + 1, by omega, by go_num, HR2⟩
        case measure => simp [intOf]; omega
    · obtain rfl : k = N := by omega
      have htl : vals.take k = vals := List.take_of_length_le (by rw [HN.out]; exact Nat.le_refl _)
      rw [htl] at HD
      obtain ⟨vw, vi, D, m, hds, _, _⟩ := HD.out
      have q0 : wr.cell? ⟨S + 1, 0, none⟩ = some vw := by rw [cell_of_row _ _ 0 _ _ _ hds.t3]; rfl
      have q1 : wr.cell? ⟨S + 1, 1, none⟩ = some vi := by rw [cell_of_row _ _ 1 _ _ _ hds.t3]; rfl
      have q2 : wr.cell? ⟨S, 0, none⟩ = some (.slice none 0 0) := by rw [cell_of_row _ _ 0 _ _ _ hds.t2]; rfl
      have q3 : wr.cell? ⟨S, 1, none⟩ = some (.slice none 0 0) := by rw [cell_of_row _ _ 1 _ _ _ hds.t2]; rfl
      have f0 := frozen_of_row _ _ 0 _ _ hds.t2
      have f1 := frozen_of_row _ _ 1 _ _ hds.t2
      obtain ⟨aw, cw, rfl⟩ := slen_of hds.ow
      obtain ⟨ai, ci, rfl⟩ := slen_of hds.oi
      obtain ⟨F, hF⟩ : ∃ F, F = (wr.setCell ⟨S, 0, none⟩ (.slice aw (dic vals).1.length cw)).setCell ⟨S, 1, none⟩ (.slice ai (dic vals).2.length ci) := ⟨_, rfl⟩
      have r1 : (wr.setCell ⟨S, 0, none⟩ (.slice aw (dic vals).1.length cw)).heap[S]? = some (.cells #[.slice aw (dic vals).1.length cw, .slice none 0 0] 164 (0, 0)) := by rw [heap_setCell_same wr S 0 _ _ _ hds.t2]; rfl
      have r2 : F.heap[S]? = some (.cells #[.slice aw (dic vals).1.length cw, .slice ai (dic vals).2.length ci] 164 (0, 0)) := by rw [hF, heap_setCell_same _ S 1 _ _ _ r1]; rfl
      have oth : ∀ j, j ≠ S → F.heap[j]? = wr.heap[j]? := fun j hj => by rw [hF, heap_setCell_other _ _ j _ hj, heap_setCell_other _ _ j _ hj]
      have p0 : F.cell? ⟨S, 0, none⟩ = some (.slice aw (dic vals).1.length cw) := by rw [cell_of_row _ _ 0 _ _ _ r2]; rfl
      have p1 : F.cell? ⟨S, 1, none⟩ = some (.slice ai (dic vals).2.length ci) := by rw [cell_of_row _ _ 1 _ _ _ r2]; rfl
      have s34 := hds.s3
      have OW : F.ownsRow S 66 3 (.slice aw (dic vals).1.length cw) (dic vals).1.length (clsV (dic vals).1) := own_agreeS (hds.ow.mono (by omega)) (fun j hj => oth j (by have := (hds.ow.lt j hj).1; omega))
      have OI : F.ownsRow S 3 1 (.slice ai (dic vals).2.length ci) (dic vals).2.length (ints (dic vals).2) := own_agreeS (hds.oi.mono (by omega)) (fun j hj => oth j (by have := (hds.oi.lt j hj).1; omega))
      have BF : Below S w F := by
        have b := hds.below
        have hFs : F.heap.size = wr.heap.size := by rw [hF, size_set, size_set]
        exact ⟨by rw [hF]; exact b.os, by rw [hF]; exact b.tape, by rw [hF]; exact b.output, by rw [hFs]; exact b.size, fun j hj => by rw [oth j (by omega)]; exact b.block j hj⟩
      have HFin : Hid (∃ vw vi, Ending.returned (.agg #[.slice aw (dic vals).1.length cw, .slice ai (dic vals).2.length ci]) = Ending.returned (.agg #[vw, vi]) ∧ F.ownsRow S 66 3 vw (dic vals).1.length (clsV (dic vals).1) ∧ F.ownsRow S 3 1 vi (dic vals).2.length (ints (dic vals).2) ∧ Below S w F) := ⟨_, _, rfl, OW, OI, BF⟩
      have hF' : (wr.setCell ⟨S, 0, none⟩ (.slice aw (dic vals).1.length cw)).setCell ⟨S, 1, none⟩ (.slice ai (dic vals).2.length ci) = F := hF.symm
      clear hds HD OW OI BF r1 r2 oth hF htl
      go_wp2
      exact bodyPost_ret (v := .agg #[.slice aw (dic vals).1.length cw, .slice ai (dic vals).2.length ci]) (by simp [results, Try.results99, go_sem, p0, p1]) rfl HFin.out
end Go.Proofs.Ytjobhlncllfdmaa
