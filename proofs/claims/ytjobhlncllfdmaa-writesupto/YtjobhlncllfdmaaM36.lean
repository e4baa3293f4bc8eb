/- The book's backTable: its contract. -/
import Derived.Test.YtjobhlncllfdmaaM33
import Derived.Test.YtjobhlncllfdmaaM34
import Derived.Test.YtjobhlncllfdmaaM35
namespace Go.Proofs.Ytjobhlncllfdmaa
open Go.RowKit Go.Maps

theorem mix_set {a x : List Value} {k : Nat} {v : Value} (hk : k < a.length) (hx : k < x.length) (hv : a[k]? = some v) : (a.take k ++ x.drop k).set k v = a.take (k + 1) ++ x.drop (k + 1) := by
  obtain ⟨h, rfl⟩ := List.getElem?_eq_some_iff.1 hv
  rw [List.take_succ_eq_append_getElem hk, List.drop_eq_getElem_cons hx, List.set_append_right _ _ (by rw [List.length_take]; omega)]
  have e : k - (a.take k).length = 0 := by rw [List.length_take]; omega
  rw [e, List.set_cons_zero, List.append_assoc]
  rfl
theorem mix_at {a x : List Value} {k j : Nat} (hk : k ≤ a.length) (hj : k ≤ j) : (a.take k ++ x.drop k)[j]? = x[j]? := by
  rw [List.getElem?_append_right (by rw [List.length_take]; omega), List.getElem?_drop]
  congr 1
  rw [List.length_take]; omega

/-- k of the lists are the whole ones -/
structure VT (w W : World) (S SL N T gc cu gt cv : Nat) (ac : Option Addr) (cc : Nat) (at' : Option Addr) (ct : Nat) (vsl vsw : List Value) (k : Nat) : Prop where
  fr : Fr (fun x => x = gt) w W
  sz : S + 2 ≤ W.heap.size
  r0 : W.heap[S]? = some (.cells #[.slice (some ⟨gc, 0, none⟩) N cu, .slice (some ⟨gt, 0, none⟩) T cv] 50 (0, 0))
  r1 : W.heap[S + 1]? = some (.cells #[.slice ac N cc, .slice at' T ct] 50 (0, 0))
  l : W.ownsRow SL 64 1 (.slice (some ⟨gt, 0, none⟩) (T + 2) cv) (T + 2) (vsw.take k ++ (vsl ++ [Value.slice none 0 0, Value.slice none 0 0]).drop k)

set_option maxHeartbeats 4000000 in
theorem backTable_any (B b nb : Nat) (A : Nat → Prop) (w0 wl w : World) (SL : Nat) (rs : List RC) (ts : List (List Pu.Cl)) (gc cu gt cv : Nat) (aw : Option Addr) (cw : Nat) (vsl vsw : List Value) (ac : Option Addr) (cc : Nat) (at' : Option Addr) (ct lbc lbt : Nat) (vs : List Value)
    (hC : Chain w0 B b nb A w) (hL : Lent wl w SL rs ts gc cu gt cv aw cw vsl vsw) (hBS : B ≤ SL) (hA : ∀ k, A k → k < SL) (hT : TR w SL ac cc at' ct rs ts lbc lbt vs) (hrl : rs.length ≤ 1048576) (htl : ts.length ≤ 1048576) (hts : ∀ t ∈ ts, t.length ≤ 1048576) (hnb : nb ≤ 1000) :
    Calls Try.prog 37 #[.pointer (some ⟨b, 0, none⟩), .agg #[.slice (some ⟨gc, 0, none⟩) rs.length cu, .slice (some ⟨gt, 0, none⟩) ts.length cv], .slice aw ts.length cw, .agg #[.slice ac rs.length cc, .slice at' ts.length ct]] w fun e w' => e = .returned (.bool true) ∧ ∃ A', Chain w0 B b 10000000 A' w' ∧ ∀ x, (Ty w x 5 ∨ x < SL) → ¬ A x → w'.heap[x]? = w.heap[x]? ∧ ¬ A' x := by
  obtain ⟨S, hS⟩ : ∃ S, S = w.heap.size := ⟨_, rfl⟩
  obtain ⟨W1, hW1⟩ : ∃ W1, W1 = w.alloc (.cells #[.slice (some ⟨gc, 0, none⟩) rs.length cu, .slice (some ⟨gt, 0, none⟩) ts.length cv] 50) := ⟨_, rfl⟩
  obtain ⟨W2, hW2⟩ : ∃ W2, W2 = W1.alloc (.cells #[.slice ac rs.length cc, .slice at' ts.length ct] 50) := ⟨_, rfl⟩
  have s1 : W1.heap.size = S + 1 := by rw [hW1, size_alloc', hS]
  have s2 : W2.heap.size = S + 2 := by rw [hW2, size_alloc', s1]
  have b2 : Below w.heap.size w W2 := by rw [hW2, hW1]; exact (bbox w _).alloc (by rw [size_alloc']; omega) _
  have hwl : vsw.length = ts.length := by have := hL.wh.1; omega
  have hgt : SL ≤ gt := (hL.l.lt gt rfl).1
  have hgtl : gt < S := by rw [hS]; exact (own_tyS hL.l rfl).lt
  have hgc : SL ≤ gc := (hL.cols.lt gc rfl).1
  have hgcl : gc < S := by rw [hS]; exact (own_tyS hL.cols rfl).lt
  have hne45 : gc ≠ gt := Ty.ne (own_tyS hL.cols rfl) (own_tyS hL.l rfl) (by decide)
  obtain ⟨cu1, cu2⟩ := cap_of hL.cols
  obtain ⟨cv1, cv2⟩ := cap_of hL.l
  unfold maxLen at cu2 cv2
  obtain ⟨V, hV⟩ : ∃ V : World → Nat → Prop, V = fun W k => VT w W S SL rs.length ts.length gc cu gt cv ac cc at' ct vsl vsw k := ⟨_, rfl⟩
  -- what stays
  have keep : ∀ W k, V W k → ∀ x, x < S → x ≠ gt → W.heap[x]? = w.heap[x]? := fun W k h x hx hne => by
    rw [hV] at h
    exact h.fr.block x (by omega) hne
  have keepT : ∀ W k, V W k → TR W SL ac cc at' ct rs ts lbc lbt vs := fun W k h => hT.kept (fun j hj => keep W k h j (by omega) (by omega))
  have keepO : ∀ W k (e : TypeId) (sz : Nat) (v : Value) (n : Nat) (xs : List Value), V W k → e ≠ 64 → w.ownsRow SL e sz v n xs → W.ownsRow SL e sz v n xs := fun W k e sz v n xs h he ho => own_agreeS ho (fun x hx => keep W k h x (by rw [hS]; exact (own_tyS ho hx).lt) (Ty.ne (own_tyS ho hx) (own_tyS hL.l rfl) he))
  have keepW : ∀ W k, V W k → W.ownsRow SL 64 1 (.slice aw ts.length cw) ts.length vsw := fun W k h => own_agreeS hL.wh (fun x hx => keep W k h x (by rw [hS]; exact (own_tyS hL.wh hx).lt) (hL.ne x hx))
  have H0 : Hid (V W2 0) := by
    rw [Hid, hV]
    refine ⟨⟨b2.os, b2.tape, b2.output, b2.size, fun k hk _ => b2.block k hk⟩, by omega, ?_, ?_, ?_⟩
    · rw [hW2, Below.heap_alloc W1 _ _ (by omega), hW1, hS]; exact heap_alloc_new w _
    · rw [hW2, ← s1]; exact heap_alloc_new W1 _
    · show W2.ownsRow SL 64 1 _ _ ([] ++ _)
      exact own_agreeS hL.l (fun x hx => b2.block x (own_tyS hL.l hx).lt)
  have Vb : Hid (∀ W k, V W k → W.cell? ⟨S, 0, none⟩ = some (.slice (some ⟨gc, 0, none⟩) rs.length cu) ∧ W.cell? ⟨S, 1, none⟩ = some (.slice (some ⟨gt, 0, none⟩) ts.length cv) ∧ W.cell? ⟨S + 1, 0, none⟩ = some (.slice ac rs.length cc) ∧ W.cell? ⟨S + 1, 1, none⟩ = some (.slice at' ts.length ct)) := fun W k h => by
    rw [hV] at h
    exact ⟨by rw [cell_of_row _ _ 0 _ _ _ h.r0]; rfl, by rw [cell_of_row _ _ 1 _ _ _ h.r0]; rfl, by rw [cell_of_row _ _ 0 _ _ _ h.r1]; rfl, by rw [cell_of_row _ _ 1 _ _ _ h.r1]; rfl⟩
  have hll := hL.ll
  have Vn : Hid (∀ W, V W 0 → W.cell? ⟨gt, ts.length, none⟩ = some (.slice none 0 0) ∧ W.cell? ⟨gt, ts.length + 1, none⟩ = some (.slice none 0 0)) := fun W h => by
    rw [hV] at h
    refine ⟨?_, ?_⟩
    · rw [h.l.cellAt _ (by omega), mix_at (Nat.zero_le _) (Nat.zero_le _), List.getElem?_append_right (by omega), hll, Nat.sub_self]; rfl
    · rw [h.l.cellAt _ (by omega), mix_at (Nat.zero_le _) (Nat.zero_le _), List.getElem?_append_right (by omega), hll, show ts.length + 1 - ts.length = 1 by omega]; rfl
  have VB : Hid (∀ W W' k, V W k → Below W.heap.size W W' → V W' k) := fun W W' k h hb => by
    rw [hV] at h ⊢
    have hz := h.sz
    refine ⟨⟨hb.os.trans h.fr.os, hb.tape.trans h.fr.tape, hb.output.trans h.fr.output, Nat.le_trans h.fr.size hb.size, fun x hx hne => ?_⟩, Nat.le_trans hz hb.size, by rw [hb.block S (by omega)]; exact h.r0, by rw [hb.block (S + 1) (by omega)]; exact h.r1, own_agreeS h.l (fun x hx => hb.block x (own_tyS h.l hx).lt)⟩
    rw [hb.block x (by omega)]; exact h.fr.block x hx hne
  have hlc := length_rcsV (rs ++ [bh, bh])
  have cellC : ∀ W k, V W k → ∀ i, (hi : i < (rs ++ [bh, bh]).length) → W.cell? ⟨gc, i * 3, none⟩ = some (strV (rs ++ [bh, bh])[i].1) ∧ W.cell? ⟨gc, i * 3 + 1, none⟩ = some (.int .i64 (rs ++ [bh, bh])[i].2.1) ∧ W.cell? ⟨gc, i * 3 + 2, none⟩ = some (.bool (rs ++ [bh, bh])[i].2.2) := fun W k h i hi => by
    have ho := keepO W k 45 3 _ _ _ h (by decide) hL.cols
    have hi' : i < rs.length + 2 := by simpa using hi
    have hh : ∀ j, (hj : j < 3) → ∀ u, (rcV (rs ++ [bh, bh])[i])[j]? = some u → W.cell? ⟨gc, i * 3 + j, none⟩ = some u := fun j hj u hu => by
      rw [ho.cellAt _ (by omega), rcsV_at _ i j hi hj]; exact hu
    exact ⟨hh 0 (by omega) _ rfl, hh 1 (by omega) _ rfl, hh 2 (by omega) _ rfl⟩
  have Vc : Hid (∀ W i, V W 0 → i < rs.length → ∃ (lbc oc : Nat) (u : ByteArray) (kd : Int) (op : Bool), ac = some ⟨lbc, oc, none⟩ ∧ W.cell? ⟨lbc, oc + i * 3, none⟩ = some (.string u) ∧ W.cell? ⟨lbc, oc + i * 3 + 1, none⟩ = some (.int .i64 kd) ∧ W.cell? ⟨lbc, oc + i * 3 + 2, none⟩ = some (.bool op) ∧ W.cell? ⟨gc, i * 3, none⟩ = some (.string u) ∧ W.cell? ⟨gc, i * 3 + 1, none⟩ = some (.int .i64 kd) ∧ W.cell? ⟨gc, i * 3 + 2, none⟩ = some (.bool op) ∧ lbc < W.heap.size ∧ gc < W.heap.size) := fun W i h hi => by
    obtain ⟨oc, hac, c0, c1, c2⟩ := (keepT W 0 h).cols.rc3 i hi
    obtain ⟨d0, d1, d2⟩ := cellC W 0 h i (by simp; omega)
    rw [List.getElem_append_left hi] at d0 d1 d2
    rw [hV] at h
    have := h.sz
    have := hT.lbc
    exact ⟨lbc, oc, ⟨rs[i].1.toArray⟩, rs[i].2.1, rs[i].2.2, hac, c0, c1, c2, d0, d1, d2, by omega, by omega⟩
  have Vd : Hid (∀ W i, V W 0 → rs.length ≤ i → i < rs.length + 2 → W.cell? ⟨gc, i * 3, none⟩ = some (.string ⟨#[98, 101, 104, 105, 110, 100]⟩) ∧ W.cell? ⟨gc, i * 3 + 1, none⟩ = some (.int .i64 0) ∧ W.cell? ⟨gc, i * 3 + 2, none⟩ = some (.bool false) ∧ gc < W.heap.size) := fun W i h h1 h2 => by
    obtain ⟨d0, d1, d2⟩ := cellC W 0 h i (by simp; omega)
    have e : (rs ++ [bh, bh])[i]'(by simp; omega) = bh := by
      rw [List.getElem_append_right h1]
      rcases (show i - rs.length = 0 ∨ i - rs.length = 1 by omega) with h | h <;> simp [h]
    rw [e] at d0 d1 d2
    rw [hV] at h
    have := h.sz
    exact ⟨d0, d1, d2, by omega⟩
  have Vl : Hid (∀ W k, V W k → k < ts.length → ∃ (lbt ot n ci g c gw : Nat) (ai : Option Addr), at' = some ⟨lbt, ot, none⟩ ∧ aw = some ⟨gw, 0, none⟩ ∧ n ≤ 10000000 ∧ n + 2 ≤ c ∧ c ≤ 9223372036854775807 ∧
      (∀ W', V W' k → W'.cell? ⟨lbt, ot + k, none⟩ = some (.slice ai n ci) ∧ W'.cell? ⟨gt, k, none⟩ = some (.slice (some ⟨g, 0, none⟩) n c) ∧ W'.frozen? ⟨gt, k, none⟩ = false ∧ W'.cell? ⟨gw, k, none⟩ = some (.slice (some ⟨g, 0, none⟩) (n + 2) c) ∧ V (W'.setCell ⟨gt, k, none⟩ (.slice (some ⟨g, 0, none⟩) (n + 2) c)) (k + 1)) ∧
      (∀ W' j, V W' k → j < n → ∃ (lbi oi : Nat) (nu : Bool) (nn : Int) (t : ByteArray), ai = some ⟨lbi, oi, none⟩ ∧ W'.cell? ⟨lbi, oi + j * 3, none⟩ = some (.bool nu) ∧ W'.cell? ⟨lbi, oi + j * 3 + 1, none⟩ = some (.int .i64 nn) ∧ W'.cell? ⟨lbi, oi + j * 3 + 2, none⟩ = some (.string t) ∧ W'.cell? ⟨g, j * 3, none⟩ = some (.bool nu) ∧ W'.cell? ⟨g, j * 3 + 1, none⟩ = some (.int .i64 nn) ∧ W'.cell? ⟨g, j * 3 + 2, none⟩ = some (.string t)) ∧
      (∀ W' j, V W' k → n ≤ j → j < n + 2 → W'.cell? ⟨g, j * 3, none⟩ = some (.bool false) ∧ W'.cell? ⟨g, j * 3 + 1, none⟩ = some (.int .i64 77) ∧ W'.cell? ⟨g, j * 3 + 2, none⟩ = some (.string ⟨#[]⟩))) := fun W k h hk => by
    obtain ⟨ot, hat, _⟩ := hT.lists.at (by omega)
    obtain ⟨ai, ci, lbi, e1, e2, e3⟩ := hT.each k hk
    have hvl : k < vs.length := (List.getElem?_eq_some_iff.1 e1).1
    obtain ⟨g, c, q1, q2, q3⟩ := hL.each k hk
    obtain ⟨gw, cp, hform, _, _⟩ := hL.wh.form (by omega)
    simp only [Value.slice.injEq, true_and] at hform
    obtain ⟨hgw, _⟩ := hform
    obtain ⟨c1, c2⟩ := cap_of q3
    unfold maxLen at c2
    have hlt := (hts _ (List.getElem_mem hk))
    have cellG : ∀ W', V W' k → ∀ i, (hi : i < (ts[k] ++ [c77, c77]).length) → W'.cell? ⟨g, i * 3, none⟩ = some (.bool (ts[k] ++ [c77, c77])[i].null) ∧ W'.cell? ⟨g, i * 3 + 1, none⟩ = some (.int .i64 (ts[k] ++ [c77, c77])[i].n) ∧ W'.cell? ⟨g, i * 3 + 2, none⟩ = some (strV (ts[k] ++ [c77, c77])[i].s) := fun W' h' i hi => by
      have ho := keepO W' k 66 3 _ _ _ h' (by decide) q3
      have hi' : i < ts[k].length + 2 := by simpa using hi
      have hh : ∀ j, (hj : j < 3) → ∀ u, (clV (ts[k] ++ [c77, c77])[i])[j]? = some u → W'.cell? ⟨g, i * 3 + j, none⟩ = some u := fun j hj u hu => by
        rw [ho.cellAt _ (by omega), clsV_at _ i j hi hj]; exact hu
      exact ⟨hh 0 (by omega) _ rfl, hh 1 (by omega) _ rfl, hh 2 (by omega) _ rfl⟩
    refine ⟨lbt, ot, ts[k].length, ci, g, c, gw, ai, hat, hgw, by omega, c1, c2, fun W' h' => ?_, fun W' j h' hj => ?_, fun W' j h' h1 h2 => ?_⟩
    · have hTr := keepT W' k h'
      obtain ⟨ot', hat', hct⟩ := hTr.lists.at (by omega)
      have ee : ot' = ot := by rw [hat] at hat'; simpa using hat'.symm
      subst ee
      have hw' := keepW W' k h'
      rw [hgw] at hw'
      have h'' := h'
      rw [hV] at h''
      have e1' := e1
      rw [List.getElem?_eq_getElem hvl] at e1'
      refine ⟨by rw [hct k hvl]; exact e1', by rw [h''.l.cellAt k (by omega), mix_at (by omega) (Nat.le_refl _), List.getElem?_append_left (by omega)]; exact q1, h''.l.frozenAt k, by rw [hw'.cellAt k (by omega)]; exact q2, ?_⟩
      rw [hV]
      have hst := (h''.l.stored k (.slice (some ⟨g, 0, none⟩) (ts[k].length + 2) c)).1
      rw [mix_set (by omega) (by rw [List.length_append]; simp; omega) q2] at hst
      have hz := h''.sz
      refine ⟨h''.fr.trans Fr.set (fun x _ hx => hx), by rw [size_set]; exact hz, by rw [heap_setCell_other _ _ S _ (show S ≠ gt by omega)]; exact h''.r0, by rw [heap_setCell_other _ _ (S + 1) _ (show S + 1 ≠ gt by omega)]; exact h''.r1, hst⟩
    · obtain ⟨oi, hai, x0, x1, x2⟩ := (e2.kept (keep W' k h' lbi (by omega) (by omega))).cl3 j hj
      obtain ⟨d0, d1, d2⟩ := cellG W' h' j (by simp; omega)
      rw [List.getElem_append_left hj] at d0 d1 d2
      exact ⟨lbi, oi, _, _, ⟨ts[k][j].s.toArray⟩, hai, x0, x1, x2, d0, d1, d2⟩
    · obtain ⟨d0, d1, d2⟩ := cellG W' h' j (by simp; omega)
      have e : (ts[k] ++ [c77, c77])[j]'(by simp; omega) = c77 := by
        rw [List.getElem_append_right h1]
        rcases (show j - ts[k].length = 0 ∨ j - ts[k].length = 1 by omega) with h | h <;> simp [h]
      rw [e] at d0 d1 d2
      exact ⟨d0, d1, d2⟩
  -- the keeping
  obtain ⟨M, hM⟩ : ∃ M : World → Prop, M = fun w3 => ∃ W A3, V W ts.length ∧ Book5 w3 B b A3 (nb + 4) ∧ (∀ k, A3 k → A k ∨ some gc = some k ∨ W.heap.size ≤ k) ∧ Fr (fun k => A k ∨ some gc = some k) W w3 := ⟨_, rfl⟩
  have C27 : Hid (∀ W, V W ts.length → Calls Try.prog 27 #[.pointer (some ⟨b, 0, none⟩), .slice (some ⟨gc, 0, none⟩) (rs.length + 2) cu] W fun e w' => e = .returned (.tuple #[]) ∧ M w') := fun W h => by
    have hBk : Book5 W B b A nb := hC.1.kept (fun k hk => keep W _ h k (by have := hA k hk; omega) (by have := hA k hk; omega)) (by have h' := h; rw [hV] at h'; exact h'.fr.size)
    refine (keepColumns5 B b (rs.length + 2) A nb (some ⟨gc, 0, none⟩) cu _ W hBk ((keepO W _ 45 3 _ _ _ h (by decide) hL.cols).mono hBS) (fun k hk hAk => ?_) (by omega) (by omega)).mono ?_
    · simp only [Value.ownBlock, Option.some.injEq] at hk
      have := hA k hAk; omega
    · rintro e w3 ⟨he, A3, k1, k2, k3⟩
      rw [hM]
      exact ⟨he, W, A3, h, k1, k2, k3⟩
  have C61 : Hid (∀ W, M W → Calls Try.prog 61 #[.pointer (some ⟨b, 0, none⟩), .slice (some ⟨gt, 0, none⟩) (ts.length + 2) cv] W fun e w' => e = .returned (.tuple #[]) ∧ ∃ A', Chain w0 B b 10000000 A' w' ∧ ∀ x, (Ty w x 5 ∨ x < SL) → ¬ A x → w'.heap[x]? = w.heap[x]? ∧ ¬ A' x) := fun w3 h3 => by
    rw [hM] at h3
    obtain ⟨W, A3, h, k1, k2, k3⟩ := h3
    have h' := h
    rw [hV] at h'
    have hWs : S + 2 ≤ W.heap.size := h'.sz
    have hW3 := k3.size
    -- what lies in W and is neither the book's nor gc stays
    have st : ∀ x, x < W.heap.size → ¬ A x → x ≠ gc → w3.heap[x]? = W.heap[x]? := fun x hx h1 h2 => k3.block x hx (fun t => by
      rcases t with t | t
      · exact h1 t
      · exact h2 (by simpa using t.symm))
    have nA : ∀ x, SL ≤ x → ¬ A x := fun x hx ha => by have := hA x ha; omega
    have nA3 : ∀ x, SL ≤ x → x < W.heap.size → x ≠ gc → ¬ A3 x := fun x h1 h2 h3 ha => by
      rcases k2 x ha with t | t | t
      · exact nA x h1 t
      · exact h3 (by simpa using t.symm)
      · omega
    have eX : vsw.take ts.length ++ (vsl ++ [Value.slice none 0 0, .slice none 0 0]).drop ts.length = vsw ++ [.slice none 0 0, .slice none 0 0] := by
      rw [← hwl, List.take_length, hwl, ← hll, List.drop_append]; simp
    have hl3 : w3.ownsRow SL 64 1 (.slice (some ⟨gt, 0, none⟩) (ts.length + 2) cv) (ts.length + 2) (vsw ++ [.slice none 0 0, .slice none 0 0]) := by
      rw [← eX]
      exact own_agreeS h'.l (fun x hx => by
        simp only [Value.ownBlock, Option.some.injEq] at hx
        subst hx
        exact st gt (by omega) (nA gt hgt) (fun e => hne45 e.symm))
    have ol : ∀ i, (hi : i < ts.length) → ∃ g c, vsw[i]? = some (.slice (some ⟨g, 0, none⟩) (ts[i].length + 2) c) ∧ w3.ownsRow SL 66 3 (.slice (some ⟨g, 0, none⟩) (ts[i].length + 2) c) (ts[i].length + 2) (clsV (ts[i] ++ [c77, c77])) ∧ SL ≤ g ∧ g < S ∧ g ≠ gc ∧ Ty w g 66 := fun i hi => by
      obtain ⟨g, c, q1, q2, q3⟩ := hL.each i hi
      have q3' := keepO W _ 66 3 _ _ _ h (by decide) q3
      have hg1 : SL ≤ g := (q3.lt g rfl).1
      have hg2 : g < S := by rw [hS]; exact (own_tyS q3 rfl).lt
      have hg3 : g ≠ gc := Ty.ne (own_tyS q3 rfl) (own_tyS hL.cols rfl) (by decide)
      exact ⟨g, c, q2, own_agreeS q3' (fun x hx => by
        simp only [Value.ownBlock, Option.some.injEq] at hx
        subst hx
        exact st g (by omega) (nA g hg1) hg3), hg1, hg2, hg3, own_tyS q3 rfl⟩
    have lst : ∀ i v, (vsw ++ [Value.slice none 0 0, .slice none 0 0])[i]? = some v → (i < ts.length ∧ vsw[i]? = some v) ∨ (ts.length ≤ i ∧ v = .slice none 0 0) := fun i v hv => by
      by_cases hi : i < ts.length
      · rw [List.getElem?_append_left (by omega)] at hv
        exact .inl ⟨hi, hv⟩
      · rw [List.getElem?_append_right (by omega)] at hv
        refine .inr ⟨by omega, ?_⟩
        have := List.mem_of_getElem? hv
        simpa using this
    refine (keepLists5 B b (ts.length + 2) A3 (nb + 4) (some ⟨gt, 0, none⟩) cv _ w3 k1 (hl3.mono hBS) (fun k hk hAk => ?_) (fun i hi => ?_) (fun i j v v' k _ _ hij hv hv' hk => ?_) (by omega) (by omega)).mono ?_
    · simp only [Value.ownBlock, Option.some.injEq] at hk
      subst hk
      exact nA3 gt hgt (by omega) (fun e => hne45 e.symm) hAk
    · by_cases hi2 : i < ts.length
      · obtain ⟨g, c, q1, q2, q3, q4, q5, _⟩ := ol i hi2
        have := hts _ (List.getElem_mem hi2)
        exact ⟨_, _, c, _, by rw [List.getElem?_append_left (by omega)]; exact q1, q2.mono hBS, by omega, fun k hk hAk => by
          simp only [Value.ownBlock, Option.some.injEq] at hk
          subst hk
          exact nA3 g q3 (by omega) q5 hAk⟩
      · refine ⟨none, 0, 0, [], ?_, World.ownsRow_nil _ _ _ _, by omega, fun k hk => by simp [Value.ownBlock] at hk⟩
        rw [List.getElem?_append_right (by omega), hwl]
        rcases (show i - ts.length = 0 ∨ i - ts.length = 1 by omega) with h | h <;> rw [h] <;> rfl
    · rcases lst i v hv with ⟨_, a1⟩ | ⟨_, rfl⟩
      · rcases lst j v' hv' with ⟨_, a2⟩ | ⟨_, rfl⟩
        · exact hL.dis i j v v' k hij a1 a2 hk
        · simp [Value.ownBlock]
      · simp [Value.ownBlock] at hk
    · rintro e w4 ⟨he, A', j1, j2, j3⟩
      have of66 : ∀ x, Of (vsw ++ [Value.slice none 0 0, .slice none 0 0]) (ts.length + 2) x → Ty w x 66 ∧ SL ≤ x := fun x ⟨i, v, hi, hv, hx⟩ => by
        rcases lst i v hv with ⟨hi2, a1⟩ | ⟨_, rfl⟩
        · obtain ⟨g, c, q1, q2, q3, q4, q5, q6⟩ := ol i hi2
          rw [a1] at q1
          simp only [Option.some.injEq] at q1
          subst q1
          simp only [Value.ownBlock, Option.some.injEq] at hx
          subst hx
          exact ⟨q6, q3⟩
        · simp [Value.ownBlock] at hx
      refine ⟨he, A', ⟨j1.mono (by omega), ?_⟩, fun x hx hAx => ?_⟩
      · have f1 : Below B w W := h'.fr.below hC.1.bsize (fun k hk => by rw [hk]; omega)
        have f2 : Below B W w3 := k3.below (by have := hC.1.bsize; omega) (fun k hk => by
          rcases hk with t | t
          · exact (hC.1.lt k t).1
          · simp only [Option.some.injEq] at t; omega)
        have f3 : Below B w3 w4 := j3.below (by have := hC.1.bsize; omega) (fun k hk => by
          rcases hk with t | t | t
          · exact (k1.lt k t).1
          · have := (of66 k t).2; omega
          · simp only [Value.ownBlock, Option.some.injEq] at t; omega)
        exact hC.2.trans (f1.trans (f2.trans f3))
      · have hSL := hL.size
        have hxS : x < S := by
          rcases hx with hx | hx
          · rw [hS]; exact hx.lt
          · omega
        have n1 : x ≠ gt := by
          rcases hx with hx | hx
          · exact Ty.ne hx (own_tyS hL.l rfl) (by decide)
          · omega
        have n2 : x ≠ gc := by
          rcases hx with hx | hx
          · exact Ty.ne hx (own_tyS hL.cols rfl) (by decide)
          · omega
        have n3 : ¬ Of (vsw ++ [Value.slice none 0 0, .slice none 0 0]) (ts.length + 2) x := fun t => by
          rcases hx with hx | hx
          · exact Ty.ne hx (of66 x t).1 (by decide) rfl
          · have := (of66 x t).2; omega
        have n4 : ¬ A3 x := fun ha => by
          rcases k2 x ha with t | t | t
          · exact hAx t
          · exact n2 (by simpa using t.symm)
          · omega
        refine ⟨?_, fun ha => ?_⟩
        · rw [j3.block x (by omega) (fun t => by
            rcases t with t | t | t
            · exact n4 t
            · exact n3 t
            · simp only [Value.ownBlock, Option.some.injEq] at t; exact n1 t.symm), st x (by omega) hAx n2]
          exact keep W _ h x hxS n1
        · rcases j2 x ha with t | t | t | t
          · exact n4 t
          · exact n3 t
          · simp only [Value.ownBlock, Option.some.injEq] at t; exact n1 t.symm
          · omega
  refine backTable_walk b rs.length ts.length S gc cu gt cv aw cw ac cc at' ct w W1 W2 (rs.length + 2) (ts.length + 1) (ts.length + 2) V M _ (by omega) (by omega) (Nat.le_refl _) (Nat.le_refl _) (Nat.le_refl _) (Nat.le_refl _) (Nat.le_refl _) (Nat.le_refl _) cu1 cu2 cv1 cv2 hS.symm s1 hW1.symm hW2.symm H0 Vb Vn VB Vc Vd Vl C27 C61
end Go.Proofs.Ytjobhlncllfdmaa
