/- Columns as they come in; the program's table.hasName. -/
import Derived.Test.YtjobhlncllfdmaaM29
import Derived.Deep.RegionHeld3
namespace Go.Proofs.Ytjobhlncllfdmaa
open Go.RowKit Go.Maps

/-- a column as it comes in: its kind may be anything -/
abbrev RC := List UInt8 × Int × Bool
def rcV (c : RC) : List Value := [strV c.1, .int .i64 c.2.1, .bool c.2.2]
def rcsV (l : List RC) : List Value := l.flatMap rcV
theorem length_rcsV (l : List RC) : (rcsV l).length = l.length * 3 := by
  induction l with
  | nil => rfl
  | cons c r ih =>
    have : (rcsV (c :: r)).length = 3 + (rcsV r).length := by simp [rcsV, rcV]; omega
    rw [this, ih, List.length_cons]; omega
theorem rcsV_at (l : List RC) (k j : Nat) (h : k < l.length) (hj : j < 3) : (rcsV l)[k * 3 + j]? = (rcV l[k])[j]? := by
  induction l generalizing k with
  | nil => simp at h
  | cons c r ih =>
    have e : rcsV (c :: r) = rcV c ++ rcsV r := by simp [rcsV]
    have hl : (rcV c).length = 3 := rfl
    rw [e]
    cases k with
    | zero => rw [List.getElem?_append_left (by omega)]; simp
    | succ k =>
      rw [List.getElem?_append_right (by omega), show (k + 1) * 3 + j - (rcV c).length = k * 3 + j by omega, ih k (by simpa using h)]
      simp
theorem rcsV_take (l : List RC) (k : Nat) : (rcsV l).take (k * 3) = rcsV (l.take k) := by
  induction l generalizing k with
  | nil => simp [rcsV]
  | cons c r ih =>
    have e : ∀ r, rcsV (c :: r) = rcV c ++ rcsV r := fun r => by simp [rcsV]
    cases k with
    | zero => simp [rcsV]
    | succ k =>
      rw [e, List.take_succ_cons, e, ← ih k, List.take_append, show (rcV c).length = 3 from rfl, List.take_of_length_le (by show 3 ≤ _; omega)]
      congr 2; omega
theorem Rs.rc3 {w : World} {lb : Nat} {ao : Option Addr} {cap : Nat} {l : List RC} (h : Rs w 3 lb ao l.length cap (rcsV l)) (k : Nat) (hk : k < l.length) :
    ∃ o, ao = some ⟨lb, o, none⟩ ∧ w.cell? ⟨lb, o + k * 3, none⟩ = some (strV l[k].1) ∧ w.cell? ⟨lb, o + k * 3 + 1, none⟩ = some (.int .i64 l[k].2.1) ∧ w.cell? ⟨lb, o + k * 3 + 2, none⟩ = some (.bool l[k].2.2) := by
  obtain ⟨o, rfl, hc⟩ := h.at (by omega)
  have hl := length_rcsV l
  have hh : ∀ j, (hj : j < 3) → ∀ u, (rcV l[k])[j]? = some u → w.cell? ⟨lb, o + (k * 3 + j), none⟩ = some u := fun j hj u hu => by
    rw [hc (k * 3 + j) (by omega)]
    have := rcsV_at l k j hk hj
    rw [List.getElem?_eq_getElem (by omega), hu] at this
    exact this
  exact ⟨o, rfl, hh 0 (by omega) _ rfl, hh 1 (by omega) _ rfl, hh 2 (by omega) _ rfl⟩

/-- has one of them that name? -/
def hasNm (l : List RC) (s : List UInt8) : Bool := l.any fun c => decide (c.1 = s)
theorem hasNm_take (l : List RC) (s : List UInt8) (k : Nat) (hk : k < l.length) : hasNm (l.take (k + 1)) s = (hasNm (l.take k) s || decide (l[k].1 = s)) := by
  unfold hasNm; rw [List.take_succ_eq_append_getElem hk, List.any_append]; simp

set_option maxHeartbeats 4000000 in
set_option maxRecDepth 100000 in
theorem hasName_any (lb cap : Nat) (ao : Option Addr) (l : List RC) (t : ByteArray) (w : World) (hr : Rs w 3 lb ao l.length cap (rcsV l)) (hlb : lb < w.heap.size) (hl : l.length ≤ 100000) :
    Calls Try.prog 87 #[.slice ao l.length cap, .string t] w fun e w' => e = .returned (.bool (hasNm l t.data.toList)) ∧ Below w.heap.size w w' := by
  obtain ⟨S, hS⟩ : ∃ S, S = w.heap.size := ⟨_, rfl⟩
  obtain ⟨N, hN⟩ : ∃ N, N = l.length := ⟨_, rfl⟩
  have HC : Hid (∀ (wr : World) (k : Nat), Below S w wr → (hk : k < l.length) → ∃ o, ao = some ⟨lb, o, none⟩ ∧ wr.cell? ⟨lb, o + k * 3, none⟩ = some (strV l[k].1) ∧ wr.cell? ⟨lb, o + k * 3 + 1, none⟩ = some (.int .i64 l[k].2.1) ∧ wr.cell? ⟨lb, o + k * 3 + 2, none⟩ = some (.bool l[k].2.2)) := fun wr k hb hk =>
    (hr.kept (hb.block _ (by omega))).rc3 k hk
  have HTk : Hid (∀ k, (hk : k < l.length) → hasNm (l.take (k + 1)) t.data.toList = (hasNm (l.take k) t.data.toList || decide (l[k].1 = t.data.toList))) := fun k hk => hasNm_take l _ k hk
  have HAll : Hid (∀ k, k < l.length → hasNm (l.take (k + 1)) t.data.toList = true → hasNm l t.data.toList = true) := fun k hk h => by
    unfold hasNm at h ⊢
    obtain ⟨c, hc, h'⟩ := List.any_eq_true.1 h
    exact List.any_eq_true.2 ⟨c, List.mem_of_mem_take hc, h'⟩
  have HN : Hid (N = l.length) := hN
  have HS : Hid (S = w.heap.size) := hS
  rw [← hN] at hl ⊢
  rw [← hS]
  clear hr hN hS
  go_enter Try.func87, Try.ntmps87
  go_wp2
  go_loopw [9] (fun i wr => ∃ (k : Nat), k ≤ N ∧ i = .int .i64 k ∧ Hid (hasNm (l.take k) t.data.toList = false) ∧ Hid (Below S w wr))
    (fun i _ => N - (intOf i).toNat)
  case atStart => exact ⟨0, Nat.zero_le _, rfl, by simp [Hid, hasNm], Below.refl _ _⟩
  case round =>
    obtain ⟨k, hk, rfl, Hh, Hb⟩ := hrel
    by_cases hk2 : k < N
    · have hkl : k < l.length := by rw [← HN.out]; exact hk2
      obtain ⟨o, rfl, c0, c1, c2⟩ := HC.out wr k Hb.out hkl
      have htk := HTk.out k hkl
      have hall := HAll.out k hkl
      rw [Hh.out] at htk
      obtain ⟨c, hc⟩ : ∃ c, c = l[k] := ⟨_, rfl⟩
      rw [← hc] at c0 c1 c2 htk
      obtain ⟨nm, kd, op⟩ := c
      simp only at c0 c1 c2 htk
      obtain ⟨u, hu⟩ : ∃ u : ByteArray, u = ⟨nm.toArray⟩ := ⟨_, rfl⟩
      have c0' : wr.cell? ⟨lb, o + k * 3, none⟩ = some (.string u) := by rw [hu]; exact c0
      have hud : u.data.toList = nm := by rw [hu]
      have Hb2 : Hid (Below S w (wr.alloc (.cells #[.string u, .int .i64 kd, .bool op] 45))) := Hb.out.alloc (by have := Hb.out.size; rw [HS.out]; exact this) _
      by_cases hut : u = t
      · have hyes : hasNm l t.data.toList = true := hall (by rw [htk]; simp [← hud, hut])
        have HY := hid hyes
        clear hc htk hall hu hud c0 Hb Hh hyes
        subst hut
        go_wp2
        go_ret
        exact ⟨by rw [HY.out]; rfl, Hb2.out⟩
      · have hno : hasNm (l.take (k + 1)) t.data.toList = false := by
          rw [htk, Bool.false_or]
          exact decide_eq_false (fun e => hut (bytes_ext (by rw [hud]; exact e)))
        have HNo := hid hno
        have hd : (u.toList == t.toList) = false := str_ne hut
        clear hc htk hall hu hud c0 Hb Hh hno
        go_wp2
        go_roundw
        case rel => exact ⟨k + 1, by omega, by go_num, HNo, Hb2⟩
        case measure => simp [intOf]; omega
    · obtain rfl : k = N := by omega
      have htl : l.take k = l := List.take_of_length_le (by rw [HN.out]; exact Nat.le_refl _)
      rw [htl] at Hh
      go_wp2
      go_ret
      exact ⟨by rw [Hh.out]; rfl, Hb.out⟩
end Go.Proofs.Ytjobhlncllfdmaa

/- The program's table.hasColumns. -/
namespace Go.Proofs.Ytjobhlncllfdmaa
open Go.RowKit Go.Maps

/-- may the column stand where it stands? -/
def okAt (l : List RC) (k : Nat) : Bool :=
  match l[k]? with
  | none => true
  | some c => decide (1 ≤ c.1.length) && decide (c.1.length ≤ 20) && !hasNm (l.take k) c.1 && decide (0 ≤ c.2.1) && decide (c.2.1 ≤ 2)
def colsOk (l : List RC) : Bool := (List.range l.length).all (okAt l)
theorem colsOk_no {l : List RC} {k : Nat} (hk : k < l.length) (h : okAt l k = false) : colsOk l = false := by
  unfold colsOk
  rw [List.all_eq_false]
  exact ⟨k, List.mem_range.2 hk, by simp [h]⟩
theorem colsOk_yes {l : List RC} (h : ∀ k, k < l.length → okAt l k = true) : colsOk l = true := by
  unfold colsOk
  rw [List.all_eq_true]
  exact fun k hk => h k (List.mem_range.1 hk)

set_option maxHeartbeats 8000000 in
set_option maxRecDepth 100000 in
theorem hasColumns_any (lb cap : Nat) (ao : Option Addr) (l : List RC) (w : World) (hr : Rs w 3 lb ao l.length cap (rcsV l)) (hlb : lb < w.heap.size) (hl : l.length ≤ 100000) (hnm : ∀ c ∈ l, c.1.length ≤ 140737488355328) :
    Calls Try.prog 69 #[.slice ao l.length cap] w fun e w' => e = .returned (.bool (colsOk l)) ∧ Below w.heap.size w w' := by
  obtain ⟨S, hS⟩ : ∃ S, S = w.heap.size := ⟨_, rfl⟩
  obtain ⟨N, hN⟩ : ∃ N, N = l.length := ⟨_, rfl⟩
  have hcap : N ≤ cap ∧ cap ≤ maxLen := ⟨by rw [hN]; exact hr.1, hr.2.1⟩
  have HC : Hid (∀ (wr : World) (k : Nat), Below S w wr → (hk : k < l.length) → ∃ o, ao = some ⟨lb, o, none⟩ ∧ wr.cell? ⟨lb, o + k * 3, none⟩ = some (strV l[k].1) ∧ wr.cell? ⟨lb, o + k * 3 + 1, none⟩ = some (.int .i64 l[k].2.1) ∧ wr.cell? ⟨lb, o + k * 3 + 2, none⟩ = some (.bool l[k].2.2)) := fun wr k hb hk =>
    (hr.kept (hb.block _ (by omega))).rc3 k hk
  have HNm : Hid (∀ (W : World) (k : Nat) (u : ByteArray), Below S w W → k < l.length → Calls Try.prog 87 #[.slice ao k k, .string u] W.drew fun e w' => e = .returned (.bool (hasNm (l.take k) u.data.toList)) ∧ Below W.heap.size W w') := fun W k u hb hk => by
    have hbs := hb.size
    have ht := (hr.kept (w' := W.drew) (hb.block lb (by omega))).take k (by omega)
    rw [rcsV_take] at ht
    have hlt : (l.take k).length = k := by rw [List.length_take]; omega
    have := hasName_any lb k ao (l.take k) u W.drew (by rw [hlt]; exact ht) (by show lb < W.heap.size; omega) (by omega)
    rw [hlt] at this
    refine this.mono ?_
    rintro e w' ⟨rfl, hb'⟩
    exact ⟨rfl, ⟨hb'.os, hb'.tape, hb'.output, hb'.size, hb'.block⟩⟩
  have HLn : Hid (∀ c ∈ l, c.1.length ≤ 140737488355328) := hnm
  have HNo : Hid (∀ k, k < l.length → okAt l k = false → colsOk l = false) := fun k hk h => colsOk_no hk h
  have HYs : Hid ((∀ k, k < l.length → okAt l k = true) → colsOk l = true) := colsOk_yes
  have HN : Hid (N = l.length) := hN
  have HS : Hid (S = w.heap.size) := hS
  rw [← hN] at hl ⊢
  rw [← hS]
  obtain ⟨hcap1, hcap2⟩ := hcap
  unfold maxLen at hcap2
  obtain ⟨R, hR⟩ : ∃ R, R = colsOk l := ⟨_, rfl⟩
  rw [← hR]
  have HR := hid hR
  clear hr hN hS hnm hR
  go_enter Try.func69, Try.ntmps69
  go_wp2
  go_loopw [7] (fun i wr => ∃ (k : Nat), k ≤ N ∧ i = .int .i64 k ∧ Hid (∀ j, j < k → okAt l j = true) ∧ Hid (Below S w wr))
    (fun i _ => N - (intOf i).toNat)
  case atStart => exact ⟨0, Nat.zero_le _, rfl, fun j hj => by omega, Below.refl _ _⟩
  case round =>
    obtain ⟨k, hk, rfl, Hh, Hb⟩ := hrel
    by_cases hk2 : k < N
    · have hkl : k < l.length := by rw [← HN.out]; exact hk2
      obtain ⟨o, rfl, c0, c1, c2⟩ := HC.out wr k Hb.out hkl
      obtain ⟨c, hc⟩ : ∃ c, c = l[k] := ⟨_, rfl⟩
      have hcl := HLn.out c (by rw [hc]; exact List.getElem_mem hkl)
      rw [← hc] at c0 c1 c2
      have hok : okAt l k = (decide (1 ≤ c.1.length) && decide (c.1.length ≤ 20) && !hasNm (l.take k) c.1 && decide (0 ≤ c.2.1) && decide (c.2.1 ≤ 2)) := by unfold okAt; rw [List.getElem?_eq_getElem hkl, hc]
      have hno := HNo.out k hkl
      rw [hok, ← HR.out] at hno
      obtain ⟨nm, kd, op⟩ := c
      simp only at c0 c1 c2 hcl hok hno
      obtain ⟨u, hu⟩ : ∃ u : ByteArray, u = ⟨nm.toArray⟩ := ⟨_, rfl⟩
      have c0' : wr.cell? ⟨lb, o + k * 3, none⟩ = some (.string u) := by rw [hu]; exact c0
      have hud : u.data.toList = nm := by rw [hu]
      have hus : u.size = nm.length := by rw [hu]; simp [ByteArray.size]
      obtain ⟨Wc, hWc⟩ : ∃ Wc, Wc = wr.alloc (.cells #[.string u, .int .i64 kd, .bool op] 45) := ⟨_, rfl⟩
      have rc : Wc.heap[wr.heap.size]? = some (.cells #[.string u, .int .i64 kd, .bool op] 45 (0, 0)) := by rw [hWc]; exact heap_alloc_new wr _
      have bc : Below S w Wc := by rw [hWc]; exact Hb.out.alloc (by have := Hb.out.size; rw [HS.out]; exact this) _
      have y0 : Wc.cell? ⟨wr.heap.size, 0, none⟩ = some (.string u) := by rw [cell_of_row _ _ 0 _ _ _ rc]; rfl
      have y1 : Wc.cell? ⟨wr.heap.size, 1, none⟩ = some (.int .i64 kd) := by rw [cell_of_row _ _ 1 _ _ _ rc]; rfl
      have hW : wr.alloc (.cells #[.string u, .int .i64 kd, .bool op] 45) = Wc := hWc.symm
      have hkc : k ≤ cap := by omega
      have hu47 : u.size ≤ 140737488355328 := by omega
      have BC := hid bc
      by_cases h1 : u.size < 1
      · have hz : R = false := hno (by rw [show decide (1 ≤ nm.length) = false from decide_eq_false (by omega)]; simp)
        subst hz
        have d1 : decide ((u.size : Int) < 1) = true := by simp; omega
        clear hc hok hno hu hud hus c0 hWc rc bc Hb Hh HNm HC
        go_wp2
        go_quiet (fail)
        go_wp2
        go_ret
        exact ⟨rfl, below_drewN BC.out _⟩
      · have d1 : decide ((u.size : Int) < 1) = false := by simp; omega
        by_cases h20 : 20 < u.size
        · have hz : R = false := hno (by rw [show decide (nm.length ≤ 20) = false from decide_eq_false (by omega)]; simp)
          subst hz
          have d2 : decide (20 < (u.size : Int)) = true := by simp; omega
          clear hc hok hno hu hud hus c0 hWc rc bc Hb Hh HNm HC
          go_wp2
          go_quiet (fail)
          go_wp2
          go_ret
          exact ⟨rfl, below_drewN BC.out _⟩
        · have d2 : decide (20 < (u.size : Int)) = false := by simp; omega
          have CN := hid (HNm.out Wc k u bc hkl)
          rw [hud] at CN
          obtain ⟨hb, hhb⟩ : ∃ hb, hb = hasNm (l.take k) nm := ⟨_, rfl⟩
          rw [← hhb] at CN hno hok
          have HRow := hid (fun (W : World) (hW : Below Wc.heap.size Wc W) => (show W.cell? ⟨wr.heap.size, 0, none⟩ = some (.string u) ∧ W.cell? ⟨wr.heap.size, 1, none⟩ = some (.int .i64 kd) ∧ Below S w W from by
            have hWb : W.heap[wr.heap.size]? = Wc.heap[wr.heap.size]? := hW.block _ (by rw [hWc, size_alloc']; omega)
            exact ⟨by rw [World.cell?_of_block (w := Wc) (a := ⟨wr.heap.size, 0, none⟩) hWb]; exact y0, by rw [World.cell?_of_block (w := Wc) (a := ⟨wr.heap.size, 1, none⟩) hWb]; exact y1, bc.trans (hW.mono (by have := bc.size; rw [HS.out]; exact this))⟩))
          have hl1 : decide (1 ≤ nm.length) = true := decide_eq_true (by omega)
          have hl2 : decide (nm.length ≤ 20) = true := decide_eq_true (by omega)
          rw [hl1, hl2] at hno hok
          have hneg : kd < 0 ∨ 2 < kd → decide (0 ≤ kd) = false ∨ decide (kd ≤ 2) = false := fun h => by
            rcases h with h | h
            · exact .inl (decide_eq_false (by omega))
            · exact .inr (decide_eq_false (by omega))
          have HNX : Hid (hb = false → 0 ≤ kd → kd ≤ 2 → ∀ j, j < k + 1 → okAt l j = true) := fun h1 h2 h3 j hj => by
            by_cases e : j = k
            · rw [e, hok, h1]; simp [h2, h3]
            · exact Hh.out j (by omega)
          have HBad : Hid (hb = true ∨ kd < 0 ∨ 2 < kd → R = false) := fun h => by
            refine hno ?_
            rcases h with h | h
            · rw [h]; simp
            · rcases hneg h with h | h <;> rw [h] <;> simp
          clear hc hok hno hu hud hus c0 hWc rc bc Hb Hh HNm HC hhb hl1 hl2 hneg
          cases hb
          · by_cases hk0 : kd < 0
            · have hz := HBad.out (.inr (.inl hk0))
              subst hz
              have d3 : decide (kd < 0) = true := by simp; omega
              go_wp2
              go_region_held3 (fun W => W.cell? ⟨wr.heap.size, 0, none⟩ = some (.string u)) (first | exact y0 | exact z0) (first | (go_at_call 87; refine CN.out.mono ?_; rintro e w2 ⟨rfl, hb2⟩; obtain ⟨z0, z1, bz⟩ := HRow.out w2 hb2))
              go_wp2
              go_ret
              exact ⟨rfl, bz⟩
            · have d3 : decide (kd < 0) = false := by simp; omega
              by_cases hk22 : 2 < kd
              · have hz := HBad.out (.inr (.inr hk22))
                subst hz
                have d4 : decide (2 < kd) = true := by simp; omega
                go_wp2
                go_region_held3 (fun W => W.cell? ⟨wr.heap.size, 0, none⟩ = some (.string u)) (first | exact y0 | exact z0) (first | (go_at_call 87; refine CN.out.mono ?_; rintro e w2 ⟨rfl, hb2⟩; obtain ⟨z0, z1, bz⟩ := HRow.out w2 hb2))
                go_wp2
                go_ret
                exact ⟨rfl, bz⟩
              · have d4 : decide (2 < kd) = false := by simp; omega
                have HNX2 := hid (HNX.out rfl (by omega) (by omega))
                go_wp2
                go_region_held3 (fun W => W.cell? ⟨wr.heap.size, 0, none⟩ = some (.string u)) (first | exact y0 | exact z0) (first | (go_at_call 87; refine CN.out.mono ?_; rintro e w2 ⟨rfl, hb2⟩; obtain ⟨z0, z1, bz⟩ := HRow.out w2 hb2))
                have HBZ := hid bz
                clear bz
                go_wp2
                go_roundw
                case rel => exact ⟨k + 1, by omega, by go_num, HNX2, HBZ⟩
                case measure => simp [intOf]; omega
          · have hz := HBad.out (.inl rfl)
            subst hz
            go_wp2
            go_region_held3 (fun W => W.cell? ⟨wr.heap.size, 0, none⟩ = some (.string u)) (first | exact y0 | exact z0) (first | (go_at_call 87; refine CN.out.mono ?_; rintro e w2 ⟨rfl, hb2⟩; obtain ⟨z0, z1, bz⟩ := HRow.out w2 hb2))
            go_wp2
            go_ret
            exact ⟨rfl, bz⟩
    · obtain rfl : k = N := by omega
      have hy : R = true := by rw [HR.out]; exact HYs.out (by rw [← HN.out]; exact Hh.out)
      subst hy
      go_wp2
      go_ret
      exact ⟨rfl, Hb.out⟩
end Go.Proofs.Ytjobhlncllfdmaa
