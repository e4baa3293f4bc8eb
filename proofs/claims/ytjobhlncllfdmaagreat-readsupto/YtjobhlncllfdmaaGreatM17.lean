/- (*Reader).values: indices. -/
import Derived.Test.YtjobhlncllfdmaaGreatM16
namespace Go.Proofs.YtjobhlncllfdmaaGreat
open Go.RowKit

theorem pick_no {dict : List Pu.Cl} {l : List Nat} {k : Nat} (hk : k < l.length) (h : dict.length ≤ l[k]) : Pu.pick dict l = none := by
  unfold Pu.pick
  rw [if_neg]
  intro hall
  have := List.all_eq_true.1 hall l[k] (List.getElem_mem hk)
  simp only [decide_eq_true_eq] at this
  omega

/-- all indices so far are there -/
def Inn (dict : List Pu.Cl) (l : List Nat) (k : Nat) : Prop := ∀ i, (h : i < l.length) → i < k → l[i] < dict.length
theorem pick_yes {dict : List Pu.Cl} {l : List Nat} (h : Inn dict l l.length) : Pu.pick dict l = some (l.map fun i => dict.getD i Pu.nullC) := by
  unfold Pu.pick
  rw [if_pos]
  rw [List.all_eq_true]
  intro x hx
  obtain ⟨i, hi, rfl⟩ := List.mem_iff_getElem.1 hx
  simp only [decide_eq_true_eq]
  exact h i hi hi

def picked (dict : List Pu.Cl) (l : List Nat) (k : Nat) : List Pu.Cl := (l.take k).map fun i => dict.getD i Pu.nullC
theorem picked_snoc {dict : List Pu.Cl} {l : List Nat} {k : Nat} (hk : k < l.length) (hd : l[k] < dict.length) : picked dict l (k + 1) = picked dict l k ++ [dict[l[k]]] := by
  unfold picked
  rw [List.take_succ_eq_append_getElem hk, List.map_append]
  simp [List.getD_eq_getElem?_getD, List.getElem?_eq_getElem hd]
theorem length_picked {dict : List Pu.Cl} {l : List Nat} {k : Nat} (hk : k ≤ l.length) : (picked dict l k).length = k := by simp [picked]; omega

set_option maxHeartbeats 8000000 in
set_option maxRecDepth 100000 in
theorem values_index (p : Pu.Pg) (a n r kind : Nat) (nm : ByteArray) (left : Nat) (opt known : Bool) (vd vc : Value) (dict : List Pu.Cl) (Bd : Nat) (w : World) (h : RB w r nm kind opt left vd known vc) (hd : w.ownsRow Bd 57 3 vd dict.length (clsV dict)) (hb : p.body.length ≤ 1073741824) (ha : a ≤ p.body.length) (hn : n ≤ 100000) (hs : p.sort = 2) (_hdl : dict.length ≤ 100000) :
    Calls Tryz.prog 73 #[.pointer (some ⟨r, 0, none⟩), pgV p, .int .i64 (a : Int), .int .i64 (n : Int)] w fun e w' => VaAns w.heap.size (Pu.vals p.sort kind dict p.body a n) e w' ∧ Below w.heap.size w w' := by
  obtain ⟨ad, cd, rfl⟩ := slen_of hd
  have c4 := h.c4
  have hrl := h.lt
  have HD : Hid (∀ k, (hk : k < dict.length) → ∃ g, ad = some ⟨g, 0, none⟩ ∧ w.cell? ⟨g, k * 3, none⟩ = some (.bool dict[k].null) ∧ w.cell? ⟨g, k * 3 + 1, none⟩ = some (.int .i64 dict[k].n) ∧ w.cell? ⟨g, k * 3 + 2, none⟩ = some (strV dict[k].s) ∧ g < w.heap.size) := cls_cell' hd
  obtain ⟨so, ce, pa, si, su, bo⟩ := p
  simp only at hb ha hs ⊢
  have hsd : ((so : Int) != 2) = false := by simp; omega
  unfold pgV
  simp only
  obtain ⟨t, ht⟩ : ∃ t : ByteArray, t = ⟨bo.toArray⟩ := ⟨_, rfl⟩
  rw [← ht]
  have hbo : t.data.toList = bo := by rw [ht]
  have hts : t.size = bo.length := by rw [← len_dataB, hbo]
  have HV : Hid (Pu.vals so kind dict bo a n = if t.size ≤ a ∨ 16 < Pu.byteAt t.data.toList a then none else match Pu.rs t.data.toList (Pu.byteAt t.data.toList a) n n (a + 1) [] with
    | none => none
    | some (l, e) => if e ≠ t.size then none else Pu.pick dict l) := by
    unfold Hid Pu.vals
    rw [if_neg (by simpa using hs), hbo, hts]
    rfl
  have hat : a ≤ t.size := by omega
  have htl : t.size ≤ 1073741824 := by omega
  clear h ht hbo hd hb ha hts hs
  by_cases h1 : t.size ≤ a
  · have HX : Hid (Pu.vals so kind dict bo a n = none) := by rw [Hid, HV.out, if_pos (.inl h1)]
    have h1d : decide ((t.size : Int) ≤ (a : Int)) = true := by simp; omega
    go_enter Tryz.func73, Tryz.ntmps73
    go_wp2
    go_ret2
    exact ⟨by rw [HX.out]; exact ⟨_, rfl⟩, bbox w _⟩
  · obtain ⟨b, hb, hbb, HB⟩ := byte_ex t a (by omega)
    rw [← HB.out] at HV
    have h1d : decide ((t.size : Int) ≤ (a : Int)) = false := by simp; omega
    by_cases h2 : 16 < b
    · have HX : Hid (Pu.vals so kind dict bo a n = none) := by rw [Hid, HV.out, if_pos (.inr h2)]
      have h2d : decide ((16 : Int) < (b : Int)) = true := by simp; omega
      go_enter Tryz.func73, Tryz.ntmps73
      go_wp2
      go_ret2
      exact ⟨by rw [HX.out]; exact ⟨_, rfl⟩, bbox w _⟩
    · have h2d : decide ((16 : Int) < (b : Int)) = false := by simp; omega
      obtain ⟨q, hq⟩ : ∃ q, q = a + 1 := ⟨_, rfl⟩
      have HV2 : Hid (Pu.vals so kind dict bo a n = match Pu.rs t.data.toList b n n q [] with
        | none => none
        | some (l, e) => if e ≠ t.size then none else Pu.pick dict l) := by rw [Hid, HV.out, if_neg (by omega), hq]
      have hq1 : (a : Int) + 1 = (q : Int) := by omega
      have hq2 : q ≤ t.size := by omega
      have hqw : IntKind.i64.wrap (q : Int) = (q : Int) := IntWalk.i64_in _ ⟨by omega, by omega⟩
      have hal : (a : Int) < (t.size : Int) := by omega
      have ha0 : (0 : Int) ≤ (a : Int) := by omega
      have hbw : IntKind.i64.wrap (b : Int) = (b : Int) := IntWalk.i64_in _ ⟨by omega, by omega⟩
      have RN : Hid (∀ W : World, Calls Tryz.prog 87 #[.string t, .int .i64 (q : Int), .int .i64 (b : Int), .int .i64 (n : Int)] W fun e w' => RunsAns W.heap.size (Pu.rs t.data.toList b n n q []) e w' ∧ Below W.heap.size W w') := fun W => refRuns_any t q b n W (by omega) hq2 (by omega) hn
      have Hn0 : Hid (n = 0 → Pu.rs t.data.toList b n n q [] = some ([], q)) := fun e => by subst e; exact rs_done (by simp)
      clear HV hq
      cases hr : Pu.rs t.data.toList b n n q [] with
      | none =>
        have HX : Hid (Pu.vals so kind dict bo a n = none) := by rw [Hid, HV2.out, hr]
        have hn0 : ((n : Int) == 0) = false := by
          simp; intro e; have := Hn0.out e; rw [hr] at this; cases this
        rw [hr] at RN
        clear hr HV2 Hn0
        go_enter Tryz.func73, Tryz.ntmps73
        go_upto_region 6 with fail
        go_region_with (go_at_call 87; refine (RN.out _).mono ?_; rintro e w3 ⟨rfl, hb3⟩)
        all_goals
          go_wp2
          go_ret2
          exact ⟨by rw [HX.out]; exact ⟨_, rfl⟩, bself (bboxd w _) hb3⟩
      | some pr =>
        obtain ⟨l, en⟩ := pr
        have hlen := Pu.rs_length n q [] l en (Nat.zero_le _) (by rw [len_dataB]; exact hq2) hr
        rw [len_dataB] at hlen
        obtain ⟨hll, hen⟩ := hlen
        rw [hr] at RN
        have Hl2 : Hid (∀ x ∈ l, x < 2 ^ b) := Pu.rs_small n q [] l en (by simp) hr
        have Hlb : Hid (∀ k, (hk : k < l.length) → l[k] ≤ 65536) := fun k hk => by
          have := Hl2.out l[k] (List.getElem_mem hk)
          have h16 : 2 ^ b ≤ 2 ^ 16 := Nat.pow_le_pow_right (by omega) (by omega)
          have : (2 : Nat) ^ 16 = 65536 := by decide
          omega
        have HV3 : Hid (Pu.vals so kind dict bo a n = if en ≠ t.size then none else Pu.pick dict l) := by rw [Hid, HV2.out, hr]
        have Hen : Hid (n = 0 → en = q) := fun e => by have := Hn0.out e; rw [hr] at this; simp only [Option.some.injEq, Prod.mk.injEq] at this; exact this.2
        have Hll : Hid (l.length = n) := hll
        clear hr HV2 Hn0 Hl2 hll
        go_enter Tryz.func73, Tryz.ntmps73
        go_upto_region 6 with fail
        go_cut [12, 13, 14] (fun s12 s13 s14 wx => ∃ (al : Option Addr) (cl : Nat), s12 = .slice al l.length cl ∧ s13 = .int .i64 (en : Int) ∧ s14 = .bool true ∧ Hid (wx.ownsRow w.heap.size 3 1 (.slice al l.length cl) l.length (ints l)) ∧ Below w.heap.size w wx ∧ wx.cell? ⟨w.heap.size, 5, none⟩ = some (.string t))
        case first =>
          go_region_with (go_at_call 87; refine (RN.out _).mono ?_; rintro e w3 ⟨⟨v, rfl, hown⟩, hb3⟩)
          all_goals
            obtain ⟨al, cl, rfl⟩ := slen_of hown
            go_wp2_with fail
            go_meet
          all_goals
            case rel => exact ⟨al, cl, rfl, rfl, rfl, hown.mono (bboxd w _).size, bself (bboxd w _) hb3, box_celld (j := 5) hb3⟩
        case rest =>
        obtain ⟨al, cl, rfl, rfl, rfl, Hown, hbx, hc5⟩ := hcut
        have hcase : (((n : Int) == 0) = true ∧ q = en) ∨ ((n : Int) == 0) = false := by
          by_cases h0 : n = 0
          · exact .inl ⟨by simp; exact h0, (Hen.out h0).symm⟩
          · exact .inr (by simp; exact h0)
        have hlm : l.length ≤ 100000 := by rw [Hll.out]; exact hn
        have Hl0 : Hid (((n : Int) == 0) = true → l.length = 0) := fun e => by rw [Hll.out]; simpa using e
        clear Hen Hll
        rcases hcase with ⟨hnd, hqe⟩ | hnd
        · subst hqe
          by_cases he : q = t.size
          · have hed : ((q : Int) != (t.size : Int)) = false := by simp; omega
            have HX : Hid (Pu.vals so kind dict bo a n = Pu.pick dict l) := by rw [Hid, HV3.out, if_neg (by simpa using he)]
            clear he HV3
            go_wp2
            go_loopw [15, 16] (fun v i wr => ∃ k : Nat, k ≤ l.length ∧ i = .int .i64 k ∧ wr.ownsRow w.heap.size 57 3 v k (clsV (picked dict l k)) ∧ Hid (Inn dict l k) ∧ Hid (wr.ownsRow w.heap.size 3 1 (.slice al l.length cl) l.length (ints l)) ∧ Below w.heap.size w wr) (fun _ i _ => l.length - (intOf i).toNat)
            case atStart => exact ⟨0, Nat.zero_le _, rfl, World.ownsRow_nil _ _ _ _, fun i h hi => absurd hi (Nat.not_lt_zero _), Hown, hbx⟩
            case round =>
              clear Hown hbx hc5
              obtain ⟨k, hk, rfl, hown, HI, Hl, hbel⟩ := hrel
              obtain ⟨ao, cap, rfl⟩ := slen_of hown
              obtain rfl : k = l.length := by have := Hl0.out hnd; omega
              have HN : Hid (Pu.vals so kind dict bo a n = some (picked dict l l.length)) := by
                rw [Hid, HX.out, pick_yes HI.out]; unfold picked; rw [List.take_length]
              have Hpl : Hid ((picked dict l l.length).length = l.length) := length_picked (Nat.le_refl _)
              go_wp2
              go_ret2
              exact ⟨by rw [HN.out]; exact ⟨_, rfl, by rw [Hpl.out]; exact hown⟩, hbel⟩
          · have hed : ((q : Int) != (t.size : Int)) = true := by simp; omega
            have HX : Hid (Pu.vals so kind dict bo a n = none) := by rw [Hid, HV3.out, if_pos he]
            clear he HV3
            go_wp2
            go_ret2
            exact ⟨by rw [HX.out]; exact ⟨_, rfl⟩, hbx⟩
        · skip
          by_cases he : en = t.size
          · have hed : ((en : Int) != (t.size : Int)) = false := by simp; omega
            have HX : Hid (Pu.vals so kind dict bo a n = Pu.pick dict l) := by rw [Hid, HV3.out, if_neg (by simpa using he)]
            clear he HV3
            go_wp2
            go_loopw [15, 16] (fun v i wr => ∃ k : Nat, k ≤ l.length ∧ i = .int .i64 k ∧ wr.ownsRow w.heap.size 57 3 v k (clsV (picked dict l k)) ∧ Hid (Inn dict l k) ∧ Hid (wr.ownsRow w.heap.size 3 1 (.slice al l.length cl) l.length (ints l)) ∧ Below w.heap.size w wr) (fun _ i _ => l.length - (intOf i).toNat)
            case atStart => exact ⟨0, Nat.zero_le _, rfl, World.ownsRow_nil _ _ _ _, fun i h hi => absurd hi (Nat.not_lt_zero _), Hown, hbx⟩
            case round =>
              clear Hown hbx hc5
              obtain ⟨k, hk, rfl, hown, HI, Hl, hbel⟩ := hrel
              obtain ⟨ao, cap, rfl⟩ := slen_of hown
              by_cases hk2 : k < l.length
              · have hkd : decide ((k : Int) < (l.length : Int)) = true := by simp; omega
                obtain ⟨gl, hgl, hlc, hglt⟩ := ints_cell Hl.out k hk2
                subst hgl
                have c4' : wr.cell? ⟨r, 4, none⟩ = some (.slice ad dict.length cd) := by rw [hbel.cell (p := ⟨r, 4, none⟩) hrl]; exact c4
                have hlk := Hlb.out k hk2
                by_cases hdk : l[k] < dict.length
                · obtain ⟨gd, hgd, d0, d1, d2, hgdl⟩ := HD.out l[k] hdk
                  subst hgd
                  have HPS : Hid (clsV (picked dict l (k + 1)) = clsV (picked dict l k) ++ [.bool dict[l[k]].null, .int .i64 dict[l[k]].n, strV dict[l[k]].s]) := by
                    rw [Hid, picked_snoc hk2 hdk, ← clsV_snoc]; rfl
                  have HI2 : Hid (Inn dict l (k + 1)) := fun i h hi => by
                    by_cases e : i = k
                    · subst e; exact hdk
                    · exact HI.out i h (by omega)
                  have e0 : wr.cell? ⟨gd, l[k] * 3, none⟩ = some (.bool dict[l[k]].null) := by rw [hbel.cell (p := ⟨gd, l[k] * 3, none⟩) hgdl]; exact d0
                  have e1 : wr.cell? ⟨gd, l[k] * 3 + 1, none⟩ = some (.int .i64 dict[l[k]].n) := by rw [hbel.cell (p := ⟨gd, l[k] * 3 + 1, none⟩) hgdl]; exact d1
                  have e2 : wr.cell? ⟨gd, l[k] * 3 + 2, none⟩ = some (.string ⟨dict[l[k]].s.toArray⟩) := by rw [hbel.cell (p := ⟨gd, l[k] * 3 + 2, none⟩) hgdl]; exact d2
                  have hBs : w.heap.size ≤ wr.heap.size := hbel.size
                  unfold strV at HPS
                  clear d0 d1 d2
                  generalize dict[l[k]].null = xb at *
                  generalize dict[l[k]].n = xn at *
                  generalize (⟨dict[l[k]].s.toArray⟩ : ByteArray) = xs at *
                  generalize l[k] = x at *
                  have hxd : decide ((dict.length : Int) ≤ (x : Int)) = false := by simp; omega
                  have hx0 : (0 : Int) ≤ (x : Int) := by omega
                  have hx1 : (x : Int) < (dict.length : Int) := by omega
                  have hk0 : (0 : Int) ≤ (k : Int) := by omega
                  have hk1 : (k : Int) < (l.length : Int) := by omega
                  go_wp2
                  go_quiet (fail)
                  obtain ⟨w2, hw2⟩ : ∃ w2, w2 = wr.drewN nq := ⟨_, rfl⟩
                  rw [← hw2]
                  have hown2 : w2.ownsRow w.heap.size 57 3 (.slice ao k cap) k (clsV (picked dict l k)) := by rw [hw2]; exact ownsRow_drewN hown nq
                  have Hl2 : Hid (w2.ownsRow w.heap.size 3 1 (.slice (some ⟨gl, 0, none⟩) l.length cl) l.length (ints l)) := by rw [Hid, hw2]; exact ownsRow_drewN Hl.out nq
                  have hbel2 : Below w.heap.size w w2 := by rw [hw2]; exact below_drewN hbel nq
                  have e0' : w2.cell? ⟨gd, x * 3, none⟩ = some (.bool xb) := by rw [hw2]; exact e0
                  have e1' : w2.cell? ⟨gd, x * 3 + 1, none⟩ = some (.int .i64 xn) := by rw [hw2]; exact e1
                  have e2' : w2.cell? ⟨gd, x * 3 + 2, none⟩ = some (.string xs) := by rw [hw2]; exact e2
                  have c4'' : w2.cell? ⟨r, 4, none⟩ = some (.slice (some ⟨gd, 0, none⟩) dict.length cd) := by rw [hw2]; exact c4'
                  have hlc' : w2.cell? ⟨gl, k, none⟩ = some (.int .i64 (x : Int)) := by rw [hw2]; exact hlc
                  have hBs2 : w.heap.size ≤ w2.heap.size := hbel2.size
                  clear hw2 hown Hl hbel e0 e1 e2 c4' hlc
                  obtain ⟨g, cp, w4, run4, own4, gr4⟩ := cl_push hown2 xb xn xs (by omega) hBs2
                  have HR4 : Hid ((Builtin.append_ #[47, 47] 47 #[.slice ao k cap, .slice (some ⟨w2.heap.size, 0, none⟩) 1 1]).run Tryz.prog (w2.alloc (.cells #[.bool xb, .int .i64 xn, .string xs] 57)).drew = .ok (.slice (some ⟨g, 0, none⟩) (k + 1) cp) w4) := run4
                  rw [← HPS.out] at own4
                  have Hl4 : Hid (w4.ownsRow w.heap.size 3 1 (.slice (some ⟨gl, 0, none⟩) l.length cl) l.length (ints l)) := own_agreeS Hl2.out (fun y hy => (agree_step (w := w2.drew) gr4 (own_tyS Hl2.out hy).lt (fun e' => Ty.ne (own_tyS hown2 e') (own_tyS Hl2.out hy) (by decide) rfl)))
                  have hbel4 : Below w.heap.size w w4 := below_append (wr := w2.drew) hbel2.drew (Nat.le_refl _) gr4 (fun y e => (hown2.lt y e).1)
                  clear run4 gr4 hown2 Hl2 hbel2
                  go_wp2
                  go_region_law (refine step_append_run rfl (.tmp 87) (.tmp 98) 47 47 rfl _ _ _ _ rfl rfl HR4.out ?_)
                  all_goals
                    go_wp2
                    go_roundw
                    case rel => exact ⟨k + 1, by omega, by go_num, own4, HI2, Hl4, hbel4⟩
                    case measure => simp [intOf]; omega
                · have HN : Hid (Pu.vals so kind dict bo a n = none) := by rw [Hid, HX.out]; exact pick_no hk2 (by omega)
                  generalize l[k] = x at *
                  have hxd : decide ((dict.length : Int) ≤ (x : Int)) = true := by simp; omega
                  go_wp2
                  go_quiet (fail)
                  go_wp2
                  go_ret2
                  exact ⟨by rw [HN.out]; exact ⟨_, rfl⟩, below_drewN hbel _⟩
              · obtain rfl : k = l.length := by omega
                have HN : Hid (Pu.vals so kind dict bo a n = some (picked dict l l.length)) := by
                  rw [Hid, HX.out, pick_yes HI.out]; unfold picked; rw [List.take_length]
                have Hpl : Hid ((picked dict l l.length).length = l.length) := length_picked (Nat.le_refl _)
                go_wp2
                go_ret2
                exact ⟨by rw [HN.out]; exact ⟨_, rfl, by rw [Hpl.out]; exact hown⟩, hbel⟩
          · have hed : ((en : Int) != (t.size : Int)) = true := by simp; omega
            have HX : Hid (Pu.vals so kind dict bo a n = none) := by rw [Hid, HV3.out, if_pos he]
            clear he HV3
            go_wp2
            go_ret2
            exact ⟨by rw [HX.out]; exact ⟨_, rfl⟩, hbx⟩
end Go.Proofs.YtjobhlncllfdmaaGreat
