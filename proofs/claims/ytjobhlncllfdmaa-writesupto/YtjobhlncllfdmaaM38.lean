/- The reference's RunsOf. -/
import Derived.Test.YtjobhlncllfdmaaM37
import Derived.Deep.RegionHeld3
import Derived.Deep.DeepCutAuto
import Derived.BigQuiet
namespace Go.Proofs.Ytjobhlncllfdmaa
open Go.RowKit Go.Maps

/-- what is so in the loop of RunsOf -/
def RfS (w : World) (S lb width : Nat) (l r : List Nat) (ao : Option Addr) (cap : Nat) (t : ByteArray) (wr : World) : Prop :=
  ∃ f, r.length ≤ f ∧ r.length ≤ l.length ∧ t.data.toList ++ ruL width f r = runsL width l ∧ t.size ≤ 32 * (l.length - r.length) ∧ Rs w 1 lb ao r.length cap (ints r) ∧ (∀ x ∈ r, x < 4294967296) ∧ Below S w wr

theorem RfS.eq {w : World} {S lb width : Nat} {l r : List Nat} {ao : Option Addr} {cap : Nat} {t t' : ByteArray} {wr w' : World} (h : RfS w S lb width l r ao cap t wr) (hne : r ≠ []) (hw : width ≤ 24) (hl : l.length ≤ 1000000) (h8 : 8 ≤ eqs (r.headD 0) r) (ht : t'.data.toList = t.data.toList ++ vb (2 * eqs (r.headD 0) r) ++ leB ((width + 7) / 8) (r.headD 0)) (hb' : Below S w w') :
    RfS w S lb width l (r.drop (eqs (r.headD 0) r)) (cutS ao cap (eqs (r.headD 0) r) 1) (cap - eqs (r.headD 0) r) t' w' := by
  obtain ⟨f, hrf, hrl, he, hM, hrs, hx, hb⟩ := h
  have hle := eqs_le (r.headD 0) r
  have h0 : 0 < r.length := by cases r with | nil => exact absurd rfl hne | cons y q => simp
  obtain ⟨f', rfl⟩ : ∃ f', f = f' + 1 := ⟨f - 1, by omega⟩
  unfold ruL at he
  rw [if_neg hne, if_pos h8] at he
  have d := hrs.drop (eqs (r.headD 0) r) hle
  rw [Nat.mul_one, ints_drop] at d
  have l1 := length_vb8 (n := 2 * eqs (r.headD 0) r) (by omega)
  have l2 := length_leB ((width + 7) / 8) (r.headD 0)
  refine ⟨f', by rw [List.length_drop]; omega, by rw [List.length_drop]; omega, by rw [ht, List.append_assoc, List.append_assoc, ← List.append_assoc (vb _)]; exact he, ?_, by rw [List.length_drop]; exact d, fun x hx' => hx x (List.mem_of_mem_drop hx'), hb'⟩
  rw [← len_data, ht]
  simp only [List.length_append, List.length_drop, len_data]
  omega

theorem RfS.eight {w : World} {S lb width : Nat} {l r : List Nat} {ao : Option Addr} {cap : Nat} {t t' : ByteArray} {wr w' : World} (h : RfS w S lb width l r ao cap t wr) (hne : r ≠ []) (hw : width ≤ 24) (h8 : ¬ 8 ≤ eqs (r.headD 0) r) {n : Nat} (hn : n = min r.length 8) (ht : t'.data.toList = t.data.toList ++ vb 3 ++ pkRow (bf width r) width (n * width)) (hb' : Below S w w') :
    RfS w S lb width l (r.drop n) (cutS ao cap n 1) (cap - n) t' w' := by
  obtain ⟨f, hrf, hrl, he, hM, hrs, hx, hb⟩ := h
  have h0 : 0 < r.length := by cases r with | nil => exact absurd rfl hne | cons y q => simp
  obtain ⟨f', rfl⟩ : ∃ f', f = f' + 1 := ⟨f - 1, by omega⟩
  unfold ruL at he
  rw [if_neg hne, if_neg h8, ← hn] at he
  have hlt : (r.take n).length = n := by rw [List.length_take]; omega
  have hbf : pkRow (bf width (r.take n)) width (n * width) = pkRow (bf width r) width (n * width) := by
    unfold pkRow
    refine List.map_congr_left fun k _ => congrArg UInt8.ofNat ?_
    unfold pk
    have : ∀ m, 8 * k + m ≤ n * width ∨ m = 0 → pkb (bf width (r.take n)) (8 * k) m = pkb (bf width r) (8 * k) m := by
      intro m
      induction m with
      | zero => intro _; rfl
      | succ m ih =>
        intro hm
        have hm' : 8 * k + (m + 1) ≤ n * width := by rcases hm with h | h <;> omega
        rw [pkb, pkb, ih (by omega)]
        have hd : (8 * k + m) / width < n := Nat.div_lt_of_lt_mul (by rw [Nat.mul_comm width n]; omega)
        have : bf width (r.take n) (8 * k + m) = bf width r (8 * k + m) := by
          unfold bf
          rw [List.getD_eq_getElem?_getD, List.getD_eq_getElem?_getD, List.getElem?_take, if_pos hd]
        rw [this]
    exact this _ (by omega)
  have d := hrs.drop n (by omega)
  rw [Nat.mul_one, ints_drop] at d
  unfold eightL at he
  rw [hlt, hbf] at he
  have l3 : (vb 3).length = 1 := by rw [vb_small (by omega)]; rfl
  refine ⟨f', by rw [List.length_drop]; omega, by rw [List.length_drop]; omega, by rw [ht, List.append_assoc, List.append_assoc, ← List.append_assoc (vb 3)]; exact he, ?_, by rw [List.length_drop]; exact d, fun x hx' => hx x (List.mem_of_mem_drop hx'), hb'⟩
  rw [← len_data, ht]
  simp only [List.length_append, List.length_drop, len_data, length_pkRow, l3]
  omega

theorem eqs_get (x : Nat) : ∀ (l : List Nat) (k : Nat) (h : k < l.length), k < eqs x l → l[k] = x
  | [], k, h, _ => by simp at h
  | y :: r, 0, _, h => by
    unfold eqs at h
    by_cases e : y = x
    · simp [e]
    · rw [if_neg e] at h; omega
  | y :: r, k + 1, hl, h => by
    unfold eqs at h
    by_cases e : y = x
    · rw [if_pos e] at h
      have := eqs_get x r k (by simpa using hl) (by omega)
      simpa using this
    · rw [if_neg e] at h; omega
theorem eqs_stop (x : Nat) : ∀ (l : List Nat) (k : Nat) (h : k < l.length), k = eqs x l → l[k] ≠ x
  | [], k, h, _ => by simp at h
  | y :: r, k, hl, h => by
    unfold eqs at h
    by_cases e : y = x
    · rw [if_pos e] at h
      subst h
      have := eqs_stop x r _ (by simpa using hl) rfl
      simpa using this
    · rw [if_neg e] at h
      subst h
      simpa using e

set_option maxHeartbeats 4000000 in
set_option maxRecDepth 100000 in
theorem runsOf_any (lb width cap : Nat) (l : List Nat) (ao : Option Addr) (w : World) (hr : Rs w 1 lb ao l.length cap (ints l)) (hlb : lb < w.heap.size) (hx : ∀ x ∈ l, x < 4294967296) (hw : width ≤ 24) (hl : l.length ≤ 1000000) :
    Calls Try.prog 53 #[.slice ao l.length cap, .int .i64 width] w fun e w' => e = .returned (.string ⟨(runsL width l).toArray⟩) ∧ Below w.heap.size w w' := by
  obtain ⟨S, hS⟩ : ∃ S, S = w.heap.size := ⟨_, rfl⟩
  obtain ⟨N, hN⟩ : ∃ N, N = l.length := ⟨_, rfl⟩
  have H0 : Hid (RfS w S lb width l l ao cap ⟨#[]⟩ w) := ⟨l.length, Nat.le_refl _, Nat.le_refl _, rfl, Nat.zero_le _, hr, hx, Below.refl _ _⟩
  have HEq := hid (fun (r : List Nat) (ao : Option Addr) (cap : Nat) (t t' : ByteArray) (wr w' : World) (h : RfS w S lb width l r ao cap t wr) (hne : r ≠ []) (h8 : 8 ≤ eqs (r.headD 0) r) (ht : t'.data.toList = t.data.toList ++ vb (2 * eqs (r.headD 0) r) ++ leB ((width + 7) / 8) (r.headD 0)) (hb' : Below S w w') => h.eq hne hw hl h8 ht hb')
  have HEi := hid (fun (r : List Nat) (ao : Option Addr) (cap : Nat) (t t' : ByteArray) (wr w' : World) (h : RfS w S lb width l r ao cap t wr) (hne : r ≠ []) (h8 : ¬ 8 ≤ eqs (r.headD 0) r) (n : Nat) (hn : n = min r.length 8) (ht : t'.data.toList = t.data.toList ++ vb 3 ++ pkRow (bf width r) width (n * width)) (hb' : Below S w w') => h.eight hne hw h8 hn ht hb')
  have HCell : Hid (∀ (r : List Nat) (ao : Option Addr) (cap : Nat) (t : ByteArray) (wr W : World) (k : Nat), RfS w S lb width l r ao cap t wr → Below S w W → (hk : k < r.length) → ∃ o, ao = some ⟨lb, o, none⟩ ∧ W.cell? ⟨lb, o + k, none⟩ = some (.int .i64 (r[k] : Int))) := fun r ao cap t wr W k h hb hk => by
    obtain ⟨f, _, _, _, _, hrs, _, _⟩ := h
    obtain ⟨o, rfl, hc⟩ := hrs.at (by omega)
    refine ⟨o, rfl, ?_⟩
    rw [World.cell?_of_block (w := w) (hb.block lb (by omega)), hc k (by simp [ints]; omega)]
    simp [ints]
  have HN : Hid (N = l.length) := hN
  have HS : Hid (S = w.heap.size) := hS
  rw [← hS]
  rw [← hN] at hl ⊢
  clear hr hx hN hS
  go_enter Try.func53, Try.ntmps53
  go_wp2
  go_loopw [0, 5] (fun s0 s5 wr => ∃ (r : List Nat) (ao : Option Addr) (m cap : Nat) (t : ByteArray), s0 = .slice ao m cap ∧ s5 = .string t ∧ m ≤ N ∧ Hid (m = r.length) ∧ Hid (RfS w S lb width l r ao cap t wr)) (fun s0 _ _ => slen s0)
  case atStart => exact ⟨l, ao, N, cap, ⟨#[]⟩, rfl, rfl, Nat.le_refl _, HN, H0⟩
  case round =>
    obtain ⟨r, ao, m, cap, t, rfl, rfl, hmN, Hm, HU⟩ := hrel
    by_cases hm : 0 < m
    · have hm0 : 0 < r.length := by rw [← Hm.out]; exact hm
      have Hne : Hid (r ≠ []) := fun e => by rw [e] at hm0; simp at hm0
      obtain ⟨o, rfl, hc0⟩ := HCell.out r ao cap t wr wr 0 HU.out (by obtain ⟨_, _, _, _, _, _, _, h⟩ := HU.out; exact h) hm0
      obtain ⟨x, hx⟩ : ∃ x, x = r.headD 0 := ⟨_, rfl⟩
      have hx0 : r[0] = x := by rw [hx]; cases r with | nil => simp at hm0 | cons y q => rfl
      rw [hx0] at hc0
      obtain ⟨e, he⟩ : ∃ e, e = eqs x r := ⟨_, rfl⟩
      have hem : e ≤ m := by rw [he, Hm.out]; exact eqs_le x r
      have hec := hid (fun (W : World) (hb : Below S w W) => show W.cell? ⟨lb, o + 0, none⟩ = some (.int .i64 (x : Int)) from by
        obtain ⟨o', ho', h⟩ := HCell.out r _ cap t wr W 0 HU.out hb hm0
        simp only [Option.some.injEq, Addr.mk.injEq, true_and] at ho'
        rw [← hx0, ho'.1]; exact h)
      have hck := hid (fun (W : World) (k : Nat) (hb : Below S w W) (hk : k < m) => show ∃ y : Nat, W.cell? ⟨lb, o + k, none⟩ = some (.int .i64 (y : Int)) ∧ (k < e → y = x) ∧ (k = e → y ≠ x) ∧ y = r.getD k 0 ∧ y < 4294967296 from by
        have hkr : k < r.length := by rw [← Hm.out]; exact hk
        obtain ⟨o', ho', h⟩ := HCell.out r _ cap t wr W k HU.out hb hkr
        simp only [Option.some.injEq, Addr.mk.injEq, true_and] at ho'
        have hxs : ∀ z ∈ r, z < 4294967296 := by obtain ⟨_, _, _, _, _, _, h, _⟩ := HU.out; exact h
        rw [← ho'.1] at h
        refine ⟨r[k], h, fun hke => eqs_get x r k hkr (by omega), fun hke => eqs_stop x r k hkr (by omega), by rw [List.getD_eq_getElem?_getD, List.getElem?_eq_getElem hkr, Option.getD_some], hxs _ (List.getElem_mem hkr)⟩)
      have hcaps : m ≤ cap ∧ cap ≤ maxLen := by obtain ⟨_, _, _, _, _, h, _, _⟩ := HU.out; exact ⟨by rw [Hm.out]; exact h.1, h.2.1⟩
      obtain ⟨hmc, hcm⟩ := hcaps
      unfold maxLen at hcm
      have hts : t.size ≤ 32000000 := by obtain ⟨_, _, _, _, h, _, _, _⟩ := HU.out; have := HN.out; omega
      have HB : Hid (Below S w wr) := by obtain ⟨_, _, _, _, _, _, _, h⟩ := HU.out; exact h
      have hx32 : x < 4294967296 := by
        obtain ⟨y, _, _, _, h5, h6⟩ := hck.out wr 0 HB.out hm
        rw [hx]; cases r with | nil => simp at hm0 | cons z q => simp at h5; simp [← h5]; exact h6
      have REq := hid (fun (h8 : 8 ≤ e) (t' : ByteArray) (w' : World) (ht : t'.data.toList = t.data.toList ++ vb (2 * e) ++ leB ((width + 7) / 8) x) (hb' : Below S w w') => show RfS w S lb width l (r.drop e) (cutS (some ⟨lb, o, none⟩) cap e 1) (cap - e) t' w' from by
        have := HEq.out r _ cap t t' wr w' HU.out Hne.out (by rw [← hx, ← he]; exact h8) (by rw [← hx, ← he]; exact ht) hb'
        rw [← hx, ← he] at this; exact this)
      have REi := hid (fun (h8 : ¬ 8 ≤ e) (n : Nat) (hn : n = min m 8) (t' : ByteArray) (w' : World) (ht : t'.data.toList = t.data.toList ++ vb 3 ++ pkRow (bf width r) width (n * width)) (hb' : Below S w w') => show RfS w S lb width l (r.drop n) (cutS (some ⟨lb, o, none⟩) cap n 1) (cap - n) t' w' from by
        exact HEi.out r _ cap t t' wr w' HU.out Hne.out (by rw [← hx, ← he]; exact h8) n (by rw [← Hm.out]; exact hn) ht hb')
      have he0 : 0 < e := by rw [he, hx]; exact eqs_pos Hne.out
      clear hc0 hx hx0 he HCell HEq HEi HU Hne
      go_wp2
      go_loopw [6] (fun i wi => ∃ k : Nat, k ≤ e ∧ i = .int .i64 k ∧ Hid (Below S w wi)) (fun i _ => e - (intOf i).toNat)
      case atStart => exact ⟨0, Nat.zero_le _, rfl, HB⟩
      case round =>
        clear HB
        obtain ⟨k, hk, rfl, HB⟩ := hrel
        have hcx := hec.out wr HB.out
        rw [Nat.add_zero] at hcx
        go_upto_region 4 with fail
        go_cut [26] (fun s26 wx => s26 = .bool (decide (k < e)) ∧ Hid (Below S w wx))
        case first =>
          by_cases hke : k < e
          · obtain ⟨y, cy, hy1, z1, z2, z3⟩ := hck.out wr k HB.out (by omega)
            obtain rfl := hy1 hke
            clear z1 z2 z3 hy1
            have d1 : decide (k < m) = true := by simp; omega
            have d2 : decide (k < e) = true := by simp; omega
            go_quiet (fail)
            go_wp2
            go_meet
            exact ⟨by rw [d2], below_drewN HB.out _⟩
          · by_cases hkm : k < m
            · obtain ⟨y, cy, z1, hy1, z2, z3⟩ := hck.out wr k HB.out (by omega)
              have hyx := hy1 (by omega)
              clear z1 z2 z3 hy1
              have d1 : decide (k < m) = true := by simp; omega
              have d2 : decide (k < e) = false := by simp; omega
              have d3 : ((y : Int) == (x : Int)) = false := by simp; omega
              go_quiet (fail)
              go_wp2
              go_meet
              exact ⟨by rw [d2], below_drewN HB.out _⟩
            · have d1 : decide (k < m) = false := by simp; omega
              have d2 : decide (k < e) = false := by simp; omega
              go_quiet (fail)
              go_wp2
              go_meet
              exact ⟨by rw [d2], below_drewN HB.out _⟩
        case rest =>
        obtain ⟨rfl, HBc⟩ := hcut
        clear HB hcx
        by_cases hke : k < e
        · have d2 : decide (k < e) = true := by simp; omega
          go_wp2
          go_roundw
          case rel => exact ⟨k + 1, by omega, by go_num, HBc⟩
          case measure => simp [intOf]; omega
        · obtain rfl : e = k := by omega
          have d2 : decide (e < e) = false := by simp
          have hcx := hec.out wc HBc.out
          rw [Nat.add_zero] at hcx
          by_cases h8 : 8 ≤ e
          · obtain ⟨q, hq⟩ : ∃ q, q = (width + 7) / 8 := ⟨_, rfl⟩
            obtain ⟨tv, htv⟩ : ∃ tv : ByteArray, tv = ⟨(vb (2 * e)).toArray⟩ := ⟨_, rfl⟩
            obtain ⟨tl, htl⟩ : ∃ tl : ByteArray, tl = ⟨(leB q x).toArray⟩ := ⟨_, rfl⟩
            have hq3 : q ≤ 3 := by omega
            have htvs : tv.size ≤ 7 := by rw [htv, ← len_data]; simpa using length_vb8 (n := 2 * e) (by omega)
            have htls : tl.size ≤ 3 := by rw [htl, ← len_data]; simpa [length_leB] using hq3
            obtain ⟨e2, he2⟩ : ∃ e2 : Nat, e2 = 2 * e := ⟨_, rfl⟩
            obtain ⟨w7, hw7⟩ : ∃ w7 : Nat, w7 = width + 7 := ⟨_, rfl⟩
            have f1 : IntKind.i64.wrap (2 * (e : Int)) = (e2 : Int) := by rw [IntKind.wrap_i64]; omega
            have f2 : IntKind.i64.wrap ((width : Int) + 7) = (w7 : Int) := by rw [IntKind.wrap_i64]; omega
            have f3 : (w7 : Int).tdiv 8 = (q : Int) := by rw [Int.tdiv_eq_ediv_of_nonneg (by omega)]; omega
            have f4 : IntKind.i64.wrap (q : Int) = (q : Int) := by rw [IntKind.wrap_i64]; omega
            have CT := hid (show Calls Try.prog 32 #[.int .i64 (e2 : Int)] wc.drew fun ed w2 => ed = .returned (.string tv) ∧ Below S w w2 ∧ Calls Try.prog 28 #[.int .i64 (x : Int), .int .i64 (q : Int)] w2 fun ed w3 => ed = .returned (.string tl) ∧ Below S w w3 from by
              have := varintB_any (2 * e) wc.drew (by omega)
              rw [← he2] at this htv
              refine this.mono ?_
              rintro ed w2 ⟨rfl, hb2⟩
              have hS2 : S ≤ wc.drew.heap.size := by have := HBc.out.size; rw [HS.out]; exact this
              have hb2' : Below S w w2 := (below_drewN HBc.out 1).trans (hb2.mono hS2)
              refine ⟨by rw [htv], hb2', ?_⟩
              have h28 := refLowZ (x : Int) q w2 (by omega)
              rw [uN_nat x (by omega)] at h28
              refine h28.mono ?_
              rintro ed w3 ⟨rfl, hb3⟩
              exact ⟨by rw [htl], hb2'.trans (hb3.mono (by have := hb2'.size; rw [HS.out]; exact this))⟩)
            have HT : Hid ((t ++ tv ++ tl).data.toList = t.data.toList ++ vb (2 * e) ++ leB ((width + 7) / 8) x) := by
              rw [Hid]; simp only [ByteArray.data_append, Array.toList_append]; rw [htv, htl, hq]
            have hz1 : ¬ (9223372036854775807 < t.size + tv.size) := by omega
            have hz2 : ¬ (9223372036854775807 < t.size + tv.size + tl.size) := by omega
            have HQ := hid hq
            clear htv htl hq he2 hw7
            go_wp2
            go_region_held3 (fun W => W.cell? ⟨lb, o, none⟩ = some (.int .i64 (x : Int))) (first | exact hcx | exact hcx2 | exact hcx3)
              (first
                | (go_at_call 32; refine CT.out.mono ?_; rintro ed w2 ⟨rfl, hb2, C2⟩; have hcx2 := hec.out w2 hb2; rw [Nat.add_zero] at hcx2; have C2' := hid C2; clear C2)
                | (go_at_call 28; refine C2'.out.mono ?_; rintro ed w3 ⟨rfl, hb3⟩; have hcx3 := hec.out w3 hb3; rw [Nat.add_zero] at hcx3))
            have H2 := hid (REq.out h8 _ w3 HT.out hb3)
            have Hl2 : Hid (m - e = (r.drop e).length) := by rw [Hid, List.length_drop, Hm.out]
            clear hb3 hcx3 hcx2 hcx CT C2' REq REi hck hec HBc
            by_cases hcn : cap = e
            · subst hcn
              have Hcut : Hid (cutS (some ⟨lb, o, none⟩) cap cap 1 = some ⟨lb, o, none⟩) := by simp [Hid, cutS]
              rw [Hcut.out, Nat.sub_self] at H2
              rw [show m - cap = 0 by omega] at Hl2
              go_wp2
              go_roundw
              case rel => exact ⟨_, _, 0, 0, _, rfl, rfl, by omega, Hl2, H2⟩
              case measure => simp [slen]; omega
            · have Hcut : Hid (cutS (some ⟨lb, o, none⟩) cap e 1 = some ⟨lb, o + e, none⟩) := by unfold Hid cutS; rw [if_neg hcn]; simp [Addr.add]; try omega
              rw [Hcut.out] at H2
              go_wp2
              go_roundw
              case rel => exact ⟨_, _, m - e, cap - e, _, rfl, rfl, by omega, Hl2, H2⟩
              case measure => simp [slen]; omega
          · obtain ⟨n, hn⟩ : ∃ n, n = min m 8 := ⟨_, rfl⟩
            have hnm : n ≤ m := by omega
            have hn8 : n ≤ 8 := by omega
            have hn0 : 0 < n := by omega
            obtain ⟨Q, hQ⟩ : ∃ Q, Q = n * width := ⟨_, rfl⟩
            have hQ2 : Q ≤ 192 := by rw [hQ]; exact Nat.mul_le_mul hn8 hw
            obtain ⟨t3, ht3⟩ : ∃ t3 : ByteArray, t3 = ⟨(vb 3).toArray⟩ := ⟨_, rfl⟩
            have h3s : t3.size ≤ 7 := by rw [ht3, ← len_data]; simpa using length_vb8 (n := 3) (by omega)
            have C3 := hid (show Calls Try.prog 32 #[.int .i64 3] wc fun ed w2 => ed = .returned (.string t3) ∧ Below S w w2 from by
              have := varintB_any 3 wc (by omega)
              refine this.mono ?_
              rintro ed w2 ⟨rfl, hb2⟩
              exact ⟨by rw [ht3], HBc.out.trans (hb2.mono (by have := HBc.out.size; rw [HS.out]; exact this))⟩)
            have REi' := hid (fun (tb : ByteArray) (w' : World) (htb : tb.data.toList = pkRow (bf width r) width Q) (hb' : Below S w w') => REi.out h8 n hn (t ++ t3 ++ tb) w' (by simp only [ByteArray.data_append, Array.toList_append]; rw [ht3, htb, hQ]) hb')
            have HPK : Hid (∀ k, k < Q → ∃ p b, p = k / width ∧ b = k % width ∧ p < n ∧ b < width ∧ bf width r k = r.getD p 0 / pow2 b % 2) := fun k hk => by
              have hw0 : 0 < width := by
                rcases Nat.eq_zero_or_pos width with h | h
                · rw [h, Nat.mul_zero] at hQ; omega
                · exact h
              exact ⟨_, _, rfl, rfl, Nat.div_lt_of_lt_mul (by rw [Nat.mul_comm width n]; omega), Nat.mod_lt _ hw0, rfl⟩
            have HQ := hid hQ
            have HNn := hid hn
            clear hQ ht3 REi REq hcx
            go_upto_if 49 with fail
            go_cut [6] (fun s6 wx => s6 = .int .i64 (n : Int) ∧ wx = wc)
            case first =>
              by_cases hm8 : m < 8
              · obtain rfl : m = n := by omega
                clear hn HNn
                go_wp2
                go_meet
                exact ⟨rfl, rfl⟩
              · obtain rfl : n = 8 := by omega
                clear hn HNn
                go_wp2
                go_meet
                exact ⟨rfl, rfl⟩
            case rest =>
            obtain ⟨rfl, hwx⟩ := hcut
            rename_i wd
            subst hwx
            clear hn
            go_wp2_with fail
            refine C3.out.mono ?_
            rintro ed w2 ⟨rfl, hb2⟩
            have hmk := make_b8 width (by omega) w2
            obtain ⟨W0, hW0⟩ : ∃ W0, W0 = w2.alloc (.cells (bytesV (List.replicate width 0)).toArray 5) := ⟨_, rfl⟩
            obtain ⟨G, hG⟩ : ∃ G, G = w2.heap.size := ⟨_, rfl⟩
            rw [← hW0, ← hG] at hmk
            have hb2s := hb2.size
            have hSG : S ≤ G := by rw [hG, HS.out]; exact hb2s
            have HI0 : Hid (By8 W0 G (pkRow (bf width r) width 0) ∧ Below S w W0) := ⟨by rw [pkRow_zero, hW0, hG]; exact heap_alloc_new w2 _, by rw [hW0]; exact hb2.alloc (by rw [← hG]; exact hSG) _⟩
            have e1 : IntKind.i64.wrap ((n : Int) * (width : Int)) = (Q : Int) := by
              have e : (n : Int) * (width : Int) = (Q : Int) := by rw [HQ.out]; simp
              rw [e, IntKind.wrap_i64]; omega
            have e1' : (n : Int) * (width : Int) = (Q : Int) := by rw [HQ.out]; simp
            have hz1 : ¬ (9223372036854775807 < t.size + t3.size) := by omega
            clear hW0 hG hb2 hb2s C3
            go_wp2
            go_loopw [8] (fun i wi => ∃ k : Nat, k ≤ Q ∧ i = .int .i64 k ∧ Hid (By8 wi G (pkRow (bf width r) width k) ∧ Below S w wi)) (fun i _ => Q - (intOf i).toNat)
            case atStart => exact ⟨0, Nat.zero_le _, rfl, HI0⟩
            case round =>
              clear HI0
              obtain ⟨k, hk, rfl, HI⟩ := hrel
              by_cases hk2 : k < Q
              · obtain ⟨p, b, hp, hb, hpn, hbw, hbf⟩ := HPK.out k hk2
                obtain ⟨y, cy, z1, z2, hyr, hy32⟩ := hck.out wr p HI.out.2 (by omega)
                obtain ⟨P, hP⟩ : ∃ P, P = pow2 b := ⟨_, rfl⟩
                have hP1 : 1 ≤ P := by rw [hP]; exact pow2_pos b
                have hP2 : P ≤ 16777216 := by rw [hP]; exact pow2_le b (by omega)
                obtain ⟨z, hz⟩ : ∃ z, z = y / P := ⟨_, rfl⟩
                have hzl : z ≤ y := by rw [hz]; exact Nat.div_le_self _ _
                obtain ⟨f, hf⟩ : ∃ f, f = z % 2 := ⟨_, rfl⟩
                have hfb : bf width r k = f := by rw [hbf, hf, hz, hyr, hP]
                have PW : Hid (∀ W : World, Calls Try.prog 45 #[.int .i64 (b : Int)] W fun e w' => e = .returned (.int .i64 (P : Int)) ∧ w' = W) := fun W => by rw [hP]; exact power_nat b W (by omega)
                have g1 : (k : Int).tdiv (width : Int) = (p : Int) := by rw [Int.tdiv_eq_ediv_of_nonneg (by omega), hp]; simp
                have g2 : (k : Int) / (width : Int) = (p : Int) := by rw [hp]; simp
                have g3 : (k : Int).tmod (width : Int) = (b : Int) := by rw [Int.tmod_eq_emod_of_nonneg (by omega), hb]; simp
                have g4 : (k : Int) % (width : Int) = (b : Int) := by rw [hb]; simp
                have g5 : IntKind.i64.wrap (p : Int) = (p : Int) := by rw [IntKind.wrap_i64]; omega
                have g6 : IntKind.i64.wrap (b : Int) = (b : Int) := by rw [IntKind.wrap_i64]; omega
                have g7 : (y : Int).tdiv (P : Int) = (z : Int) := by rw [Int.tdiv_eq_ediv_of_nonneg (by omega), hz]; simp
                have g8 : (y : Int) / (P : Int) = (z : Int) := by rw [hz]; simp
                have g9 : IntKind.i64.wrap (z : Int) = (z : Int) := by rw [IntKind.wrap_i64]; omega
                have g10 : (z : Int).tmod 2 = (f : Int) := by rw [Int.tmod_eq_emod_of_nonneg (by omega)]; omega
                have g11 : (z : Int) % 2 = (f : Int) := by omega
                have g12 : IntKind.i64.wrap (f : Int) = (f : Int) := by rw [IntKind.wrap_i64]; omega
                have n1 : ((width : Int) == 0) = false := by simp; omega
                have n2 : ((P : Int) == 0) = false := by simp; omega
                have n3 : decide ((width : Int) = 0) = false := by simp; omega
                have n4 : decide ((P : Int) = 0) = false := by simp; omega
                obtain ⟨pp, hpp⟩ : ∃ pp, pp = k / 8 := ⟨_, rfl⟩
                obtain ⟨rr, hrr⟩ : ∃ rr, rr = k % 8 := ⟨_, rfl⟩
                have hQw : Q ≤ 8 * width := by rw [HQ.out]; exact Nat.mul_le_mul_right _ hn8
                have hppl : pp < width := by omega
                obtain ⟨y8, hy8⟩ : ∃ y8, y8 = pk (bf width r) k pp := ⟨_, rfl⟩
                have hl := length_pkRow (bf width r) width k
                have hcy8 : wr.cell? ⟨G, pp, none⟩ = some (.int .u8 (y8 : Int)) := by
                  rw [HI.out.1.cell pp (by omega), hy8]
                  simp [pkRow, Nat.mod_eq_of_lt (pk_lt (bf_le width r) k pp)]
                have hfz := HI.out.1.fz pp
                obtain ⟨P8, hP8⟩ : ∃ P8, P8 = pow2 rr := ⟨_, rfl⟩
                have PW8 : Hid (∀ W : World, Calls Try.prog 45 #[.int .i64 (rr : Int)] W fun e w' => e = .returned (.int .i64 (P8 : Int)) ∧ w' = W) := fun W => by rw [hP8]; exact power_nat rr W (by omega)
                have q1 : (k : Int).tdiv 8 = (pp : Int) := by rw [Int.tdiv_eq_ediv_of_nonneg (by omega)]; omega
                have q2 : (k : Int) / 8 = (pp : Int) := by omega
                have q3 : (k : Int).tmod 8 = (rr : Int) := by rw [Int.tmod_eq_emod_of_nonneg (by omega)]; omega
                have q4 : (k : Int) % 8 = (rr : Int) := by omega
                have q5 : IntKind.i64.wrap (pp : Int) = (pp : Int) := by rw [IntKind.wrap_i64]; omega
                have q6 : IntKind.i64.wrap (rr : Int) = (rr : Int) := by rw [IntKind.wrap_i64]; omega
                obtain ⟨gg, hgg⟩ : ∃ gg, gg = f * P8 := ⟨_, rfl⟩
                have hgl : gg ≤ 16777216 := by
                  have := Nat.mul_le_mul (show f ≤ 1 by omega) (show P8 ≤ 16777216 by rw [hP8]; exact pow2_le rr (by omega))
                  rw [hgg]; omega
                obtain ⟨z8, hz8⟩ : ∃ z8, z8 = pk (bf width r) (k + 1) pp := ⟨_, rfl⟩
                have hz8l : z8 < 256 := by rw [hz8]; exact pk_lt (bf_le width r) _ _
                have hz8e : z8 = y8 + gg := by rw [hz8, hy8, hgg, hP8, hrr, hpp, ← hfb]; exact pk_same (bf width r) k
                have q7 : (f : Int) * (P8 : Int) = (gg : Int) := by rw [hgg]; simp
                have q8 : IntKind.i64.wrap (gg : Int) = (gg : Int) := by rw [IntKind.wrap_i64]; omega
                have q9 : IntKind.u8.wrap (gg : Int) = (gg : Int) := by rw [IntKind.wrap_u8]; omega
                have q10 : (gg : Int) % 256 = (gg : Int) := by omega
                have q11 : (y8 : Int) + (gg : Int) = (z8 : Int) := by omega
                have q12 : IntKind.u8.wrap (z8 : Int) = (z8 : Int) := by rw [IntKind.wrap_u8]; omega
                have q13 : (z8 : Int) % 256 = (z8 : Int) := by omega
                have HI2 : Hid (∀ j, By8 ((wr.drewN j).setCell ⟨G, pp, none⟩ (.int .u8 (z8 : Int))) G (pkRow (bf width r) width (k + 1)) ∧ Below S w ((wr.drewN j).setCell ⟨G, pp, none⟩ (.int .u8 (z8 : Int)))) := fun j => by
                  have b8 : By8 (wr.drewN j) G (pkRow (bf width r) width k) := HI.out.1.kept ((below_drewN (Below.refl wr.heap.size wr) j).block G HI.out.1.lt)
                  refine ⟨?_, (below_drewN HI.out.2 j).trans (Fr.below (B := S) Fr.set (Nat.le_trans hSG (Nat.le_of_lt b8.lt)) (fun k e => by omega))⟩
                  have := b8.set pp (UInt8.ofNat z8)
                  rw [UInt8.toNat_ofNat', Nat.mod_eq_of_lt (by omega), hz8, hpp] at this
                  rw [hz8, hpp]
                  have hs := pkRow_set (bf width r) width k
                  rw [← pk_same] at hs
                  rw [hs] at this
                  exact this
                clear hp hb hbf hyr hP hz hf hfb hpp hrr hy8 hP8 hgg hz8 hz8e HI z1 z2 hl hQw HPK
                go_wp2
                go_quiet ((go_at_call 45; exact Calls.quiet_of_same (PW.out _)))
                go_wp2
                refine wp_region_noPanic ?_
                go_region_with (go_at_call 45; refine (PW8.out _).mono ?_; rintro ed w' ⟨rfl, hw'⟩; subst w')
                all_goals
                  refine NoPanic.normal ?_
                  go_wp2
                  go_roundw
                  case rel => exact ⟨k + 1, by omega, by go_num, HI2.out _⟩
                  case measure => simp [intOf]; omega
              · obtain rfl : Q = k := by omega
                obtain ⟨tb, htb⟩ : ∃ tb : ByteArray, tb = ⟨(pkRow (bf width r) width Q).toArray⟩ := ⟨_, rfl⟩
                have hl := length_pkRow (bf width r) width Q
                have hcv : (convert 24 9 (.slice (some ⟨G, 0, none⟩) width width)).run Try.prog wr = .ok (.string tb) wr := by
                  have hown := HI.out.1.own (B := 0) (by rw [hl]; unfold maxLen; omega) (Nat.zero_le _)
                  have := text_of_row hown
                  rw [hl, ← htb] at this
                  exact this
                have htbs : tb.size ≤ 24 := by rw [htb, ← len_data]; simpa [hl] using hw
                have H2 := hid (REi'.out tb wr (by rw [htb]) HI.out.2)
                have Hl2 : Hid (m - n = (r.drop n).length) := by rw [Hid, List.length_drop, Hm.out]
                have hz2 : ¬ (9223372036854775807 < t.size + t3.size + tb.size) := by omega
                clear htb hl HI REi' hck hec HBc HPK
                by_cases hcn : cap = n
                · subst hcn
                  have Hcut : Hid (cutS (some ⟨lb, o, none⟩) cap cap 1 = some ⟨lb, o, none⟩) := by simp [Hid, cutS]
                  rw [Hcut.out, Nat.sub_self] at H2
                  rw [show m - cap = 0 by omega] at Hl2
                  go_wp2
                  go_roundw
                  case rel => exact ⟨_, _, 0, 0, _, rfl, rfl, by omega, Hl2, H2⟩
                  case measure => simp [slen]; omega
                · have Hcut : Hid (cutS (some ⟨lb, o, none⟩) cap n 1 = some ⟨lb, o + n, none⟩) := by unfold Hid cutS; rw [if_neg hcn]; simp [Addr.add]; try omega
                  rw [Hcut.out] at H2
                  go_wp2
                  go_roundw
                  case rel => exact ⟨_, _, m - n, cap - n, _, rfl, rfl, by omega, Hl2, H2⟩
                  case measure => simp [slen]; omega
    · obtain rfl : m = 0 := by omega
      have hR : Hid (t = ⟨(runsL width l).toArray⟩ ∧ Below S w wr) := by
        obtain ⟨f, _, _, h3, _, _, _, h7⟩ := HU.out
        have hr0 : r = [] := List.eq_nil_of_length_eq_zero Hm.out.symm
        rw [hr0, ruL_nil, List.append_nil] at h3
        exact ⟨bytes_ext (by rw [h3]), h7⟩
      clear HU
      go_wp2
      go_ret
      exact ⟨by rw [← hR.out.1]; rfl, hR.out.2⟩
end Go.Proofs.Ytjobhlncllfdmaa
