/- The reference's Values. -/
import Derived.Test.YtjobhlncllfdmaaM37
import Derived.Deep.RegionHeld3
import Derived.Deep.DeepCutAuto
import Derived.BigQuiet
namespace Go.Proofs.Ytjobhlncllfdmaa
open Go.RowKit Go.Maps

set_option maxHeartbeats 4000000 in
set_option maxRecDepth 100000 in
theorem values_bool (lb cap : Nat) (l : List Pu.Cl) (ao : Option Addr) (w : World) (hr : Rs w 3 lb ao l.length cap (clsV l)) (hlb : lb < w.heap.size) (hl : l.length ≤ 100000) (hbool : ∀ c ∈ l, c.n = 0 ∨ c.n = 1) :
    Calls Try.prog 55 #[.int .i64 0, .slice ao l.length cap] w fun e w' => e = .returned (.string ⟨(boolsL l).toArray⟩) ∧ Below w.heap.size w w' := by
  obtain ⟨N, hN⟩ : ∃ N, N = l.length := ⟨_, rfl⟩
  obtain ⟨S, hS⟩ : ∃ S, S = w.heap.size := ⟨_, rfl⟩
  obtain ⟨Q, hQ⟩ : ∃ Q, Q = (N + 7) / 8 := ⟨_, rfl⟩
  have hmk := make_b8 Q (by omega) w
  obtain ⟨W0, hW0⟩ : ∃ W0, W0 = w.alloc (.cells (bytesV (List.replicate Q 0)).toArray 5) := ⟨_, rfl⟩
  rw [← hW0, ← hS] at hmk
  have H0 : Hid (By8 W0 S (pkRow (bN l) Q 0) ∧ Below S w W0) := ⟨by rw [pkRow_zero, hW0, hS]; exact heap_alloc_new w _, by rw [hW0, hS]; exact bbox w _⟩
  have HC : Hid (∀ (wr : World) (k : Nat), Below S w wr → (hk : k < l.length) → ∃ o, ao = some ⟨lb, o, none⟩ ∧ wr.cell? ⟨lb, o + k * 3, none⟩ = some (.bool l[k].null) ∧ wr.cell? ⟨lb, o + k * 3 + 1, none⟩ = some (.int .i64 l[k].n) ∧ wr.cell? ⟨lb, o + k * 3 + 2, none⟩ = some (strV l[k].s)) := fun wr k hb hk =>
    (hr.kept (hb.block _ (by omega))).cl3 k hk
  have HBo : Hid (∀ c ∈ l, c.n = 0 ∨ c.n = 1) := hbool
  have HN : Hid (N = l.length) := hN
  have HS : Hid (S = w.heap.size) := hS
  have hlS : lb ≠ S := by omega
  have HR : Hid (boolsL l = pkRow (bN l) Q N) := by rw [Hid, hQ, hN]; rfl
  have hQ8 : 8 * Q ≥ N := by omega
  have hQl : Q ≤ 100000 := by omega
  obtain ⟨n7, hn7⟩ : ∃ n7, n7 = N + 7 := ⟨_, rfl⟩
  have e1 : IntKind.i64.wrap ((N : Int) + 7) = (n7 : Int) := by rw [IntKind.wrap_i64]; omega
  have e1' : (N : Int) + 7 = (n7 : Int) := by omega
  have e2 : (n7 : Int).tdiv 8 = (Q : Int) := by rw [Int.tdiv_eq_ediv_of_nonneg (by omega)]; omega
  have e3 : (n7 : Int) / 8 = (Q : Int) := by omega
  have e4 : IntKind.i64.wrap (Q : Int) = (Q : Int) := by rw [IntKind.wrap_i64]; omega
  rw [HR.out]
  rw [← hN] at hl ⊢
  rw [← hS]
  clear hr hN hS hQ hW0 hbool hn7
  go_enter Try.func55, Try.ntmps55
  go_wp2
  go_loopw [7] (fun i wr => ∃ (k : Nat), k ≤ N ∧ i = .int .i64 k ∧ Hid (By8 wr S (pkRow (bN l) Q k) ∧ Below S w wr))
    (fun i _ => N - (intOf i).toNat)
  case atStart => exact ⟨0, Nat.zero_le _, rfl, H0⟩
  case round =>
    clear H0
    obtain ⟨k, hk, rfl, HI⟩ := hrel
    by_cases hk2 : k < N
    · have hkl : k < l.length := by rw [← HN.out]; exact hk2
      obtain ⟨o, rfl, h0, h1, h2⟩ := HC.out wr k HI.out.2 hkl
      obtain ⟨c, hc⟩ : ∃ c, c = l[k] := ⟨_, rfl⟩
      rw [← hc] at h0 h1 h2
      have hbc := HBo.out c (by rw [hc]; exact List.getElem_mem hkl)
      have hbk : bN l k = c.n.toNat := by
        unfold bN
        rw [List.getD_eq_getElem?_getD, List.getElem?_eq_getElem hkl, Option.getD_some, ← hc]
        rcases hbc with h | h <;> rw [h] <;> rfl
      obtain ⟨b, x, s⟩ := c
      simp only at h0 h1 h2 hbc hbk
      obtain ⟨f, rfl⟩ : ∃ xn : Nat, x = (xn : Int) := ⟨x.toNat, by omega⟩
      rw [Int.toNat_natCast] at hbk
      have hf1 : f ≤ 1 := by omega
      obtain ⟨pp, hpp⟩ : ∃ pp, pp = k / 8 := ⟨_, rfl⟩
      obtain ⟨rr, hrr⟩ : ∃ rr, rr = k % 8 := ⟨_, rfl⟩
      have hppl : pp < Q := by omega
      obtain ⟨y8, hy8⟩ : ∃ y8, y8 = pk (bN l) k pp := ⟨_, rfl⟩
      have hlr := length_pkRow (bN l) Q k
      have hcy8 : wr.cell? ⟨S, pp, none⟩ = some (.int .u8 (y8 : Int)) := by
        rw [HI.out.1.cell pp (by omega), hy8]
        simp [pkRow, Nat.mod_eq_of_lt (pk_lt (bN_le l) k pp)]
      have hfz := HI.out.1.fz pp
      obtain ⟨P8, hP8⟩ : ∃ P8, P8 = pow2 rr := ⟨_, rfl⟩
      have PW8 : Hid (∀ W : World, Calls Try.prog 45 #[.int .i64 (rr : Int)] W fun e w' => e = .returned (.int .i64 (P8 : Int)) ∧ w' = W) := fun W => by rw [hP8]; exact power_nat rr W (by omega)
      have q1 : (k : Int).tdiv 8 = (pp : Int) := by rw [Int.tdiv_eq_ediv_of_nonneg (by omega)]; omega
      have q2 : (k : Int) / 8 = (pp : Int) := by omega
      have q3 : (k : Int).tmod 8 = (rr : Int) := by rw [Int.tmod_eq_emod_of_nonneg (by omega)]; omega
      have q4 : (k : Int) % 8 = (rr : Int) := by omega
      have q5 : IntKind.i64.wrap (pp : Int) = (pp : Int) := by rw [IntKind.wrap_i64]; omega
      have q6 : IntKind.i64.wrap (rr : Int) = (rr : Int) := by rw [IntKind.wrap_i64]; omega
      obtain ⟨gg, hgg⟩ : ∃ gg, gg = f * P8 := ⟨_, rfl⟩
      have hgl : gg ≤ 16777216 := by
        have := Nat.mul_le_mul (show f ≤ 1 by omega) (show P8 ≤ 16777216 by rw [hP8]; exact pow2_le rr (by omega))
        rw [hgg]; omega
      obtain ⟨z8, hz8⟩ : ∃ z8, z8 = pk (bN l) (k + 1) pp := ⟨_, rfl⟩
      have hz8l : z8 < 256 := by rw [hz8]; exact pk_lt (bN_le l) _ _
      have hz8e : z8 = y8 + gg := by rw [hz8, hy8, hgg, hP8, hrr, hpp, ← hbk]; exact pk_same (bN l) k
      have q7 : (f : Int) * (P8 : Int) = (gg : Int) := by rw [hgg]; simp
      have q8 : IntKind.i64.wrap (gg : Int) = (gg : Int) := by rw [IntKind.wrap_i64]; omega
      have q9 : IntKind.u8.wrap (gg : Int) = (gg : Int) := by rw [IntKind.wrap_u8]; omega
      have q10 : (gg : Int) % 256 = (gg : Int) := by omega
      have q11 : (y8 : Int) + (gg : Int) = (z8 : Int) := by omega
      have q12 : IntKind.u8.wrap (z8 : Int) = (z8 : Int) := by rw [IntKind.wrap_u8]; omega
      have q13 : (z8 : Int) % 256 = (z8 : Int) := by omega
      have HI2 : Hid (∀ j, By8 ((wr.drewN j).setCell ⟨S, pp, none⟩ (.int .u8 (z8 : Int))) S (pkRow (bN l) Q (k + 1)) ∧ Below S w ((wr.drewN j).setCell ⟨S, pp, none⟩ (.int .u8 (z8 : Int)))) := fun j => by
        have b8 : By8 (wr.drewN j) S (pkRow (bN l) Q k) := HI.out.1.kept ((below_drewN (Below.refl wr.heap.size wr) j).block S HI.out.1.lt)
        refine ⟨?_, (below_drewN HI.out.2 j).trans (Fr.below (B := S) Fr.set (Nat.le_of_lt b8.lt) (fun k e => by omega))⟩
        have := b8.set pp (UInt8.ofNat z8)
        rw [UInt8.toNat_ofNat', Nat.mod_eq_of_lt (by omega), hz8, hpp] at this
        rw [hz8, hpp]
        have hs := pkRow_set (bN l) Q k
        rw [← pk_same] at hs
        rw [hs] at this
        exact this
      clear hc hbk hpp hrr hy8 hP8 hgg hz8 hz8e HI hlr HC h0 h2
      go_wp2
      refine wp_region_noPanic ?_
      go_region_with (go_at_call 45; refine (PW8.out _).mono ?_; rintro ed w' ⟨rfl, hw'⟩; subst w')
      all_goals
        refine NoPanic.normal ?_
        go_wp2
        go_roundw
        case rel => exact ⟨k + 1, by omega, by go_num, HI2.out 1⟩
        case measure => simp [intOf]; omega
    · obtain rfl : N = k := by omega
      obtain ⟨tb, htb⟩ : ∃ tb : ByteArray, tb = ⟨(pkRow (bN l) Q N).toArray⟩ := ⟨_, rfl⟩
      have hlr := length_pkRow (bN l) Q N
      have hcv : (convert 24 9 (.slice (some ⟨S, 0, none⟩) Q Q)).run Try.prog wr = .ok (.string tb) wr := by
        have hown := HI.out.1.own (B := 0) (by rw [hlr]; unfold maxLen; omega) (Nat.zero_le _)
        have := text_of_row hown
        rw [hlr, ← htb] at this
        exact this
      have HB := hid HI.out.2
      have HTB := hid htb
      clear htb hlr HI HC
      go_wp2
      go_ret
      exact ⟨by rw [← HTB.out]; rfl, HB.out⟩

set_option maxHeartbeats 4000000 in
set_option maxRecDepth 100000 in
theorem values_other (lb cap kind : Nat) (l : List Pu.Cl) (ao : Option Addr) (w : World) (hr : Rs w 3 lb ao l.length cap (clsV l)) (hlb : lb < w.heap.size) (hl : l.length ≤ 100000) (hk0 : kind ≠ 0) (_hkind : kind ≤ 2) (htext : ∀ c ∈ l, c.s.length ≤ 1000) :
    Calls Try.prog 55 #[.int .i64 (kind : Int), .slice ao l.length cap] w fun e w' => e = .returned (.string ⟨(l.flatMap (val1 kind)).toArray⟩) ∧ Below w.heap.size w w' := by
  obtain ⟨N, hN⟩ : ∃ N, N = l.length := ⟨_, rfl⟩
  obtain ⟨S, hS⟩ : ∃ S, S = w.heap.size := ⟨_, rfl⟩
  have HC : Hid (∀ (wr : World) (k : Nat), Below S w wr → (hk : k < l.length) → ∃ o, ao = some ⟨lb, o, none⟩ ∧ wr.cell? ⟨lb, o + k * 3, none⟩ = some (.bool l[k].null) ∧ wr.cell? ⟨lb, o + k * 3 + 1, none⟩ = some (.int .i64 l[k].n) ∧ wr.cell? ⟨lb, o + k * 3 + 2, none⟩ = some (strV l[k].s)) := fun wr k hb hk =>
    (hr.kept (hb.block _ (by omega))).cl3 k hk
  have HT : Hid (∀ c ∈ l, c.s.length ≤ 1000) := htext
  have HN : Hid (N = l.length) := hN
  have HS : Hid (S = w.heap.size) := hS
  have HL : Hid (∀ k, ((l.take k).flatMap (val1 kind)).length ≤ 1007 * 100000) := fun k => by
    have := length_val kind (l.take k) (fun c hc => htext c (List.mem_of_mem_take hc))
    have h2 : (l.take k).length ≤ l.length := by rw [List.length_take]; omega
    have : 1007 * (l.take k).length ≤ 1007 * 100000 := Nat.mul_le_mul_left _ (by omega)
    omega
  have hd0 : ((kind : Int) == 0) = false := by simp; omega
  rw [← hN] at hl ⊢
  rw [← hS]
  clear hr hN hS htext
  go_enter Try.func55, Try.ntmps55
  go_wp2
  go_loopw [5, 8] (fun s5 i wr => ∃ (k : Nat) (t : ByteArray), k ≤ N ∧ s5 = .string t ∧ i = .int .i64 k ∧ Hid (t.data.toList = (l.take k).flatMap (val1 kind)) ∧ Hid (Below S w wr))
    (fun _ i _ => N - (intOf i).toNat)
  case atStart => exact ⟨0, ⟨#[]⟩, Nat.zero_le _, rfl, rfl, by simp [Hid], Below.refl _ _⟩
  case round =>
    obtain ⟨k, t, hk, rfl, rfl, Ht, HB⟩ := hrel
    by_cases hk2 : k < N
    · have hkl : k < l.length := by rw [← HN.out]; exact hk2
      obtain ⟨o, rfl, h0, h1, h2⟩ := HC.out wr k HB.out hkl
      have hC := hid (fun (W : World) (hW : Below S w W) => (show W.cell? ⟨lb, o + k * 3 + 2, none⟩ = some (strV l[k].s) from by
        obtain ⟨o', ho', _, _, h⟩ := HC.out W k hW hkl
        simp only [Option.some.injEq, Addr.mk.injEq, true_and] at ho'
        rw [ho'.1]; exact h))
      obtain ⟨c, hc⟩ : ∃ c, c = l[k] := ⟨_, rfl⟩
      have htk := val_take kind l k hkl
      have hct := HT.out c (by rw [hc]; exact List.getElem_mem hkl)
      have hlen := HL.out k
      have hts : t.size ≤ 1007 * 100000 := by rw [← len_data, Ht.out]; exact hlen
      have HSB : Hid (∀ W, Below S w W → S ≤ W.heap.size) := fun W hW => by have := hW.size; rw [HS.out]; exact this
      rw [← hc] at h0 h1 h2 htk hC
      obtain ⟨b, x, s⟩ := c
      simp only at h0 h1 h2 hct hC
      obtain ⟨u, hu⟩ : ∃ u : ByteArray, u = ⟨s.toArray⟩ := ⟨_, rfl⟩
      have hus : u.size = s.length := by rw [hu]; simp [ByteArray.size]
      have h2' : wr.cell? ⟨lb, o + k * 3 + 2, none⟩ = some (.string u) := by rw [hu]; exact h2
      have HU := hid (fun (W : World) (hW : Below S w W) => (show W.cell? ⟨lb, o + k * 3 + 2, none⟩ = some (.string u) from by rw [hu]; exact hC.out W hW))
      by_cases hk1 : kind = 1
      · obtain ⟨tl, htl⟩ : ∃ tl : ByteArray, tl = ⟨(leB 8 (uN x)).toArray⟩ := ⟨_, rfl⟩
        have htls : tl.size ≤ 8 := by rw [htl, ← len_data]; simp [length_leB]
        have C := hid (show Calls Try.prog 28 #[.int .i64 x, .int .i64 8] wr fun ed w2 => ed = .returned (.string tl) ∧ Below S w w2 from by
          refine (refLowZ x 8 wr (by omega)).mono ?_
          rintro ed w2 ⟨rfl, hb2⟩
          exact ⟨by rw [htl], HB.out.trans (hb2.mono (HSB.out _ HB.out))⟩)
        have Ht2 : Hid ((t ++ tl).data.toList = (l.take (k + 1)).flatMap (val1 kind)) := by
          rw [Hid, htk, ← Ht.out]
          simp only [ByteArray.data_append, Array.toList_append]
          rw [htl]; unfold val1; rw [if_pos hk1]
        have d1 : ((kind : Int) == 1) = true := by simp; omega
        have hz1 : ¬ (9223372036854775807 < t.size + tl.size) := by omega
        clear hk1 hc htk hct htl hlen hu hus h2 h2' HU hC Ht HC
        go_wp2_with fail
        refine C.out.mono ?_
        rintro ed w2 ⟨rfl, hb2⟩
        have HB2 := hid hb2
        clear C hb2 HB
        go_wp2
        go_roundw
        case rel => exact ⟨k + 1, _, by omega, rfl, by go_num, Ht2, HB2⟩
        case measure => simp [intOf]; omega
      · obtain ⟨tv, htv⟩ : ∃ tv : ByteArray, tv = ⟨(vb s.length).toArray⟩ := ⟨_, rfl⟩
        have htvs : tv.size ≤ 7 := by rw [htv, ← len_data]; simpa using length_vb8 (n := s.length) (by omega)
        have C := hid (show Calls Try.prog 32 #[.int .i64 (u.size : Int)] wr.drew fun ed w2 => ed = .returned (.string tv) ∧ Below S w w2 from by
          have := varintB_any u.size wr.drew (by omega)
          refine this.mono ?_
          rintro ed w2 ⟨rfl, hb2⟩
          exact ⟨by rw [htv, hus], (below_drewN HB.out 1).trans (hb2.mono (HSB.out wr HB.out))⟩)
        have Ht2 : Hid ((t ++ tv ++ u).data.toList = (l.take (k + 1)).flatMap (val1 kind)) := by
          rw [Hid, htk, ← Ht.out]
          simp only [ByteArray.data_append, Array.toList_append]
          rw [htv, hu]; unfold val1; rw [if_neg hk1]; simp
        have d1 : ((kind : Int) == 1) = false := by simp; omega
        have hus2 : u.size ≤ 1000 := by omega
        have hz1 : ¬ (9223372036854775807 < t.size + tv.size) := by omega
        have hz2 : ¬ (9223372036854775807 < t.size + tv.size + u.size) := by omega
        have hx1 := HU.out wr HB.out
        clear hk1 hc htk hct htv hlen hu hus h2 h2' hC Ht HC
        go_wp2
        go_region_held3 (fun W => W.cell? ⟨lb, o + k * 3 + 2, none⟩ = some (.string u)) (first | exact hx1 | exact hx2)
          (first | (go_at_call 32; refine C.out.mono ?_; rintro ed w2 ⟨rfl, hb2⟩; have hx2 := HU.out w2 hb2))
        have HB2 := hid hb2
        clear C hb2 HB
        go_wp2
        go_roundw
        case rel => exact ⟨k + 1, _, by omega, rfl, by go_num, Ht2, HB2⟩
        case measure => simp [intOf]; omega
    · obtain rfl : N = k := by omega
      have HE : Hid (t = ⟨(l.flatMap (val1 kind)).toArray⟩) := bytes_ext (by rw [Ht.out, HN.out, List.take_length])
      clear HC Ht
      go_wp2
      go_ret
      exact ⟨by rw [← HE.out]; rfl, HB.out⟩

theorem values_any (lb cap kind : Nat) (l : List Pu.Cl) (ao : Option Addr) (w : World) (hr : Rs w 3 lb ao l.length cap (clsV l)) (hlb : lb < w.heap.size) (hl : l.length ≤ 100000) (hkind : kind ≤ 2) (hbool : kind = 0 → ∀ c ∈ l, c.n = 0 ∨ c.n = 1) (htext : ∀ c ∈ l, c.s.length ≤ 1000) :
    Calls Try.prog 55 #[.int .i64 (kind : Int), .slice ao l.length cap] w fun e w' => e = .returned (.string ⟨(valuesL kind l).toArray⟩) ∧ Below w.heap.size w w' := by
  by_cases h : kind = 0
  · subst h
    exact values_bool lb cap l ao w hr hlb hl (hbool rfl)
  · have := values_other lb cap kind l ao w hr hlb hl h hkind htext
    unfold valuesL
    rw [if_neg h]
    exact this
end Go.Proofs.Ytjobhlncllfdmaa
