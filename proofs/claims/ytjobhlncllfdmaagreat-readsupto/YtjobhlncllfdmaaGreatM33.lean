/- package cells: Read. -/
import Derived.Test.YtjobhlncllfdmaaGreatM32
import Derived.Test.YtjobhlncllfdmaaGreatM28
import Derived.Test.YtjobhlncllfdmaaGreatM21
import Derived.Deep.DeepCutAuto
import Derived.Deep.RegionWith
namespace Go.Proofs.YtjobhlncllfdmaaGreat
open Go.RowKit

def Pu.decT (nulls : Bool) (kind : Nat) (idx : Bool) (dict : List Pu.Cl) (F : List UInt8) (cnt : Nat) : Except Nat (List Pu.Cl) :=
  match Pu.lvT nulls F cnt with
  | none => .error 11
  | some (ls, a) => match Pu.valsT idx kind dict F a (Pu.total ls) with
    | none => .error 12
    | some (vs, e) => if e = F.length then .ok (Pu.spr ls vs) else .error 12

theorem dec_T (opt : Bool) (kind : Nat) (dict : List Pu.Cl) (p : Pu.Pg) : Pu.dec opt kind dict p = Pu.decT (opt && decide (p.sort ≠ 1)) kind (decide (p.sort = 2)) dict p.body p.cells := by
  unfold Pu.dec Pu.decT
  cases hl : Pu.lv opt p with
  | none => rw [Pu.lv_T] at hl; rw [hl]
  | some q =>
    obtain ⟨ls, a⟩ := q
    have ha := (Pu.lv_spec hl).2.1
    rw [Pu.lv_T] at hl
    rw [hl]
    simp only
    rw [Pu.vals_T _ _ _ _ _ _ ha]
    cases Pu.valsT (decide (p.sort = 2)) kind dict p.body a (Pu.total ls) with
    | none => rfl
    | some q =>
      obtain ⟨vs, e⟩ := q
      simp only
      by_cases he : e = p.body.length
      · rw [if_pos he, if_pos he]
      · rw [if_neg he, if_neg he]

theorem lvT_spec {nulls : Bool} {F : List UInt8} {cnt a : Nat} {ls : List Nat} (h : Pu.lvT nulls F cnt = some (ls, a)) : ls.length = cnt ∧ a ≤ F.length ∧ ∀ x ∈ ls, x < 2 := by
  cases nulls with
  | false =>
    have := Pu.lv_T false ⟨0, cnt, false, 0, 0, F⟩
    simp only [Bool.false_and] at this
    rw [h] at this
    exact Pu.lv_spec this
  | true =>
    have := Pu.lv_T true ⟨0, cnt, false, 0, 0, F⟩
    simp only [Bool.true_and] at this
    rw [show (decide ((0 : Nat) ≠ 1)) = true from rfl, h] at this
    exact Pu.lv_spec this

theorem boolsT_len {F : List UInt8} {a n e : Nat} {l : List Pu.Cl} (h : Pu.boolsT F a n = some (l, e)) : l.length = n ∧ e ≤ F.length := by
  unfold Pu.boolsT at h
  split at h
  · cases h
  · split at h
    · simp only [Option.some.injEq, Prod.mk.injEq] at h
      obtain ⟨rfl, rfl⟩ := h
      simp only [List.length_map, List.length_take, Pu.length_nums]
      omega
    · cases h
theorem idxT_len {dict : List Pu.Cl} {F : List UInt8} {a n e : Nat} {l : List Pu.Cl} (h : Pu.idxT dict F a n = some (l, e)) : l.length = n ∧ e ≤ F.length := by
  unfold Pu.idxT at h
  split at h
  · cases h
  · split at h
    · cases h
    · unfold Pu.rsAll at h
      cases hr : Pu.rs (F.drop (a + 1)) (Pu.byteAt F a) n n 0 [] with
      | none => simp [hr] at h
      | some p =>
        obtain ⟨l', u⟩ := p
        have hrl := Pu.rs_length n 0 [] l' u (Nat.zero_le _) (Nat.zero_le _) hr
        simp only [hr] at h
        by_cases hu : u = (F.drop (a + 1)).length
        · rw [if_pos hu] at h
          cases hp : Pu.pick dict l' with
          | none => simp [hp] at h
          | some c =>
            simp only [hp, Option.map_some, Option.some.injEq, Prod.mk.injEq] at h
            obtain ⟨rfl, rfl⟩ := h
            exact ⟨by rw [(Pu.pick_spec hp).1]; exact hrl.1, Nat.le_refl _⟩
        · rw [if_neg hu] at h
          simp at h
theorem valsT_len {idx : Bool} {kind : Nat} {dict : List Pu.Cl} {F : List UInt8} {a n e : Nat} {l : List Pu.Cl} (ha : a ≤ F.length) (h : Pu.valsT idx kind dict F a n = some (l, e)) : l.length = n ∧ e ≤ F.length := by
  unfold Pu.valsT at h
  split at h
  · exact idxT_len h
  · split at h
    · exact boolsT_len h
    · have := Pu.eachGo_spec n a [] l e (by simp) ha h
      simp only [List.length_nil] at this
      exact ⟨by omega, this.2.1⟩

/-- from a frame over a new block to nothing old -/
theorem fr_below {w W w2 : World} {R : Nat} (hb : Below w.heap.size w W) (hR : w.heap.size ≤ R) (hf : Fr (fun k => k = R) W w2) : Below w.heap.size w w2 :=
  hb.trans (hf.below hb.size (fun k e => by omega))

end Go.Proofs.YtjobhlncllfdmaaGreat

/- package cells: Read, the walk. -/
namespace Go.Proofs.YtjobhlncllfdmaaGreat
open Go.RowKit

theorem eaAns_drew {w : World} {R o : Nat} {C : Array Value} {T : TypeId} {lb : Nat} {F : List UInt8} {r : Option (List Pu.Cl × Nat)} {e : Ending} {w' : World} (h : EaAns w.drew R o C T lb F r e w') : EaAns w R o C T lb F r e w' := by
  have hd : Fr (fun k => k = R) w w.drew := Fr.drew' (Fr.refl _ _)
  unfold EaAns at h ⊢
  split at h
  · exact ⟨h.1, hd.trans h.2 (fun _ _ h => h)⟩
  · obtain ⟨v, h1, h2, h3, h4⟩ := h
    exact ⟨v, h1, h2, hd.trans h3 (fun _ _ h => h), h4⟩

set_option maxHeartbeats 8000000 in
set_option maxRecDepth 100000 in
theorem cellsRead_any (ap : Option Addr) (cap lb : Nat) (F : List UInt8) (kind cnt : Nat) (nulls idx : Bool) (ad : Option Addr) (cd Bd : Nat) (dict : List Pu.Cl) (w : World) (hr : Rest w lb ap cap F) (hlb : lb < w.heap.size) (hn : cnt ≤ 100000) (hk : kind ≤ 2) (hd : w.ownsRow Bd 57 3 (.slice ad dict.length cd) dict.length (clsV dict)) (hdl : dict.length ≤ 100000) :
    Calls Tryz.prog 68 #[.slice ap F.length cap, .agg #[.int .i64 (kind : Int), .bool nulls, .int .i64 (cnt : Int), .bool idx, .slice ad dict.length cd]] w fun e w' => DcAns w.heap.size (Pu.decT nulls kind idx dict F cnt) e w' ∧ Below w.heap.size w w' := by
  obtain ⟨W, hW⟩ : ∃ W, W = ((w.alloc (.cells #[.int .i64 (kind : Int), .bool nulls, .int .i64 (cnt : Int), .bool idx, .slice ad dict.length cd] 157)).alloc (.cells #[.slice ap F.length cap] 88)).alloc (.cells #[.slice ap F.length cap] 88) := ⟨_, rfl⟩
  have hbW : Below w.heap.size w W := by rw [hW]; exact (((Below.refl _ _).alloc (Nat.le_refl _) _).alloc (by simp) _).alloc (by simp; omega) _
  have hsW : W.heap.size = w.heap.size + 3 := by rw [hW, size_alloc', size_alloc', size_alloc']
  have rB : W.heap[w.heap.size]? = some (.cells #[.int .i64 (kind : Int), .bool nulls, .int .i64 (cnt : Int), .bool idx, .slice ad dict.length cd] 157 (0, 0)) := by
    have := three_a w (.cells #[.int .i64 (kind : Int), .bool nulls, .int .i64 (cnt : Int), .bool idx, .slice ad dict.length cd] 157) (.cells #[.slice ap F.length cap] 88) (.cells #[.slice ap F.length cap] 88)
    rw [hW]; exact this
  have rR : W.heap[w.heap.size + 2]? = some (.cells #[.slice ap F.length cap] 88 (0, 0)) := by
    have := three_c w (.cells #[.int .i64 (kind : Int), .bool nulls, .int .i64 (cnt : Int), .bool idx, .slice ad dict.length cd] 157) (.cells #[.slice ap F.length cap] 88) (.cells #[.slice ap F.length cap] 88)
    rw [hW]; exact this
  have IW : InSt W (w.heap.size + 2) 0 #[.slice ap F.length cap] 88 lb F 0 := ⟨rR, Nat.zero_le _, by omega, ap, cap, rfl, by rw [List.drop_zero]; exact hr.kept (hbW.block lb hlb)⟩
  have hdW : W.ownsRow Bd 57 3 (.slice ad dict.length cd) dict.length (clsV dict) := own_below hd hbW
  have LV : Hid (Calls Tryz.prog 83 #[.pointer (some ⟨w.heap.size + 2, 0, none⟩), .agg #[.int .i64 (kind : Int), .bool nulls, .int .i64 (cnt : Int), .bool idx, .slice ad dict.length cd]] (((w.alloc (.cells #[.int .i64 (kind : Int), .bool nulls, .int .i64 (cnt : Int), .bool idx, .slice ad dict.length cd] 157)).alloc (.cells #[.slice ap F.length cap] 88)).alloc (.cells #[.slice ap F.length cap] 88)) fun e w' => LlAns W (w.heap.size + 2) 0 #[.slice ap F.length cap] 88 lb F (Pu.lvT nulls F cnt) e w') := by
    rw [← hW]
    exact readLevels_any (w.heap.size + 2) 0 _ 88 lb F kind cnt nulls idx (.slice ad dict.length cd) W IW (by omega) hn
  have HBW : Hid (Below w.heap.size w W) := hbW
  have HD : Hid (Pu.decT nulls kind idx dict F cnt = match Pu.lvT nulls F cnt with
    | none => .error 11
    | some (ls, a) => match Pu.valsT idx kind dict F a (Pu.total ls) with
      | none => .error 12
      | some (vs, e) => if e = F.length then .ok (Pu.spr ls vs) else .error 12) := rfl
  have HRR : Hid (Ty W (w.heap.size + 2) 88) := ⟨_, rR⟩
  clear hW IW rR hr hd hbW
  cases hl : Pu.lvT nulls F cnt with
  | none =>
    have HX : Hid (Pu.decT nulls kind idx dict F cnt = .error 11) := by rw [Hid, HD.out, hl]
    rw [hl] at LV
    clear hl HD rB hdW
    go_enter Tryz.func68, Tryz.ntmps68
    go_wp2_with fail
    refine (new_any _ _ _ _).mono ?_
    rintro e w' ⟨rfl, hw'⟩
    subst w'
    go_wp2_with fail
    refine LV.out.mono ?_
    rintro e w1 ⟨⟨v, rfl⟩, hf1⟩
    have HB1 : Hid (Below w.heap.size w w1) := fr_below HBW.out (by omega) hf1
    clear hf1
    go_wp2
    go_ret2
    rw [HX.out]
    exact ⟨rfl, HB1.out⟩
  | some pr =>
    obtain ⟨ls, a⟩ := pr
    obtain ⟨hll, hal, hl2⟩ := lvT_spec hl
    have HD2 : Hid (Pu.decT nulls kind idx dict F cnt = match Pu.valsT idx kind dict F a (Pu.total ls) with
      | none => .error 12
      | some (vs, e) => if e = F.length then .ok (Pu.spr ls vs) else .error 12) := by rw [Hid, HD.out, hl]
    rw [hl] at LV
    have htl : Pu.total ls ≤ 100000 := by have := (Pu.total_le hl2 ls.length).1; rw [List.take_length] at this; omega
    have hlsl : ls.length ≤ 100000 := by omega
    obtain ⟨n, hnt⟩ : ∃ n, n = Pu.total ls := ⟨_, rfl⟩
    rw [← hnt] at HD2 htl
    have Hnt : Hid (n = Pu.total ls) := hnt
    have Hl2 : Hid (∀ x ∈ ls, x < 2) := hl2
    -- what follows the levels
    have NX : Hid (∀ (w1 : World) (al : Option Addr) (cl : Nat) (C' : Array Value), w1.ownsRow W.heap.size 3 1 (.slice al ls.length cl) ls.length (ints ls) → Fr (fun k => k = w.heap.size + 2) W w1 → InSt w1 (w.heap.size + 2) 0 C' 88 lb F a → w1.heap[w.heap.size]? = some (.cells #[.int .i64 (kind : Int), .bool nulls, .int .i64 (cnt : Int), .bool idx, .slice ad dict.length cd] 157 (0, 0)) ∧ (Calls Tryz.prog 85 #[.slice al ls.length cl] w1.drew fun e w' => e = .returned (.int .i64 (n : Int)) ∧ w' = w1.drew) ∧ (Calls Tryz.prog 84 #[.pointer (some ⟨w.heap.size + 2, 0, none⟩), .agg #[.int .i64 (kind : Int), .bool nulls, .int .i64 (cnt : Int), .bool idx, .slice ad dict.length cd], .int .i64 (n : Int)] w1.drew fun e w' => EaAns w1 (w.heap.size + 2) 0 C' 88 lb F (Pu.valsT idx kind dict F a n) e w')) := fun w1 al cl C' h1 h2 h3 => by
      refine ⟨by rw [h2.block _ (by omega) (by omega)]; exact rB, ?_, ?_⟩
      · rw [hnt]; exact howMany_any al cl W.heap.size ls w1.drew h1 hl2 hlsl
      · refine (readValues_any (w.heap.size + 2) 0 C' 88 lb F a n kind cnt nulls idx ad cd Bd dict w1.drew h3 (by show lb < w1.heap.size; have := h2.size; omega) htl hk ?_ (by decide) hdl).mono (fun e w' he => eaAns_drew he)
        exact own_agreeS hdW (fun k hk => h2.block k (own_tyS hdW hk).lt (fun e => by
          have := Ty.ne (own_tyS hdW hk) HRR.out (by decide)
          exact this e))
    clear hl HD rB hdW hl2 hnt hll
    cases hv : Pu.valsT idx kind dict F a n with
    | none =>
      have HX : Hid (Pu.decT nulls kind idx dict F cnt = .error 12) := by rw [Hid, HD2.out, hv]
      rw [hv] at NX
      clear hv HD2
      go_enter Tryz.func68, Tryz.ntmps68
      go_wp2_with fail
      refine (new_any _ _ _ _).mono ?_
      rintro e w' ⟨rfl, hw'⟩
      subst w'
      go_wp2_with fail
      refine LV.out.mono ?_
      rintro e w1 ⟨v, rfl, hlo, hf1, C', hin, hsb⟩
      obtain ⟨al, cl, rfl⟩ := slen_of hlo
      obtain ⟨rB1, hm, hrv⟩ := NX.out w1 al cl C' hlo hf1 hin
      have b0 : w1.cell? ⟨w.heap.size, 0, none⟩ = some (.int .i64 (kind : Int)) := by rw [cell_of_row _ _ 0 _ _ _ rB1]; rfl
      have b1 : w1.cell? ⟨w.heap.size, 1, none⟩ = some (.bool nulls) := by rw [cell_of_row _ _ 1 _ _ _ rB1]; rfl
      have b2 : w1.cell? ⟨w.heap.size, 2, none⟩ = some (.int .i64 (cnt : Int)) := by rw [cell_of_row _ _ 2 _ _ _ rB1]; rfl
      have b3 : w1.cell? ⟨w.heap.size, 3, none⟩ = some (.bool idx) := by rw [cell_of_row _ _ 3 _ _ _ rB1]; rfl
      have b4 : w1.cell? ⟨w.heap.size, 4, none⟩ = some (.slice ad dict.length cd) := by rw [cell_of_row _ _ 4 _ _ _ rB1]; rfl
      have HM : Hid (Calls Tryz.prog 85 #[.slice al ls.length cl] w1.drew fun e w' => e = .returned (.int .i64 (n : Int)) ∧ w' = w1.drew) := hm
      have RV : Hid (Calls Tryz.prog 84 #[.pointer (some ⟨w.heap.size + 2, 0, none⟩), .agg #[.int .i64 (kind : Int), .bool nulls, .int .i64 (cnt : Int), .bool idx, .slice ad dict.length cd], .int .i64 (n : Int)] w1.drew fun e w' => ∃ v, e = .returned (.tuple #[v, .bool false]) ∧ Below w.heap.size w w') := by
        refine hrv.mono ?_
        rintro e w' ⟨⟨v, he⟩, hf⟩
        exact ⟨v, he, fr_below HBW.out (by omega) (hf1.trans hf (fun _ _ h => h))⟩
      clear hm hrv rB1 hlo hf1 hin hsb NX LV
      go_upto_region 5 with fail
      go_region_with (first | (go_at_call 85; refine HM.out.mono ?_; rintro e w' ⟨rfl, rfl⟩) | (go_at_call 84; refine RV.out.mono ?_; rintro e w2 ⟨v2, rfl, hb2⟩))
      all_goals
        go_wp2
        go_ret2
        rw [HX.out]
        exact ⟨rfl, hb2⟩
    | some pr =>
      obtain ⟨vs, en⟩ := pr
      obtain ⟨hvl, hel⟩ := valsT_len hal hv
      have HX0 : Hid (Pu.decT nulls kind idx dict F cnt = if en = F.length then .ok (Pu.spr ls vs) else .error 12) := by rw [Hid, HD2.out, hv]
      rw [hv] at NX
      have hvt : vs.length = Pu.total ls := by rw [hvl]; exact Hnt.out
      have Hvt : Hid (vs.length = Pu.total ls) := hvt
      clear hv HD2 hvt hvl
      obtain ⟨q, hq⟩ : ∃ q, q = F.length - en := ⟨_, rfl⟩
      have Hq : Hid (q = F.length - en) := hq
      clear hq
      go_enter Tryz.func68, Tryz.ntmps68
      go_wp2_with fail
      refine (new_any _ _ _ _).mono ?_
      rintro e w' ⟨rfl, hw'⟩
      subst w'
      go_wp2_with fail
      refine LV.out.mono ?_
      rintro e w1 ⟨v, rfl, hlo, hf1, C', hin, hsb⟩
      obtain ⟨al, cl, rfl⟩ := slen_of hlo
      obtain ⟨rB1, hm, hrv⟩ := NX.out w1 al cl C' hlo hf1 hin
      have b0 : w1.cell? ⟨w.heap.size, 0, none⟩ = some (.int .i64 (kind : Int)) := by rw [cell_of_row _ _ 0 _ _ _ rB1]; rfl
      have b1 : w1.cell? ⟨w.heap.size, 1, none⟩ = some (.bool nulls) := by rw [cell_of_row _ _ 1 _ _ _ rB1]; rfl
      have b2 : w1.cell? ⟨w.heap.size, 2, none⟩ = some (.int .i64 (cnt : Int)) := by rw [cell_of_row _ _ 2 _ _ _ rB1]; rfl
      have b3 : w1.cell? ⟨w.heap.size, 3, none⟩ = some (.bool idx) := by rw [cell_of_row _ _ 3 _ _ _ rB1]; rfl
      have b4 : w1.cell? ⟨w.heap.size, 4, none⟩ = some (.slice ad dict.length cd) := by rw [cell_of_row _ _ 4 _ _ _ rB1]; rfl
      have HM : Hid (Calls Tryz.prog 85 #[.slice al ls.length cl] w1.drew fun e w' => e = .returned (.int .i64 (n : Int)) ∧ w' = w1.drew) := hm
      have RV : Hid (Calls Tryz.prog 84 #[.pointer (some ⟨w.heap.size + 2, 0, none⟩), .agg #[.int .i64 (kind : Int), .bool nulls, .int .i64 (cnt : Int), .bool idx, .slice ad dict.length cd], .int .i64 (n : Int)] w1.drew fun e w' => ∃ av cv, e = .returned (.tuple #[.slice av vs.length cv, .bool true]) ∧ Below w.heap.size w w' ∧ Hid (Calls Tryz.prog 63 #[.pointer (some ⟨w.heap.size + 2, 0, none⟩)] w' fun e w'' => e = .returned (.int .i64 (q : Int)) ∧ w'' = w') ∧ Hid (Calls Tryz.prog 86 #[.slice al ls.length cl, .slice av vs.length cv] w' fun e w'' => (∃ v, e = .returned v ∧ w''.ownsRow w.heap.size 57 3 v ls.length (clsV (Pu.spr ls vs))) ∧ Below w'.heap.size w' w'')) := by
        refine hrv.mono ?_
        rintro e w' ⟨v, he, hvo, hf, C2, hin2, _⟩
        obtain ⟨av, cv, rfl⟩ := slen_of hvo
        have hbb := fr_below HBW.out (by omega) (hf1.trans hf (fun _ _ h => h))
        have hlo2 : w'.ownsRow W.heap.size 3 1 (.slice al ls.length cl) ls.length (ints ls) := own_agreeS hlo (fun k hk => hf.block k (own_tyS hlo hk).lt (fun e => by have := (hlo.lt k hk).1; omega))
        refine ⟨av, cv, he, hbb, by rw [Hq.out]; exact in_left _ _ _ _ _ _ _ _ hin2, ?_⟩
        refine (spread_any al av cl cv W.heap.size w1.heap.size ls vs w' hlo2 hvo Hl2.out hlsl Hvt.out).mono ?_
        rintro e w'' ⟨⟨v, h1, h2⟩, h3⟩
        exact ⟨⟨v, h1, h2.mono hbb.size⟩, h3⟩
      clear hm hrv rB1 hlo hf1 hin hsb NX LV
      go_upto_region 5 with fail
      go_cut [9, 8] (fun s9 s8 wx => ∃ av cv, s9 = .slice av vs.length cv ∧ s8 = .bool true ∧ Below w.heap.size w wx ∧ Hid (Calls Tryz.prog 63 #[.pointer (some ⟨w.heap.size + 2, 0, none⟩)] wx fun e w'' => e = .returned (.int .i64 (q : Int)) ∧ w'' = wx) ∧ Hid (Calls Tryz.prog 86 #[.slice al ls.length cl, .slice av vs.length cv] wx fun e w'' => (∃ v, e = .returned v ∧ w''.ownsRow w.heap.size 57 3 v ls.length (clsV (Pu.spr ls vs))) ∧ Below wx.heap.size wx w''))
      case first =>
        go_region_with (first | (go_at_call 85; refine HM.out.mono ?_; rintro e w' ⟨rfl, rfl⟩) | (go_at_call 84; refine RV.out.mono ?_; rintro e w2 ⟨av, cv, rfl, hb2, L2, S2⟩))
        all_goals
          go_wp2_with fail
          go_meet
        all_goals
          case rel => exact ⟨av, cv, rfl, rfl, hb2, L2, S2⟩
      case rest =>
      obtain ⟨av, cv, rfl, rfl, hb2, L2, S2⟩ := hcut
      clear HM RV b0 b1 b2 b3 b4
      by_cases he : en = F.length
      · have hq0 : q = 0 := by have := Hq.out; omega
        have HX : Hid (Pu.decT nulls kind idx dict F cnt = .ok (Pu.spr ls vs)) := by rw [Hid, HX0.out, if_pos he]
        subst hq0
        clear Hq he
        go_wp2_with fail
        refine L2.out.mono ?_
        rintro e w' ⟨rfl, hw'⟩
        subst w'
        go_wp2_with fail
        refine S2.out.mono ?_
        rintro e w4 ⟨⟨v, rfl, hown⟩, hb4⟩
        have HF : Hid (DcAns w.heap.size (Pu.decT nulls kind idx dict F cnt) (.returned (.tuple #[v, .int .i64 0])) w4 ∧ Below w.heap.size w w4) := by
          rw [HX.out]
          exact ⟨⟨v, rfl, by rw [Pu.length_spr]; exact hown⟩, bself hb2 hb4⟩
        clear hb4 hown
        go_wp2
        go_ret2
        exact HF.out
      · have hq0 : 0 < q := by have := Hq.out; omega
        have hq1 : decide (0 < q) = true := decide_eq_true hq0
        have HX : Hid (Pu.decT nulls kind idx dict F cnt = .error 12) := by rw [Hid, HX0.out, if_neg he]
        clear he
        go_wp2_with fail
        refine L2.out.mono ?_
        rintro e w' ⟨rfl, hw'⟩
        subst w'
        go_wp2
        go_ret2
        rw [HX.out]
        exact ⟨rfl, hb2⟩
end Go.Proofs.YtjobhlncllfdmaaGreat

/- The program's sums: shiftByte, Of. -/
namespace Go.Proofs.YtjobhlncllfdmaaGreat
open Go.RowKit

set_option maxHeartbeats 1000000 in
set_option maxRecDepth 100000 in
theorem shift_any (n : Nat) (w : World) (hn : n < 4294967296) :
    Calls Tryz.prog 60 #[.int .u32 (n : Int)] w fun e w' => e = .returned (.int .u32 ((Pu.stN 8 n : Nat) : Int)) ∧ w' = w := by
  go_enter Tryz.func60, Tryz.ntmps60
  go_wp2
  go_loop [0, 4] (fun x i => ∃ j y : Nat, j ≤ 8 ∧ y < 4294967296 ∧ Hid (Pu.stN 8 n = Pu.stN (8 - j) y) ∧ x = .int .u32 (y : Int) ∧ i = .int .i64 j) (fun _ i => 8 - (intOf i).toNat)
  case atStart => exact ⟨0, n, by omega, hn, rfl, rfl, rfl⟩
  case round =>
    obtain ⟨j, y, hj, hy, Hy, rfl, rfl⟩ := hrel
    by_cases hj8 : j < 8
    · obtain ⟨h, hh⟩ : ∃ h, h = y / 2 := ⟨_, rfl⟩
      have hh2 : (y : Int) / 2 = (h : Int) := by omega
      have hst : Pu.stN (8 - j) y = Pu.stN (8 - (j + 1)) (Pu.st y) := by rw [show 8 - j = (8 - (j + 1)) + 1 by omega]; rfl
      have hand : bits .and .u32 (y : Int) 1 = ((y % 2 : Nat) : Int) := by
        have := u32_and_nat y 1 hy (by omega)
        rw [Nat.and_two_pow_sub_one_eq_mod y 1] at this
        exact this
      by_cases hodd : y % 2 = 1
      · rw [hodd] at hand
        obtain ⟨z, hz⟩ : ∃ z, z = h ^^^ 3988292384 := ⟨_, rfl⟩
        have hxor2 : bits .xor .u32 (h : Int) 3988292384 = (z : Int) := by rw [hz]; exact u32_xor_nat h 3988292384 (by omega) (by omega)
        have hzl : z < 4294967296 := by rw [hz]; exact Nat.xor_lt_two_pow (n := 32) (by omega) (by omega)
        have HY : Hid (Pu.stN 8 n = Pu.stN (8 - (j + 1)) z) := by rw [Hid, Hy.out, hst, hz, hh]; unfold Pu.st; rw [if_pos hodd]
        clear hst hz hodd hh
        go_wp2
        go_round
        case rel => exact ⟨j + 1, z, by omega, hzl, HY, rfl, by go_num⟩
        case measure => simp [intOf]; omega
      · have h0 : y % 2 = 0 := by omega
        rw [h0] at hand
        have hhl : h < 4294967296 := by omega
        have HY : Hid (Pu.stN 8 n = Pu.stN (8 - (j + 1)) h) := by rw [Hid, Hy.out, hst, hh]; unfold Pu.st; rw [if_neg hodd]
        clear hst hodd hh h0
        go_wp2
        go_round
        case rel => exact ⟨j + 1, h, by omega, hhl, HY, rfl, by go_num⟩
        case measure => simp [intOf]; omega
    · obtain rfl : j = 8 := by omega
      have HY : Hid (Pu.stN 8 n = y) := by rw [Hid, Hy.out]; rfl
      go_wp2
      go_ret
      exact ⟨ret_int (by rw [HY.out]), rfl⟩

set_option maxHeartbeats 1000000 in
set_option maxRecDepth 100000 in
theorem of_any (lb : Nat) (ao : Option Addr) (cap : Nat) (L : List UInt8) (w : World) (h : Rest w lb ao cap L) :
    Calls Tryz.prog 46 #[.slice ao L.length cap] w fun e w' => e = .returned (.int .u32 ((Pu.sum L : Nat) : Int)) ∧ w' = w := by
  have hLm : L.length ≤ 9223372036854775807 := by have h1 := h.1; have h2 := h.2.1; unfold maxLen at h2; omega
  have HC : Hid (∀ k, k < L.length → ∃ o, ao = some ⟨lb, o, none⟩ ∧ w.cell? ⟨lb, o + k, none⟩ = some (.int .u8 (Pu.byteAt L k : Int))) := fun k hk => by
    obtain ⟨_, _, h3⟩ := h
    rcases h3 with rfl | ⟨o, rfl, hc⟩
    · simp at hk
    · exact ⟨o, rfl, hc k hk⟩
  have SH : Hid (∀ n : Nat, n < 4294967296 → ∀ W : World, Calls Tryz.prog 60 #[.int .u32 (n : Int)] W fun e w' => e = .returned (.int .u32 ((Pu.stN 8 n : Nat) : Int)) ∧ w' = W) := fun n hn W => shift_any n W hn
  clear h
  go_enter Tryz.func46, Tryz.ntmps46
  go_wp2
  go_loop [3, 8] (fun x i => ∃ k y : Nat, k ≤ L.length ∧ y < 4294967296 ∧ Hid (y = Pu.sumGo 4294967295 (L.take k)) ∧ x = .int .u32 (y : Int) ∧ i = .int .i64 k) (fun _ i => L.length - (intOf i).toNat)
  case atStart => exact ⟨0, 4294967295, Nat.zero_le _, by omega, rfl, rfl, rfl⟩
  case round =>
    obtain ⟨k, y, hk, hy, Hy, rfl, rfl⟩ := hrel
    by_cases hk2 : k < L.length
    · obtain ⟨o, rfl, hc⟩ := HC.out k hk2
      obtain ⟨b, hb⟩ : ∃ b, b = Pu.byteAt L k := ⟨_, rfl⟩
      have hbl : b < 256 := by rw [hb]; exact Pu.byteAt_lt _ _
      rw [← hb] at hc
      obtain ⟨z, hz⟩ : ∃ z, z = y ^^^ b := ⟨_, rfl⟩
      have hxor : bits .xor .u32 (y : Int) (b : Int) = (z : Int) := by rw [hz]; exact u32_xor_nat y b hy (by omega)
      have hzl : z < 4294967296 := by rw [hz]; exact Nat.xor_lt_two_pow (n := 32) (by omega) (by omega)
      have hnl := Pu.stN_lt 8 z hzl
      have Hnew : Hid (Pu.stN 8 z = Pu.sumGo 4294967295 (L.take (k + 1))) := by
        rw [Hid, take_snoc' _ _ hk2, sumGo_snoc, ← Hy.out, hz]
        unfold Pu.crc
        rw [hb]
        simp only [Pu.byteAt, List.getD_eq_getElem?_getD, List.getElem?_eq_getElem hk2, Option.getD_some]
      obtain ⟨q, hq⟩ : ∃ q, q = Pu.stN 8 z := ⟨_, rfl⟩
      have S2 : Hid (∀ W : World, Calls Tryz.prog 60 #[.int .u32 (z : Int)] W fun e w' => e = .returned (.int .u32 (q : Int)) ∧ w' = W) := fun W => by rw [hq]; exact SH.out z hzl W
      rw [← hq] at hnl Hnew
      clear hz hb hq
      go_wp2_with fail
      refine (S2.out _).mono ?_
      rintro e w' ⟨rfl, hw'⟩
      subst w'
      go_wp2
      go_round
      case rel => exact ⟨k + 1, q, by omega, hnl, Hnew, rfl, by go_num⟩
      case measure => simp [intOf]; omega
    · obtain rfl : k = L.length := by omega
      have HS : Hid (Pu.sum L = y ^^^ 4294967295) := by
        have e : Pu.sumGo 4294967295 L = y := by rw [Hy.out, List.take_length]
        unfold Hid Pu.sum
        rw [e]
      go_wp2
      go_ret
      refine ⟨ret_int ?_, rfl⟩
      rw [HS.out, show IntKind.u32.max = ((4294967295 : Nat) : Int) from rfl, u32_xor_nat 4294967295 y (by omega) hy, Nat.xor_comm]

end Go.Proofs.YtjobhlncllfdmaaGreat
