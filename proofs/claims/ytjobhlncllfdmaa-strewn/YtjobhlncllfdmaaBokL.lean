/- (*Book).runs with good arguments: its contract. -/
import Derived.Test.YtjobhlncllfdmaaBokK
namespace Go.Proofs.Ytjobhlncllfdmaa
open Go.RowKit

theorem rs_len {D : List UInt8} {W C : Nat} : ∀ f a xs ys b, xs.length ≤ C → Pu.rs D W C f a xs = some (ys, b) → ys.length ≤ C ∧ (a ≤ D.length → b ≤ D.length) := by
  intro f
  induction f with
  | zero =>
    intro a xs ys b hx h
    unfold Pu.rs at h
    split at h
    · cases h
    · simp only [Option.some.injEq, Prod.mk.injEq] at h
      obtain ⟨rfl, rfl⟩ := h
      exact ⟨hx, id⟩
  | succ f ih =>
    intro a xs ys b hx h
    by_cases hlt : xs.length < C
    · cases hst : Pu.step D W C a xs with
      | none => rw [rs_no hlt hst] at h; cases h
      | some p =>
        obtain ⟨a', o⟩ := p
        have hl := Pu.step_length hlt hst
        rw [Pu.rs, if_pos hlt] at h
        simp only [hst] at h
        have := ih a' o ys b (by omega) h
        exact ⟨this.1, fun _ => this.2 hl.2.2⟩
    · rw [rs_done hlt] at h
      simp only [Option.some.injEq, Prod.mk.injEq] at h
      obtain ⟨rfl, rfl⟩ := h
      exact ⟨hx, id⟩

/-- the way from (*Book).runs' beginning to its end, seen from outside -/
theorem bookOn_of {w w1 w2 w3 w6 : World} {B b g : Nat} {U U' U6 : Nat → Prop} {va : Option Nat} {bs is ps' qs' : List (Value × Int)} (hBk : Book w B b U bs is) (hbel1 : Below w.heap.size w w1) (hg : w.heap.size ≤ g) (hbel2 : Below w1.heap.size w1 w2)
    (hfr : Fr (fun k => U k ∨ some g = some k) w2 w3) (hU' : ∀ k, U' k → U k ∨ some g = some k ∨ w2.heap.size ≤ k) (hps : ps'.length = bs.length + 4) (hqs : qs'.length = is.length + 4) {w5 : World} (hbel5 : Below w3.heap.size w3 w5)
    (hB6 : Book w6 B b U6 ps' qs') (hfr6 : Fr (fun k => U' k ∨ va = some k) w5 w6) (hva : ∀ k, va = some k → B ≤ k) : BookOn w B b bs.length is.length w6 := by
  have hBs := hBk.bsize
  have hlt := hBk.lt
  have s1 := hbel1.size
  have s2 := hbel2.size
  have s3 := hfr.size
  have s5 := hbel5.size
  refine ⟨U6, ps', qs', hB6, by omega, by omega, ?_⟩
  have b1 : Below B w w1 := hbel1.mono hBs
  have b2 : Below B w1 w2 := hbel2.mono (by omega)
  have b3 : Below B w2 w3 := hfr.below (by omega) (fun k hk => by
    rcases hk with hk | hk
    · exact (hlt k hk).1
    · simp only [Option.some.injEq] at hk; omega)
  have b5 : Below B w3 w5 := hbel5.mono (by omega)
  have b6 : Below B w5 w6 := hfr6.below (by omega) (fun k hk => by
    rcases hk with hk | hk
    · rcases hU' k hk with h | h | h
      · exact (hlt k h).1
      · simp only [Option.some.injEq] at h; omega
      · omega
    · exact hva k hk)
  exact (((b1.trans b2).trans b3).trans b5).trans b6

set_option maxHeartbeats 2000000 in
set_option maxRecDepth 100000 in
theorem bruns_good (B b : Nat) (U : Nat → Prop) (bs is : List (Value × Int)) (s : ByteArray) (W C : Nat) (w : World) (hBk : Book w B b U bs is) (hs : s.size ≤ 140737488355000) (hbs : bs.length ≤ 900000) (his : is.length ≤ 900000) (hW : W ≤ 24) (hC : C ≤ 100000) :
    Calls Try.prog 7 #[.pointer (some ⟨b, 0, none⟩), .string s, .int .i64 W, .int .i64 C] w fun e w' => e = .returned (.bool true) ∧ BookOn w B b bs.length is.length w' := by
  have HBk : Hid (Book w B b U bs is) := hBk
  have HBs : Hid (B ≤ w.heap.size) := hBk.bsize
  have hlen : s.data.toList.length = s.size := by simp
  have Hlen : Hid (s.data.toList.length = s.size) := hlen
  have L : Hid (Calls Try.prog 18 #[.string s] w fun e w' => ∃ g cap, e = .returned (.slice (some ⟨g, 0, none⟩) (s.size + 3) cap) ∧ w'.ownsRow w.heap.size 5 1 (.slice (some ⟨g, 0, none⟩) (s.size + 3) cap) (s.size + 3) (bytesV s.data.toList ++ [.int .u8 200, .int .u8 201, .int .u8 202]) ∧ Below w.heap.size w w') := lend_any s w hs
  have HX : Hid (∀ w : World, Calls Try.prog 21 #[.string s, .int .i64 0, .int .i64 W, .int .i64 C] w fun e w' => RunsAns w.heap.size (Pu.rs s.data.toList W C C 0 []) e w' ∧ Below w.heap.size w w') := fun w => refRuns_any s 0 W C w hs (Nat.zero_le _) hW hC
  have HKI : Hid (∀ (w : World) (U : Nat → Prop) (bs : List (Value × Int)) (n cap : Nat) (ao : Option Addr) (xs : List Value), Book w B b U bs is → w.ownsRow B 3 1 (.slice ao n cap) n xs → (∀ k, (Value.slice ao n cap).ownBlock = some k → ¬ U k) → n ≤ 100000 →
      Calls Try.prog 23 #[.pointer (some ⟨b, 0, none⟩), .slice ao n cap] w fun e w' => e = .returned (.tuple #[]) ∧ ∃ U' ps', Book w' B b U' bs ps' ∧ ps'.length = is.length + 4 ∧ (∀ k, U' k → U k ∨ (Value.slice ao n cap).ownBlock = some k ∨ w.heap.size ≤ k) ∧ Fr (fun k => U k ∨ (Value.slice ao n cap).ownBlock = some k) w w') :=
    fun w U bs n cap ao xs h1 h2 h3 h4 => keepInts_any B b n U bs is ao cap xs w h1 h2 h3 (by omega) his
  clear hBk hlen
  go_enter Try.func7, Try.ntmps7
  go_wp2_with fail
  refine L.out.mono ?_
  rintro e w1 ⟨g, cap, rfl, hown, hbel⟩
  have hlt : g < w1.heap.size ∧ w.heap.size ≤ g := ⟨(own_ty hown rfl).lt, (hown.lt g rfl).1⟩
  obtain ⟨hlt1, hlt2⟩ := hlt
  have hrest := rest_of_lent hown
  have hcap : s.size + 3 ≤ cap ∧ cap ≤ 9223372036854775807 := by
    rcases hown.2 with ⟨h, _⟩ | ⟨g', cap', cur, h, _, _, hnc, hm, _⟩
    · cases h
    · simp only [Value.slice.injEq] at h
      unfold maxLen at hm
      omega
  obtain ⟨hcap1, hcap2⟩ := hcap
  have HR : Hid (Calls Try.prog 6 #[.slice (some ⟨g, 0, none⟩) s.size cap, .int .i64 W, .int .i64 C] w1 fun e w' => ReadAns w1.heap.size (Pu.rs s.data.toList W C C 0 []) e w' ∧ Below w1.heap.size w1 w') := by
    have := runsP_any (some ⟨g, 0, none⟩) cap g W C s.data.toList w1 hrest hlt1 hW hC
    rw [Hlen.out] at this
    exact this
  have HBA : Hid (∀ w2 : World, Below w1.heap.size w1 w2 → Calls Try.prog 19 #[.pointer (some ⟨b, 0, none⟩), .slice (some ⟨g, 0, none⟩) (s.size + 3) cap, .string s] w2 fun e w' => e = .returned (.bool true) ∧ ∃ U' ps', Book w' B b U' ps' is ∧ ps'.length = bs.length + 4 ∧ (∀ k, U' k → U k ∨ some g = some k ∨ w2.heap.size ≤ k) ∧ Fr (fun k => U k ∨ some g = some k) w2 w') := by
    intro w2 hb2
    exact back_any B b U bs is g cap s w2 ((HBk.out.below hbel (Nat.le_refl _)).below hb2 (Nat.le_refl _)) (own_below (own_base hown HBs.out) hb2 (Nat.le_refl _)) (fun hu => by have := HBk.out.lt g hu; omega) hs hbs
  have Hbel : Hid (Below w.heap.size w w1) := hbel
  clear hown hbel hrest
  cases hrs : Pu.rs s.data.toList W C C 0 [] with
  | none =>
    have Hrs : Hid (Pu.rs s.data.toList W C C 0 [] = none) := hrs
    rw [hrs] at HR
    clear hrs
    go_wp2_with fail
    refine HR.out.mono ?_
    rintro e w2 ⟨rfl, hbel2⟩
    have Hbel2 : Hid (Below w1.heap.size w1 w2) := hbel2
    clear hbel2
    go_wp2_with fail
    refine (HBA.out _ Hbel2.out).mono ?_
    rintro e w3 ⟨rfl, U', ps', hB3, hl3, hU', hfr⟩
    have HB3 : Hid (Book w3 B b U' ps' is) := hB3
    have HU' : Hid _ := hU'
    have Hfr : Hid _ := hfr
    have Hl3 : Hid (ps'.length = bs.length + 4) := hl3
    clear hB3 hU' hfr hl3 HBA
    rw [Hrs.out] at HX
    go_wp2_with fail
    refine (HX.out _).mono ?_
    rintro e w4 ⟨rfl, hbel4⟩
    have Hbel4 : Hid (Below w3.heap.size w3 w4) := hbel4
    have HS : Hid (Calls Try.prog 22 #[.slice none 0 0, .slice none 0 0] w4 fun e w' => e = .returned (.bool true) ∧ ∃ n, w' = w4.drewN n) := same_any none none 0 0 [] 0 0 w4 (World.ownsRow_nil _ _ _ _) (World.ownsRow_nil _ _ _ _) (by simp)
    clear hbel4 HX
    go_wp2_with fail
    refine HS.out.mono ?_
    rintro e w5 ⟨rfl, q, hw5⟩
    have hbel5 : Below w3.heap.size w3 w5 := by rw [hw5]; exact below_drewN Hbel4.out q
    have Hbel5 : Hid (Below w3.heap.size w3 w5) := hbel5
    have HK : Hid (Calls Try.prog 23 #[.pointer (some ⟨b, 0, none⟩), .slice none 0 0] w5 fun e w' => e = .returned (.tuple #[]) ∧ ∃ U6 qs', Book w' B b U6 ps' qs' ∧ qs'.length = is.length + 4 ∧ (∀ k, U6 k → U' k ∨ (Value.slice none 0 0).ownBlock = some k ∨ w5.heap.size ≤ k) ∧ Fr (fun k => U' k ∨ (Value.slice none 0 0).ownBlock = some k) w5 w') :=
      HKI.out w5 U' ps' 0 0 none [] (HB3.out.below hbel5 (Nat.le_refl _)) (World.ownsRow_nil _ _ _ _) (fun k hk => by simp [Value.ownBlock] at hk) (by omega)
    clear hw5 hbel5 HKI HS
    go_wp2_with fail
    refine HK.out.mono ?_
    rintro e w6 ⟨rfl, hK6⟩
    have HF : Hid (BookOn w B b bs.length is.length w6) := by
      obtain ⟨U6, qs', hB6, hl6, hU6, hfr6⟩ := hK6
      exact bookOn_of HBk.out Hbel.out hlt2 Hbel2.out Hfr.out HU'.out Hl3.out hl6 Hbel5.out hB6 hfr6 (fun k hk => by simp [Value.ownBlock] at hk)
    clear hK6 HK
    go_wp2_with fail
    refine (num_any 5 _ (by omega)).mono ?_
    rintro e w' ⟨rfl, rfl⟩
    go_wp2
    go_ret
    exact ⟨rfl, HF.out⟩
  | some pr =>
    obtain ⟨xs, a⟩ := pr
    have Hrs : Hid (Pu.rs s.data.toList W C C 0 [] = some (xs, a)) := hrs
    have hrl := rs_len C 0 [] xs a (Nat.zero_le _) hrs
    have hxl : xs.length ≤ C := hrl.1
    have hal : a ≤ s.size := by rw [← Hlen.out]; exact hrl.2 (Nat.zero_le _)
    rw [hrs] at HR
    clear hrs hrl
    go_wp2_with fail
    refine HR.out.mono ?_
    rintro e w2 ⟨⟨v, rfl, hv⟩, hbel2⟩
    obtain ⟨ao, cp, hvf⟩ := slen_of hv
    rw [hvf] at hv ⊢
    clear hvf v
    have Hv : Hid (w2.ownsRow w1.heap.size 3 1 (.slice ao xs.length cp) xs.length (ints xs)) := hv
    have Hbel2 : Hid (Below w1.heap.size w1 w2) := hbel2
    clear hbel2 hv
    go_wp2_with fail
    refine (HBA.out _ Hbel2.out).mono ?_
    rintro e w3 ⟨rfl, U', ps', hB3, hl3, hU', hfr⟩
    have HB3 : Hid (Book w3 B b U' ps' is) := hB3
    have HU' : Hid _ := hU'
    have Hfr : Hid _ := hfr
    have Hl3 : Hid (ps'.length = bs.length + 4) := hl3
    have hvU : ∀ k, (Value.slice ao xs.length cp).ownBlock = some k → k < w2.heap.size ∧ ¬ U' k ∧ ¬ (U k ∨ some g = some k) ∧ B ≤ k := by
      intro k hk
      have h1 := Hv.out.lt k hk
      have h2 := Hbel.out.size
      have h3 := HBs.out
      have h4 : ¬ U k := fun hu => by have := HBk.out.lt k hu; omega
      have h5 : ¬ some g = some k := fun e' => by simp only [Option.some.injEq] at e'; omega
      refine ⟨h1.2, fun hu => ?_, fun hu => ?_, by omega⟩
      · rcases hU' k hu with h | h | h
        · exact h4 h
        · exact h5 h
        · omega
      · rcases hu with h | h
        · exact h4 h
        · exact h5 h
    have HvU : Hid _ := hvU
    have Hv3 : Hid (w3.ownsRow B 3 1 (.slice ao xs.length cp) xs.length (ints xs)) := own_agree (own_base Hv.out (by have := HBs.out; have := Hbel.out.size; omega)) (fun k hk => hfr.block k (hvU k hk).1 (hvU k hk).2.2.1)
    clear hB3 hU' hfr hl3 HBA hvU
    rw [Hrs.out] at HX
    go_wp2_with fail
    refine (HX.out _).mono ?_
    rintro e w4 ⟨⟨v2, rfl, hv2⟩, hbel4⟩
    obtain ⟨ao2, cp2, hvf2⟩ := slen_of hv2
    rw [hvf2] at hv2 ⊢
    clear hvf2 v2
    have Hbel4 : Hid (Below w3.heap.size w3 w4) := hbel4
    have Hv4 : Hid (w4.ownsRow B 3 1 (.slice ao xs.length cp) xs.length (ints xs)) := own_below Hv3.out hbel4 (Nat.le_refl _)
    have HS : Hid (Calls Try.prog 22 #[.slice ao xs.length cp, .slice ao2 xs.length cp2] w4 fun e w' => e = .returned (.bool true) ∧ ∃ n, w' = w4.drewN n) := same_any ao ao2 cp cp2 xs _ _ w4 Hv4.out hv2 (by omega)
    clear hbel4 HX hv2
    go_wp2_with fail
    refine HS.out.mono ?_
    rintro e w5 ⟨rfl, q, hw5⟩
    have hbel5 : Below w3.heap.size w3 w5 := by rw [hw5]; exact below_drewN Hbel4.out q
    have Hbel5 : Hid (Below w3.heap.size w3 w5) := hbel5
    have HK : Hid (Calls Try.prog 23 #[.pointer (some ⟨b, 0, none⟩), .slice ao xs.length cp] w5 fun e w' => e = .returned (.tuple #[]) ∧ ∃ U6 qs', Book w' B b U6 ps' qs' ∧ qs'.length = is.length + 4 ∧ (∀ k, U6 k → U' k ∨ (Value.slice ao xs.length cp).ownBlock = some k ∨ w5.heap.size ≤ k) ∧ Fr (fun k => U' k ∨ (Value.slice ao xs.length cp).ownBlock = some k) w5 w') :=
      HKI.out w5 U' ps' xs.length cp ao (ints xs) (HB3.out.below hbel5 (Nat.le_refl _)) (own_below Hv3.out hbel5 (Nat.le_refl _)) (fun k hk => (HvU.out k hk).2.1) (by omega)
    clear hw5 hbel5 HKI HS
    go_wp2_with fail
    refine HK.out.mono ?_
    rintro e w6 ⟨rfl, hK6⟩
    have HF : Hid (BookOn w B b bs.length is.length w6) := by
      obtain ⟨U6, qs', hB6, hl6, hU6, hfr6⟩ := hK6
      exact bookOn_of HBk.out Hbel.out hlt2 Hbel2.out Hfr.out HU'.out Hl3.out hl6 Hbel5.out hB6 hfr6 (fun k hk => (HvU.out k hk).2.2.2)
    clear hK6 HK
    go_wp2_with fail
    refine (num_any 0 _ (by omega)).mono ?_
    rintro e w' ⟨rfl, rfl⟩
    go_wp2
    go_ret
    exact ⟨rfl, HF.out⟩
end Go.Proofs.Ytjobhlncllfdmaa
