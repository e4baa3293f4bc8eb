/- (*Book).shapes: its contract. -/
import Derived.Test.YtjobhlncllfdmaaBkK
namespace Go.Proofs.Ytjobhlncllfdmaa
open Go.RowKit

theorem below_draw (W : World) (q : Nat) : Below W.heap.size W (W.drewN q) := below_drewN (Below.refl _ _) q

set_option maxHeartbeats 4000000 in
set_option maxRecDepth 100000 in
theorem bshapes (B b nb : Nat) (A : Nat → Prop) (s : ByteArray) (w : World) (hBk : Book5 w B b A nb) (hs : s.size ≤ 140737488355000) (hnb : nb ≤ 800000) :
    Calls Try.prog 11 #[.pointer (some ⟨b, 0, none⟩), .string s] w fun e w' => e = .returned (.bool true) ∧ ∃ A', Chain w B b (nb + 12) A' w' := by
  have HBk : Hid (Book5 w B b A nb) := hBk
  have HBs : Hid (B ≤ w.heap.size) := hBk.bsize
  have Hlen : Hid (s.data.toList.length = s.size) := len_data s
  have L : Hid (Calls Try.prog 18 #[.string s] w fun e w' => ∃ g cap, e = .returned (.slice (some ⟨g, 0, none⟩) (s.size + 3) cap) ∧ w'.ownsRow w.heap.size 5 1 (.slice (some ⟨g, 0, none⟩) (s.size + 3) cap) (s.size + 3) (bytesV s.data.toList ++ [.int .u8 200, .int .u8 201, .int .u8 202]) ∧ Below w.heap.size w w') := lend_any s w hs
  have RL : Hid (∀ W : World, Calls Try.prog 25 #[.string s] W fun e w' => LookAns W (Pu.look s.data.toList) e w' ∧ Below W.heap.size W w') := fun W => refLook_any s W hs
  have HA : Hid (∀ k, A k → k < w.heap.size) := fun k hk => (hBk.lt k hk).2
  have HKC : Hid (∀ (W : World) (A : Nat → Prop) (n m cap : Nat) (ao : Option Addr) (xs : List Value), Book5 W B b A m → Mine W A B 45 3 (.slice ao n cap) n xs → n ≤ 20 → m ≤ 900000 → Calls Try.prog 27 #[.pointer (some ⟨b, 0, none⟩), .slice ao n cap] W fun e w' => e = .returned (.tuple #[]) ∧ Kept W B b A m (Value.slice ao n cap).ownBlock w') :=
    fun W A n m cap ao xs h1 h2 h3 h4 => keepColumns5 B b n A m ao cap xs W h1 h2.1 h2.2 (by omega) h4
  have HKI : Hid (∀ (W : World) (A : Nat → Prop) (n m cap : Nat) (ao : Option Addr) (xs : List Value), Book5 W B b A m → Mine W A B 3 1 (.slice ao n cap) n xs → n ≤ 50 → m ≤ 900000 → Calls Try.prog 23 #[.pointer (some ⟨b, 0, none⟩), .slice ao n cap] W fun e w' => e = .returned (.tuple #[]) ∧ Kept W B b A m (Value.slice ao n cap).ownBlock w') :=
    fun W A n m cap ao xs h1 h2 h3 h4 => keepInts5 B b n A m ao cap xs W h1 h2.1 h2.2 (by omega) h4
  clear hBk
  go_enter Try.func11, Try.ntmps11
  go_wp2_with fail
  refine L.out.mono ?_
  rintro e w1 ⟨g, cap, rfl, hown, hbel⟩
  have hlt1 : g < w1.heap.size := (own_tyS hown rfl).lt
  have hlt2 : w.heap.size ≤ g := (hown.lt g rfl).1
  have hcap : s.size + 3 ≤ cap ∧ cap ≤ 9223372036854775807 := by
    rcases hown.2 with ⟨h, _⟩ | ⟨g', cap', cur, h, _, _, hnc, hm, _⟩
    · cases h
    · simp only [Value.slice.injEq] at h
      unfold maxLen at hm
      omega
  obtain ⟨hcap1, hcap2⟩ := hcap
  have C1 : Hid (Chain w B b nb A w1) := Chain.below ⟨HBk.out, Below.refl _ _⟩ hbel
  have M1 : Hid (Mine w1 A B 5 1 (.slice (some ⟨g, 0, none⟩) (s.size + 3) cap) (s.size + 3) (bytesV s.data.toList ++ [.int .u8 200, .int .u8 201, .int .u8 202])) := ⟨hown.mono HBs.out, fun k hk hA => by
    simp only [Value.ownBlock, Option.some.injEq] at hk
    have := HA.out k hA; omega⟩
  have LK : Hid (Calls Try.prog 9 #[.slice (some ⟨g, 0, none⟩) s.size cap] w1 fun e w' => LookAnsP w1.heap.size (Pu.look s.data.toList) e w' ∧ Below w1.heap.size w1 w') := by
    have := look_any g (some ⟨g, 0, none⟩) cap s.data.toList w1 (rest_of_lent5 hown) hlt1 (by rw [Hlen.out]; omega)
    rw [Hlen.out] at this
    exact this
  have BA : Hid (∀ W : World, Chain w B b nb A W → Mine W A B 5 1 (.slice (some ⟨g, 0, none⟩) (s.size + 3) cap) (s.size + 3) (bytesV s.data.toList ++ [.int .u8 200, .int .u8 201, .int .u8 202]) → Calls Try.prog 19 #[.pointer (some ⟨b, 0, none⟩), .slice (some ⟨g, 0, none⟩) (s.size + 3) cap, .string s] W fun e w' => e = .returned (.bool true) ∧ Kept W B b A nb (some g) w') := fun W h1 h2 =>
    back5 B b A nb g cap s W h1.1 h2.1 (h2.2 g rfl) hs (by omega)
  have Hsz : Hid (w.heap.size ≤ w1.heap.size) := hbel.size
  clear hown hbel
  cases hlk : Pu.look s.data.toList with
  | bad k =>
    obtain ⟨hk6, hk8⟩ := look_bad_le hlk
    rw [hlk] at LK RL
    have hk0 : ((k : Int) != 0) = true := by simp; omega
    clear hlk
    go_wp2_with fail
    refine LK.out.mono ?_
    rintro e w2 ⟨rfl, hb2⟩
    have C2 : Hid (Chain w B b nb A (w2.alloc (.cells #[.slice none 0 0, .slice none 0 0] 39))) := (C1.out.below hb2).below ((Below.refl _ _).alloc (Nat.le_refl _) _)
    have M2 : Hid (Mine (w2.alloc (.cells #[.slice none 0 0, .slice none 0 0] 39)) A B 5 1 (.slice (some ⟨g, 0, none⟩) (s.size + 3) cap) (s.size + 3) (bytesV s.data.toList ++ [.int .u8 200, .int .u8 201, .int .u8 202])) := (M1.out.below hb2).below ((Below.refl _ _).alloc (Nat.le_refl _) _)
    have AP : Hid (Apart (w2.alloc (.cells #[.slice none 0 0, .slice none 0 0] 39)) A w2.heap.size (.cells #[.slice none 0 0, .slice none 0 0] 39 (0, 0))) := ⟨heap_alloc_new w2 _, fun hA => by have := HA.out _ hA; have := hb2.size; have := Hsz.out; omega⟩
    have Hg2 : Hid (some g ≠ some w2.heap.size) := fun e' => by simp only [Option.some.injEq] at e'; have := hb2.size; omega
    clear hb2 C1 M1 LK
    go_wp2_with fail
    refine (BA.out _ C2.out M2.out).mono ?_
    rintro e w3 ⟨rfl, hK⟩
    obtain ⟨A3, c3, af3⟩ := C2.out.kept hK (fun k hk => by simp only [Option.some.injEq] at hk; have := HBs.out; omega)
    have AP3 : Hid (Apart w3 A3 w2.heap.size (.cells #[.slice none 0 0, .slice none 0 0] 39 (0, 0))) := AP.out.after af3 Hg2.out
    have C3 : Hid (Chain w B b (nb + 4) A3 w3) := c3
    clear hK c3 af3 C2 M2 AP BA
    go_wp2_with fail
    refine (RL.out _).mono ?_
    rintro e w4 ⟨rfl, hb4⟩
    have ap4 := AP3.out.below hb4
    have k0 : w4.cell? ⟨w2.heap.size, 0, none⟩ = some (.slice none 0 0) := by rw [cell_of_row _ _ 0 _ _ _ ap4.1]; rfl
    have k1 : w4.cell? ⟨w2.heap.size, 1, none⟩ = some (.slice none 0 0) := by rw [cell_of_row _ _ 1 _ _ _ ap4.1]; rfl
    have C4 : Hid (Chain w B b (nb + 4) A3 w4) := C3.out.below hb4
    clear hb4 ap4 AP3 C3 RL
    go_wp2_with fail
    refine (num_any (k : Int) _ (by omega)).mono ?_
    rintro e w' ⟨rfl, hw'⟩
    subst w'
    go_wp2
    go_ret
    exact ⟨rfl, A3, C4.out.1.mono (by omega), C4.out.2⟩
  | good E cs gs =>
    obtain ⟨hcs, hgs⟩ := look_bounds hlk
    rw [hlk] at LK RL
    clear hlk
    go_wp2_with fail
    refine LK.out.mono ?_
    rintro e w2 ⟨⟨vc, vr, rfl, hvc, hvr⟩, hb2⟩
    obtain ⟨av, cv, rfl⟩ := slen_of hvc
    obtain ⟨ar, cr, rfl⟩ := slen_of hvr
    have hB12 : B ≤ w1.heap.size := Nat.le_trans HBs.out Hsz.out
    have C2 : Hid (Chain w B b nb A (w2.alloc (.cells #[.slice av cs.length cv, .slice ar gs.length cr] 39))) := (C1.out.below hb2).below ((Below.refl _ _).alloc (Nat.le_refl _) _)
    have M2 : Hid (Mine (w2.alloc (.cells #[.slice av cs.length cv, .slice ar gs.length cr] 39)) A B 5 1 (.slice (some ⟨g, 0, none⟩) (s.size + 3) cap) (s.size + 3) (bytesV s.data.toList ++ [.int .u8 200, .int .u8 201, .int .u8 202])) := (M1.out.below hb2).below ((Below.refl _ _).alloc (Nat.le_refl _) _)
    have AP : Hid (Apart (w2.alloc (.cells #[.slice av cs.length cv, .slice ar gs.length cr] 39)) A w2.heap.size (.cells #[.slice av cs.length cv, .slice ar gs.length cr] 39 (0, 0))) := ⟨heap_alloc_new w2 _, fun hA => by have := HA.out _ hA; have := hb2.size; have := Hsz.out; omega⟩
    have Hg2 : Hid (some g ≠ some w2.heap.size) := fun e' => by simp only [Option.some.injEq] at e'; have := hb2.size; omega
    have Mc : Hid (Mine (w2.alloc (.cells #[.slice av cs.length cv, .slice ar gs.length cr] 39)) A B 45 3 (.slice av cs.length cv) cs.length (colsV cs)) := Mine.below ⟨hvc.mono hB12, fun k hk hA => by have := (hvc.lt k hk).1; have := HA.out _ hA; have := Hsz.out; omega⟩ ((Below.refl _ _).alloc (Nat.le_refl _) _)
    have Mr : Hid (Mine (w2.alloc (.cells #[.slice av cs.length cv, .slice ar gs.length cr] 39)) A B 3 1 (.slice ar gs.length cr) gs.length (ints (gs.map Prod.fst))) := Mine.below ⟨hvr.mono hB12, fun k hk hA => by have := (hvr.lt k hk).1; have := HA.out _ hA; have := Hsz.out; omega⟩ ((Below.refl _ _).alloc (Nat.le_refl _) _)
    have Hgc : Hid (∀ k, (Value.slice av cs.length cv).ownBlock = some k → some g ≠ some k) := fun k hk e' => by simp only [Option.some.injEq] at e'; have := (hvc.lt k hk).1; omega
    have Hgr : Hid (∀ k, (Value.slice ar gs.length cr).ownBlock = some k → some g ≠ some k) := fun k hk e' => by simp only [Option.some.injEq] at e'; have := (hvr.lt k hk).1; omega
    clear hb2 C1 M1 LK hvc hvr
    go_wp2_with fail
    refine (BA.out _ C2.out M2.out).mono ?_
    rintro e w3 ⟨rfl, hK⟩
    obtain ⟨A3, c3, af3⟩ := C2.out.kept hK (fun k hk => by simp only [Option.some.injEq] at hk; have := HBs.out; omega)
    have AP3 : Hid (Apart w3 A3 w2.heap.size (.cells #[.slice av cs.length cv, .slice ar gs.length cr] 39 (0, 0))) := AP.out.after af3 Hg2.out
    have Mc3 : Hid (Mine w3 A3 B 45 3 (.slice av cs.length cv) cs.length (colsV cs)) := Mc.out.after af3 Hgc.out
    have Mr3 : Hid (Mine w3 A3 B 3 1 (.slice ar gs.length cr) gs.length (ints (gs.map Prod.fst))) := Mr.out.after af3 Hgr.out
    have C3 : Hid (Chain w B b (nb + 4) A3 w3) := c3
    clear hK c3 af3 C2 M2 AP BA Mc Mr
    go_wp2_with fail
    refine (RL.out _).mono ?_
    rintro e w4 ⟨⟨F, vc2, vr2, vk2, vs2, rfl, hF0, hc2, hcF, hFB, hr2, hk2, hch⟩, hb4⟩
    obtain ⟨av2, cv2, rfl⟩ := slen_of hc2
    obtain ⟨ar2, cr2, rfl⟩ := slen_of hr2
    have ap4 := AP3.out.below hb4
    have C4 : Hid (Chain w B b (nb + 4) A3 w4) := C3.out.below hb4
    have Mc4 : Hid (Mine w4 A3 B 45 3 (.slice av cs.length cv) cs.length (colsV cs)) := Mc3.out.below hb4
    have Mr4 : Hid (Mine w4 A3 B 3 1 (.slice ar gs.length cr) gs.length (ints (gs.map Prod.fst))) := Mr3.out.below hb4
    have AP4 : Hid (Apart w4 A3 w2.heap.size (.cells #[.slice av cs.length cv, .slice ar gs.length cr] 39 (0, 0))) := ap4
    have k0 : w4.cell? ⟨w2.heap.size, 0, none⟩ = some (.slice av cs.length cv) := by rw [cell_of_row _ _ 0 _ _ _ ap4.1]; rfl
    have k1 : w4.cell? ⟨w2.heap.size, 1, none⟩ = some (.slice ar gs.length cr) := by rw [cell_of_row _ _ 1 _ _ _ ap4.1]; rfl
    have f0 := hFB.c0
    have f1 := hFB.c1
    have SC : Hid (∀ n : Nat, Calls Try.prog 26 #[.slice av cs.length cv, .slice av2 cs.length cv2] (w4.drewN n) fun e w' => e = .returned (.bool true) ∧ ∃ m, w' = (w4.drewN n).drewN m) := fun n => sameCols av av2 cv cv2 cs _ _ (w4.drewN n) Mc4.out.1 hc2 (by omega)
    have SI : Hid (∀ n n2 : Nat, Calls Try.prog 22 #[.slice ar gs.length cr, .slice ar2 gs.length cr2] ((w4.drewN n).drewN n2) fun e w' => e = .returned (.bool true) ∧ ∃ m, w' = ((w4.drewN n).drewN n2).drewN m) := fun n n2 => by
      have h1 := Mr4.out.1
      have hl : gs.length = (gs.map Prod.fst).length := by simp
      have := same_any ar ar2 cr cr2 (gs.map Prod.fst) B w3.heap.size ((w4.drewN n).drewN n2) (by rw [← hl]; exact h1) (by rw [← hl]; exact hr2) (by rw [← hl]; omega)
      rw [← hl] at this
      exact this
    have KC : Hid (∀ W : World, Below w4.heap.size w4 W → Calls Try.prog 27 #[.pointer (some ⟨b, 0, none⟩), .slice av cs.length cv] W fun e w' => e = .returned (.tuple #[]) ∧ ∃ A6, Chain w B b (nb + 8) A6 w' ∧ Mine w' A6 B 3 1 (.slice ar gs.length cr) gs.length (ints (gs.map Prod.fst)) ∧ w'.cell? ⟨w2.heap.size, 1, none⟩ = some (.slice ar gs.length cr)) := fun W hW => by
      have c4 := C4.out.below hW
      have mc4 := Mc4.out.below hW
      have mr4 := Mr4.out.below hW
      have ap4 := AP4.out.below hW
      refine (HKC.out _ _ _ _ _ _ _ c4.1 mc4 hcs (by omega)).mono ?_
      rintro e w6 ⟨he, hK⟩
      obtain ⟨A6, c6, af6⟩ := c4.kept hK (fun k hk => (mc4.1.lt k hk).1)
      have ap6 := ap4.after af6 (fun e' => Ty.ne (own_tyS mc4.1 e') ⟨_, ap4.1⟩ (by decide) rfl)
      exact ⟨he, A6, c6, mr4.after af6 (fun k hk e' => Ty.ne (own_tyS mc4.1 e') (own_tyS mr4.1 hk) (by decide) rfl), by rw [cell_of_row _ _ 1 _ _ _ ap6.1]; rfl⟩
    clear hb4 ap4 AP3 C3 RL hc2 hr2 hk2 hch hFB Mc3 Mr3 hF0 hcF
    go_wp2
    go_quiet ((go_at_call 26; exact Calls.quiet_of (SC.out _)))
    obtain ⟨w5, hw5⟩ : ∃ w5, w5 = w4.drewN nq := ⟨_, rfl⟩
    rw [← hw5]
    have k15 : w5.cell? ⟨w2.heap.size, 1, none⟩ = some (.slice ar gs.length cr) := by rw [hw5]; exact k1
    have k05 : w5.cell? ⟨w2.heap.size, 0, none⟩ = some (.slice av cs.length cv) := by rw [hw5]; exact k0
    have f15 : w5.cell? ⟨F, 1, none⟩ = some (.slice ar2 gs.length cr2) := by rw [hw5]; exact f1
    have SI5 : Hid (∀ n : Nat, Calls Try.prog 22 #[.slice ar gs.length cr, .slice ar2 gs.length cr2] (w5.drewN n) fun e w' => e = .returned (.bool true) ∧ ∃ m, w' = (w5.drewN n).drewN m) := by rw [hw5]; exact fun n => SI.out nq n
    have hW5 : Below w4.heap.size w4 w5 := by rw [hw5]; exact below_draw _ _
    clear hw5 k0 k1 f0 f1
    go_wp2
    go_quiet ((go_at_call 22; exact Calls.quiet_of (SI5.out _)))
    go_wp2_with fail
    refine (KC.out _ (below_drewN hW5 _)).mono ?_
    rintro e w6 ⟨rfl, A6, c6, m6, k61⟩
    have KI : Hid (Calls Try.prog 23 #[.pointer (some ⟨b, 0, none⟩), .slice ar gs.length cr] w6 fun e w' => e = .returned (.tuple #[]) ∧ ∃ A', Chain w B b (nb + 12) A' w') := by
      refine (HKI.out _ _ _ _ _ _ _ c6.1 m6 hgs (by omega)).mono ?_
      rintro e w7 ⟨he, hK⟩
      obtain ⟨A7, c7, _⟩ := c6.kept hK (fun k hk => (m6.1.lt k hk).1)
      exact ⟨he, A7, c7⟩
    clear c6 m6 KC SC SI SI5 HKC HKI
    go_wp2_with fail
    refine KI.out.mono ?_
    rintro e w7 ⟨rfl, hF⟩
    have HF : Hid (∃ A', Chain w B b (nb + 12) A' w7) := hF
    clear hF KI
    go_wp2
    go_ret
    exact ⟨rfl, HF.out⟩

end Go.Proofs.Ytjobhlncllfdmaa
