/- The program's reader of a footer: contracts of name, has. -/
import Derived.Test.YtjobhlncllfdmaaFtA
import Derived.Laws.BytesArg
namespace Go.Proofs.Ytjobhlncllfdmaa
open Go.RowKit

theorem kind_bits : ∀ b : Fin 256, (((b.val = 3 ∨ 6 < b.val) → (2 : Int) < bits .andNot .u32 (b.val : Int) 4) ∧ (¬ (b.val = 3 ∨ 6 < b.val) → bits .andNot .u32 (b.val : Int) 4 = ((b.val % 4 : Nat) : Int) ∧ (bits .and .u32 (b.val : Int) 4 != 0) = decide (4 ≤ b.val))) ∧ (0 ≤ bits .andNot .u32 (b.val : Int) 4 ∧ bits .andNot .u32 (b.val : Int) 4 < 256) := by decide +kernel

set_option maxHeartbeats 2000000 in
set_option maxRecDepth 100000 in
theorem fname (R lb B : Nat) (D : List UInt8) (E a : Nat) (cs : List Pu.Col) (ws : List (Nat × Value)) (vr : Value) (w : World) (h : FSt w R lb B D E a cs ws vr) :
    Calls Try.prog 104 #[.pointer (some ⟨R, 0, none⟩)] w fun e w' => NmAns R lb B D E cs ws vr (Pu.nameAt D a) e w' ∧ Below B w w' := by
  have V : Hid (Calls Try.prog 96 #[.pointer (some ⟨R, 0, none⟩), .int .i64 1, .int .i64 20] w fun e w' => NumAns R lb B D E cs ws vr (Pu.num D a 1 20) e w' ∧ Below B w w') := fnumber R lb B D E a 1 20 cs ws vr w h (by omega) (by omega)
  have hBR := h.base
  clear h
  cases hn : Pu.num D a 1 20 with
  | none =>
    have HX : Hid (Pu.nameAt D a = none) := by simp [Hid, Pu.nameAt, hn]
    rw [hn] at V
    clear hn
    go_enter Try.func104, Try.ntmps104
    go_wp2_with fail
    refine V.out.mono ?_
    rintro e w' ⟨rfl, hbel⟩
    go_wp2
    go_ret2
    exact ⟨by rw [HX.out]; rfl, hbel⟩
  | some pr =>
    obtain ⟨z, nx⟩ := pr
    have hz : 1 ≤ z ∧ z ≤ 20 := by
      unfold Pu.num at hn
      cases hv : Pu.vi D a with
      | none => simp [hv] at hn
      | some q =>
        obtain ⟨y, ny⟩ := q
        simp only [hv] at hn
        split at hn
        · cases hn
        · simp only [Option.some.injEq, Prod.mk.injEq] at hn; omega
    obtain ⟨hz1, hz2⟩ := hz
    rw [hn] at V
    by_cases hfit : D.length < nx + z
    · have HX : Hid (Pu.nameAt D a = none) := by simp only [Hid, Pu.nameAt, hn]; rw [if_pos hfit]
      clear hn
      go_enter Try.func104, Try.ntmps104
      go_wp2_with fail
      refine V.out.mono ?_
      rintro e w1 ⟨⟨rfl, hS⟩, hbel⟩
      have T : Hid (Calls Try.prog 79 #[.pointer (some ⟨R, 0, none⟩), .int .i64 (z : Int)] w1 fun e w' => e = .returned (.tuple #[.slice none 0 0, .bool false]) ∧ w' = w1) := by
        obtain ⟨ao, cap, vc, hb, ha, hr, hc, ho, hlb, hB⟩ := hS
        exact take_no R 0 z ao (D.length - nx) cap w1 hb.c0 (by omega) (by have := hr.1; have := hr.2.1; rw [List.length_drop] at *; omega)
      have CV : (convert 24 9 (.slice none 0 0)).run Try.prog w1 = .ok (.string ⟨#[]⟩) w1 := run_convert_bytes_nil (P := Try.prog) w1 24 5 Try.underlying24 Try.underlying5 0 0 9 Try.underlying9
      clear hS
      go_wp2_with fail
      refine T.out.mono ?_
      rintro e w' ⟨rfl, hw'⟩
      subst w'
      go_wp2
      go_ret2
      exact ⟨by rw [HX.out]; rfl, hbel⟩
    · have HX : Hid (Pu.nameAt D a = some (Pu.piece D nx z, nx + z)) := by simp only [Hid, Pu.nameAt, hn]; rw [if_neg hfit]
      clear hn
      go_enter Try.func104, Try.ntmps104
      go_wp2_with fail
      refine V.out.mono ?_
      rintro e w1 ⟨⟨rfl, hS⟩, hbel⟩
      have T : Hid (∃ ao w2, Calls Try.prog 79 #[.pointer (some ⟨R, 0, none⟩), .int .i64 (z : Int)] w1 (fun e w' => e = .returned (.tuple #[.slice ao z z, .bool true]) ∧ w' = w2) ∧ (convert 24 9 (.slice ao z z)).run Try.prog w2 = .ok (.string ⟨(Pu.piece D nx z).toArray⟩) w2 ∧ FSt w2 R lb B D E (nx + z) cs ws vr ∧ Below B w w2) := by
        obtain ⟨ao, cap, vc, hb, ha, hr, hc, ho, hlb, hB⟩ := hS
        have hlen : (D.drop nx).length = D.length - nx := List.length_drop
        refine ⟨ao, _, take_yes R 0 z ao (D.length - nx) cap w1 hb.c0 (hb.fz 0) (by omega) (by have := hr.1; omega) hr.2.1, ?_, FSt.skip hb (by omega) hr hc ho hlb hB, hbel.setCell hB _⟩
        have hr2 := (hr.take z (by omega)).kept (w' := w1.setCell ⟨R, 0, none⟩ (.slice (cutA ao cap z) (D.length - nx - z) (cap - z))) (heap_setCell_other w1 _ _ _ (by simp only []; omega))
        have hl2 : ((D.drop nx).take z).length = z := by rw [List.length_take]; omega
        have := text_of_rest hr2 (by omega)
        rw [hl2] at this
        exact this
      obtain ⟨ao, w2, T1, T2, T3, T4⟩ := T.out
      have HT1 : Hid (Calls Try.prog 79 #[.pointer (some ⟨R, 0, none⟩), .int .i64 (z : Int)] w1 (fun e w' => e = .returned (.tuple #[.slice ao z z, .bool true]) ∧ w' = w2)) := T1
      have HT3 : Hid (FSt w2 R lb B D E (nx + z) cs ws vr) := T3
      clear hS T T1 T3
      go_wp2_with fail
      refine HT1.out.mono ?_
      rintro e w' ⟨rfl, hw'⟩
      subst w'
      go_wp2
      go_ret2
      exact ⟨by rw [HX.out]; exact ⟨rfl, HT3.out⟩, T4⟩

set_option maxHeartbeats 2000000 in
set_option maxRecDepth 100000 in
theorem fhas (R lb B : Nat) (D : List UInt8) (E a : Nat) (cs : List Pu.Col) (ws : List (Nat × Value)) (vr : Value) (s : ByteArray) (w : World) (h : FSt w R lb B D E a cs ws vr) (hcs : cs.length ≤ 20) :
    Calls Try.prog 105 #[.pointer (some ⟨R, 0, none⟩), .string s] w fun e w' => e = .returned (.bool (Pu.hasName cs s.data.toList)) ∧ Below w.heap.size w w' := by
  obtain ⟨ao, cap, vc, hb, ha, hr, hc, ho, hlb, hB⟩ := h
  obtain ⟨av, cv, rfl⟩ := slen_of hc
  have k2 := hb.c1
  have HC : Hid (∀ k, (hk : k < cs.length) → ∃ g, av = some ⟨g, 0, none⟩ ∧ w.cell? ⟨g, k * 3, none⟩ = some (strV cs[k].name) ∧ w.cell? ⟨g, k * 3 + 1, none⟩ = some (.int .i64 (cs[k].kind : Int)) ∧ w.cell? ⟨g, k * 3 + 2, none⟩ = some (.bool cs[k].opt)) := cols_cell hc
  have HG : Hid (∀ g, av = some ⟨g, 0, none⟩ → g < w.heap.size) := fun g hg => (own_tyS hc (k := g) (by rw [hg]; rfl)).lt
  have HN : Hid (∀ k, (hk : k < cs.length) → Pu.hasName (cs.take (k + 1)) s.data.toList = (Pu.hasName (cs.take k) s.data.toList || cs[k].name == s.data.toList)) := fun k hk => hasName_snoc cs k _ hk
  have HE : Hid (Pu.hasName (cs.take cs.length) s.data.toList = Pu.hasName cs s.data.toList) := by rw [Hid, List.take_length]
  have HT : Hid (∀ k, (hk : k < cs.length) → (⟨cs[k].name.toArray⟩ : ByteArray) = s → Pu.hasName cs s.data.toList = true) := fun k hk he => by
    unfold Pu.hasName
    rw [List.any_eq_true]
    exact ⟨cs[k], List.getElem_mem hk, by rw [(str_eq_iff _ _).1 he]; simp⟩
  clear hb hr hc ho
  go_enter Try.func105, Try.ntmps105
  go_wp2
  go_loopw [13] (fun i wr => ∃ k : Nat, k ≤ cs.length ∧ i = .int .i64 k ∧ Hid (Pu.hasName (cs.take k) s.data.toList = false) ∧ Hid (Below w.heap.size w wr)) (fun i _ => cs.length - (intOf i).toNat)
  case atStart => exact ⟨0, Nat.zero_le _, rfl, rfl, Below.refl _ _⟩
  case round =>
    obtain ⟨k, hk, rfl, Hk, Hb⟩ := hrel
    by_cases hk2 : k < cs.length
    · obtain ⟨g, rfl, d1, d2, d3⟩ := HC.out k hk2
      have hgl := HG.out g rfl
      rw [← World.cell?_of_block (w := w) (w' := wr) (Hb.out.block g hgl)] at d1 d2 d3
      unfold strV at d1
      have Hb2 : Hid (∀ o, Below w.heap.size w (wr.alloc o)) := fun o => Hb.out.alloc Hb.out.size o
      by_cases he : (⟨cs[k].name.toArray⟩ : ByteArray) = s
      · have Hr : Hid (Pu.hasName cs s.data.toList = true) := HT.out k hk2 he
        rw [he] at d1
        clear he
        generalize cs[k].kind = y at *
        generalize cs[k].opt = z at *
        go_wp2
        go_ret
        exact ⟨by rw [Hr.out]; rfl, Hb2.out _⟩
      · have Hn : Hid (Pu.hasName (cs.take (k + 1)) s.data.toList = false) := by
          rw [Hid, HN.out k hk2, Hk.out, Bool.false_or, beq_eq_false_iff_ne]
          exact fun e => he ((str_eq_iff _ _).2 e)
        have hd := str_ne he
        generalize (⟨cs[k].name.toArray⟩ : ByteArray) = t at *
        generalize cs[k].kind = y at *
        generalize cs[k].opt = z at *
        go_wp2
        go_roundw
        case rel => exact ⟨k + 1, by omega, by go_num, Hn, Hb2.out _⟩
        case measure => simp [intOf]; omega
    · obtain rfl : k = cs.length := by omega
      go_wp2
      go_ret
      exact ⟨by rw [← HE.out, Hk.out]; rfl, Hb.out⟩

end Go.Proofs.Ytjobhlncllfdmaa
