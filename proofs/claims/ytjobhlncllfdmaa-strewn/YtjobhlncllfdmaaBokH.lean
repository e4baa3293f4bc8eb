/- keepInts: its contract. -/
import Derived.Test.YtjobhlncllfdmaaBokF
namespace Go.Proofs.Ytjobhlncllfdmaa
open Go.RowKit

theorem KSti.start {w w1 wr : World} {B b n : Nat} {U : Nat → Prop} {bs is : List (Value × Int)} {ao : Option Addr} {cap : Nat} {mk' m : Int} {vb vbm vi vim : Value} {ys : List Value}
    (hLb : Lane w B U 24 5 .u8 vb vbm (lists bs) (marks .u8 bs) bs) (hLi : Lane w B U 26 3 .i64 vi vim (lists is) (marks .i64 is) is) (hUb : U b) (hUr : ∀ k, U k → B ≤ k ∧ k < w.heap.size) (hbt : Ty w b 31) (hb1 : BBlk w1 b mk' vb vbm vi vim)
    (hlU : ∀ k, (Value.slice ao n cap).ownBlock = some k → ¬ U k) (hlb : (Value.slice ao n cap).ownBlock ≠ some b) (hf1 : Fr (fun k => k = b) w w1) (hf2 : Fr (fun k => (Value.slice ao n cap).ownBlock = some k) w1 wr)
    (ho : wr.ownsRow B 3 1 (.slice ao n cap) n ys) (hy : ys = List.replicate n (.int .i64 m)) : KSti w B b U (Value.slice ao n cap).ownBlock n m bs is.length wr (.slice ao (n + 0) cap) 0 := by
  have hbs := (hUr b hUb).2
  have ag : ∀ k, U k → k ≠ b → wr.heap[k]? = w.heap[k]? := fun k hk hb => (hf2.block k (Nat.lt_of_lt_of_le (hUr k hk).2 hf1.size) (fun e' => hlU k e' hk)).trans (hf1.block k (hUr k hk).2 hb)
  have hLb' : Lane wr B U 24 5 .u8 vb vbm (lists bs) (marks .u8 bs) bs := hLb.agree (fun k hk ht => ag k hk (by rcases ht with ht | ht <;> exact Ty.ne ht hbt (by decide))) (fun _ h => h)
  have hLi' : Lane wr B U 26 3 .i64 vi vim (lists is) (marks .i64 is) is := hLi.agree (fun k hk ht => ag k hk (by rcases ht with ht | ht <;> exact Ty.ne ht hbt (by decide))) (fun _ h => h)
  subst hy
  refine ⟨U, is, mk', vb, vbm, vi, vim, hb1.kept (hf2.block b (Nat.lt_of_lt_of_le hbs hf1.size) hlb), ⟨hLi', ho, fun k hk e' => hlU k hk (hLi'.2.2.2.2 k e'), ?_⟩, hLb', hUb, fun k hk => ⟨(hUr k hk).1, Nat.lt_of_lt_of_le (hUr k hk).2 (Nat.le_trans hf1.size hf2.size)⟩, rfl, fun k hk => .inl hk, fun k hk => .inl hk, ?_⟩
  · intro p hp g j cp hv hj hg
    obtain ⟨ao', j', cp', hv', hm, hf⟩ := hLi'.2.2.1 p hp
    rw [hv] at hv'
    simp only [Value.slice.injEq] at hv'
    obtain ⟨rfl, rfl, rfl⟩ := hv'
    rcases hf with hf | ⟨g', cur, ha, hu, _⟩
    · omega
    · simp only [Option.some.injEq, Addr.mk.injEq, and_true] at ha
      subst ha
      exact absurd hu (hlU _ hg)
  · exact (hf1.mono (fun k (hk : k = b) => by subst hk; exact .inl hUb)).trans hf2 (fun k hk e' => .inr e')

theorem KSti.finish {w wr : World} {B b n : Nat} {U : Nat → Prop} {l0 : Option Nat} {m : Int} {os : List (Value × Int)} {nb : Nat} {vl : Value} {k : Nat} (h : KSti w B b U l0 n m os nb wr vl k) :
    ∃ U' ps', Book wr B b U' os ps' ∧ ps'.length = nb + k ∧ (∀ j, U' j → U j ∨ l0 = some j ∨ w.heap.size ≤ j) ∧ Fr (fun j => U j ∨ l0 = some j) w wr := by
  obtain ⟨U', ps, mk, vb, vbm, vi, vim, hbb, hK, hO, hUb, hUr, hps, hU0, hvl, hfr⟩ := h
  exact ⟨U', ps, ⟨mk, vb, vbm, vi, vim, hbb, hO, hK.1, hUb, hUr⟩, hps, hU0, hfr⟩

set_option maxHeartbeats 2000000 in
set_option maxRecDepth 100000 in
theorem keepInts_any (B b n : Nat) (U : Nat → Prop) (bs is : List (Value × Int)) (ao : Option Addr) (cap : Nat) (xs : List Value) (w : World) (hBk : Book w B b U bs is) (hl : w.ownsRow B 3 1 (.slice ao n cap) n xs) (hlU : ∀ k, (Value.slice ao n cap).ownBlock = some k → ¬ U k)
    (hn : (n + 4) * 8 ≤ 140737488355328) (hbs : is.length ≤ 900000) :
    Calls Try.prog 23 #[.pointer (some ⟨b, 0, none⟩), .slice ao n cap] w fun e w' => e = .returned (.tuple #[]) ∧ ∃ U' ps', Book w' B b U' bs ps' ∧ ps'.length = is.length + 4 ∧ (∀ k, U' k → U k ∨ (Value.slice ao n cap).ownBlock = some k ∨ w.heap.size ≤ k) ∧ Fr (fun k => U k ∨ (Value.slice ao n cap).ownBlock = some k) w w' := by
  obtain ⟨mk, vb, vbm, vi, vim, hbb, hLb, hLi, hUb, hUr⟩ := hBk
  have N1 : Hid (Calls Try.prog 47 #[.pointer (some ⟨b, 0, none⟩)] w fun e w' => ∃ k k' : Int, e = .returned (.int .i64 k) ∧ w' = w.setCell ⟨b, 0, none⟩ (.int .i64 k')) := next_any b mk w hbb.c0 (hbb.fz 0)
  have HB : Hid (BBlk w b mk vb vbm vi vim) := hbb
  have hbt : Ty w b 31 := hbb.ty
  have Hbt : Hid (Ty w b 31) := hbt
  have hlb : (Value.slice ao n cap).ownBlock ≠ some b := fun e' => Ty.ne (own_ty hl e') hbt (by decide) rfl
  have Hlb : Hid ((Value.slice ao n cap).ownBlock ≠ some b) := hlb
  have HLb : Hid _ := hLb
  have HLi : Hid _ := hLi
  have HlU : Hid _ := hlU
  have HUr : Hid _ := hUr
  have hln : xs.length = n := by have := hl.1; omega
  clear hbb hLb hLi hlU hUr hbt hlb
  go_enter Try.func23, Try.ntmps23
  go_wp2_with fail
  refine N1.out.mono ?_
  rintro e w1 ⟨k0, k1, rfl, hw1⟩
  have hl1 : w1.ownsRow B 3 1 (.slice ao n cap) n xs := by rw [hw1]; exact ownsRow_set_other' hl Hlb.out
  have HB1 : Hid (BBlk w1 b k1 vb vbm vi vim) := by rw [hw1]; exact HB.out.set0 k1
  have Hfr1 : Hid (Fr (fun k => k = b) w w1) := by rw [hw1]; exact Fr.set
  clear hw1
  go_wp2
  generalize k0 = m
  go_loopw [5] (fun i wr => ∃ (k : Nat) (ys : List Value), k ≤ n ∧ i = .int .i64 k ∧ wr.ownsRow B 3 1 (.slice ao n cap) n ys ∧ Hid (ys.take k = List.replicate k (.int .i64 m)) ∧ Hid (Fr (fun k => (Value.slice ao n cap).ownBlock = some k) w1 wr)) (fun i _ => n - (intOf i).toNat)
  case atStart => exact ⟨0, xs, Nat.zero_le _, rfl, hl1, rfl, Fr.refl _ _⟩
  case round =>
    obtain ⟨k, ys, hk, rfl, ho, Hy, Hf⟩ := hrel
    have hyl : ys.length = n := by have := ho.1; omega
    by_cases hk2 : k < n
    · obtain ⟨g, cp, hform, _, _⟩ := ho.form (by omega)
      simp only [Value.slice.injEq, true_and] at hform
      obtain ⟨rfl, rfl⟩ := hform
      have hst := ho.stored k (.int .i64 m)
      have hc : wr.cell? ⟨g, k, none⟩ = some ys[k] := by rw [ho.cellAt k (by omega), List.getElem?_eq_getElem (by omega)]
      have hf := ho.frozenAt k
      have Hy2 : Hid ((ys.set k (.int .i64 m)).take (k + 1) = List.replicate (k + 1) (.int .i64 m)) := take_set_next ys k _ Hy.out (by omega)
      have Hf2 : Hid (Fr (fun k => (Value.slice (some ⟨g, 0, none⟩) n cap).ownBlock = some k) w1 (wr.setCell ⟨g, k, none⟩ (.int .i64 m))) := Hf.out.trans Fr.set (fun j _ e' => by rw [e']; rfl)
      have Ho2 : Hid _ := hst.1
      generalize ys[k] = y at hc
      clear hst Hy ho hyl
      go_wp2
      go_roundw
      case rel => exact ⟨k + 1, ys.set k (.int .i64 m), by omega, by go_num, Ho2.out, Hy2, Hf2⟩
      case measure => simp [intOf]; omega
    · obtain rfl : k = n := by omega
      have hyr : ys = List.replicate k (.int .i64 m) := by have := Hy.out; rw [List.take_of_length_le (by omega)] at this; exact this
      have HS : Hid (KSti w B b U (Value.slice ao k cap).ownBlock k m bs is.length wr (.slice ao (k + 0) cap) 0) := KSti.start HLb.out HLi.out hUb HUr.out Hbt.out HB1.out HlU.out Hlb.out Hfr1.out Hf.out ho hyr
      clear hyr ho hyl Hy Hf hl1 hl HB1 N1 HB HLb HLi
      go_wp2
      go_loopw [1, 6] (fun l i wr => ∃ (j : Nat) (ao' : Option Addr) (cap' : Nat), j ≤ 4 ∧ i = .int .i64 j ∧ l = .slice ao' (k + j) cap' ∧ Hid (KSti w B b U (Value.slice ao k cap).ownBlock k m bs is.length wr (.slice ao' (k + j) cap') j)) (fun _ i _ => 4 - (intOf i).toNat)
      case atStart => exact ⟨0, ao, cap, by omega, rfl, rfl, HS⟩
      case round =>
        obtain ⟨j, ao', cap', hj, rfl, rfl, HK⟩ := hrel
        by_cases hj4 : j < 4
        · obtain ⟨a1, n1, c1, a2, n2, c2, g1, p1, w1', g2, p2, w2, g3, p3, w3, hc1, run1, hc1', hf1', hc2, run2, hc2', hf2', run3, hK⟩ := HK.out.round (by omega) (by omega)
          have HK3 : Hid _ := hK
          have R1 : Hid _ := run1
          have R2 : Hid _ := run2
          have R3 : Hid _ := run3
          clear hK run1 run2 run3 HK HS
          go_wp2_with (first | (at_builtin; refine wpList_append_run rfl (.tmp 28) (.tmp 30) 25 25 rfl _ _ _ rfl rfl R1.out ?_) | (at_builtin; refine wpList_append_run rfl (.tmp 38) (.tmp 40) 26 26 rfl _ _ _ rfl rfl R2.out ?_) | (at_builtin; refine wpList_append_run rfl (.tmp 44) (.tmp 46) 26 26 rfl _ _ _ rfl rfl R3.out ?_) | go_in)
          go_roundw
          case rel => exact ⟨j + 1, some ⟨g3, 0, none⟩, p3, by omega, by go_num, rfl, HK3⟩
          case measure => simp [intOf]; omega
        · obtain rfl : j = 4 := by omega
          have HF := HK.out.finish
          go_wp2
          go_end0
          exact ⟨rfl, HF⟩
end Go.Proofs.Ytjobhlncllfdmaa
