/- keepColumns: its contract. -/
import Derived.Test.YtjobhlncllfdmaaM07
namespace Go.Proofs.Ytjobhlncllfdmaa
open Go.RowKit

/-- what the keeping of a list leaves -/
def Kept (w : World) (B b : Nat) (A : Nat → Prop) (nb : Nat) (l0 : Option Nat) (w' : World) : Prop :=
  ∃ A', Book5 w' B b A' (nb + 4) ∧ (∀ k, A' k → A k ∨ l0 = some k ∨ w.heap.size ≤ k) ∧ Fr (fun k => A k ∨ l0 = some k) w w'

theorem bound_step {k j c M : Nat} (h : (k + 4) * c ≤ M) (hj : j < 4) : (k + j + 1) * c ≤ M := Nat.le_trans (Nat.mul_le_mul_right _ (by omega)) h
theorem len_step {a b j n : Nat} (h : a = b + j) (hb : b ≤ n) (hn : n ≤ 90000000) (hj : j < 4) : a ≤ 100000000 := by omega
theorem len_snoc {ps : List (Value × Int)} {x : Value × Int} {n j : Nat} (h : ps.length = n + j) : (ps ++ [x]).length = n + (j + 1) := by simp; omega

theorem KS.round2 {w0 wr : World} {B b : Nat} {C : Array Value} {U0 U : Nat → Prop} {l0 : Option Nat} {N : Nat} {m : Int} {ps : List (Value × Int)} {ao : Option Addr} {cap : Nat}
    (hC : C.size = 11) (h : KS (LN 2) 5 6 w0 B b C U0 l0 N m ps (lists ps) (marks .i64 ps) U wr (.slice ao N cap)) (hps : ps.length ≤ 100000000) (hN : (N + 1) * 32 ≤ 140737488355328) :
    ∃ a1 c1 a2 c2 g1 p1 w1 g2 p2 w2 g3 p3 w3 U',
      wr.cell? ⟨b, 5, none⟩ = some (.slice a1 ps.length c1) ∧
      (Builtin.append_ #[27, 27] 27 #[.slice a1 ps.length c1, .slice (some ⟨wr.heap.size, 0, none⟩) 1 1]).run Try.prog (wr.alloc (.cells #[.slice ao N cap] 37)) = .ok (.slice (some ⟨g1, 0, none⟩) (ps.length + 1) p1) w1 ∧
      w1.cell? ⟨b, 5, none⟩ = some (.slice a1 ps.length c1) ∧ w1.frozen? ⟨b, 5, none⟩ = false ∧
      (w1.setCell ⟨b, 5, none⟩ (.slice (some ⟨g1, 0, none⟩) (ps.length + 1) p1)).cell? ⟨b, 6, none⟩ = some (.slice a2 ps.length c2) ∧
      (Builtin.append_ #[26, 26] 26 #[.slice a2 ps.length c2, .slice (some ⟨w1.heap.size, 0, none⟩) 1 1]).run Try.prog ((w1.setCell ⟨b, 5, none⟩ (.slice (some ⟨g1, 0, none⟩) (ps.length + 1) p1)).alloc (.cells #[.int .i64 m] 3)) = .ok (.slice (some ⟨g2, 0, none⟩) (ps.length + 1) p2) w2 ∧
      w2.cell? ⟨b, 6, none⟩ = some (.slice a2 ps.length c2) ∧ w2.frozen? ⟨b, 6, none⟩ = false ∧
      (Builtin.append_ #[37, 37] 37 #[.slice ao N cap, .slice (some ⟨w2.heap.size, 0, none⟩) 1 1]).run Try.prog ((w2.setCell ⟨b, 6, none⟩ (.slice (some ⟨g2, 0, none⟩) (ps.length + 1) p2)).alloc (.cells #[.string ⟨#[]⟩, .int .i64 m, .bool false] 45)) = .ok (.slice (some ⟨g3, 0, none⟩) (N + 1) p3) w3 ∧
      KS (LN 2) 5 6 w0 B b C U0 l0 (N + 1) m (ps ++ [(.slice ao N cap, m)]) (lists (ps ++ [(.slice ao N cap, m)])) (marks .i64 (ps ++ [(.slice ao N cap, m)])) U' w3 (.slice (some ⟨g3, 0, none⟩) (N + 1) p3) := by
  have hN2 : N + 1 ≤ maxLen := by unfold maxLen; omega
  have r := KS.round (jr := 5) (jm := 6) (news := colM m) (LN_ok 2) LN2_run (by decide) (by omega) (by omega) (fun _ _ => rfl) (by intro u hu; simp [colM] at hu; rcases hu with rfl | rfl | rfl <;> rfl) h hps hN hN2
  exact r

set_option maxHeartbeats 2000000 in
set_option maxRecDepth 100000 in
theorem keepColumns5 (B b n : Nat) (A : Nat → Prop) (nb : Nat) (ao : Option Addr) (cap : Nat) (xs : List Value) (w : World) (hBk : Book5 w B b A nb) (hl : w.ownsRow B 45 3 (.slice ao n cap) n xs) (hlA : ∀ k, (Value.slice ao n cap).ownBlock = some k → ¬ A k)
    (hn : (n + 4) * 32 ≤ 140737488355328) (hnb : nb ≤ 90000000) :
    Calls Try.prog 27 #[.pointer (some ⟨b, 0, none⟩), .slice ao n cap] w fun e w' => e = .returned (.tuple #[]) ∧ Kept w B b A nb (Value.slice ao n cap).ownBlock w' := by
  obtain ⟨C, U0, ps, vr, vm, hBB, hCs, ⟨mk, hC0⟩, hvr, hvm, hL, hps, hUA, hUr, hBb, hclose⟩ := hBk.openL 2 (by omega)
  have N1 : Hid (Calls Try.prog 47 #[.pointer (some ⟨b, 0, none⟩)] w fun e w' => ∃ k k' : Int, e = .returned (.int .i64 k) ∧ w' = w.setCell ⟨b, 0, none⟩ (.int .i64 k')) := next_any b mk w (by rw [hBB.cell 0]; exact hC0) (hBB.fz 0)
  have hlb : (Value.slice ao n cap).ownBlock ≠ some b := fun e' => hlA b e' hBk.hasB
  have Hlb : Hid ((Value.slice ao n cap).ownBlock ≠ some b) := hlb
  have hln : xs.length = n * 3 := hl.1
  have HST : Hid (∀ (k1 m : Int) (wr : World) (ys : List Value), Fr (fun k => (Value.slice ao n cap).ownBlock = some k) (w.setCell ⟨b, 0, none⟩ (.int .i64 k1)) wr → wr.ownsRow B 45 3 (.slice ao n cap) n ys → AllEl (LN 2) wr U0 m n ys →
      KS (LN 2) 5 6 w B b (C.setIfInBounds 0 (.int .i64 k1)) U0 (Value.slice ao n cap).ownBlock n m ps (lists ps) (marks .i64 ps) U0 wr (.slice ao n cap)) := fun k1 m wr ys hf ho he =>
    KS.start (LN_ok 2) hL hBB hvr hvm (by decide) (by decide) hUr hBb _ rfl hf (fun k hk hu => hlA k hk (hUA k hu)) hlb ho (fun _ h => h) (fun _ h => .inl h) (fun k hk => (hl.lt k hk).2) he
  have HFI : Hid (∀ (k1 m : Int) (ps' : List (Value × Int)) (U' : Nat → Prop) (N : Nat) (wr : World) (vl : Value), KS (LN 2) 5 6 w B b (C.setIfInBounds 0 (.int .i64 k1)) U0 (Value.slice ao n cap).ownBlock N m ps' (lists ps') (marks .i64 ps') U' wr vl → ps'.length = ps.length + 4 → Kept w B b A nb (Value.slice ao n cap).ownBlock wr) := fun k1 m ps' U' N wr vl hK hp => by
    obtain ⟨vr', vm', f1, f2, f3, f4, f5⟩ := hK.finish
    exact hclose wr _ U' ps' vr' vm' k1 f1 f2 (by omega) f3 f4 hlA f5
  clear hBB hL hclose hUr hlA hBk hvr hvm hUA hlb
  go_enter Try.func27, Try.ntmps27
  go_wp2_with fail
  refine N1.out.mono ?_
  rintro e w1 ⟨m, k1, rfl, hw1⟩
  have hl1 : w1.ownsRow B 45 3 (.slice ao n cap) n xs := by rw [hw1]; exact ownsRow_set_other' hl Hlb.out
  have Hw1 : Hid (w1 = w.setCell ⟨b, 0, none⟩ (.int .i64 k1)) := hw1
  clear hw1
  go_wp2
  go_loopw [5] (fun i wr => ∃ (k : Nat) (ys : List Value), k ≤ n ∧ i = .int .i64 k ∧ wr.ownsRow B 45 3 (.slice ao n cap) n ys ∧ Hid (AllEl (LN 2) wr U0 m k ys) ∧ Hid (Fr (fun k => (Value.slice ao n cap).ownBlock = some k) w1 wr)) (fun i _ => n - (intOf i).toNat)
  case atStart => exact ⟨0, xs, Nat.zero_le _, rfl, hl1, fun j hj => by omega, Fr.refl _ _⟩
  case round =>
    obtain ⟨k, ys, hk, rfl, ho, Hy, Hf⟩ := hrel
    have hyl : ys.length = n * 3 := ho.1
    by_cases hk2 : k < n
    · obtain ⟨g, cp, hform, _, _⟩ := ho.form (by omega)
      simp only [Value.slice.injEq, true_and] at hform
      obtain ⟨rfl, rfl⟩ := hform
      have hst := (((ho.stored (k * 3) (.string ByteArray.empty)).1).stored (k * 3 + 1) (.int .i64 m)).1.stored (k * 3 + 2) (.bool false)
      have hc0 : wr.cell? ⟨g, k * 3, none⟩ = some ys[k * 3] := by rw [ho.cellAt _ (by omega), List.getElem?_eq_getElem (by omega)]
      have hc1 : wr.cell? ⟨g, k * 3 + 1, none⟩ = some ys[k * 3 + 1] := by rw [ho.cellAt _ (by omega), List.getElem?_eq_getElem (by omega)]
      have hc2 : wr.cell? ⟨g, k * 3 + 2, none⟩ = some ys[k * 3 + 2] := by rw [ho.cellAt _ (by omega), List.getElem?_eq_getElem (by omega)]
      have hf0 := ho.frozenAt (k * 3)
      have hf1 := ho.frozenAt (k * 3 + 1)
      have hf2 := ho.frozenAt (k * 3 + 2)
      have Hy2 : Hid (∀ W, AllEl (LN 2) W U0 m (k + 1) (((ys.set (k * 3) (.string ByteArray.empty)).set (k * 3 + 1) (.int .i64 m)).set (k * 3 + 2) (.bool false))) := fun W => el_set3 rfl (fun _ _ => rfl) (by omega) Hy.out (fun _ h => h)
      have Hf2 : Hid (Fr (fun k => (Value.slice (some ⟨g, 0, none⟩) n cap).ownBlock = some k) w1 (((wr.setCell ⟨g, k * 3, none⟩ (.string ByteArray.empty)).setCell ⟨g, k * 3 + 1, none⟩ (.int .i64 m)).setCell ⟨g, k * 3 + 2, none⟩ (.bool false))) :=
        ((Hf.out.trans Fr.set (fun j _ e' => by rw [e']; rfl)).trans Fr.set (fun j _ e' => by rw [e']; rfl)).trans Fr.set (fun j _ e' => by rw [e']; rfl)
      have Ho2 : Hid (((((wr.setCell ⟨g, k * 3, none⟩ (.string ByteArray.empty)).setCell ⟨g, k * 3 + 1, none⟩ (.int .i64 m)).setCell ⟨g, k * 3 + 2, none⟩ (.bool false))).ownsRow B 45 3 (.slice (some ⟨g, 0, none⟩) n cap) n (((ys.set (k * 3) (.string ByteArray.empty)).set (k * 3 + 1) (.int .i64 m)).set (k * 3 + 2) (.bool false))) := hst.1
      generalize ys[k * 3] = y0 at hc0
      generalize ys[k * 3 + 1] = y1 at hc1
      generalize ys[k * 3 + 2] = y2 at hc2
      clear hst Hy ho hyl
      go_wp2
      go_roundw
      case rel => exact ⟨k + 1, _, by omega, by go_num, Ho2.out, Hy2.out _, Hf2⟩
      case measure => simp [intOf]; omega
    · obtain rfl : k = n := by omega
      have HS : Hid (KS (LN 2) 5 6 w B b (C.setIfInBounds 0 (.int .i64 k1)) U0 (Value.slice ao k cap).ownBlock k m ps (lists ps) (marks .i64 ps) U0 wr (.slice ao k cap)) := HST.out k1 m wr ys (by rw [← Hw1.out]; exact Hf.out) ho Hy.out
      clear ho hyl Hy Hf hl1 hl N1
      have hcz : (C.setIfInBounds 0 (Value.int .i64 k1)).size = 11 := by simp [hCs]
      go_wp2
      go_loopw [1, 6] (fun l i wr => ∃ (j : Nat) (ao' : Option Addr) (cap' : Nat), j ≤ 4 ∧ i = .int .i64 j ∧ l = .slice ao' (k + j) cap' ∧ Hid (∃ ps' U', ps'.length = ps.length + j ∧ KS (LN 2) 5 6 w B b (C.setIfInBounds 0 (.int .i64 k1)) U0 (Value.slice ao k cap).ownBlock (k + j) m ps' (lists ps') (marks .i64 ps') U' wr (.slice ao' (k + j) cap'))) (fun _ i _ => 4 - (intOf i).toNat)
      case atStart => exact ⟨0, ao, cap, by omega, rfl, rfl, ps, U0, rfl, HS.out⟩
      case round =>
        obtain ⟨j, ao', cap', hj, rfl, rfl, HK⟩ := hrel
        by_cases hj4 : j < 4
        · obtain ⟨ps', U', hp', hK⟩ := HK.out
          obtain ⟨a1, c1, a2, c2, g1, p1, w1', g2, p2, w2, g3, p3, w3, U'', hc1, run1, hc1', hf1', hc2, run2, hc2', hf2', run3, hK⟩ := hK.round2 hcz (len_step hp' hps hnb hj4) (bound_step hn hj4)
          have HK3 : Hid (∃ ps' U', ps'.length = ps.length + (j + 1) ∧ KS (LN 2) 5 6 w B b (C.setIfInBounds 0 (.int .i64 k1)) U0 (Value.slice ao k cap).ownBlock (k + (j + 1)) m ps' (lists ps') (marks .i64 ps') U' w3 (.slice (some ⟨g3, 0, none⟩) (k + (j + 1)) p3)) := ⟨_, _, len_snoc hp', hK⟩
          have R1 : Hid ((Builtin.append_ #[27, 27] 27 #[.slice a1 ps'.length c1, .slice (some ⟨wr.heap.size, 0, none⟩) 1 1]).run Try.prog (wr.alloc (.cells #[.slice ao' (k + j) cap'] 37)) = .ok (.slice (some ⟨g1, 0, none⟩) (ps'.length + 1) p1) w1') := run1
          have R2 : Hid ((Builtin.append_ #[26, 26] 26 #[.slice a2 ps'.length c2, .slice (some ⟨w1'.heap.size, 0, none⟩) 1 1]).run Try.prog ((w1'.setCell ⟨b, 5, none⟩ (.slice (some ⟨g1, 0, none⟩) (ps'.length + 1) p1)).alloc (.cells #[.int .i64 m] 3)) = .ok (.slice (some ⟨g2, 0, none⟩) (ps'.length + 1) p2) w2) := run2
          have R3 : Hid ((Builtin.append_ #[37, 37] 37 #[.slice ao' (k + j) cap', .slice (some ⟨w2.heap.size, 0, none⟩) 1 1]).run Try.prog ((w2.setCell ⟨b, 6, none⟩ (.slice (some ⟨g2, 0, none⟩) (ps'.length + 1) p2)).alloc (.cells #[.string ⟨#[]⟩, .int .i64 m, .bool false] 45)) = .ok (.slice (some ⟨g3, 0, none⟩) (k + j + 1) p3) w3) := run3
          clear hK run1 run2 run3 HK HS hp'
          go_wp2_with (first | (at_builtin; refine wpList_append_run rfl (.tmp 29) (.tmp 31) 27 27 rfl _ _ _ rfl rfl R1.out ?_) | (at_builtin; refine wpList_append_run rfl (.tmp 39) (.tmp 41) 26 26 rfl _ _ _ rfl rfl R2.out ?_) | (at_builtin; refine wpList_append_run rfl (.tmp 45) (.tmp 48) 37 37 rfl _ _ _ rfl rfl R3.out ?_) | go_in)
          go_roundw
          case rel => exact ⟨j + 1, some ⟨g3, 0, none⟩, p3, by omega, by go_num, rfl, HK3⟩
          case measure => simp [intOf]; omega
        · obtain rfl : j = 4 := by omega
          have HF : Kept w B b A nb (Value.slice ao k cap).ownBlock wr := by
            obtain ⟨ps', U', hp', hK⟩ := HK.out
            exact HFI.out k1 m ps' U' _ wr _ hK hp'
          go_wp2
          go_end0
          exact ⟨rfl, HF⟩
end Go.Proofs.Ytjobhlncllfdmaa

/- keepCells: its contract. -/
namespace Go.Proofs.Ytjobhlncllfdmaa
open Go.RowKit

theorem Try.info64 : (Try.prog.info? 64).map (fun i => (i.zero, i.size, i.bytes)) = some (some (.slice none 0 0), 1, 24) := by kernel_rfl
theorem Try.info66 : (Try.prog.info? 66).map (fun i => (i.zero, i.size, i.bytes)) = some (some (.agg #[.bool false, .int .i64 0, .string ByteArray.empty]), 3, 32) := by kernel_rfl

theorem LN3_run : LPrun (LN 3) 28 26 32 8 := by
  obtain ⟨i, a1, a2, a3, a4⟩ := info_parts Try.info64
  obtain ⟨j, b1, b2, b3, b4⟩ := info_parts Try.info3
  obtain ⟨k, d1, d2, d3, d4⟩ := info_parts Try.info66
  exact ⟨Try.underlying28, ⟨i, a1, a2, a3, a4⟩, Try.underlying64, ⟨k, _, d1, d2, d3, d4, rfl⟩, Try.underlying26, ⟨j, b1, b2, b3, b4⟩, by omega⟩

theorem KS.round3 {w0 wr : World} {B b : Nat} {C : Array Value} {U0 U : Nat → Prop} {l0 : Option Nat} {N : Nat} {m : Int} {ps : List (Value × Int)} {ao : Option Addr} {cap : Nat}
    (hC : C.size = 11) (h : KS (LN 3) 7 8 w0 B b C U0 l0 N m ps (lists ps) (marks .i64 ps) U wr (.slice ao N cap)) (hps : ps.length ≤ 100000000) (hN : (N + 1) * 32 ≤ 140737488355328) :
    ∃ a1 c1 a2 c2 g1 p1 w1 g2 p2 w2 g3 p3 w3 U',
      wr.cell? ⟨b, 7, none⟩ = some (.slice a1 ps.length c1) ∧
      (Builtin.append_ #[28, 28] 28 #[.slice a1 ps.length c1, .slice (some ⟨wr.heap.size, 0, none⟩) 1 1]).run Try.prog (wr.alloc (.cells #[.slice ao N cap] 64)) = .ok (.slice (some ⟨g1, 0, none⟩) (ps.length + 1) p1) w1 ∧
      w1.cell? ⟨b, 7, none⟩ = some (.slice a1 ps.length c1) ∧ w1.frozen? ⟨b, 7, none⟩ = false ∧
      (w1.setCell ⟨b, 7, none⟩ (.slice (some ⟨g1, 0, none⟩) (ps.length + 1) p1)).cell? ⟨b, 8, none⟩ = some (.slice a2 ps.length c2) ∧
      (Builtin.append_ #[26, 26] 26 #[.slice a2 ps.length c2, .slice (some ⟨w1.heap.size, 0, none⟩) 1 1]).run Try.prog ((w1.setCell ⟨b, 7, none⟩ (.slice (some ⟨g1, 0, none⟩) (ps.length + 1) p1)).alloc (.cells #[.int .i64 m] 3)) = .ok (.slice (some ⟨g2, 0, none⟩) (ps.length + 1) p2) w2 ∧
      w2.cell? ⟨b, 8, none⟩ = some (.slice a2 ps.length c2) ∧ w2.frozen? ⟨b, 8, none⟩ = false ∧
      (Builtin.append_ #[64, 64] 64 #[.slice ao N cap, .slice (some ⟨w2.heap.size, 0, none⟩) 1 1]).run Try.prog ((w2.setCell ⟨b, 8, none⟩ (.slice (some ⟨g2, 0, none⟩) (ps.length + 1) p2)).alloc (.cells #[.bool false, .int .i64 m, .string ⟨#[]⟩] 66)) = .ok (.slice (some ⟨g3, 0, none⟩) (N + 1) p3) w3 ∧
      KS (LN 3) 7 8 w0 B b C U0 l0 (N + 1) m (ps ++ [(.slice ao N cap, m)]) (lists (ps ++ [(.slice ao N cap, m)])) (marks .i64 (ps ++ [(.slice ao N cap, m)])) U' w3 (.slice (some ⟨g3, 0, none⟩) (N + 1) p3) := by
  have hN2 : N + 1 ≤ maxLen := by unfold maxLen; omega
  have r := KS.round (jr := 7) (jm := 8) (news := cellM m) (LN_ok 3) LN3_run (by decide) (by omega) (by omega) (fun _ _ => rfl) (by intro u hu; simp [cellM] at hu; rcases hu with rfl | rfl | rfl <;> rfl) h hps hN hN2
  exact r

set_option maxHeartbeats 2000000 in
set_option maxRecDepth 100000 in
theorem keepCells5 (B b n : Nat) (A : Nat → Prop) (nb : Nat) (ao : Option Addr) (cap : Nat) (xs : List Value) (w : World) (hBk : Book5 w B b A nb) (hl : w.ownsRow B 66 3 (.slice ao n cap) n xs) (hlA : ∀ k, (Value.slice ao n cap).ownBlock = some k → ¬ A k)
    (hn : (n + 4) * 32 ≤ 140737488355328) (hnb : nb ≤ 90000000) :
    Calls Try.prog 76 #[.pointer (some ⟨b, 0, none⟩), .slice ao n cap] w fun e w' => e = .returned (.tuple #[]) ∧ Kept w B b A nb (Value.slice ao n cap).ownBlock w' := by
  obtain ⟨C, U0, ps, vr, vm, hBB, hCs, ⟨mk, hC0⟩, hvr, hvm, hL, hps, hUA, hUr, hBb, hclose⟩ := hBk.openL 3 (by omega)
  have N1 : Hid (Calls Try.prog 47 #[.pointer (some ⟨b, 0, none⟩)] w fun e w' => ∃ k k' : Int, e = .returned (.int .i64 k) ∧ w' = w.setCell ⟨b, 0, none⟩ (.int .i64 k')) := next_any b mk w (by rw [hBB.cell 0]; exact hC0) (hBB.fz 0)
  have hlb : (Value.slice ao n cap).ownBlock ≠ some b := fun e' => hlA b e' hBk.hasB
  have Hlb : Hid ((Value.slice ao n cap).ownBlock ≠ some b) := hlb
  have hln : xs.length = n * 3 := hl.1
  have HST : Hid (∀ (k1 m : Int) (wr : World) (ys : List Value), Fr (fun k => (Value.slice ao n cap).ownBlock = some k) (w.setCell ⟨b, 0, none⟩ (.int .i64 k1)) wr → wr.ownsRow B 66 3 (.slice ao n cap) n ys → AllEl (LN 3) wr U0 m n ys →
      KS (LN 3) 7 8 w B b (C.setIfInBounds 0 (.int .i64 k1)) U0 (Value.slice ao n cap).ownBlock n m ps (lists ps) (marks .i64 ps) U0 wr (.slice ao n cap)) := fun k1 m wr ys hf ho he =>
    KS.start (LN_ok 3) hL hBB hvr hvm (by decide) (by decide) hUr hBb _ rfl hf (fun k hk hu => hlA k hk (hUA k hu)) hlb ho (fun _ h => h) (fun _ h => .inl h) (fun k hk => (hl.lt k hk).2) he
  have HFI : Hid (∀ (k1 m : Int) (ps' : List (Value × Int)) (U' : Nat → Prop) (N : Nat) (wr : World) (vl : Value), KS (LN 3) 7 8 w B b (C.setIfInBounds 0 (.int .i64 k1)) U0 (Value.slice ao n cap).ownBlock N m ps' (lists ps') (marks .i64 ps') U' wr vl → ps'.length = ps.length + 4 → Kept w B b A nb (Value.slice ao n cap).ownBlock wr) := fun k1 m ps' U' N wr vl hK hp => by
    obtain ⟨vr', vm', f1, f2, f3, f4, f5⟩ := hK.finish
    exact hclose wr _ U' ps' vr' vm' k1 f1 f2 (by omega) f3 f4 hlA f5
  clear hBB hL hclose hUr hlA hBk hvr hvm hUA hlb
  go_enter Try.func76, Try.ntmps76
  go_wp2_with fail
  refine N1.out.mono ?_
  rintro e w1 ⟨m, k1, rfl, hw1⟩
  have hl1 : w1.ownsRow B 66 3 (.slice ao n cap) n xs := by rw [hw1]; exact ownsRow_set_other' hl Hlb.out
  have Hw1 : Hid (w1 = w.setCell ⟨b, 0, none⟩ (.int .i64 k1)) := hw1
  clear hw1
  go_wp2
  go_loopw [5] (fun i wr => ∃ (k : Nat) (ys : List Value), k ≤ n ∧ i = .int .i64 k ∧ wr.ownsRow B 66 3 (.slice ao n cap) n ys ∧ Hid (AllEl (LN 3) wr U0 m k ys) ∧ Hid (Fr (fun k => (Value.slice ao n cap).ownBlock = some k) w1 wr)) (fun i _ => n - (intOf i).toNat)
  case atStart => exact ⟨0, xs, Nat.zero_le _, rfl, hl1, fun j hj => by omega, Fr.refl _ _⟩
  case round =>
    obtain ⟨k, ys, hk, rfl, ho, Hy, Hf⟩ := hrel
    have hyl : ys.length = n * 3 := ho.1
    by_cases hk2 : k < n
    · obtain ⟨g, cp, hform, _, _⟩ := ho.form (by omega)
      simp only [Value.slice.injEq, true_and] at hform
      obtain ⟨rfl, rfl⟩ := hform
      have hst := (((ho.stored (k * 3) (.bool false)).1).stored (k * 3 + 1) (.int .i64 m)).1.stored (k * 3 + 2) (.string ByteArray.empty)
      have hc0 : wr.cell? ⟨g, k * 3, none⟩ = some ys[k * 3] := by rw [ho.cellAt _ (by omega), List.getElem?_eq_getElem (by omega)]
      have hc1 : wr.cell? ⟨g, k * 3 + 1, none⟩ = some ys[k * 3 + 1] := by rw [ho.cellAt _ (by omega), List.getElem?_eq_getElem (by omega)]
      have hc2 : wr.cell? ⟨g, k * 3 + 2, none⟩ = some ys[k * 3 + 2] := by rw [ho.cellAt _ (by omega), List.getElem?_eq_getElem (by omega)]
      have hf0 := ho.frozenAt (k * 3)
      have hf1 := ho.frozenAt (k * 3 + 1)
      have hf2 := ho.frozenAt (k * 3 + 2)
      have Hy2 : Hid (∀ W, AllEl (LN 3) W U0 m (k + 1) (((ys.set (k * 3) (.bool false)).set (k * 3 + 1) (.int .i64 m)).set (k * 3 + 2) (.string ByteArray.empty))) := fun W => el_set3 rfl (fun _ _ => rfl) (by omega) Hy.out (fun _ h => h)
      have Hf2 : Hid (Fr (fun k => (Value.slice (some ⟨g, 0, none⟩) n cap).ownBlock = some k) w1 (((wr.setCell ⟨g, k * 3, none⟩ (.bool false)).setCell ⟨g, k * 3 + 1, none⟩ (.int .i64 m)).setCell ⟨g, k * 3 + 2, none⟩ (.string ByteArray.empty))) :=
        ((Hf.out.trans Fr.set (fun j _ e' => by rw [e']; rfl)).trans Fr.set (fun j _ e' => by rw [e']; rfl)).trans Fr.set (fun j _ e' => by rw [e']; rfl)
      have Ho2 : Hid (((((wr.setCell ⟨g, k * 3, none⟩ (.bool false)).setCell ⟨g, k * 3 + 1, none⟩ (.int .i64 m)).setCell ⟨g, k * 3 + 2, none⟩ (.string ByteArray.empty))).ownsRow B 66 3 (.slice (some ⟨g, 0, none⟩) n cap) n (((ys.set (k * 3) (.bool false)).set (k * 3 + 1) (.int .i64 m)).set (k * 3 + 2) (.string ByteArray.empty))) := hst.1
      generalize ys[k * 3] = y0 at hc0
      generalize ys[k * 3 + 1] = y1 at hc1
      generalize ys[k * 3 + 2] = y2 at hc2
      clear hst Hy ho hyl
      go_wp2
      go_roundw
      case rel => exact ⟨k + 1, _, by omega, by go_num, Ho2.out, Hy2.out _, Hf2⟩
      case measure => simp [intOf]; omega
    · obtain rfl : k = n := by omega
      have HS : Hid (KS (LN 3) 7 8 w B b (C.setIfInBounds 0 (.int .i64 k1)) U0 (Value.slice ao k cap).ownBlock k m ps (lists ps) (marks .i64 ps) U0 wr (.slice ao k cap)) := HST.out k1 m wr ys (by rw [← Hw1.out]; exact Hf.out) ho Hy.out
      clear ho hyl Hy Hf hl1 hl N1
      have hcz : (C.setIfInBounds 0 (Value.int .i64 k1)).size = 11 := by simp [hCs]
      go_wp2
      go_loopw [1, 6] (fun l i wr => ∃ (j : Nat) (ao' : Option Addr) (cap' : Nat), j ≤ 4 ∧ i = .int .i64 j ∧ l = .slice ao' (k + j) cap' ∧ Hid (∃ ps' U', ps'.length = ps.length + j ∧ KS (LN 3) 7 8 w B b (C.setIfInBounds 0 (.int .i64 k1)) U0 (Value.slice ao k cap).ownBlock (k + j) m ps' (lists ps') (marks .i64 ps') U' wr (.slice ao' (k + j) cap'))) (fun _ i _ => 4 - (intOf i).toNat)
      case atStart => exact ⟨0, ao, cap, by omega, rfl, rfl, ps, U0, rfl, HS.out⟩
      case round =>
        obtain ⟨j, ao', cap', hj, rfl, rfl, HK⟩ := hrel
        by_cases hj4 : j < 4
        · obtain ⟨ps', U', hp', hK⟩ := HK.out
          obtain ⟨a1, c1, a2, c2, g1, p1, w1', g2, p2, w2, g3, p3, w3, U'', hc1, run1, hc1', hf1', hc2, run2, hc2', hf2', run3, hK⟩ := hK.round3 hcz (len_step hp' hps hnb hj4) (bound_step hn hj4)
          have HK3 : Hid (∃ ps' U', ps'.length = ps.length + (j + 1) ∧ KS (LN 3) 7 8 w B b (C.setIfInBounds 0 (.int .i64 k1)) U0 (Value.slice ao k cap).ownBlock (k + (j + 1)) m ps' (lists ps') (marks .i64 ps') U' w3 (.slice (some ⟨g3, 0, none⟩) (k + (j + 1)) p3)) := ⟨_, _, len_snoc hp', hK⟩
          have R1 : Hid ((Builtin.append_ #[28, 28] 28 #[.slice a1 ps'.length c1, .slice (some ⟨wr.heap.size, 0, none⟩) 1 1]).run Try.prog (wr.alloc (.cells #[.slice ao' (k + j) cap'] 64)) = .ok (.slice (some ⟨g1, 0, none⟩) (ps'.length + 1) p1) w1') := run1
          have R2 : Hid ((Builtin.append_ #[26, 26] 26 #[.slice a2 ps'.length c2, .slice (some ⟨w1'.heap.size, 0, none⟩) 1 1]).run Try.prog ((w1'.setCell ⟨b, 7, none⟩ (.slice (some ⟨g1, 0, none⟩) (ps'.length + 1) p1)).alloc (.cells #[.int .i64 m] 3)) = .ok (.slice (some ⟨g2, 0, none⟩) (ps'.length + 1) p2) w2) := run2
          have R3 : Hid ((Builtin.append_ #[64, 64] 64 #[.slice ao' (k + j) cap', .slice (some ⟨w2.heap.size, 0, none⟩) 1 1]).run Try.prog ((w2.setCell ⟨b, 8, none⟩ (.slice (some ⟨g2, 0, none⟩) (ps'.length + 1) p2)).alloc (.cells #[.bool false, .int .i64 m, .string ⟨#[]⟩] 66)) = .ok (.slice (some ⟨g3, 0, none⟩) (k + j + 1) p3) w3) := run3
          clear hK run1 run2 run3 HK HS hp'
          go_wp2_with (first | (at_builtin; refine wpList_append_run rfl (.tmp 29) (.tmp 31) 28 28 rfl _ _ _ rfl rfl R1.out ?_) | (at_builtin; refine wpList_append_run rfl (.tmp 39) (.tmp 41) 26 26 rfl _ _ _ rfl rfl R2.out ?_) | (at_builtin; refine wpList_append_run rfl (.tmp 45) (.tmp 48) 64 64 rfl _ _ _ rfl rfl R3.out ?_) | go_in)
          go_roundw
          case rel => exact ⟨j + 1, some ⟨g3, 0, none⟩, p3, by omega, by go_num, rfl, HK3⟩
          case measure => simp [intOf]; omega
        · obtain rfl : j = 4 := by omega
          have HF : Kept w B b A nb (Value.slice ao k cap).ownBlock wr := by
            obtain ⟨ps', U', hp', hK⟩ := HK.out
            exact HFI.out k1 m ps' U' _ wr _ hK hp'
          go_wp2
          go_end0
          exact ⟨rfl, HF⟩
end Go.Proofs.Ytjobhlncllfdmaa
