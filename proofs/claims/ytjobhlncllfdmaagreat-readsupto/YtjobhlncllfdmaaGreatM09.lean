/- One round of keeping a list; the lanes' types. -/
import Derived.Test.YtjobhlncllfdmaaGreatM08
namespace Go.Proofs.YtjobhlncllfdmaaGreat
open Go.RowKit

theorem Tryz.info22 : (Tryz.prog.info? 22).map (fun i => (i.zero, i.size, i.bytes)) = some (some (.slice none 0 0), 1, 24) := by kernel_rfl

theorem lists_snoc (ps : List (Value × Int)) (v : Value) (m : Int) : lists (ps ++ [(v, m)]) = lists ps ++ [v] := by simp [lists]
theorem marks_snoc (kd : IntKind) (ps : List (Value × Int)) (v : Value) (m : Int) : marks kd (ps ++ [(v, m)]) = marks kd ps ++ [.int kd m] := by simp [marks]
theorem length_lists (ps : List (Value × Int)) : (lists ps).length = ps.length := by simp [lists]
theorem length_marks (kd : IntKind) (ps : List (Value × Int)) : (marks kd ps).length = ps.length := by simp [marks]

/-- one round, where what reads as a mark hangs on nothing else -/
theorem KS.round {P : LP} {EE EM by' bm jr jm : Nat} {w0 wr : World} {B b : Nat} {C : Array Value} {U0 U : Nat → Prop} {l0 : Option Nat} {N : Nat} {m : Int} {ps : List (Value × Int)} {ao : Option Addr} {cap : Nat} {news : List Value}
    (ok : LPok P) (run : LPrun P EE EM by' bm) (hj : jr ≠ jm) (hr : jr < C.size) (hm : jm < C.size) (hel : ∀ w U, P.el w U m news) (hone : ∀ u ∈ news, u.oneCell' = true) (h : KS P jr jm w0 B b C U0 l0 N m ps (lists ps) (marks P.kd ps) U wr (.slice ao N cap)) (hps : ps.length ≤ 1000000)
    (hN : (N + 1) * by' ≤ 140737488355328) (hN2 : N + 1 ≤ maxLen) :
    ∃ a1 c1 a2 c2 g1 p1 w1 g2 p2 w2 g3 p3 w3 U',
      wr.cell? ⟨b, jr, none⟩ = some (.slice a1 ps.length c1) ∧
      (Builtin.append_ #[EE, EE] EE #[.slice a1 ps.length c1, .slice (some ⟨wr.heap.size, 0, none⟩) 1 1]).run Tryz.prog (wr.alloc (.cells #[.slice ao N cap] P.E)) = .ok (.slice (some ⟨g1, 0, none⟩) (ps.length + 1) p1) w1 ∧
      w1.cell? ⟨b, jr, none⟩ = some (.slice a1 ps.length c1) ∧ w1.frozen? ⟨b, jr, none⟩ = false ∧
      (w1.setCell ⟨b, jr, none⟩ (.slice (some ⟨g1, 0, none⟩) (ps.length + 1) p1)).cell? ⟨b, jm, none⟩ = some (.slice a2 ps.length c2) ∧
      (Builtin.append_ #[EM, EM] EM #[.slice a2 ps.length c2, .slice (some ⟨w1.heap.size, 0, none⟩) 1 1]).run Tryz.prog ((w1.setCell ⟨b, jr, none⟩ (.slice (some ⟨g1, 0, none⟩) (ps.length + 1) p1)).alloc (.cells #[.int P.kd m] P.em)) = .ok (.slice (some ⟨g2, 0, none⟩) (ps.length + 1) p2) w2 ∧
      w2.cell? ⟨b, jm, none⟩ = some (.slice a2 ps.length c2) ∧ w2.frozen? ⟨b, jm, none⟩ = false ∧
      (Builtin.append_ #[P.E, P.E] P.E #[.slice ao N cap, .slice (some ⟨w2.heap.size, 0, none⟩) 1 1]).run Tryz.prog ((w2.setCell ⟨b, jm, none⟩ (.slice (some ⟨g2, 0, none⟩) (ps.length + 1) p2)).alloc (.cells news.toArray P.e)) = .ok (.slice (some ⟨g3, 0, none⟩) (N + 1) p3) w3 ∧
      KS P jr jm w0 B b C U0 l0 (N + 1) m (ps ++ [(.slice ao N cap, m)]) (lists (ps ++ [(.slice ao N cap, m)])) (marks P.kd (ps ++ [(.slice ao N cap, m)])) U' w3 (.slice (some ⟨g3, 0, none⟩) (N + 1) p3) := by
  have e1 := length_lists ps
  have e2 := length_marks P.kd ps
  obtain ⟨a1, c1, g1, p1, w1, U1, hc1, r1, hc1', hf1, h1⟩ := KS.stepA ok run hj hr h (by omega)
  rw [e1] at hc1 r1 hc1' h1
  obtain ⟨a2, c2, g2, p2, w2, U2, hc2, r2, hc2', hf2, h2⟩ := KS.stepB ok run hj hm h1 (by omega)
  rw [e2] at hc2 r2 hc2' h2
  rw [size_set] at r2
  obtain ⟨g3, p3, w3, U3, r3, h3⟩ := KS.stepC ok run h2 (hel _ _) hone hN hN2
  rw [size_set] at r3
  rw [lists_snoc, marks_snoc]
  exact ⟨a1, c1, a2, c2, g1, p1, w1, g2, p2, w2, g3, p3, w3, U3, hc1, r1, hc1', hf1, hc2, r2, hc2', hf2, r3, h3⟩

theorem LN0_run : LPrun (LN 0) 24 25 1 1 := by
  obtain ⟨i, a1, a2, a3, a4⟩ := info_parts Tryz.info25
  obtain ⟨j, b1, b2, b3, b4⟩ := info_parts Tryz.info5
  exact ⟨Tryz.underlying24, ⟨i, a1, a2, a3, a4⟩, Tryz.underlying25, ⟨j, _, b1, b2, b3, b4, rfl⟩, Tryz.underlying25, ⟨j, b1, b2, b3, b4⟩, by omega⟩
theorem LN1_run : LPrun (LN 1) 26 27 8 8 := by
  obtain ⟨i, a1, a2, a3, a4⟩ := info_parts Tryz.info27
  obtain ⟨j, b1, b2, b3, b4⟩ := info_parts Tryz.info3
  exact ⟨Tryz.underlying26, ⟨i, a1, a2, a3, a4⟩, Tryz.underlying27, ⟨j, _, b1, b2, b3, b4, rfl⟩, Tryz.underlying27, ⟨j, b1, b2, b3, b4⟩, by omega⟩
theorem LN2_run : LPrun (LN 2) 28 27 32 8 := by
  obtain ⟨i, a1, a2, a3, a4⟩ := info_parts Tryz.info22
  obtain ⟨j, b1, b2, b3, b4⟩ := info_parts Tryz.info3
  obtain ⟨k, d1, d2, d3, d4⟩ := info_parts Tryz.info54
  exact ⟨Tryz.underlying28, ⟨i, a1, a2, a3, a4⟩, Tryz.underlying22, ⟨k, _, d1, d2, d3, d4, rfl⟩, Tryz.underlying27, ⟨j, b1, b2, b3, b4⟩, by omega⟩

/-- one place of one cell is written -/
theorem el_set1 {P : LP} {w w' : World} {U U' : Nat → Prop} {m : Int} {k : Nat} {ys : List Value} {x : Value} (hsz : P.sz = 1) (hel : ∀ w U, P.el w U m [x]) (hk : k < ys.length) (h : AllEl P w U m k ys) (hst : ∀ xs, P.el w U m xs → P.el w' U' m xs) : AllEl P w' U' m (k + 1) (ys.set k x) := by
  intro j hj
  rw [hsz, Nat.mul_one]
  by_cases hjk : j = k
  · subst hjk
    have : ((ys.set j x).drop j).take 1 = [x] := by
      rw [List.drop_eq_getElem_cons (by simpa using hk), List.take_succ_cons]; simp
    rw [this]; exact hel _ _
  · have hh := h j (by omega)
    rw [hsz, Nat.mul_one] at hh
    have : ((ys.set k x).drop j).take 1 = (ys.drop j).take 1 := by
      rw [List.drop_eq_getElem_cons (by simp; omega), List.drop_eq_getElem_cons (show j < ys.length by omega), List.take_succ_cons, List.take_succ_cons]
      simp [Ne.symm hjk]
    rw [this]
    exact hst _ hh

/-- one place of three cells is written -/
theorem el_set3 {P : LP} {w w' : World} {U U' : Nat → Prop} {m : Int} {k : Nat} {ys : List Value} {x y z : Value} (hsz : P.sz = 3) (hel : ∀ w U, P.el w U m [x, y, z]) (hk : k * 3 + 2 < ys.length) (h : AllEl P w U m k ys) (hst : ∀ xs, P.el w U m xs → P.el w' U' m xs) : AllEl P w' U' m (k + 1) (((ys.set (k * 3) x).set (k * 3 + 1) y).set (k * 3 + 2) z) := by
  have hget : ∀ (L : List Value) (j : Nat), j * 3 + 2 < L.length → (L.drop (j * 3)).take 3 = [L[j * 3]?.getD (.bool false), L[j * 3 + 1]?.getD (.bool false), L[j * 3 + 2]?.getD (.bool false)] := by
    intro L j hj
    rw [List.drop_eq_getElem_cons (by omega), List.take_succ_cons, List.drop_eq_getElem_cons (by omega), List.take_succ_cons, List.drop_eq_getElem_cons (by omega), List.take_succ_cons]
    simp [List.getElem?_eq_getElem (show j * 3 < L.length by omega), List.getElem?_eq_getElem (show j * 3 + 1 < L.length by omega), List.getElem?_eq_getElem (show j * 3 + 1 + 1 < L.length by omega)]
  intro j hj
  rw [hsz, hget _ j (by simp; omega)]
  by_cases hjk : j = k
  · subst hjk
    have e : [((((ys.set (j * 3) x).set (j * 3 + 1) y).set (j * 3 + 2) z))[j * 3]?.getD (.bool false), ((((ys.set (j * 3) x).set (j * 3 + 1) y).set (j * 3 + 2) z))[j * 3 + 1]?.getD (.bool false), ((((ys.set (j * 3) x).set (j * 3 + 1) y).set (j * 3 + 2) z))[j * 3 + 2]?.getD (.bool false)] = [x, y, z] := by
      simp [show j * 3 < ys.length by omega, show j * 3 + 1 < ys.length by omega, show j * 3 + 2 < ys.length by omega]
    rw [e]; exact hel _ _
  · have hh := h j (by omega)
    rw [hsz, hget _ j (by omega)] at hh
    have e : ∀ i, i < 3 → ((((ys.set (k * 3) x).set (k * 3 + 1) y).set (k * 3 + 2) z))[j * 3 + i]? = ys[j * 3 + i]? := by
      intro i hi
      rw [List.getElem?_set_ne (by omega), List.getElem?_set_ne (by omega), List.getElem?_set_ne (by omega)]
    rw [show j * 3 = j * 3 + 0 by omega, e 0 (by omega), Nat.add_zero, e 1 (by omega), e 2 (by omega)]
    exact hst _ hh

end Go.Proofs.YtjobhlncllfdmaaGreat

/- keepColumns: its contract. -/
namespace Go.Proofs.YtjobhlncllfdmaaGreat
open Go.RowKit

/-- what the keeping of a list leaves -/
def Kept (w : World) (B b : Nat) (A : Nat → Prop) (nb : Nat) (l0 : Option Nat) (w' : World) : Prop :=
  ∃ A', Book5 w' B b A' (nb + 4) ∧ (∀ k, A' k → A k ∨ l0 = some k ∨ w.heap.size ≤ k) ∧ Fr (fun k => A k ∨ l0 = some k) w w'

theorem bound_step {k j c M : Nat} (h : (k + 4) * c ≤ M) (hj : j < 4) : (k + j + 1) * c ≤ M := Nat.le_trans (Nat.mul_le_mul_right _ (by omega)) h
theorem len_step {a b j n : Nat} (h : a = b + j) (hb : b ≤ n) (hn : n ≤ 900000) (hj : j < 4) : a ≤ 1000000 := by omega
theorem len_snoc {ps : List (Value × Int)} {x : Value × Int} {n j : Nat} (h : ps.length = n + j) : (ps ++ [x]).length = n + (j + 1) := by simp; omega

theorem KS.round2 {w0 wr : World} {B b : Nat} {C : Array Value} {U0 U : Nat → Prop} {l0 : Option Nat} {N : Nat} {m : Int} {ps : List (Value × Int)} {ao : Option Addr} {cap : Nat}
    (hC : C.size = 11) (h : KS (LN 2) 5 6 w0 B b C U0 l0 N m ps (lists ps) (marks .i64 ps) U wr (.slice ao N cap)) (hps : ps.length ≤ 1000000) (hN : (N + 1) * 32 ≤ 140737488355328) :
    ∃ a1 c1 a2 c2 g1 p1 w1 g2 p2 w2 g3 p3 w3 U',
      wr.cell? ⟨b, 5, none⟩ = some (.slice a1 ps.length c1) ∧
      (Builtin.append_ #[28, 28] 28 #[.slice a1 ps.length c1, .slice (some ⟨wr.heap.size, 0, none⟩) 1 1]).run Tryz.prog (wr.alloc (.cells #[.slice ao N cap] 22)) = .ok (.slice (some ⟨g1, 0, none⟩) (ps.length + 1) p1) w1 ∧
      w1.cell? ⟨b, 5, none⟩ = some (.slice a1 ps.length c1) ∧ w1.frozen? ⟨b, 5, none⟩ = false ∧
      (w1.setCell ⟨b, 5, none⟩ (.slice (some ⟨g1, 0, none⟩) (ps.length + 1) p1)).cell? ⟨b, 6, none⟩ = some (.slice a2 ps.length c2) ∧
      (Builtin.append_ #[27, 27] 27 #[.slice a2 ps.length c2, .slice (some ⟨w1.heap.size, 0, none⟩) 1 1]).run Tryz.prog ((w1.setCell ⟨b, 5, none⟩ (.slice (some ⟨g1, 0, none⟩) (ps.length + 1) p1)).alloc (.cells #[.int .i64 m] 3)) = .ok (.slice (some ⟨g2, 0, none⟩) (ps.length + 1) p2) w2 ∧
      w2.cell? ⟨b, 6, none⟩ = some (.slice a2 ps.length c2) ∧ w2.frozen? ⟨b, 6, none⟩ = false ∧
      (Builtin.append_ #[22, 22] 22 #[.slice ao N cap, .slice (some ⟨w2.heap.size, 0, none⟩) 1 1]).run Tryz.prog ((w2.setCell ⟨b, 6, none⟩ (.slice (some ⟨g2, 0, none⟩) (ps.length + 1) p2)).alloc (.cells #[.string ⟨#[]⟩, .int .i64 m, .bool false] 54)) = .ok (.slice (some ⟨g3, 0, none⟩) (N + 1) p3) w3 ∧
      KS (LN 2) 5 6 w0 B b C U0 l0 (N + 1) m (ps ++ [(.slice ao N cap, m)]) (lists (ps ++ [(.slice ao N cap, m)])) (marks .i64 (ps ++ [(.slice ao N cap, m)])) U' w3 (.slice (some ⟨g3, 0, none⟩) (N + 1) p3) := by
  have hN2 : N + 1 ≤ maxLen := by unfold maxLen; omega
  have r := KS.round (jr := 5) (jm := 6) (news := colM m) (LN_ok 2) LN2_run (by decide) (by omega) (by omega) (fun _ _ => rfl) (by intro u hu; simp [colM] at hu; rcases hu with rfl | rfl | rfl <;> rfl) h hps hN hN2
  exact r

set_option maxHeartbeats 2000000 in
set_option maxRecDepth 100000 in
theorem keepColumns5 (B b n : Nat) (A : Nat → Prop) (nb : Nat) (ao : Option Addr) (cap : Nat) (xs : List Value) (w : World) (hBk : Book5 w B b A nb) (hl : w.ownsRow B 54 3 (.slice ao n cap) n xs) (hlA : ∀ k, (Value.slice ao n cap).ownBlock = some k → ¬ A k)
    (hn : (n + 4) * 32 ≤ 140737488355328) (hnb : nb ≤ 900000) :
    Calls Tryz.prog 22 #[.pointer (some ⟨b, 0, none⟩), .slice ao n cap] w fun e w' => e = .returned (.tuple #[]) ∧ Kept w B b A nb (Value.slice ao n cap).ownBlock w' := by
  obtain ⟨C, U0, ps, vr, vm, hBB, hCs, ⟨mk, hC0⟩, hvr, hvm, hL, hps, hUA, hUr, hBb, hclose⟩ := hBk.openL 2 (by omega)
  have N1 : Hid (Calls Tryz.prog 42 #[.pointer (some ⟨b, 0, none⟩)] w fun e w' => ∃ k k' : Int, e = .returned (.int .i64 k) ∧ w' = w.setCell ⟨b, 0, none⟩ (.int .i64 k')) := next_any b mk w (by rw [hBB.cell 0]; exact hC0) (hBB.fz 0)
  have hlb : (Value.slice ao n cap).ownBlock ≠ some b := fun e' => hlA b e' hBk.hasB
  have Hlb : Hid ((Value.slice ao n cap).ownBlock ≠ some b) := hlb
  have hln : xs.length = n * 3 := hl.1
  have HST : Hid (∀ (k1 m : Int) (wr : World) (ys : List Value), Fr (fun k => (Value.slice ao n cap).ownBlock = some k) (w.setCell ⟨b, 0, none⟩ (.int .i64 k1)) wr → wr.ownsRow B 54 3 (.slice ao n cap) n ys → AllEl (LN 2) wr U0 m n ys →
      KS (LN 2) 5 6 w B b (C.setIfInBounds 0 (.int .i64 k1)) U0 (Value.slice ao n cap).ownBlock n m ps (lists ps) (marks .i64 ps) U0 wr (.slice ao n cap)) := fun k1 m wr ys hf ho he =>
    KS.start (LN_ok 2) hL hBB hvr hvm (by decide) (by decide) hUr hBb _ rfl hf (fun k hk hu => hlA k hk (hUA k hu)) hlb ho (fun _ h => h) (fun _ h => .inl h) (fun k hk => (hl.lt k hk).2) he
  have HFI : Hid (∀ (k1 m : Int) (ps' : List (Value × Int)) (U' : Nat → Prop) (N : Nat) (wr : World) (vl : Value), KS (LN 2) 5 6 w B b (C.setIfInBounds 0 (.int .i64 k1)) U0 (Value.slice ao n cap).ownBlock N m ps' (lists ps') (marks .i64 ps') U' wr vl → ps'.length = ps.length + 4 → Kept w B b A nb (Value.slice ao n cap).ownBlock wr) := fun k1 m ps' U' N wr vl hK hp => by
    obtain ⟨vr', vm', f1, f2, f3, f4, f5⟩ := hK.finish
    exact hclose wr _ U' ps' vr' vm' k1 f1 f2 (by omega) f3 f4 hlA f5
  clear hBB hL hclose hUr hlA hBk hvr hvm hUA hlb
  go_enter Tryz.func22, Tryz.ntmps22
  go_wp2_with fail
  refine N1.out.mono ?_
  rintro e w1 ⟨m, k1, rfl, hw1⟩
  have hl1 : w1.ownsRow B 54 3 (.slice ao n cap) n xs := by rw [hw1]; exact ownsRow_set_other' hl Hlb.out
  have Hw1 : Hid (w1 = w.setCell ⟨b, 0, none⟩ (.int .i64 k1)) := hw1
  clear hw1
  go_wp2
  go_loopw [5] (fun i wr => ∃ (k : Nat) (ys : List Value), k ≤ n ∧ i = .int .i64 k ∧ wr.ownsRow B 54 3 (.slice ao n cap) n ys ∧ Hid (AllEl (LN 2) wr U0 m k ys) ∧ Hid (Fr (fun k => (Value.slice ao n cap).ownBlock = some k) w1 wr)) (fun i _ => n - (intOf i).toNat)
  case atStart => exact ⟨0, xs, Nat.zero_le _, rfl, hl1, fun j hj => by omega, Fr.refl _ _⟩
  case round =>
    obtain ⟨k, ys, hk, rfl, ho, Hy, Hf⟩ := hrel
    have hyl : ys.length = n * 3 := ho.1
    by_cases hk2 : k < n
    · obtain ⟨g, cp, hform, _, _⟩ := ho.form (by omega)
      simp only [Value.slice.injEq, true_and] at hform
      obtain ⟨rfl, rfl⟩ := hform
      have hst := (((ho.stored (k * 3) (.string ByteArray.empty)).1).stored (k * 3 + 1) (.int .i64 m)).1.stored (k * 3 + 2) (.bool false)
      have hc0 : wr.cell? ⟨g, k * 3, none⟩ = some ys[k * 3] := by rw [ho.cellAt _ (by omega), List.getElem?_eq_getElem (by omega)]
      have hc1 : wr.cell? ⟨g, k * 3 + 1, none⟩ = some ys[k * 3 + 1] := by rw [ho.cellAt _ (by omega), List.getElem?_eq_getElem (by omega)]
      have hc2 : wr.cell? ⟨g, k * 3 + 2, none⟩ = some ys[k * 3 + 2] := by rw [ho.cellAt _ (by omega), List.getElem?_eq_getElem (by omega)]
      have hf0 := ho.frozenAt (k * 3)
      have hf1 := ho.frozenAt (k * 3 + 1)
      have hf2 := ho.frozenAt (k * 3 + 2)
      have Hy2 : Hid (∀ W, AllEl (LN 2) W U0 m (k + 1) (((ys.set (k * 3) (.string ByteArray.empty)).set (k * 3 + 1) (.int .i64 m)).set (k * 3 + 2) (.bool false))) := fun W => el_set3 rfl (fun _ _ => rfl) (by omega) Hy.out (fun _ h => h)
      have Hf2 : Hid (Fr (fun k => (Value.slice (some ⟨g, 0, none⟩) n cap).ownBlock = some k) w1 (((wr.setCell ⟨g, k * 3, none⟩ (.string ByteArray.empty)).setCell ⟨g, k * 3 + 1, none⟩ (.int .i64 m)).setCell ⟨g, k * 3 + 2, none⟩ (.bool false))) :=
        ((Hf.out.trans Fr.set (fun j _ e' => by rw [e']; rfl)).trans Fr.set (fun j _ e' => by rw [e']; rfl)).trans Fr.set (fun j _ e' => by rw [e']; rfl)
      have Ho2 : Hid (((((wr.setCell ⟨g, k * 3, none⟩ (.string ByteArray.empty)).setCell ⟨g, k * 3 + 1, none⟩ (.int .i64 m)).setCell ⟨g, k * 3 + 2, none⟩ (.bool false))).ownsRow B 54 3 (.slice (some ⟨g, 0, none⟩) n cap) n (((ys.set (k * 3) (.string ByteArray.empty)).set (k * 3 + 1) (.int .i64 m)).set (k * 3 + 2) (.bool false))) := hst.1
      generalize ys[k * 3] = y0 at hc0
      generalize ys[k * 3 + 1] = y1 at hc1
      generalize ys[k * 3 + 2] = y2 at hc2
      clear hst Hy ho hyl
      go_wp2
      go_roundw
      case rel => exact ⟨k + 1, _, by omega, by go_num, Ho2.out, Hy2.out _, Hf2⟩
      case measure => simp [intOf]; omega
    · obtain rfl : k = n := by omega
      have HS : Hid (KS (LN 2) 5 6 w B b (C.setIfInBounds 0 (.int .i64 k1)) U0 (Value.slice ao k cap).ownBlock k m ps (lists ps) (marks .i64 ps) U0 wr (.slice ao k cap)) := HST.out k1 m wr ys (by rw [← Hw1.out]; exact Hf.out) ho Hy.out
      clear ho hyl Hy Hf hl1 hl N1
      have hcz : (C.setIfInBounds 0 (Value.int .i64 k1)).size = 11 := by simp [hCs]
      go_wp2
      go_loopw [1, 6] (fun l i wr => ∃ (j : Nat) (ao' : Option Addr) (cap' : Nat), j ≤ 4 ∧ i = .int .i64 j ∧ l = .slice ao' (k + j) cap' ∧ Hid (∃ ps' U', ps'.length = ps.length + j ∧ KS (LN 2) 5 6 w B b (C.setIfInBounds 0 (.int .i64 k1)) U0 (Value.slice ao k cap).ownBlock (k + j) m ps' (lists ps') (marks .i64 ps') U' wr (.slice ao' (k + j) cap'))) (fun _ i _ => 4 - (intOf i).toNat)
      case atStart => exact ⟨0, ao, cap, by omega, rfl, rfl, ps, U0, rfl, HS.out⟩
      case round =>
        obtain ⟨j, ao', cap', hj, rfl, rfl, HK⟩ := hrel
        by_cases hj4 : j < 4
        · obtain ⟨ps', U', hp', hK⟩ := HK.out
          obtain ⟨a1, c1, a2, c2, g1, p1, w1', g2, p2, w2, g3, p3, w3, U'', hc1, run1, hc1', hf1', hc2, run2, hc2', hf2', run3, hK⟩ := hK.round2 hcz (len_step hp' hps hnb hj4) (bound_step hn hj4)
          have HK3 : Hid (∃ ps' U', ps'.length = ps.length + (j + 1) ∧ KS (LN 2) 5 6 w B b (C.setIfInBounds 0 (.int .i64 k1)) U0 (Value.slice ao k cap).ownBlock (k + (j + 1)) m ps' (lists ps') (marks .i64 ps') U' w3 (.slice (some ⟨g3, 0, none⟩) (k + (j + 1)) p3)) := ⟨_, _, len_snoc hp', hK⟩
          have R1 : Hid ((Builtin.append_ #[28, 28] 28 #[.slice a1 ps'.length c1, .slice (some ⟨wr.heap.size, 0, none⟩) 1 1]).run Tryz.prog (wr.alloc (.cells #[.slice ao' (k + j) cap'] 22)) = .ok (.slice (some ⟨g1, 0, none⟩) (ps'.length + 1) p1) w1') := run1
          have R2 : Hid ((Builtin.append_ #[27, 27] 27 #[.slice a2 ps'.length c2, .slice (some ⟨w1'.heap.size, 0, none⟩) 1 1]).run Tryz.prog ((w1'.setCell ⟨b, 5, none⟩ (.slice (some ⟨g1, 0, none⟩) (ps'.length + 1) p1)).alloc (.cells #[.int .i64 m] 3)) = .ok (.slice (some ⟨g2, 0, none⟩) (ps'.length + 1) p2) w2) := run2
          have R3 : Hid ((Builtin.append_ #[22, 22] 22 #[.slice ao' (k + j) cap', .slice (some ⟨w2.heap.size, 0, none⟩) 1 1]).run Tryz.prog ((w2.setCell ⟨b, 6, none⟩ (.slice (some ⟨g2, 0, none⟩) (ps'.length + 1) p2)).alloc (.cells #[.string ⟨#[]⟩, .int .i64 m, .bool false] 54)) = .ok (.slice (some ⟨g3, 0, none⟩) (k + j + 1) p3) w3) := run3
          clear hK run1 run2 run3 HK HS hp'
          go_wp2_with (first | (at_builtin; refine wpList_append_run rfl (.tmp 29) (.tmp 31) 28 28 rfl _ _ _ rfl rfl R1.out ?_) | (at_builtin; refine wpList_append_run rfl (.tmp 39) (.tmp 41) 27 27 rfl _ _ _ rfl rfl R2.out ?_) | (at_builtin; refine wpList_append_run rfl (.tmp 45) (.tmp 48) 22 22 rfl _ _ _ rfl rfl R3.out ?_) | go_in)
          go_roundw
          case rel => exact ⟨j + 1, some ⟨g3, 0, none⟩, p3, by omega, by go_num, rfl, HK3⟩
          case measure => simp [intOf]; omega
        · obtain rfl : j = 4 := by omega
          have HF : Kept w B b A nb (Value.slice ao k cap).ownBlock wr := by
            obtain ⟨ps', U', hp', hK⟩ := HK.out
            exact HFI.out k1 m ps' U' _ wr _ hK hp'
          go_wp2
          go_end0
          exact ⟨rfl, HF⟩
end Go.Proofs.YtjobhlncllfdmaaGreat

/- keepCells: its contract. -/
namespace Go.Proofs.YtjobhlncllfdmaaGreat
open Go.RowKit

theorem Tryz.info47 : (Tryz.prog.info? 47).map (fun i => (i.zero, i.size, i.bytes)) = some (some (.slice none 0 0), 1, 24) := by kernel_rfl
theorem Tryz.info57 : (Tryz.prog.info? 57).map (fun i => (i.zero, i.size, i.bytes)) = some (some (.agg #[.bool false, .int .i64 0, .string ByteArray.empty]), 3, 32) := by kernel_rfl

theorem LN3_run : LPrun (LN 3) 29 27 32 8 := by
  obtain ⟨i, a1, a2, a3, a4⟩ := info_parts Tryz.info47
  obtain ⟨j, b1, b2, b3, b4⟩ := info_parts Tryz.info3
  obtain ⟨k, d1, d2, d3, d4⟩ := info_parts Tryz.info57
  exact ⟨Tryz.underlying29, ⟨i, a1, a2, a3, a4⟩, Tryz.underlying47, ⟨k, _, d1, d2, d3, d4, rfl⟩, Tryz.underlying27, ⟨j, b1, b2, b3, b4⟩, by omega⟩

theorem KS.round3 {w0 wr : World} {B b : Nat} {C : Array Value} {U0 U : Nat → Prop} {l0 : Option Nat} {N : Nat} {m : Int} {ps : List (Value × Int)} {ao : Option Addr} {cap : Nat}
    (hC : C.size = 11) (h : KS (LN 3) 7 8 w0 B b C U0 l0 N m ps (lists ps) (marks .i64 ps) U wr (.slice ao N cap)) (hps : ps.length ≤ 1000000) (hN : (N + 1) * 32 ≤ 140737488355328) :
    ∃ a1 c1 a2 c2 g1 p1 w1 g2 p2 w2 g3 p3 w3 U',
      wr.cell? ⟨b, 7, none⟩ = some (.slice a1 ps.length c1) ∧
      (Builtin.append_ #[29, 29] 29 #[.slice a1 ps.length c1, .slice (some ⟨wr.heap.size, 0, none⟩) 1 1]).run Tryz.prog (wr.alloc (.cells #[.slice ao N cap] 47)) = .ok (.slice (some ⟨g1, 0, none⟩) (ps.length + 1) p1) w1 ∧
      w1.cell? ⟨b, 7, none⟩ = some (.slice a1 ps.length c1) ∧ w1.frozen? ⟨b, 7, none⟩ = false ∧
      (w1.setCell ⟨b, 7, none⟩ (.slice (some ⟨g1, 0, none⟩) (ps.length + 1) p1)).cell? ⟨b, 8, none⟩ = some (.slice a2 ps.length c2) ∧
      (Builtin.append_ #[27, 27] 27 #[.slice a2 ps.length c2, .slice (some ⟨w1.heap.size, 0, none⟩) 1 1]).run Tryz.prog ((w1.setCell ⟨b, 7, none⟩ (.slice (some ⟨g1, 0, none⟩) (ps.length + 1) p1)).alloc (.cells #[.int .i64 m] 3)) = .ok (.slice (some ⟨g2, 0, none⟩) (ps.length + 1) p2) w2 ∧
      w2.cell? ⟨b, 8, none⟩ = some (.slice a2 ps.length c2) ∧ w2.frozen? ⟨b, 8, none⟩ = false ∧
      (Builtin.append_ #[47, 47] 47 #[.slice ao N cap, .slice (some ⟨w2.heap.size, 0, none⟩) 1 1]).run Tryz.prog ((w2.setCell ⟨b, 8, none⟩ (.slice (some ⟨g2, 0, none⟩) (ps.length + 1) p2)).alloc (.cells #[.bool false, .int .i64 m, .string ⟨#[]⟩] 57)) = .ok (.slice (some ⟨g3, 0, none⟩) (N + 1) p3) w3 ∧
      KS (LN 3) 7 8 w0 B b C U0 l0 (N + 1) m (ps ++ [(.slice ao N cap, m)]) (lists (ps ++ [(.slice ao N cap, m)])) (marks .i64 (ps ++ [(.slice ao N cap, m)])) U' w3 (.slice (some ⟨g3, 0, none⟩) (N + 1) p3) := by
  have hN2 : N + 1 ≤ maxLen := by unfold maxLen; omega
  have r := KS.round (jr := 7) (jm := 8) (news := cellM m) (LN_ok 3) LN3_run (by decide) (by omega) (by omega) (fun _ _ => rfl) (by intro u hu; simp [cellM] at hu; rcases hu with rfl | rfl | rfl <;> rfl) h hps hN hN2
  exact r

set_option maxHeartbeats 2000000 in
set_option maxRecDepth 100000 in
theorem keepCells5 (B b n : Nat) (A : Nat → Prop) (nb : Nat) (ao : Option Addr) (cap : Nat) (xs : List Value) (w : World) (hBk : Book5 w B b A nb) (hl : w.ownsRow B 57 3 (.slice ao n cap) n xs) (hlA : ∀ k, (Value.slice ao n cap).ownBlock = some k → ¬ A k)
    (hn : (n + 4) * 32 ≤ 140737488355328) (hnb : nb ≤ 900000) :
    Calls Tryz.prog 43 #[.pointer (some ⟨b, 0, none⟩), .slice ao n cap] w fun e w' => e = .returned (.tuple #[]) ∧ Kept w B b A nb (Value.slice ao n cap).ownBlock w' := by
  obtain ⟨C, U0, ps, vr, vm, hBB, hCs, ⟨mk, hC0⟩, hvr, hvm, hL, hps, hUA, hUr, hBb, hclose⟩ := hBk.openL 3 (by omega)
  have N1 : Hid (Calls Tryz.prog 42 #[.pointer (some ⟨b, 0, none⟩)] w fun e w' => ∃ k k' : Int, e = .returned (.int .i64 k) ∧ w' = w.setCell ⟨b, 0, none⟩ (.int .i64 k')) := next_any b mk w (by rw [hBB.cell 0]; exact hC0) (hBB.fz 0)
  have hlb : (Value.slice ao n cap).ownBlock ≠ some b := fun e' => hlA b e' hBk.hasB
  have Hlb : Hid ((Value.slice ao n cap).ownBlock ≠ some b) := hlb
  have hln : xs.length = n * 3 := hl.1
  have HST : Hid (∀ (k1 m : Int) (wr : World) (ys : List Value), Fr (fun k => (Value.slice ao n cap).ownBlock = some k) (w.setCell ⟨b, 0, none⟩ (.int .i64 k1)) wr → wr.ownsRow B 57 3 (.slice ao n cap) n ys → AllEl (LN 3) wr U0 m n ys →
      KS (LN 3) 7 8 w B b (C.setIfInBounds 0 (.int .i64 k1)) U0 (Value.slice ao n cap).ownBlock n m ps (lists ps) (marks .i64 ps) U0 wr (.slice ao n cap)) := fun k1 m wr ys hf ho he =>
    KS.start (LN_ok 3) hL hBB hvr hvm (by decide) (by decide) hUr hBb _ rfl hf (fun k hk hu => hlA k hk (hUA k hu)) hlb ho (fun _ h => h) (fun _ h => .inl h) (fun k hk => (hl.lt k hk).2) he
  have HFI : Hid (∀ (k1 m : Int) (ps' : List (Value × Int)) (U' : Nat → Prop) (N : Nat) (wr : World) (vl : Value), KS (LN 3) 7 8 w B b (C.setIfInBounds 0 (.int .i64 k1)) U0 (Value.slice ao n cap).ownBlock N m ps' (lists ps') (marks .i64 ps') U' wr vl → ps'.length = ps.length + 4 → Kept w B b A nb (Value.slice ao n cap).ownBlock wr) := fun k1 m ps' U' N wr vl hK hp => by
    obtain ⟨vr', vm', f1, f2, f3, f4, f5⟩ := hK.finish
    exact hclose wr _ U' ps' vr' vm' k1 f1 f2 (by omega) f3 f4 hlA f5
  clear hBB hL hclose hUr hlA hBk hvr hvm hUA hlb
  go_enter Tryz.func43, Tryz.ntmps43
  go_wp2_with fail
  refine N1.out.mono ?_
  rintro e w1 ⟨m, k1, rfl, hw1⟩
  have hl1 : w1.ownsRow B 57 3 (.slice ao n cap) n xs := by rw [hw1]; exact ownsRow_set_other' hl Hlb.out
  have Hw1 : Hid (w1 = w.setCell ⟨b, 0, none⟩ (.int .i64 k1)) := hw1
  clear hw1
  go_wp2
  go_loopw [5] (fun i wr => ∃ (k : Nat) (ys : List Value), k ≤ n ∧ i = .int .i64 k ∧ wr.ownsRow B 57 3 (.slice ao n cap) n ys ∧ Hid (AllEl (LN 3) wr U0 m k ys) ∧ Hid (Fr (fun k => (Value.slice ao n cap).ownBlock = some k) w1 wr)) (fun i _ => n - (intOf i).toNat)
  case atStart => exact ⟨0, xs, Nat.zero_le _, rfl, hl1, fun j hj => by omega, Fr.refl _ _⟩
  case round =>
    obtain ⟨k, ys, hk, rfl, ho, Hy, Hf⟩ := hrel
    have hyl : ys.length = n * 3 := ho.1
    by_cases hk2 : k < n
    · obtain ⟨g, cp, hform, _, _⟩ := ho.form (by omega)
      simp only [Value.slice.injEq, true_and] at hform
      obtain ⟨rfl, rfl⟩ := hform
      have hst := (((ho.stored (k * 3) (.bool false)).1).stored (k * 3 + 1) (.int .i64 m)).1.stored (k * 3 + 2) (.string ByteArray.empty)
      have hc0 : wr.cell? ⟨g, k * 3, none⟩ = some ys[k * 3] := by rw [ho.cellAt _ (by omega), List.getElem?_eq_getElem (by omega)]
      have hc1 : wr.cell? ⟨g, k * 3 + 1, none⟩ = some ys[k * 3 + 1] := by rw [ho.cellAt _ (by omega), List.getElem?_eq_getElem (by omega)]
      have hc2 : wr.cell? ⟨g, k * 3 + 2, none⟩ = some ys[k * 3 + 2] := by rw [ho.cellAt _ (by omega), List.getElem?_eq_getElem (by omega)]
      have hf0 := ho.frozenAt (k * 3)
      have hf1 := ho.frozenAt (k * 3 + 1)
      have hf2 := ho.frozenAt (k * 3 + 2)
      have Hy2 : Hid (∀ W, AllEl (LN 3) W U0 m (k + 1) (((ys.set (k * 3) (.bool false)).set (k * 3 + 1) (.int .i64 m)).set (k * 3 + 2) (.string ByteArray.empty))) := fun W => el_set3 rfl (fun _ _ => rfl) (by omega) Hy.out (fun _ h => h)
      have Hf2 : Hid (Fr (fun k => (Value.slice (some ⟨g, 0, none⟩) n cap).ownBlock = some k) w1 (((wr.setCell ⟨g, k * 3, none⟩ (.bool false)).setCell ⟨g, k * 3 + 1, none⟩ (.int .i64 m)).setCell ⟨g, k * 3 + 2, none⟩ (.string ByteArray.empty))) :=
        ((Hf.out.trans Fr.set (fun j _ e' => by rw [e']; rfl)).trans Fr.set (fun j _ e' => by rw [e']; rfl)).trans Fr.set (fun j _ e' => by rw [e']; rfl)
      have Ho2 : Hid (((((wr.setCell ⟨g, k * 3, none⟩ (.bool false)).setCell ⟨g, k * 3 + 1, none⟩ (.int .i64 m)).setCell ⟨g, k * 3 + 2, none⟩ (.string ByteArray.empty))).ownsRow B 57 3 (.slice (some ⟨g, 0, none⟩) n cap) n (((ys.set (k * 3) (.bool false)).set (k * 3 + 1) (.int .i64 m)).set (k * 3 + 2) (.string ByteArray.empty))) := hst.1
      generalize ys[k * 3] = y0 at hc0
      generalize ys[k * 3 + 1] = y1 at hc1
      generalize ys[k * 3 + 2] = y2 at hc2
      clear hst Hy ho hyl
      go_wp2
      go_roundw
      case rel => exact ⟨k + 1, _, by omega, by go_num, Ho2.out, Hy2.out _, Hf2⟩
      case measure => simp [intOf]; omega
    · obtain rfl : k = n := by omega
      have HS : Hid (KS (LN 3) 7 8 w B b (C.setIfInBounds 0 (.int .i64 k1)) U0 (Value.slice ao k cap).ownBlock k m ps (lists ps) (marks .i64 ps) U0 wr (.slice ao k cap)) := HST.out k1 m wr ys (by rw [← Hw1.out]; exact Hf.out) ho Hy.out
      clear ho hyl Hy Hf hl1 hl N1
      have hcz : (C.setIfInBounds 0 (Value.int .i64 k1)).size = 11 := by simp [hCs]
      go_wp2
      go_loopw [1, 6] (fun l i wr => ∃ (j : Nat) (ao' : Option Addr) (cap' : Nat), j ≤ 4 ∧ i = .int .i64 j ∧ l = .slice ao' (k + j) cap' ∧ Hid (∃ ps' U', ps'.length = ps.length + j ∧ KS (LN 3) 7 8 w B b (C.setIfInBounds 0 (.int .i64 k1)) U0 (Value.slice ao k cap).ownBlock (k + j) m ps' (lists ps') (marks .i64 ps') U' wr (.slice ao' (k + j) cap'))) (fun _ i _ => 4 - (intOf i).toNat)
      case atStart => exact ⟨0, ao, cap, by omega, rfl, rfl, ps, U0, rfl, HS.out⟩
      case round =>
        obtain ⟨j, ao', cap', hj, rfl, rfl, HK⟩ := hrel
        by_cases hj4 : j < 4
        · obtain ⟨ps', U', hp', hK⟩ := HK.out
          obtain ⟨a1, c1, a2, c2, g1, p1, w1', g2, p2, w2, g3, p3, w3, U'', hc1, run1, hc1', hf1', hc2, run2, hc2', hf2', run3, hK⟩ := hK.round3 hcz (len_step hp' hps hnb hj4) (bound_step hn hj4)
          have HK3 : Hid (∃ ps' U', ps'.length = ps.length + (j + 1) ∧ KS (LN 3) 7 8 w B b (C.setIfInBounds 0 (.int .i64 k1)) U0 (Value.slice ao k cap).ownBlock (k + (j + 1)) m ps' (lists ps') (marks .i64 ps') U' w3 (.slice (some ⟨g3, 0, none⟩) (k + (j + 1)) p3)) := ⟨_, _, len_snoc hp', hK⟩
          have R1 : Hid ((Builtin.append_ #[29, 29] 29 #[.slice a1 ps'.length c1, .slice (some ⟨wr.heap.size, 0, none⟩) 1 1]).run Tryz.prog (wr.alloc (.cells #[.slice ao' (k + j) cap'] 47)) = .ok (.slice (some ⟨g1, 0, none⟩) (ps'.length + 1) p1) w1') := run1
          have R2 : Hid ((Builtin.append_ #[27, 27] 27 #[.slice a2 ps'.length c2, .slice (some ⟨w1'.heap.size, 0, none⟩) 1 1]).run Tryz.prog ((w1'.setCell ⟨b, 7, none⟩ (.slice (some ⟨g1, 0, none⟩) (ps'.length + 1) p1)).alloc (.cells #[.int .i64 m] 3)) = .ok (.slice (some ⟨g2, 0, none⟩) (ps'.length + 1) p2) w2) := run2
          have R3 : Hid ((Builtin.append_ #[47, 47] 47 #[.slice ao' (k + j) cap', .slice (some ⟨w2.heap.size, 0, none⟩) 1 1]).run Tryz.prog ((w2.setCell ⟨b, 8, none⟩ (.slice (some ⟨g2, 0, none⟩) (ps'.length + 1) p2)).alloc (.cells #[.bool false, .int .i64 m, .string ⟨#[]⟩] 57)) = .ok (.slice (some ⟨g3, 0, none⟩) (k + j + 1) p3) w3) := run3
          clear hK run1 run2 run3 HK HS hp'
          go_wp2_with (first | (at_builtin; refine wpList_append_run rfl (.tmp 29) (.tmp 31) 29 29 rfl _ _ _ rfl rfl R1.out ?_) | (at_builtin; refine wpList_append_run rfl (.tmp 39) (.tmp 41) 27 27 rfl _ _ _ rfl rfl R2.out ?_) | (at_builtin; refine wpList_append_run rfl (.tmp 45) (.tmp 48) 47 47 rfl _ _ _ rfl rfl R3.out ?_) | go_in)
          go_roundw
          case rel => exact ⟨j + 1, some ⟨g3, 0, none⟩, p3, by omega, by go_num, rfl, HK3⟩
          case measure => simp [intOf]; omega
        · obtain rfl : j = 4 := by omega
          have HF : Kept w B b A nb (Value.slice ao k cap).ownBlock wr := by
            obtain ⟨ps', U', hp', hK⟩ := HK.out
            exact HFI.out k1 m ps' U' _ wr _ hK hp'
          go_wp2
          go_end0
          exact ⟨rfl, HF⟩
end Go.Proofs.YtjobhlncllfdmaaGreat
