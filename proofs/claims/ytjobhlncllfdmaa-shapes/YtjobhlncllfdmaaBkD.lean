/- One round of keeping a list; the lanes' types. -/
import Derived.Test.YtjobhlncllfdmaaBkC
namespace Go.Proofs.Ytjobhlncllfdmaa
open Go.RowKit

theorem Try.info37 : (Try.prog.info? 37).map (fun i => (i.zero, i.size, i.bytes)) = some (some (.slice none 0 0), 1, 24) := by kernel_rfl

theorem lists_snoc (ps : List (Value × Int)) (v : Value) (m : Int) : lists (ps ++ [(v, m)]) = lists ps ++ [v] := by simp [lists]
theorem marks_snoc (kd : IntKind) (ps : List (Value × Int)) (v : Value) (m : Int) : marks kd (ps ++ [(v, m)]) = marks kd ps ++ [.int kd m] := by simp [marks]
theorem length_lists (ps : List (Value × Int)) : (lists ps).length = ps.length := by simp [lists]
theorem length_marks (kd : IntKind) (ps : List (Value × Int)) : (marks kd ps).length = ps.length := by simp [marks]

/-- one round, where what reads as a mark hangs on nothing else -/
theorem KS.round {P : LP} {EE EM by' bm jr jm : Nat} {w0 wr : World} {B b : Nat} {C : Array Value} {U0 U : Nat → Prop} {l0 : Option Nat} {N : Nat} {m : Int} {ps : List (Value × Int)} {ao : Option Addr} {cap : Nat} {news : List Value}
    (ok : LPok P) (run : LPrun P EE EM by' bm) (hj : jr ≠ jm) (hr : jr < C.size) (hm : jm < C.size) (hel : ∀ w U, P.el w U m news) (hone : ∀ u ∈ news, u.oneCell' = true) (h : KS P jr jm w0 B b C U0 l0 N m ps (lists ps) (marks P.kd ps) U wr (.slice ao N cap)) (hps : ps.length ≤ 1000000)
    (hN : (N + 1) * by' ≤ 140737488355328) (hN2 : N + 1 ≤ maxLen) :
    ∃ a1 c1 a2 c2 g1 p1 w1 g2 p2 w2 g3 p3 w3 U',
      wr.cell? ⟨b, jr, none⟩ = some (.slice a1 ps.length c1) ∧
      (Builtin.append_ #[EE, EE] EE #[.slice a1 ps.length c1, .slice (some ⟨wr.heap.size, 0, none⟩) 1 1]).run Try.prog (wr.alloc (.cells #[.slice ao N cap] P.E)) = .ok (.slice (some ⟨g1, 0, none⟩) (ps.length + 1) p1) w1 ∧
      w1.cell? ⟨b, jr, none⟩ = some (.slice a1 ps.length c1) ∧ w1.frozen? ⟨b, jr, none⟩ = false ∧
      (w1.setCell ⟨b, jr, none⟩ (.slice (some ⟨g1, 0, none⟩) (ps.length + 1) p1)).cell? ⟨b, jm, none⟩ = some (.slice a2 ps.length c2) ∧
      (Builtin.append_ #[EM, EM] EM #[.slice a2 ps.length c2, .slice (some ⟨w1.heap.size, 0, none⟩) 1 1]).run Try.prog ((w1.setCell ⟨b, jr, none⟩ (.slice (some ⟨g1, 0, none⟩) (ps.length + 1) p1)).alloc (.cells #[.int P.kd m] P.em)) = .ok (.slice (some ⟨g2, 0, none⟩) (ps.length + 1) p2) w2 ∧
      w2.cell? ⟨b, jm, none⟩ = some (.slice a2 ps.length c2) ∧ w2.frozen? ⟨b, jm, none⟩ = false ∧
      (Builtin.append_ #[P.E, P.E] P.E #[.slice ao N cap, .slice (some ⟨w2.heap.size, 0, none⟩) 1 1]).run Try.prog ((w2.setCell ⟨b, jm, none⟩ (.slice (some ⟨g2, 0, none⟩) (ps.length + 1) p2)).alloc (.cells news.toArray P.e)) = .ok (.slice (some ⟨g3, 0, none⟩) (N + 1) p3) w3 ∧
      KS P jr jm w0 B b C U0 l0 (N + 1) m (ps ++ [(.slice ao N cap, m)]) (lists (ps ++ [(.slice ao N cap, m)])) (marks P.kd (ps ++ [(.slice ao N cap, m)])) U' w3 (.slice (some ⟨g3, 0, none⟩) (N + 1) p3) := by
  have e1 := length_lists ps
  have e2 := length_marks P.kd ps
  obtain ⟨a1, c1, g1, p1, w1, U1, hc1, r1, hc1', hf1, h1⟩ := KS.stepA ok run hj hr h (by omega)
  rw [e1] at hc1 r1 hc1' h1
  obtain ⟨a2, c2, g2, p2, w2, U2, hc2, r2, hc2', hf2, h2⟩ := KS.stepB ok run hj hm h1 (by omega)
  rw [e2] at hc2 r2 hc2' h2
  rw [size_set] at r2
  obtain ⟨g3, p3, w3, U3, r3, h3⟩ := KS.stepC ok run h2 (hel _ _) hone hN hN2
  rw [size_set] at r3
  rw [lists_snoc, marks_snoc]
  exact ⟨a1, c1, a2, c2, g1, p1, w1, g2, p2, w2, g3, p3, w3, U3, hc1, r1, hc1', hf1, hc2, r2, hc2', hf2, r3, h3⟩

theorem LN0_run : LPrun (LN 0) 23 24 1 1 := by
  obtain ⟨i, a1, a2, a3, a4⟩ := info_parts Try.info24
  obtain ⟨j, b1, b2, b3, b4⟩ := info_parts Try.info5
  exact ⟨Try.underlying23, ⟨i, a1, a2, a3, a4⟩, Try.underlying24, ⟨j, _, b1, b2, b3, b4, rfl⟩, Try.underlying24, ⟨j, b1, b2, b3, b4⟩, by omega⟩
theorem LN1_run : LPrun (LN 1) 25 26 8 8 := by
  obtain ⟨i, a1, a2, a3, a4⟩ := info_parts Try.info26
  obtain ⟨j, b1, b2, b3, b4⟩ := info_parts Try.info3
  exact ⟨Try.underlying25, ⟨i, a1, a2, a3, a4⟩, Try.underlying26, ⟨j, _, b1, b2, b3, b4, rfl⟩, Try.underlying26, ⟨j, b1, b2, b3, b4⟩, by omega⟩
theorem LN2_run : LPrun (LN 2) 27 26 32 8 := by
  obtain ⟨i, a1, a2, a3, a4⟩ := info_parts Try.info37
  obtain ⟨j, b1, b2, b3, b4⟩ := info_parts Try.info3
  obtain ⟨k, d1, d2, d3, d4⟩ := info_parts Try.info45
  exact ⟨Try.underlying27, ⟨i, a1, a2, a3, a4⟩, Try.underlying37, ⟨k, _, d1, d2, d3, d4, rfl⟩, Try.underlying26, ⟨j, b1, b2, b3, b4⟩, by omega⟩

/-- one place of one cell is written -/
theorem el_set1 {P : LP} {w w' : World} {U U' : Nat → Prop} {m : Int} {k : Nat} {ys : List Value} {x : Value} (hsz : P.sz = 1) (hel : ∀ w U, P.el w U m [x]) (hk : k < ys.length) (h : AllEl P w U m k ys) (hst : ∀ xs, P.el w U m xs → P.el w' U' m xs) : AllEl P w' U' m (k + 1) (ys.set k x) := by
  intro j hj
  rw [hsz, Nat.mul_one]
  by_cases hjk : j = k
  · subst hjk
    have : ((ys.set j x).drop j).take 1 = [x] := by
      rw [List.drop_eq_getElem_cons (by simpa using hk), List.take_succ_cons]; simp
    rw [this]; exact hel _ _
  · have hh := h j (by omega)
    rw [hsz, Nat.mul_one] at hh
    have : ((ys.set k x).drop j).take 1 = (ys.drop j).take 1 := by
      rw [List.drop_eq_getElem_cons (by simp; omega), List.drop_eq_getElem_cons (show j < ys.length by omega), List.take_succ_cons, List.take_succ_cons]
      simp [Ne.symm hjk]
    rw [this]
    exact hst _ hh

/-- one place of three cells is written -/
theorem el_set3 {P : LP} {w w' : World} {U U' : Nat → Prop} {m : Int} {k : Nat} {ys : List Value} {x y z : Value} (hsz : P.sz = 3) (hel : ∀ w U, P.el w U m [x, y, z]) (hk : k * 3 + 2 < ys.length) (h : AllEl P w U m k ys) (hst : ∀ xs, P.el w U m xs → P.el w' U' m xs) : AllEl P w' U' m (k + 1) (((ys.set (k * 3) x).set (k * 3 + 1) y).set (k * 3 + 2) z) := by
  have hget : ∀ (L : List Value) (j : Nat), j * 3 + 2 < L.length → (L.drop (j * 3)).take 3 = [L[j * 3]?.getD (.bool false), L[j * 3 + 1]?.getD (.bool false), L[j * 3 + 2]?.getD (.bool false)] := by
    intro L j hj
    rw [List.drop_eq_getElem_cons (by omega), List.take_succ_cons, List.drop_eq_getElem_cons (by omega), List.take_succ_cons, List.drop_eq_getElem_cons (by omega), List.take_succ_cons]
    simp [List.getElem?_eq_getElem (show j * 3 < L.length by omega), List.getElem?_eq_getElem (show j * 3 + 1 < L.length by omega), List.getElem?_eq_getElem (show j * 3 + 1 + 1 < L.length by omega)]
  intro j hj
  rw [hsz, hget _ j (by simp; omega)]
  by_cases hjk : j = k
  · subst hjk
    have e : [((((ys.set (j * 3) x).set (j * 3 + 1) y).set (j * 3 + 2) z))[j * 3]?.getD (.bool false), ((((ys.set (j * 3) x).set (j * 3 + 1) y).set (j * 3 + 2) z))[j * 3 + 1]?.getD (.bool false), ((((ys.set (j * 3) x).set (j * 3 + 1) y).set (j * 3 + 2) z))[j * 3 + 2]?.getD (.bool false)] = [x, y, z] := by
      simp [show j * 3 < ys.length by omega, show j * 3 + 1 < ys.length by omega, show j * 3 + 2 < ys.length by omega]
    rw [e]; exact hel _ _
  · have hh := h j (by omega)
    rw [hsz, hget _ j (by omega)] at hh
    have e : ∀ i, i < 3 → ((((ys.set (k * 3) x).set (k * 3 + 1) y).set (k * 3 + 2) z))[j * 3 + i]? = ys[j * 3 + i]? := by
      intro i hi
      rw [List.getElem?_set_ne (by omega), List.getElem?_set_ne (by omega), List.getElem?_set_ne (by omega)]
    rw [show j * 3 = j * 3 + 0 by omega, e 0 (by omega), Nat.add_zero, e 1 (by omega), e 2 (by omega)]
    exact hst _ hh

end Go.Proofs.Ytjobhlncllfdmaa
