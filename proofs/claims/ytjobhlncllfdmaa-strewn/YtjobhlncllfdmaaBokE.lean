/- keepBytes: what one round does. -/
import Derived.Test.YtjobhlncllfdmaaBokD
namespace Go.Proofs.Ytjobhlncllfdmaa
open Go.RowKit

/-- the state of keepBytes behind k rounds: l0 is the block of the list that came, vl what it is now -/
def KStb (w0 : World) (B b : Nat) (U0 : Nat → Prop) (l0 : Option Nat) (n : Nat) (m : Int) (os : List (Value × Int)) (nb : Nat) (wr : World) (vl : Value) (k : Nat) : Prop :=
  ∃ U ps mk vb vbm vi vim, BBlk wr b mk vb vbm vi vim ∧ Keep wr B U 24 5 .u8 vb vbm (lists ps) (marks .u8 ps) ps vl (n + k) m ∧ Lane wr B U 26 3 .i64 vi vim (lists os) (marks .i64 os) os ∧ U b ∧
    (∀ j, U j → B ≤ j ∧ j < wr.heap.size) ∧ ps.length = nb + k ∧ (∀ j, U j → U0 j ∨ l0 = some j ∨ w0.heap.size ≤ j) ∧ (∀ j, vl.ownBlock = some j → l0 = some j ∨ w0.heap.size ≤ j) ∧ Fr (fun j => U0 j ∨ l0 = some j) w0 wr

theorem lane_stepb {w w1 : World} {o : Obj} {B b j : Nat} {U U' : Nat → Prop} {u vr vm row : Value} {X Y Z : List Value} {ps : List (Value × Int)} {n : Nat} {e : TypeId} (h : Lane w B U 26 3 .i64 vr vm X Y ps) (hb : Ty w b 31) (hrow : w.ownsRow B e 1 row n Z) (h1 : e ≠ 26) (h2 : e ≠ 3)
    (hg : (w.alloc o).grownBy w1 row.ownBlock) (hU : ∀ k, U k → U' k) : Lane (w1.setCell ⟨b, j, none⟩ u) B U' 26 3 .i64 vr vm X Y ps :=
  h.agree (fun k _ ht => by
    rcases ht with ht | ht
    · exact agree_set hg ht.lt (fun e' => Ty.ne (own_ty hrow e') ht h1 rfl) (Ty.ne ht hb (by decide))
    · exact agree_set hg ht.lt (fun e' => Ty.ne (own_ty hrow e') ht h2 rfl) (Ty.ne ht hb (by decide))) hU

theorem KStb.round {w0 : World} {B b : Nat} {U0 : Nat → Prop} {l0 : Option Nat} {n : Nat} {m : Int} {os : List (Value × Int)} {nb : Nat} {wr : World} {ao : Option Addr} {cap k : Nat} (h : KStb w0 B b U0 l0 n m os nb wr (.slice ao (n + k) cap) k)
    (hn : (n + k + 1) * 1 ≤ 140737488355328) (hnb : nb + k ≤ 1000000) :
    ∃ a1 n1 c1 a2 n2 c2 g1 p1 w1 g2 p2 w2 g3 p3 w3,
      wr.cell? ⟨b, 1, none⟩ = some (.slice a1 n1 c1) ∧
      (Builtin.append_ #[23, 23] 23 #[.slice a1 n1 c1, .slice (some ⟨wr.heap.size, 0, none⟩) 1 1]).run Try.prog (wr.alloc (.cells #[.slice ao (n + k) cap] 24)) = .ok (.slice (some ⟨g1, 0, none⟩) (n1 + 1) p1) w1 ∧
      w1.cell? ⟨b, 1, none⟩ = some (.slice a1 n1 c1) ∧ w1.frozen? ⟨b, 1, none⟩ = false ∧
      (w1.setCell ⟨b, 1, none⟩ (.slice (some ⟨g1, 0, none⟩) (n1 + 1) p1)).cell? ⟨b, 2, none⟩ = some (.slice a2 n2 c2) ∧
      (Builtin.append_ #[24, 24] 24 #[.slice a2 n2 c2, .slice (some ⟨w1.heap.size, 0, none⟩) 1 1]).run Try.prog ((w1.setCell ⟨b, 1, none⟩ (.slice (some ⟨g1, 0, none⟩) (n1 + 1) p1)).alloc (.cells #[.int .u8 m] 5)) = .ok (.slice (some ⟨g2, 0, none⟩) (n2 + 1) p2) w2 ∧
      w2.cell? ⟨b, 2, none⟩ = some (.slice a2 n2 c2) ∧ w2.frozen? ⟨b, 2, none⟩ = false ∧
      (Builtin.append_ #[24, 24] 24 #[.slice ao (n + k) cap, .slice (some ⟨w2.heap.size, 0, none⟩) 1 1]).run Try.prog ((w2.setCell ⟨b, 2, none⟩ (.slice (some ⟨g2, 0, none⟩) (n2 + 1) p2)).alloc (.cells #[.int .u8 m] 5)) = .ok (.slice (some ⟨g3, 0, none⟩) (n + k + 1) p3) w3 ∧
      KStb w0 B b U0 l0 n m os nb w3 (.slice (some ⟨g3, 0, none⟩) (n + (k + 1)) p3) (k + 1) := by
  obtain ⟨U, ps, mk, vb, vbm, vi, vim, hbb, hK, hO, hUb, hUr, hps, hU0, hvl, hfr⟩ := h
  have hll : (lists ps).length = nb + k := by simp [lists, hps]
  have hlm : (marks .u8 ps).length = nb + k := by simp [marks, hps]
  have hBs : B ≤ wr.heap.size := by have := hUr b hUb; omega
  obtain ⟨iE, hiE, hE0, hE1, hE2⟩ := info_parts Try.info24
  obtain ⟨ie, hie, he0, he1, he2⟩ := info_parts Try.info5
  -- the row of lists
  have hr1 := hK.1.1
  have hr2 := hK.1.2.1
  obtain ⟨a1, c1, rfl⟩ := slen_of hr1
  obtain ⟨a2, c2, rfl⟩ := slen_of hr2
  have hxe : (wr.alloc (.cells #[Value.slice ao (n + k) cap] 24)).cell? ⟨wr.heap.size, 0, none⟩ = some (.slice ao (n + k) cap) := by
    rw [cell_of_row _ _ 0 _ _ _ (heap_alloc_new wr _)]; rfl
  obtain ⟨g1, p1, w1, run1, own1, gr1, at1⟩ := append1 (wr.alloc (.cells #[.slice ao (n + k) cap] 24)) 23 23 24 iE (.slice none 0 0) 24 B Try.underlying23 hiE hE0 hE1 hE2 rfl _ _ _ (hr1.alloc _) ⟨wr.heap.size, 0, none⟩ _ hxe rfl 1 (by unfold maxLen; omega) (by omega) (by rw [size_alloc']; omega)
  rw [size_alloc'] at at1
  have hbb1 : BBlk w1 b mk _ _ _ _ := hbb.kept (agree_step gr1 hbb.ty.lt (fun e' => Ty.ne (own_ty hr1 e') hbb.ty (by decide) rfl))
  have hK1 := Keep.stepA (b := b) (j := 1) (u := .slice (some ⟨g1, 0, none⟩) ((lists ps).length + 1) p1) hK hbb.ty (by decide) (by decide) (by decide) gr1 own1 at1
  have hO1 := lane_stepb (b := b) (j := 1) (u := .slice (some ⟨g1, 0, none⟩) ((lists ps).length + 1) p1) (U' := more U wr (w1.setCell ⟨b, 1, none⟩ (.slice (some ⟨g1, 0, none⟩) ((lists ps).length + 1) p1))) hO hbb.ty hr1 (by decide) (by decide) gr1 (fun k hk => .inl hk)
  have hbs1 := hbb1.set1 (.slice (some ⟨g1, 0, none⟩) ((lists ps).length + 1) p1)
  have hfr1 : Fr (fun j => U0 j ∨ l0 = some j) w0 (w1.setCell ⟨b, 1, none⟩ (.slice (some ⟨g1, 0, none⟩) ((lists ps).length + 1) p1)) :=
    (hfr.trans (Fr.grown gr1) (fun j hj e' => by rcases hU0 j (hK.1.2.2.2.1 j e') with h | h | h <;> first | exact .inl h | exact .inr h | omega)).trans Fr.set (fun j hj e' => by subst e'; rcases hU0 j hUb with h | h | h <;> first | exact .inl h | exact .inr h | omega)
  have hsz1 : wr.heap.size ≤ w1.heap.size := by have := gr1.size; rw [size_alloc'] at this; omega
  have hUr1 : ∀ j, more U wr (w1.setCell ⟨b, 1, none⟩ (.slice (some ⟨g1, 0, none⟩) ((lists ps).length + 1) p1)) j → B ≤ j ∧ j < w1.heap.size := by
    intro j hj
    rcases hj with hj | hj
    · have := hUr j hj; omega
    · rw [size_set] at hj; omega
  have hU01 : ∀ j, more U wr (w1.setCell ⟨b, 1, none⟩ (.slice (some ⟨g1, 0, none⟩) ((lists ps).length + 1) p1)) j → U0 j ∨ l0 = some j ∨ w0.heap.size ≤ j := by
    intro j hj
    rcases hj with hj | hj
    · exact hU0 j hj
    · have := hfr.size; exact .inr (.inr (by omega))
  have hUb1 : more U wr (w1.setCell ⟨b, 1, none⟩ (.slice (some ⟨g1, 0, none⟩) ((lists ps).length + 1) p1)) b := .inl hUb
  have hs1 : (w1.setCell ⟨b, 1, none⟩ (.slice (some ⟨g1, 0, none⟩) ((lists ps).length + 1) p1)).heap.size = w1.heap.size := size_set _ _ _
  generalize more U wr (w1.setCell ⟨b, 1, none⟩ (.slice (some ⟨g1, 0, none⟩) ((lists ps).length + 1) p1)) = U1 at *
  -- the row of marks
  obtain ⟨W1, hW1⟩ : ∃ W1, W1 = w1.setCell ⟨b, 1, none⟩ (.slice (some ⟨g1, 0, none⟩) ((lists ps).length + 1) p1) := ⟨_, rfl⟩
  rw [← hW1] at hK1 hO1 hbs1 hfr1 hs1
  have hr21 := hK1.1.2.1
  have hxm : ∀ W : World, (W.alloc (.cells #[Value.int .u8 m] 5)).cell? ⟨W.heap.size, 0, none⟩ = some (.int .u8 m) := fun W => by
    rw [cell_of_row _ _ 0 _ _ _ (heap_alloc_new W _)]; rfl
  obtain ⟨g2, p2, w2, run2, own2, gr2, at2⟩ := append1 (W1.alloc (.cells #[.int .u8 m] 5)) 24 24 5 ie (.int .u8 0) 1 B Try.underlying24 hie he0 he1 he2 rfl _ _ _ (hr21.alloc _) ⟨W1.heap.size, 0, none⟩ _ (hxm W1) rfl 1 (by unfold maxLen; omega) (by omega) (by rw [size_alloc']; omega)
  rw [size_alloc'] at at2
  have hbb2 : BBlk w2 b mk _ _ _ _ := hbs1.kept (agree_step gr2 hbs1.ty.lt (fun e' => Ty.ne (own_ty hr21 e') hbs1.ty (by decide) rfl))
  have hK2 := Keep.stepB (b := b) (j := 2) (u := .slice (some ⟨g2, 0, none⟩) ((marks .u8 ps).length + 1) p2) hK1 hbs1.ty (by decide) (by decide) (by decide) gr2 own2 at2
  have hO2 := lane_stepb (b := b) (j := 2) (u := .slice (some ⟨g2, 0, none⟩) ((marks .u8 ps).length + 1) p2) (U' := more U1 W1 (w2.setCell ⟨b, 2, none⟩ (.slice (some ⟨g2, 0, none⟩) ((marks .u8 ps).length + 1) p2))) hO1 hbs1.ty hr21 (by decide) (by decide) gr2 (fun k hk => .inl hk)
  have hbs2 := hbb2.set2 (.slice (some ⟨g2, 0, none⟩) ((marks .u8 ps).length + 1) p2)
  have hfr2 : Fr (fun j => U0 j ∨ l0 = some j) w0 (w2.setCell ⟨b, 2, none⟩ (.slice (some ⟨g2, 0, none⟩) ((marks .u8 ps).length + 1) p2)) :=
    (hfr1.trans (Fr.grown gr2) (fun j hj e' => by rcases hU01 j (hK1.1.2.2.2.2 j e') with h | h | h <;> first | exact .inl h | exact .inr h | omega)).trans Fr.set (fun j hj e' => by subst e'; rcases hU01 j hUb1 with h | h | h <;> first | exact .inl h | exact .inr h | omega)
  have hsz2 : W1.heap.size ≤ w2.heap.size := by have := gr2.size; rw [size_alloc'] at this; omega
  have hUr2 : ∀ j, more U1 W1 (w2.setCell ⟨b, 2, none⟩ (.slice (some ⟨g2, 0, none⟩) ((marks .u8 ps).length + 1) p2)) j → B ≤ j ∧ j < w2.heap.size := by
    intro j hj
    rcases hj with hj | hj
    · have := hUr1 j hj; omega
    · rw [size_set] at hj; omega
  have hU02 : ∀ j, more U1 W1 (w2.setCell ⟨b, 2, none⟩ (.slice (some ⟨g2, 0, none⟩) ((marks .u8 ps).length + 1) p2)) j → U0 j ∨ l0 = some j ∨ w0.heap.size ≤ j := by
    intro j hj
    rcases hj with hj | hj
    · exact hU01 j hj
    · have := hfr.size; exact .inr (.inr (by omega))
  have hUb2 : more U1 W1 (w2.setCell ⟨b, 2, none⟩ (.slice (some ⟨g2, 0, none⟩) ((marks .u8 ps).length + 1) p2)) b := .inl hUb1
  have hs2 : (w2.setCell ⟨b, 2, none⟩ (.slice (some ⟨g2, 0, none⟩) ((marks .u8 ps).length + 1) p2)).heap.size = w2.heap.size := size_set _ _ _
  generalize more U1 W1 (w2.setCell ⟨b, 2, none⟩ (.slice (some ⟨g2, 0, none⟩) ((marks .u8 ps).length + 1) p2)) = U2 at *
  -- the list itself
  obtain ⟨W2, hW2⟩ : ∃ W2, W2 = w2.setCell ⟨b, 2, none⟩ (.slice (some ⟨g2, 0, none⟩) ((marks .u8 ps).length + 1) p2) := ⟨_, rfl⟩
  rw [← hW2] at hK2 hO2 hbs2 hfr2 hs2
  have hr3 := hK2.2.1
  obtain ⟨g3, p3, w3, run3, own3, gr3, at3⟩ := append1 (W2.alloc (.cells #[.int .u8 m] 5)) 24 24 5 ie (.int .u8 0) 1 B Try.underlying24 hie he0 he1 he2 rfl _ _ _ (hr3.alloc _) ⟨W2.heap.size, 0, none⟩ _ (hxm W2) rfl 1 (by unfold maxLen; omega) (by omega) (by rw [size_alloc']; omega)
  rw [size_alloc'] at at3
  have hK3 := Keep.stepC hK2 (by decide) gr3 own3 at3
  have hbb3 : BBlk w3 b mk _ _ _ _ := hbs2.kept (agree_step gr3 hbs2.ty.lt (fun e' => Ty.ne (own_ty hr3 e') hbs2.ty (by decide) rfl))
  have hsz3 : W2.heap.size ≤ w3.heap.size := by have := gr3.size; rw [size_alloc'] at this; omega
  have hO3 : Lane w3 B (fun k_1 => more U2 W2 w3 k_1 ∨ (Value.slice ao (n + k) cap).ownBlock = some k_1) 26 3 .i64 vi vim (lists os) (marks .i64 os) os :=
    hO2.agree (fun j _ ht => by
      rcases ht with ht | ht
      · exact agree_step gr3 ht.lt (fun e' => Ty.ne (own_ty hr3 e') ht (by decide) rfl)
      · exact agree_step gr3 ht.lt (fun e' => Ty.ne (own_ty hr3 e') ht (by decide) rfl)) (fun j hj => .inl (.inl hj))
  have hfr3 : Fr (fun j => U0 j ∨ l0 = some j) w0 w3 := hfr2.trans (Fr.grown gr3) (fun j hj e' => by rcases hvl j e' with h | h <;> first | exact .inr h | omega)
  refine ⟨a1, _, c1, a2, _, c2, g1, p1, w1, g2, p2, w2, g3, p3, w3, hbb.c1, run1, hbb1.c1, hbb1.fz 1, ?_, ?_, hbb2.c2, hbb2.fz 2, ?_, ?_⟩
  · rw [← hW1]; exact hbs1.c2
  · rw [← hW1, ← hs1]; exact run2
  · rw [← hW2, ← hs2]; exact run3
  · refine ⟨_, ps ++ [(.slice ao (n + k) cap, m)], mk, _, _, _, _, hbb3, ?_, hO3, .inl (.inl hUb2), ?_, by simp [hps]; omega, ?_, ?_, hfr3⟩
    · have e1 : lists (ps ++ [(Value.slice ao (n + k) cap, m)]) = lists ps ++ [.slice ao (n + k) cap] := by simp [lists]
      have e2 : marks .u8 (ps ++ [(Value.slice ao (n + k) cap, m)]) = marks .u8 ps ++ [.int .u8 m] := by simp [marks]
      rw [e1, e2]
      exact hK3
    · intro j hj
      rcases hj with (hj | hj) | hj
      · have := hUr2 j hj; omega
      · omega
      · have h1 := (own_ty hr3 hj).lt
        have h2 := (hr3.lt j hj).1
        omega
    · intro j hj
      rcases hj with (hj | hj) | hj
      · exact hU02 j hj
      · have := hfr2.size; exact .inr (.inr (by omega))
      · exact .inr (hvl j hj)
    · intro j hj
      simp only [Value.ownBlock, Option.some.injEq] at hj
      subst hj
      rcases at3 with h | ⟨h, _⟩
      · exact hvl _ h
      · have := hfr2.size; exact .inr (by omega)

end Go.Proofs.Ytjobhlncllfdmaa
