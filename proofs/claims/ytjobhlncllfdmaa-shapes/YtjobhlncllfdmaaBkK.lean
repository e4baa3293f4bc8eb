/- What holds through the keeping of other lists. -/
import Derived.Test.YtjobhlncllfdmaaBkI
import Derived.Test.YtjobhlncllfdmaaBkG
import Derived.Test.YtjobhlncllfdmaaBkJ
import Derived.Test.YtjobhlncllfdmaaFtK
namespace Go.Proofs.Ytjobhlncllfdmaa
open Go.RowKit

/-- the book, on the way from w0 -/
def Chain (w0 : World) (B b n : Nat) (A : Nat → Prop) (W : World) : Prop := Book5 W B b A n ∧ Below B w0 W

/-- a row that is not the book's -/
def Mine (W : World) (A : Nat → Prop) (B : Nat) (e : TypeId) (sz : Nat) (v : Value) (n : Nat) (xs : List Value) : Prop := W.ownsRow B e sz v n xs ∧ ∀ k, v.ownBlock = some k → ¬ A k

/-- a block that is not the book's -/
def Apart (W : World) (A : Nat → Prop) (k : Nat) (o : Obj) : Prop := W.heap[k]? = some o ∧ ¬ A k

section
variable {w0 W W' : World} {B b n : Nat} {A A' : Nat → Prop} {l0 : Option Nat} {e : TypeId} {sz : Nat} {v : Value} {m : Nat} {xs : List Value} {k : Nat} {o : Obj}

theorem Chain.below (h : Chain w0 B b n A W) (hb : Below W.heap.size W W') : Chain w0 B b n A W' :=
  ⟨h.1.below hb (Nat.le_refl _), h.2.trans (hb.mono h.1.bsize)⟩

/-- what a keeping leaves -/
def After (W : World) (A : Nat → Prop) (l0 : Option Nat) (A' : Nat → Prop) (W' : World) : Prop :=
  (∀ k, A' k → A k ∨ l0 = some k ∨ W.heap.size ≤ k) ∧ (∀ k, k < W.heap.size → ¬ A k → l0 ≠ some k → W'.heap[k]? = W.heap[k]?) ∧ W.heap.size ≤ W'.heap.size

theorem Chain.kept (h : Chain w0 B b n A W) (hk : Kept W B b A n l0 W') (hl : ∀ k, l0 = some k → B ≤ k) : ∃ A', Chain w0 B b (n + 4) A' W' ∧ After W A l0 A' W' := by
  obtain ⟨A', h1, h2, h3⟩ := hk
  have hlt := h.1.lt
  refine ⟨A', ⟨h1, h.2.trans (h3.below h.1.bsize (fun k hk => ?_))⟩, h2, fun k hk ha hl => h3.block k hk (fun t => by rcases t with t | t; exact ha t; exact hl t), h3.size⟩
  rcases hk with hk | hk
  · exact (hlt k hk).1
  · exact hl k hk

theorem Mine.below (h : Mine W A B e sz v m xs) (hb : Below W.heap.size W W') : Mine W' A B e sz v m xs :=
  ⟨own_agreeS h.1 (fun k hk => hb.block k (own_tyS h.1 hk).lt), h.2⟩
theorem Mine.after (h : Mine W A B e sz v m xs) (ha : After W A l0 A' W') (hne : ∀ k, v.ownBlock = some k → l0 ≠ some k) : Mine W' A' B e sz v m xs := by
  refine ⟨own_agreeS h.1 (fun k hk => ha.2.1 k (own_tyS h.1 hk).lt (h.2 k hk) (hne k hk)), fun k hk hA => ?_⟩
  rcases ha.1 k hA with t | t | t
  · exact h.2 k hk t
  · exact hne k hk t
  · have := (own_tyS h.1 hk).lt; omega
theorem Apart.below (h : Apart W A k o) (hb : Below W.heap.size W W') : Apart W' A k o :=
  ⟨by rw [hb.block k (Array.getElem?_eq_some_iff.1 h.1).1]; exact h.1, h.2⟩
theorem Apart.after (h : Apart W A k o) (ha : After W A l0 A' W') (hne : l0 ≠ some k) : Apart W' A' k o := by
  have hlt := (Array.getElem?_eq_some_iff.1 h.1).1
  refine ⟨by rw [ha.2.1 k hlt h.2 hne]; exact h.1, fun hA => ?_⟩
  rcases ha.1 k hA with t | t | t
  · exact h.2 t
  · exact hne t
  · omega
end

/-- lent bytes are bytes to be read -/
theorem rest_of_lent5 {w : World} {B g cap : Nat} {s : ByteArray} (h : w.ownsRow B 5 1 (.slice (some ⟨g, 0, none⟩) (s.size + 3) cap) (s.size + 3) (bytesV s.data.toList ++ [.int .u8 200, .int .u8 201, .int .u8 202])) :
    Rest w g (some ⟨g, 0, none⟩) cap s.data.toList := by
  have hlen : s.data.toList.length = s.size := by simp
  have hcap : s.size + 3 ≤ cap ∧ cap ≤ maxLen := by
    rcases h.2 with ⟨h, _⟩ | ⟨g', cap', cur, h, _, _, hnc, hm, _⟩
    · cases h
    · simp only [Value.slice.injEq] at h
      obtain ⟨_, _, rfl⟩ := h
      exact ⟨hnc, hm⟩
  refine ⟨by omega, hcap.2, .inr ⟨0, rfl, fun j hj => ?_⟩⟩
  rw [Nat.zero_add, h.cellAt j (by omega), List.getElem?_append_left (by rw [length_bytesV]; exact hj)]
  simp only [bytesV, List.getElem?_map, List.getElem?_eq_getElem hj, Option.map_some, Pu.byteAt, List.getD_eq_getElem?_getD, Option.getD_some]

theorem look_bounds {D : List UInt8} {E : Nat} {cs : List Pu.Col} {gs : List (Nat × List (Nat × Nat))} (h : Pu.look D = .good E cs gs) : cs.length ≤ 20 ∧ gs.length ≤ 50 := by
  rw [look_find] at h
  cases hf : Pu.find D with
  | none => simp [hf] at h
  | some p =>
    obtain ⟨E', z, y⟩ := p
    simp only [hf] at h
    split at h
    · cases h
    · cases hft : Pu.foot (Pu.piece D E' z) E' with
      | none => simp [hft] at h
      | some q =>
        obtain ⟨cs', gs'⟩ := q
        simp only [hft, Pu.Seen.good.injEq] at h
        obtain ⟨_, rfl, rfl⟩ := h
        unfold Pu.foot at hft
        cases hc : Pu.cols (Pu.piece D E' z) with
        | none => simp [hc] at hft
        | some r =>
          obtain ⟨cs2, a⟩ := r
          simp only [hc] at hft
          cases hg : Pu.grps (Pu.piece D E' z) E' cs2.length a with
          | none => simp [hg] at hft
          | some gs2 =>
            simp only [hg, Option.some.injEq, Prod.mk.injEq] at hft
            obtain ⟨rfl, rfl⟩ := hft
            exact ⟨(Pu.cols_spec hc).2.1, Pu.grps_spec hg⟩

theorem look_bad_le {D : List UInt8} {k : Nat} (h : Pu.look D = .bad k) : 6 ≤ k ∧ k ≤ 8 := by
  rw [look_find] at h
  cases hf : Pu.find D with
  | none => simp only [hf, Pu.Seen.bad.injEq] at h; omega
  | some p =>
    obtain ⟨E', z, y⟩ := p
    simp only [hf] at h
    split at h
    · simp only [Pu.Seen.bad.injEq] at h; omega
    · cases hft : Pu.foot (Pu.piece D E' z) E' with
      | none => simp only [hft, Pu.Seen.bad.injEq] at h; omega
      | some q => obtain ⟨cs', gs'⟩ := q; simp [hft] at h

end Go.Proofs.Ytjobhlncllfdmaa
