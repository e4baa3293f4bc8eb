/- The book with its five lanes; how a lane is opened and shut. -/
import Derived.Test.YtjobhlncllfdmaaM06
namespace Go.Proofs.Ytjobhlncllfdmaa
open Go.RowKit

def colM (m : Int) : List Value := [.string ByteArray.empty, .int .i64 m, .bool false]
def cellM (m : Int) : List Value := [.bool false, .int .i64 m, .string ByteArray.empty]

/-- the five lanes: bytes, ints, columns, cells, lists of cells -/
def LN : Nat → LP
  | 0 => { E := 24, e := 5, em := 5, ax := 1000, sz := 1, kd := .u8, el := fun _ _ m xs => xs = [.int .u8 m] }
  | 1 => { E := 26, e := 3, em := 3, ax := 1000, sz := 1, kd := .i64, el := fun _ _ m xs => xs = [.int .i64 m] }
  | 2 => { E := 37, e := 45, em := 3, ax := 1000, sz := 3, kd := .i64, el := fun _ _ m xs => xs = colM m }
  | 3 => { E := 64, e := 66, em := 3, ax := 1000, sz := 3, kd := .i64, el := fun _ _ m xs => xs = cellM m }
  | _ => { E := 28, e := 64, em := 3, ax := 66, sz := 1, kd := .i64, el := fun w U m xs => ∃ g c cur, xs = [.slice (some ⟨g, 0, none⟩) 1 c] ∧ U g ∧ w.heap[g]? = some (.cells cur 66 (0, 0)) ∧ cur.toList.take 3 = cellM m }

theorem LN_ok : ∀ i, LPok (LN i) := by
  intro i
  match i with
  | 0 => exact ⟨by decide, by decide, by decide, by decide, by decide, by decide, by decide, by decide, by decide, by decide, fun _ _ _ _ _ _ h _ _ => h, fun _ _ m xs h => by rw [show xs = [.int .u8 m] from h]; rfl⟩
  | 1 => exact ⟨by decide, by decide, by decide, by decide, by decide, by decide, by decide, by decide, by decide, by decide, fun _ _ _ _ _ _ h _ _ => h, fun _ _ m xs h => by rw [show xs = [.int .i64 m] from h]; rfl⟩
  | 2 => exact ⟨by decide, by decide, by decide, by decide, by decide, by decide, by decide, by decide, by decide, by decide, fun _ _ _ _ _ _ h _ _ => h, fun _ _ m xs h => by rw [show xs = colM m from h]; rfl⟩
  | 3 => exact ⟨by decide, by decide, by decide, by decide, by decide, by decide, by decide, by decide, by decide, by decide, fun _ _ _ _ _ _ h _ _ => h, fun _ _ m xs h => by rw [show xs = cellM m from h]; rfl⟩
  | k + 4 =>
    rw [show LN (k + 4) = LN 4 from rfl]
    refine ⟨by decide, by decide, by decide, by decide, by decide, by decide, by decide, by decide, by decide, by decide, ?_, ?_⟩
    · rintro w w' U U' m xs ⟨g, c, cur, h1, h2, h3, h4⟩ hx hU
      exact ⟨g, c, cur, h1, hU g h2, by rw [hx g h2 ⟨cur, h3⟩]; exact h3, h4⟩
    · rintro w U m xs ⟨g, c, cur, h1, _⟩
      rw [h1]; rfl

/-- the book in block b: its lanes' blocks U, what was kept -/
def Bk (w : World) (B b : Nat) (U : Nat → Nat → Prop) (ps : Nat → List (Value × Int)) : Prop :=
  ∃ C : Array Value, BB w b C ∧ C.size = 11 ∧ (∃ mk, C[0]? = some (.int .i64 mk)) ∧ B ≤ b ∧
    (∀ i, i < 5 → ∃ vr vm, C[2 * i + 1]? = some vr ∧ C[2 * i + 2]? = some vm ∧ LaneG (LN i) w B (U i) vr vm (lists (ps i)) (marks (LN i).kd (ps i)) (ps i)) ∧
    (∀ i, i < 5 → ∀ k, U i k → B ≤ k ∧ k < w.heap.size ∧ k ≠ b) ∧ (∀ i j k, i < 5 → j < 5 → U i k → U j k → i = j)

/-- the book, seen from outside: A its blocks, at most n lists in a lane -/
def Book5 (w : World) (B b : Nat) (A : Nat → Prop) (n : Nat) : Prop :=
  ∃ U ps, Bk w B b U ps ∧ (∀ k, A k ↔ (k = b ∨ ∃ i, i < 5 ∧ U i k)) ∧ ∀ i, i < 5 → (ps i).length ≤ n

theorem Book5.lt {w : World} {B b : Nat} {A : Nat → Prop} {n : Nat} (h : Book5 w B b A n) : ∀ k, A k → B ≤ k ∧ k < w.heap.size := by
  obtain ⟨U, ps, ⟨C, h1, h2, h3, h4, h5, h6, h7⟩, hA, hn⟩ := h
  intro k hk
  rcases (hA k).1 hk with rfl | ⟨i, hi, hu⟩
  · exact ⟨h4, h1.ty.lt⟩
  · have := h6 i hi k hu; omega

theorem Book5.hasB {w : World} {B b : Nat} {A : Nat → Prop} {n : Nat} (h : Book5 w B b A n) : A b := by
  obtain ⟨U, ps, _, hA, _⟩ := h; exact (hA b).2 (.inl rfl)
theorem Book5.bsize {w : World} {B b : Nat} {A : Nat → Prop} {n : Nat} (h : Book5 w B b A n) : B ≤ w.heap.size := by
  have := h.lt b h.hasB; omega

theorem Book5.kept {w w' : World} {B b : Nat} {A : Nat → Prop} {n : Nat} (h : Book5 w B b A n) (hw : ∀ k, A k → w'.heap[k]? = w.heap[k]?) (hs : w.heap.size ≤ w'.heap.size) : Book5 w' B b A n := by
  obtain ⟨U, ps, ⟨C, h1, h2, h3, h4, h5, h6, h7⟩, hA, hn⟩ := h
  refine ⟨U, ps, ⟨C, h1.kept (hw b ((hA b).2 (.inl rfl))), h2, h3, h4, ?_, fun i hi k hk => ?_, h7⟩, hA, hn⟩
  · intro i hi
    obtain ⟨vr, vm, e1, e2, hL⟩ := h5 i hi
    exact ⟨vr, vm, e1, e2, hL.agree (LN_ok i) (fun k hk => hw k ((hA k).2 (.inr ⟨i, hi, hk⟩))) (fun _ h => h)⟩
  · have := h6 i hi k hk; omega

theorem Book5.below {w w' : World} {B b N : Nat} {A : Nat → Prop} {n : Nat} (h : Book5 w B b A n) (hb : Below N w w') (hN : w.heap.size ≤ N) : Book5 w' B b A n :=
  h.kept (fun k hk => hb.block k (by have := (h.lt k hk).2; omega)) hb.size

theorem Book5.mono {w : World} {B b : Nat} {A : Nat → Prop} {n n' : Nat} (h : Book5 w B b A n) (hn : n ≤ n') : Book5 w B b A n' := by
  obtain ⟨U, ps, h1, h2, h3⟩ := h
  exact ⟨U, ps, h1, h2, fun i hi => Nat.le_trans (h3 i hi) hn⟩

theorem set_same (C : Array Value) (j : Nat) (v : Value) (h : C[j]? = some v) : C.setIfInBounds j v = C := by
  apply Array.ext_getElem?
  intro i
  by_cases hij : j = i
  · subst hij
    have hlt : j < C.size := (Array.getElem?_eq_some_iff.1 h).1
    rw [Array.getElem?_setIfInBounds_self_of_lt hlt, h]
  · rw [Array.getElem?_setIfInBounds_ne hij]

/-- a lane of the book is opened; what comes back shuts it -/
theorem Book5.openL {w : World} {B b : Nat} {A : Nat → Prop} {n : Nat} (h : Book5 w B b A n) (i : Nat) (hi : i < 5) :
    ∃ (C : Array Value) (U0 : Nat → Prop) (ps : List (Value × Int)) (vr vm : Value), BB w b C ∧ C.size = 11 ∧ (∃ mk, C[0]? = some (.int .i64 mk)) ∧ C[2 * i + 1]? = some vr ∧ C[2 * i + 2]? = some vm ∧
      LaneG (LN i) w B U0 vr vm (lists ps) (marks (LN i).kd ps) ps ∧ ps.length ≤ n ∧ (∀ k, U0 k → A k) ∧ (∀ k, U0 k → B ≤ k ∧ k < w.heap.size ∧ k ≠ b) ∧ B ≤ b ∧
      ∀ (w' : World) (l0 : Option Nat) (U' : Nat → Prop) (ps' : List (Value × Int)) (vr' vm' : Value) (mk' : Int), BB w' b (((C.setIfInBounds 0 (.int .i64 mk')).setIfInBounds (2 * i + 1) vr').setIfInBounds (2 * i + 2) vm') →
        LaneG (LN i) w' B U' vr' vm' (lists ps') (marks (LN i).kd ps') ps' → ps'.length ≤ n + 4 → (∀ k, U' k → B ≤ k ∧ k < w'.heap.size ∧ k ≠ b) → (∀ k, U' k → U0 k ∨ l0 = some k ∨ w.heap.size ≤ k) → (∀ k, l0 = some k → ¬ A k) →
        Fr (fun j => U0 j ∨ j = b ∨ l0 = some j) w w' →
        ∃ A', Book5 w' B b A' (n + 4) ∧ (∀ k, A' k → A k ∨ l0 = some k ∨ w.heap.size ≤ k) ∧ Fr (fun k => A k ∨ l0 = some k) w w' := by
  obtain ⟨U, ps, ⟨C, h1, h2, h3, h4, h5, h6, h7⟩, hA, hn⟩ := h
  obtain ⟨vr, vm, e1, e2, hL⟩ := h5 i hi
  refine ⟨C, U i, ps i, vr, vm, h1, h2, h3, e1, e2, hL, hn i hi, fun k hk => (hA k).2 (.inr ⟨i, hi, hk⟩), h6 i hi, h4, ?_⟩
  intro w' l0 U' ps' vr' vm' mk' hBB hL' hps hU' hUn hl0 hfr
  have hsz := hfr.size
  have hdis : ∀ j k, j < 5 → j ≠ i → U j k → ¬ U' k := by
    intro j k hj hji hk hu
    rcases hUn k hu with h | h | h
    · exact hji (h7 j i k hj hi hk h)
    · exact hl0 k h ((hA k).2 (.inr ⟨j, hj, hk⟩))
    · have := h6 j hj k hk; omega
  refine ⟨fun k => k = b ∨ ∃ j, j < 5 ∧ (if j = i then U' k else U j k), ⟨fun j => if j = i then U' else U j, fun j => if j = i then ps' else ps j, ⟨_, hBB, by simp [h2], ⟨mk', ?_⟩, h4, ?_, ?_, ?_⟩, ?_, ?_⟩, ?_, ?_⟩
  · rw [Array.getElem?_setIfInBounds_ne (by omega), Array.getElem?_setIfInBounds_ne (by omega), Array.getElem?_setIfInBounds_self_of_lt (by omega)]
  · intro j hj
    by_cases hji : j = i
    · subst hji
      refine ⟨vr', vm', ?_, ?_, by simpa using hL'⟩
      · rw [Array.getElem?_setIfInBounds_ne (by omega), Array.getElem?_setIfInBounds_self_of_lt (by simp; omega)]
      · rw [Array.getElem?_setIfInBounds_self_of_lt (by simp; omega)]
    · obtain ⟨vr2, vm2, f1, f2, hL2⟩ := h5 j hj
      refine ⟨vr2, vm2, ?_, ?_, ?_⟩
      · rw [Array.getElem?_setIfInBounds_ne (by omega), Array.getElem?_setIfInBounds_ne (by omega), Array.getElem?_setIfInBounds_ne (by omega)]; exact f1
      · rw [Array.getElem?_setIfInBounds_ne (by omega), Array.getElem?_setIfInBounds_ne (by omega), Array.getElem?_setIfInBounds_ne (by omega)]; exact f2
      · simp only [if_neg hji]
        refine hL2.agree (LN_ok j) (fun k hk => hfr.block k (h6 j hj k hk).2.1 ?_) (fun _ h => h)
        rintro (h | h | h)
        · exact hji (h7 j i k hj hi hk h)
        · exact (h6 j hj k hk).2.2 h
        · exact hl0 k h ((hA k).2 (.inr ⟨j, hj, hk⟩))
  · intro j hj k hk
    by_cases hji : j = i
    · simp only [if_pos hji] at hk; exact hU' k hk
    · simp only [if_neg hji] at hk; have := h6 j hj k hk; omega
  · intro j j2 k hj hj2 hk hk2
    by_cases hji : j = i
    · by_cases hji2 : j2 = i
      · omega
      · simp only [if_pos hji] at hk; simp only [if_neg hji2] at hk2
        exact absurd hk (hdis j2 k hj2 hji2 hk2)
    · by_cases hji2 : j2 = i
      · simp only [if_neg hji] at hk; simp only [if_pos hji2] at hk2
        exact absurd hk2 (hdis j k hj hji hk)
      · simp only [if_neg hji] at hk; simp only [if_neg hji2] at hk2
        exact h7 j j2 k hj hj2 hk hk2
  · intro k
    have e : ∀ j, ((fun j => if j = i then U' else U j) j k) = (if j = i then U' k else U j k) := fun j => by
      by_cases hji : j = i
      · simp only [if_pos hji]
      · simp only [if_neg hji]
    constructor
    · rintro (h | ⟨j, hj, h⟩)
      · exact .inl h
      · exact .inr ⟨j, hj, (e j).mpr h⟩
    · rintro (h | ⟨j, hj, h⟩)
      · exact .inl h
      · exact .inr ⟨j, hj, (e j).mp h⟩
  · intro j hj
    by_cases hji : j = i
    · simp only [if_pos hji]; exact hps
    · simp only [if_neg hji]; have := hn j hj; omega
  · rintro k (h | ⟨j, hj, h⟩)
    · exact .inl ((hA k).2 (.inl h))
    · split at h
      · rcases hUn k h with h | h | h
        · exact .inl ((hA k).2 (.inr ⟨i, hi, h⟩))
        · exact .inr (.inl h)
        · exact .inr (.inr h)
      · exact .inl ((hA k).2 (.inr ⟨j, hj, h⟩))
  · refine hfr.mono (fun k hk => ?_)
    rcases hk with h | h | h
    · exact .inl ((hA k).2 (.inr ⟨i, hi, h⟩))
    · exact .inl ((hA k).2 (.inl h))
    · exact .inr h

/-- the book at its beginning -/
theorem Book5.start (w : World) : Book5 (w.alloc (.cells #[.int .i64 0, nilS, nilS, nilS, nilS, nilS, nilS, nilS, nilS, nilS, nilS] 31)) w.heap.size w.heap.size (fun k => k = w.heap.size) 0 := by
  refine ⟨fun _ _ => False, fun _ => [], ⟨_, heap_alloc_new w _, rfl, ⟨0, rfl⟩, Nat.le_refl _, ?_, fun _ _ _ h => h.elim, fun _ _ _ _ _ h => h.elim⟩, fun k => by simp, fun i hi => Nat.le_refl _⟩
  intro i hi
  refine ⟨nilS, nilS, ?_, ?_, World.ownsRow_nil _ _ _ _, World.ownsRow_nil _ _ _ _, ?_, ?_, ?_⟩
  · match i, hi with
    | 0, _ => rfl
    | 1, _ => rfl
    | 2, _ => rfl
    | 3, _ => rfl
    | 4, _ => rfl
  · match i, hi with
    | 0, _ => rfl
    | 1, _ => rfl
    | 2, _ => rfl
    | 3, _ => rfl
    | 4, _ => rfl
  · intro p hp; cases hp
  · intro k hk; cases hk
  · intro k hk; cases hk

section
variable {P : LP} {jr jm : Nat} {w w1 wr : World} {B b : Nat} {C : Array Value} {U U' : Nat → Prop} {n : Nat} {m : Int} {ps : List (Value × Int)} {ao : Option Addr} {cap : Nat} {vr vm : Value} {xs : List Value}

/-- the list has been written full: the keeping begins -/
theorem KS.start (ok : LPok P) (hL : LaneG P w B U vr vm (lists ps) (marks P.kd ps) ps) (hBB : BB w b C) (hvr : C[jr]? = some vr) (hvm : C[jm]? = some vm) (hj0 : jr ≠ 0) (hm0 : jm ≠ 0) (hUr : ∀ k, U k → B ≤ k ∧ k < w.heap.size ∧ k ≠ b) (hB : B ≤ b) (u : Value)
    (hf1 : w1 = w.setCell ⟨b, 0, none⟩ u) (hf2 : Fr (fun k => (Value.slice ao n cap).ownBlock = some k) w1 wr) (hlU : ∀ k, (Value.slice ao n cap).ownBlock = some k → ¬ U k) (hlb : (Value.slice ao n cap).ownBlock ≠ some b)
    (ho : wr.ownsRow B P.e P.sz (.slice ao n cap) n xs) (hU1 : ∀ k, U k → U' k) (hU2 : ∀ k, U' k → U k ∨ (w.heap.size ≤ k ∧ k < wr.heap.size)) (_hlU' : ∀ k, (Value.slice ao n cap).ownBlock = some k → k < w.heap.size) (hel : AllEl P wr U' m n xs) :
    KS P jr jm w B b (C.setIfInBounds 0 u) U (Value.slice ao n cap).ownBlock n m ps (lists ps) (marks P.kd ps) U' wr (.slice ao n cap) := by
  have hbl := hBB.ty.lt
  have hs1 : w1.heap.size = w.heap.size := by rw [hf1]; exact size_set _ _ _
  have hs2 := hf2.size
  have ag : ∀ k, U k → wr.heap[k]? = w.heap[k]? := fun k hk => by
    have h := hUr k hk
    rw [hf2.block k (by omega) (fun e' => hlU k e' hk), hf1]
    exact heap_setCell_other w _ k u h.2.2
  have hL' : LaneG P wr B U' vr vm (lists ps) (marks P.kd ps) ps := hL.agree ok ag hU1
  refine ⟨vr, vm, ?_, ⟨hL', ⟨xs, ho, hel⟩, fun k hk e' => hlU k hk (hL.2.2.2.2 k e'), ?_⟩, ?_, ?_, fun j hj => .inl hj, ?_, hB, hbl⟩
  · have hb1 : BB w1 b (C.setIfInBounds 0 u) := by rw [hf1]; exact hBB.set 0 u
    rw [set_same _ jr vr (by rw [Array.getElem?_setIfInBounds_ne (Ne.symm hj0)]; exact hvr), set_same _ jm vm (by rw [Array.getElem?_setIfInBounds_ne (Ne.symm hm0)]; exact hvm)]
    exact hb1.kept (hf2.block b (by omega) hlb)
  · intro p hp g j cp hv hj hg
    obtain ⟨ao', j', cp', hv', hm, hf⟩ := hL.2.2.1 p hp
    rw [hv] at hv'
    simp only [Value.slice.injEq] at hv'
    obtain ⟨rfl, rfl, rfl⟩ := hv'
    rcases hf with hf | ⟨g', cur, ha, hu, _⟩
    · omega
    · simp only [Option.some.injEq, Addr.mk.injEq, and_true] at ha
      subst ha
      exact absurd hu (hlU _ hg)
  · intro k hk
    rcases hU2 k hk with h | h
    · have := hUr k h; omega
    · exact ⟨by omega, by omega, by omega⟩
  · intro k hk
    rcases hU2 k hk with h | h
    · exact .inl h
    · exact .inr (.inr h.1)
  · have hf1' : Fr (fun k => k = b) w w1 := by rw [hf1]; exact Fr.set
    exact (hf1'.mono (fun k (hk : k = b) => .inr (.inl hk))).trans hf2 (fun k _ e' => .inr (.inr e'))

theorem KS.finish {U0 : Nat → Prop} {l0 : Option Nat} {N : Nat} {vl : Value} {X Y : List Value} (h : KS P jr jm w B b C U0 l0 N m ps X Y U wr vl) :
    ∃ vr vm, BB wr b ((C.setIfInBounds jr vr).setIfInBounds jm vm) ∧ LaneG P wr B U vr vm X Y ps ∧ (∀ j, U j → B ≤ j ∧ j < wr.heap.size ∧ j ≠ b) ∧ (∀ j, U j → U0 j ∨ l0 = some j ∨ w.heap.size ≤ j) ∧ Fr (fun j => U0 j ∨ j = b ∨ l0 = some j) w wr := by
  obtain ⟨vr, vm, h1, h2, h3, h4, h5, h6, h7, h8⟩ := h
  exact ⟨vr, vm, h1, h2.1, h3, h4, h6⟩
end

end Go.Proofs.Ytjobhlncllfdmaa

/- One round of keeping a list; the lanes' types. -/
namespace Go.Proofs.Ytjobhlncllfdmaa
open Go.RowKit

theorem Try.info37 : (Try.prog.info? 37).map (fun i => (i.zero, i.size, i.bytes)) = some (some (.slice none 0 0), 1, 24) := by kernel_rfl

theorem lists_snoc (ps : List (Value × Int)) (v : Value) (m : Int) : lists (ps ++ [(v, m)]) = lists ps ++ [v] := by simp [lists]
theorem marks_snoc (kd : IntKind) (ps : List (Value × Int)) (v : Value) (m : Int) : marks kd (ps ++ [(v, m)]) = marks kd ps ++ [.int kd m] := by simp [marks]
theorem length_lists (ps : List (Value × Int)) : (lists ps).length = ps.length := by simp [lists]
theorem length_marks (kd : IntKind) (ps : List (Value × Int)) : (marks kd ps).length = ps.length := by simp [marks]

/-- one round, where what reads as a mark hangs on nothing else -/
theorem KS.round {P : LP} {EE EM by' bm jr jm : Nat} {w0 wr : World} {B b : Nat} {C : Array Value} {U0 U : Nat → Prop} {l0 : Option Nat} {N : Nat} {m : Int} {ps : List (Value × Int)} {ao : Option Addr} {cap : Nat} {news : List Value}
    (ok : LPok P) (run : LPrun P EE EM by' bm) (hj : jr ≠ jm) (hr : jr < C.size) (hm : jm < C.size) (hel : ∀ w U, P.el w U m news) (hone : ∀ u ∈ news, u.oneCell' = true) (h : KS P jr jm w0 B b C U0 l0 N m ps (lists ps) (marks P.kd ps) U wr (.slice ao N cap)) (hps : ps.length ≤ 100000000)
    (hN : (N + 1) * by' ≤ 140737488355328) (hN2 : N + 1 ≤ maxLen) :
    ∃ a1 c1 a2 c2 g1 p1 w1 g2 p2 w2 g3 p3 w3 U',
      wr.cell? ⟨b, jr, none⟩ = some (.slice a1 ps.length c1) ∧
      (Builtin.append_ #[EE, EE] EE #[.slice a1 ps.length c1, .slice (some ⟨wr.heap.size, 0, none⟩) 1 1]).run Try.prog (wr.alloc (.cells #[.slice ao N cap] P.E)) = .ok (.slice (some ⟨g1, 0, none⟩) (ps.length + 1) p1) w1 ∧
      w1.cell? ⟨b, jr, none⟩ = some (.slice a1 ps.length c1) ∧ w1.frozen? ⟨b, jr, none⟩ = false ∧
      (w1.setCell ⟨b, jr, none⟩ (.slice (some ⟨g1, 0, none⟩) (ps.length + 1) p1)).cell? ⟨b, jm, none⟩ = some (.slice a2 ps.length c2) ∧
      (Builtin.append_ #[EM, EM] EM #[.slice a2 ps.length c2, .slice (some ⟨w1.heap.size, 0, none⟩) 1 1]).run Try.prog ((w1.setCell ⟨b, jr, none⟩ (.slice (some ⟨g1, 0, none⟩) (ps.length + 1) p1)).alloc (.cells #[.int P.kd m] P.em)) = .ok (.slice (some ⟨g2, 0, none⟩) (ps.length + 1) p2) w2 ∧
      w2.cell? ⟨b, jm, none⟩ = some (.slice a2 ps.length c2) ∧ w2.frozen? ⟨b, jm, none⟩ = false ∧
      (Builtin.append_ #[P.E, P.E] P.E #[.slice ao N cap, .slice (some ⟨w2.heap.size, 0, none⟩) 1 1]).run Try.prog ((w2.setCell ⟨b, jm, none⟩ (.slice (some ⟨g2, 0, none⟩) (ps.length + 1) p2)).alloc (.cells news.toArray P.e)) = .ok (.slice (some ⟨g3, 0, none⟩) (N + 1) p3) w3 ∧
      KS P jr jm w0 B b C U0 l0 (N + 1) m (ps ++ [(.slice ao N cap, m)]) (lists (ps ++ [(.slice ao N cap, m)])) (marks P.kd (ps ++ [(.slice ao N cap, m)])) U' w3 (.slice (some ⟨g3, 0, none⟩) (N + 1) p3) := by
  have e1 := length_lists ps
  have e2 := length_marks P.kd ps
  obtain ⟨a1, c1, g1, p1, w1, U1, hc1, r1, hc1', hf1, h1⟩ := KS.stepA ok run hj hr h (by omega)
  rw [e1] at hc1 r1 hc1' h1
  obtain ⟨a2, c2, g2, p2, w2, U2, hc2, r2, hc2', hf2, h2⟩ := KS.stepB ok run hj hm h1 (by omega)
  rw [e2] at hc2 r2 hc2' h2
  rw [size_set] at r2
  obtain ⟨g3, p3, w3, U3, r3, h3⟩ := KS.stepC ok run h2 (hel _ _) hone hN hN2
  rw [size_set] at r3
  rw [lists_snoc, marks_snoc]
  exact ⟨a1, c1, a2, c2, g1, p1, w1, g2, p2, w2, g3, p3, w3, U3, hc1, r1, hc1', hf1, hc2, r2, hc2', hf2, r3, h3⟩

theorem LN0_run : LPrun (LN 0) 23 24 1 1 := by
  obtain ⟨i, a1, a2, a3, a4⟩ := info_parts Try.info24
  obtain ⟨j, b1, b2, b3, b4⟩ := info_parts Try.info5
  exact ⟨Try.underlying23, ⟨i, a1, a2, a3, a4⟩, Try.underlying24, ⟨j, _, b1, b2, b3, b4, rfl⟩, Try.underlying24, ⟨j, b1, b2, b3, b4⟩, by omega⟩
theorem LN1_run : LPrun (LN 1) 25 26 8 8 := by
  obtain ⟨i, a1, a2, a3, a4⟩ := info_parts Try.info26
  obtain ⟨j, b1, b2, b3, b4⟩ := info_parts Try.info3
  exact ⟨Try.underlying25, ⟨i, a1, a2, a3, a4⟩, Try.underlying26, ⟨j, _, b1, b2, b3, b4, rfl⟩, Try.underlying26, ⟨j, b1, b2, b3, b4⟩, by omega⟩
theorem LN2_run : LPrun (LN 2) 27 26 32 8 := by
  obtain ⟨i, a1, a2, a3, a4⟩ := info_parts Try.info37
  obtain ⟨j, b1, b2, b3, b4⟩ := info_parts Try.info3
  obtain ⟨k, d1, d2, d3, d4⟩ := info_parts Try.info45
  exact ⟨Try.underlying27, ⟨i, a1, a2, a3, a4⟩, Try.underlying37, ⟨k, _, d1, d2, d3, d4, rfl⟩, Try.underlying26, ⟨j, b1, b2, b3, b4⟩, by omega⟩

/-- one place of one cell is written -/
theorem el_set1 {P : LP} {w w' : World} {U U' : Nat → Prop} {m : Int} {k : Nat} {ys : List Value} {x : Value} (hsz : P.sz = 1) (hel : ∀ w U, P.el w U m [x]) (hk : k < ys.length) (h : AllEl P w U m k ys) (hst : ∀ xs, P.el w U m xs → P.el w' U' m xs) : AllEl P w' U' m (k + 1) (ys.set k x) := by
  intro j hj
  rw [hsz, Nat.mul_one]
  by_cases hjk : j = k
  · subst hjk
    have : ((ys.set j x).drop j).take 1 = [x] := by
      rw [List.drop_eq_getElem_cons (by simpa using hk), List.take_succ_cons]; simp
    rw [this]; exact hel _ _
  · have hh := h j (by omega)
    rw [hsz, Nat.mul_one] at hh
    have : ((ys.set k x).drop j).take 1 = (ys.drop j).take 1 := by
      rw [List.drop_eq_getElem_cons (by simp; omega), List.drop_eq_getElem_cons (show j < ys.length by omega), List.take_succ_cons, List.take_succ_cons]
      simp [Ne.symm hjk]
    rw [this]
    exact hst _ hh

/-- one place of three cells is written -/
theorem el_set3 {P : LP} {w w' : World} {U U' : Nat → Prop} {m : Int} {k : Nat} {ys : List Value} {x y z : Value} (hsz : P.sz = 3) (hel : ∀ w U, P.el w U m [x, y, z]) (hk : k * 3 + 2 < ys.length) (h : AllEl P w U m k ys) (hst : ∀ xs, P.el w U m xs → P.el w' U' m xs) : AllEl P w' U' m (k + 1) (((ys.set (k * 3) x).set (k * 3 + 1) y).set (k * 3 + 2) z) := by
  have hget : ∀ (L : List Value) (j : Nat), j * 3 + 2 < L.length → (L.drop (j * 3)).take 3 = [L[j * 3]?.getD (.bool false), L[j * 3 + 1]?.getD (.bool false), L[j * 3 + 2]?.getD (.bool false)] := by
    intro L j hj
    rw [List.drop_eq_getElem_cons (by omega), List.take_succ_cons, List.drop_eq_getElem_cons (by omega), List.take_succ_cons, List.drop_eq_getElem_cons (by omega), List.take_succ_cons]
    simp [List.getElem?_eq_getElem (show j * 3 < L.length by omega), List.getElem?_eq_getElem (show j * 3 + 1 < L.length by omega), List.getElem?_eq_getElem (show j * 3 + 1 + 1 < L.length by omega)]
  intro j hj
  rw [hsz, hget _ j (by simp; omega)]
  by_cases hjk : j = k
  · subst hjk
    have e : [((((ys.set (j * 3) x).set (j * 3 + 1) y).set (j * 3 + 2) z))[j * 3]?.getD (.bool false), ((((ys.set (j * 3) x).set (j * 3 + 1) y).set (j * 3 + 2) z))[j * 3 + 1]?.getD (.bool false), ((((ys.set (j * 3) x).set (j * 3 + 1) y).set (j * 3 + 2) z))[j * 3 + 2]?.getD (.bool false)] = [x, y, z] := by
      simp [show j * 3 < ys.length by omega, show j * 3 + 1 < ys.length by omega, show j * 3 + 2 < ys.length by omega]
    rw [e]; exact hel _ _
  · have hh := h j (by omega)
    rw [hsz, hget _ j (by omega)] at hh
    have e : ∀ i, i < 3 → ((((ys.set (k * 3) x).set (k * 3 + 1) y).set (k * 3 + 2) z))[j * 3 + i]? = ys[j * 3 + i]? := by
      intro i hi
      rw [List.getElem?_set_ne (by omega), List.getElem?_set_ne (by omega), List.getElem?_set_ne (by omega)]
    rw [show j * 3 = j * 3 + 0 by omega, e 0 (by omega), Nat.add_zero, e 1 (by omega), e 2 (by omega)]
    exact hst _ hh

end Go.Proofs.Ytjobhlncllfdmaa
