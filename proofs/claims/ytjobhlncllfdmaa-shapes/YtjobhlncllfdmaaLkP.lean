/- Plain functions: what a footer says, what a look at a file tells. -/
import Derived.Test.YtjobhlncllfdmaaRefD
namespace Go.Proofs.Ytjobhlncllfdmaa.Pu

/-- a column: its name, its kind, may its cells be null -/
structure Col where
  name : List UInt8
  kind : Nat
  opt : Bool
deriving DecidableEq

def hasName (cs : List Col) (nm : List UInt8) : Bool := cs.any fun c => c.name == nm

/-- the column that stands at a place, behind those of out -/
def col1 (D : List UInt8) (a : Nat) (out : List Col) : Option (Col × Nat) :=
  match vi D a with
  | none => none
  | some (z, nx) =>
    if z < 1 ∨ 20 < z ∨ D.length ≤ nx + z then none else
    if hasName out (piece D nx z) = true ∨ byteAt D (nx + z) = 3 ∨ 6 < byteAt D (nx + z) then none else
    some (⟨piece D nx z, byteAt D (nx + z) % 4, decide (4 ≤ byteAt D (nx + z))⟩, nx + z + 1)

def colsGo (D : List UInt8) : Nat → Nat → List Col → Option (List Col × Nat)
  | 0, a, out => some (out, a)
  | n + 1, a, out =>
    match col1 D a out with
    | none => none
    | some (c, a') => colsGo D n a' (out ++ [c])

def cols (D : List UInt8) : Option (List Col × Nat) :=
  match vi D 0 with
  | none => none
  | some (n, a) => if n < 1 ∨ 20 < n then none else colsGo D n a []

/-- where the pages of a column begin, and how many there are -/
def chunk1 (D : List UInt8) (E a : Nat) : Option ((Nat × Nat) × Nat) :=
  match vi D a with
  | none => none
  | some (p, a1) =>
    if p < 4 ∨ E < p then none else
    match vi D a1 with
    | none => none
    | some (q, a2) => if q < 1 ∨ 50 < q then none else some ((p, q), a2)

def chunksGo (D : List UInt8) (E : Nat) : Nat → Nat → List (Nat × Nat) → Option (List (Nat × Nat) × Nat)
  | 0, a, out => some (out, a)
  | n + 1, a, out =>
    match chunk1 D E a with
    | none => none
    | some (c, a') => chunksGo D E n a' (out ++ [c])

/-- a group: its rows, its chunks -/
def grp1 (D : List UInt8) (E nc a : Nat) : Option ((Nat × List (Nat × Nat)) × Nat) :=
  match vi D a with
  | none => none
  | some (r, a1) =>
    if r < 1 ∨ 1000 < r then none else
    match chunksGo D E nc a1 [] with
    | none => none
    | some (l, a2) => some ((r, l), a2)

def grpsGo (D : List UInt8) (E nc : Nat) : Nat → Nat → List (Nat × List (Nat × Nat)) → Option (List (Nat × List (Nat × Nat)) × Nat)
  | 0, a, out => some (out, a)
  | n + 1, a, out =>
    match grp1 D E nc a with
    | none => none
    | some (g, a') => grpsGo D E nc n a' (out ++ [g])

def grps (D : List UInt8) (E nc a : Nat) : Option (List (Nat × List (Nat × Nat))) :=
  match vi D a with
  | none => none
  | some (n, a1) =>
    if 50 < n then none else
    match grpsGo D E nc n a1 [] with
    | none => none
    | some (gs, a2) => if a2 = D.length then some gs else none

/-- what a footer that begins at E says -/
def foot (D : List UInt8) (E : Nat) : Option (List Col × List (Nat × List (Nat × Nat))) :=
  match cols D with
  | none => none
  | some (cs, a) =>
    match grps D E cs.length a with
    | none => none
    | some gs => some (cs, gs)

theorem piece_len {D : List UInt8} {a n : Nat} (h : a + n ≤ D.length) : (piece D a n).length = n := length_piece D a n h

theorem col1_lt {D : List UInt8} {a a' : Nat} {out : List Col} {c : Col} (h : col1 D a out = some (c, a')) : a < a' ∧ a' ≤ D.length := by
  unfold col1 at h
  cases hv : vi D a with
  | none => simp [hv] at h
  | some p =>
    obtain ⟨z, nx⟩ := p
    have hl := vi_lt hv
    simp only [hv] at h
    split at h
    · cases h
    · rename_i hz
      split at h
      · cases h
      · simp only [Option.some.injEq, Prod.mk.injEq] at h
        obtain ⟨_, rfl⟩ := h
        omega

theorem colsGo_spec {D : List UInt8} : ∀ n a out cs b, a ≤ D.length → colsGo D n a out = some (cs, b) → cs.length = out.length + n ∧ b ≤ D.length := by
  intro n
  induction n with
  | zero =>
    intro a out cs b ha h
    simp only [colsGo, Option.some.injEq, Prod.mk.injEq] at h
    obtain ⟨rfl, rfl⟩ := h
    exact ⟨rfl, ha⟩
  | succ n ih =>
    intro a out cs b ha h
    unfold colsGo at h
    cases hc : col1 D a out with
    | none => simp [hc] at h
    | some p =>
      obtain ⟨c, a'⟩ := p
      simp only [hc] at h
      have hl := col1_lt hc
      have := ih a' _ cs b hl.2 h
      simp only [List.length_append, List.length_cons, List.length_nil] at this
      exact ⟨by omega, this.2⟩

theorem cols_spec {D : List UInt8} {cs : List Col} {b : Nat} (h : cols D = some (cs, b)) : 1 ≤ cs.length ∧ cs.length ≤ 20 ∧ b ≤ D.length := by
  unfold cols at h
  cases hv : vi D 0 with
  | none => simp [hv] at h
  | some p =>
    obtain ⟨n, a⟩ := p
    have hl := vi_lt hv
    simp only [hv] at h
    split at h
    · cases h
    · have := colsGo_spec n a [] cs b hl.2.1 h
      simp only [List.length_nil] at this
      omega

theorem chunk1_lt {D : List UInt8} {E a a' : Nat} {c : Nat × Nat} (h : chunk1 D E a = some (c, a')) : a < a' ∧ a' ≤ D.length := by
  unfold chunk1 at h
  cases hv : vi D a with
  | none => simp [hv] at h
  | some p =>
    obtain ⟨p, a1⟩ := p
    have hl := vi_lt hv
    simp only [hv] at h
    split at h
    · cases h
    · cases hw : vi D a1 with
      | none => simp [hw] at h
      | some q =>
        obtain ⟨q, a2⟩ := q
        have hl2 := vi_lt hw
        simp only [hw] at h
        split at h
        · cases h
        · simp only [Option.some.injEq, Prod.mk.injEq] at h
          obtain ⟨_, rfl⟩ := h
          omega

theorem chunksGo_spec {D : List UInt8} {E : Nat} : ∀ n a out cs b, a ≤ D.length → chunksGo D E n a out = some (cs, b) → cs.length = out.length + n ∧ b ≤ D.length := by
  intro n
  induction n with
  | zero =>
    intro a out cs b ha h
    simp only [chunksGo, Option.some.injEq, Prod.mk.injEq] at h
    obtain ⟨rfl, rfl⟩ := h
    exact ⟨rfl, ha⟩
  | succ n ih =>
    intro a out cs b ha h
    unfold chunksGo at h
    cases hc : chunk1 D E a with
    | none => simp [hc] at h
    | some p =>
      obtain ⟨c, a'⟩ := p
      simp only [hc] at h
      have hl := chunk1_lt hc
      have := ih a' _ cs b hl.2 h
      simp only [List.length_append, List.length_cons, List.length_nil] at this
      exact ⟨by omega, this.2⟩

theorem grp1_lt {D : List UInt8} {E nc a a' : Nat} {g : Nat × List (Nat × Nat)} (h : grp1 D E nc a = some (g, a')) : a' ≤ D.length ∧ g.2.length = nc := by
  unfold grp1 at h
  cases hv : vi D a with
  | none => simp [hv] at h
  | some p =>
    obtain ⟨r, a1⟩ := p
    have hl := vi_lt hv
    simp only [hv] at h
    split at h
    · cases h
    · cases hc : chunksGo D E nc a1 [] with
      | none => simp [hc] at h
      | some q =>
        obtain ⟨l, a2⟩ := q
        have hs := chunksGo_spec nc a1 [] l a2 hl.2.1 hc
        simp only [hc, Option.some.injEq, Prod.mk.injEq] at h
        obtain ⟨rfl, rfl⟩ := h
        exact ⟨hs.2, by simpa using hs.1⟩

theorem grpsGo_spec {D : List UInt8} {E nc : Nat} : ∀ n a out gs b, a ≤ D.length → grpsGo D E nc n a out = some (gs, b) → gs.length = out.length + n ∧ b ≤ D.length := by
  intro n
  induction n with
  | zero =>
    intro a out cs b ha h
    simp only [grpsGo, Option.some.injEq, Prod.mk.injEq] at h
    obtain ⟨rfl, rfl⟩ := h
    exact ⟨rfl, ha⟩
  | succ n ih =>
    intro a out cs b ha h
    unfold grpsGo at h
    cases hc : grp1 D E nc a with
    | none => simp [hc] at h
    | some p =>
      obtain ⟨c, a'⟩ := p
      simp only [hc] at h
      have hl := grp1_lt hc
      have := ih a' _ cs b hl.1 h
      simp only [List.length_append, List.length_cons, List.length_nil] at this
      exact ⟨by omega, this.2⟩

theorem grps_spec {D : List UInt8} {E nc a : Nat} {gs : List (Nat × List (Nat × Nat))} (h : grps D E nc a = some gs) : gs.length ≤ 50 := by
  unfold grps at h
  cases hv : vi D a with
  | none => simp [hv] at h
  | some p =>
    obtain ⟨n, a1⟩ := p
    have hl := vi_lt hv
    simp only [hv] at h
    split at h
    · cases h
    · cases hc : grpsGo D E nc n a1 [] with
      | none => simp [hc] at h
      | some q =>
        obtain ⟨l, a2⟩ := q
        have hs := grpsGo_spec n a1 [] l a2 hl.2.1 hc
        simp only [hc] at h
        split at h
        · simp only [Option.some.injEq] at h
          subst h
          simp only [List.length_nil] at hs
          omega
        · cases h

end Go.Proofs.Ytjobhlncllfdmaa.Pu
