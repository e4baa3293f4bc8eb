/- Plain functions: what a footer says, what a look at a file tells. -/
import Derived.Test.YtjobhlncllfdmaaM02
import Derived.Deep.AppendLies
import Derived.Deep.AppendSrc
import Derived.Deep.Upon
namespace Go.Proofs.Ytjobhlncllfdmaa.Pu

/-- a column: its name, its kind, may its cells be null -/
structure Col where
  name : List UInt8
  kind : Nat
  opt : Bool
deriving DecidableEq

def hasName (cs : List Col) (nm : List UInt8) : Bool := cs.any fun c => c.name == nm

/-- the column that stands at a place, behind those of out -/
def col1 (D : List UInt8) (a : Nat) (out : List Col) : Option (Col × Nat) :=
  match vi D a with
  | none => none
  | some (z, nx) =>
    if z < 1 ∨ 20 < z ∨ D.length ≤ nx + z then none else
    if hasName out (piece D nx z) = true ∨ byteAt D (nx + z) = 3 ∨ 6 < byteAt D (nx + z) then none else
    some (⟨piece D nx z, byteAt D (nx + z) % 4, decide (4 ≤ byteAt D (nx + z))⟩, nx + z + 1)

def colsGo (D : List UInt8) : Nat → Nat → List Col → Option (List Col × Nat)
  | 0, a, out => some (out, a)
  | n + 1, a, out =>
    match col1 D a out with
    | none => none
    | some (c, a') => colsGo D n a' (out ++ [c])

def cols (D : List UInt8) : Option (List Col × Nat) :=
  match vi D 0 with
  | none => none
  | some (n, a) => if n < 1 ∨ 20 < n then none else colsGo D n a []

/-- where the pages of a column begin, and how many there are -/
def chunk1 (D : List UInt8) (E a : Nat) : Option ((Nat × Nat) × Nat) :=
  match vi D a with
  | none => none
  | some (p, a1) =>
    if p < 4 ∨ E < p then none else
    match vi D a1 with
    | none => none
    | some (q, a2) => if q < 1 ∨ 50 < q then none else some ((p, q), a2)

def chunksGo (D : List UInt8) (E : Nat) : Nat → Nat → List (Nat × Nat) → Option (List (Nat × Nat) × Nat)
  | 0, a, out => some (out, a)
  | n + 1, a, out =>
    match chunk1 D E a with
    | none => none
    | some (c, a') => chunksGo D E n a' (out ++ [c])

/-- a group: its rows, its chunks -/
def grp1 (D : List UInt8) (E nc a : Nat) : Option ((Nat × List (Nat × Nat)) × Nat) :=
  match vi D a with
  | none => none
  | some (r, a1) =>
    if r < 1 ∨ 1000 < r then none else
    match chunksGo D E nc a1 [] with
    | none => none
    | some (l, a2) => some ((r, l), a2)

def grpsGo (D : List UInt8) (E nc : Nat) : Nat → Nat → List (Nat × List (Nat × Nat)) → Option (List (Nat × List (Nat × Nat)) × Nat)
  | 0, a, out => some (out, a)
  | n + 1, a, out =>
    match grp1 D E nc a with
    | none => none
    | some (g, a') => grpsGo D E nc n a' (out ++ [g])

def grps (D : List UInt8) (E nc a : Nat) : Option (List (Nat × List (Nat × Nat))) :=
  match vi D a with
  | none => none
  | some (n, a1) =>
    if 50 < n then none else
    match grpsGo D E nc n a1 [] with
    | none => none
    | some (gs, a2) => if a2 = D.length then some gs else none

/-- what a footer that begins at E says -/
def foot (D : List UInt8) (E : Nat) : Option (List Col × List (Nat × List (Nat × Nat))) :=
  match cols D with
  | none => none
  | some (cs, a) =>
    match grps D E cs.length a with
    | none => none
    | some gs => some (cs, gs)

theorem piece_len {D : List UInt8} {a n : Nat} (h : a + n ≤ D.length) : (piece D a n).length = n := length_piece D a n h

theorem col1_lt {D : List UInt8} {a a' : Nat} {out : List Col} {c : Col} (h : col1 D a out = some (c, a')) : a < a' ∧ a' ≤ D.length := by
  unfold col1 at h
  cases hv : vi D a with
  | none => simp [hv] at h
  | some p =>
    obtain ⟨z, nx⟩ := p
    have hl := vi_lt hv
    simp only [hv] at h
    split at h
    · cases h
    · rename_i hz
      split at h
      · cases h
      · simp only [Option.some.injEq, Prod.mk.injEq] at h
        obtain ⟨_, rfl⟩ := h
        omega

theorem colsGo_spec {D : List UInt8} : ∀ n a out cs b, a ≤ D.length → colsGo D n a out = some (cs, b) → cs.length = out.length + n ∧ b ≤ D.length := by
  intro n
  induction n with
  | zero =>
    intro a out cs b ha h
    simp only [colsGo, Option.some.injEq, Prod.mk.injEq] at h
    obtain ⟨rfl, rfl⟩ := h
    exact ⟨rfl, ha⟩
  | succ n ih =>
    intro a out cs b ha h
    unfold colsGo at h
    cases hc : col1 D a out with
    | none => simp [hc] at h
    | some p =>
      obtain ⟨c, a'⟩ := p
      simp only [hc] at h
      have hl := col1_lt hc
      have := ih a' _ cs b hl.2 h
      simp only [List.length_append, List.length_cons, List.length_nil] at this
      exact ⟨by omega, this.2⟩

theorem cols_spec {D : List UInt8} {cs : List Col} {b : Nat} (h : cols D = some (cs, b)) : 1 ≤ cs.length ∧ cs.length ≤ 20 ∧ b ≤ D.length := by
  unfold cols at h
  cases hv : vi D 0 with
  | none => simp [hv] at h
  | some p =>
    obtain ⟨n, a⟩ := p
    have hl := vi_lt hv
    simp only [hv] at h
    split at h
    · cases h
    · have := colsGo_spec n a [] cs b hl.2.1 h
      simp only [List.length_nil] at this
      omega

theorem chunk1_lt {D : List UInt8} {E a a' : Nat} {c : Nat × Nat} (h : chunk1 D E a = some (c, a')) : a < a' ∧ a' ≤ D.length := by
  unfold chunk1 at h
  cases hv : vi D a with
  | none => simp [hv] at h
  | some p =>
    obtain ⟨p, a1⟩ := p
    have hl := vi_lt hv
    simp only [hv] at h
    split at h
    · cases h
    · cases hw : vi D a1 with
      | none => simp [hw] at h
      | some q =>
        obtain ⟨q, a2⟩ := q
        have hl2 := vi_lt hw
        simp only [hw] at h
        split at h
        · cases h
        · simp only [Option.some.injEq, Prod.mk.injEq] at h
          obtain ⟨_, rfl⟩ := h
          omega

theorem chunksGo_spec {D : List UInt8} {E : Nat} : ∀ n a out cs b, a ≤ D.length → chunksGo D E n a out = some (cs, b) → cs.length = out.length + n ∧ b ≤ D.length := by
  intro n
  induction n with
  | zero =>
    intro a out cs b ha h
    simp only [chunksGo, Option.some.injEq, Prod.mk.injEq] at h
    obtain ⟨rfl, rfl⟩ := h
    exact ⟨rfl, ha⟩
  | succ n ih =>
    intro a out cs b ha h
    unfold chunksGo at h
    cases hc : chunk1 D E a with
    | none => simp [hc] at h
    | some p =>
      obtain ⟨c, a'⟩ := p
      simp only [hc] at h
      have hl := chunk1_lt hc
      have := ih a' _ cs b hl.2 h
      simp only [List.length_append, List.length_cons, List.length_nil] at this
      exact ⟨by omega, this.2⟩

theorem grp1_lt {D : List UInt8} {E nc a a' : Nat} {g : Nat × List (Nat × Nat)} (h : grp1 D E nc a = some (g, a')) : a' ≤ D.length ∧ g.2.length = nc := by
  unfold grp1 at h
  cases hv : vi D a with
  | none => simp [hv] at h
  | some p =>
    obtain ⟨r, a1⟩ := p
    have hl := vi_lt hv
    simp only [hv] at h
    split at h
    · cases h
    · cases hc : chunksGo D E nc a1 [] with
      | none => simp [hc] at h
      | some q =>
        obtain ⟨l, a2⟩ := q
        have hs := chunksGo_spec nc a1 [] l a2 hl.2.1 hc
        simp only [hc, Option.some.injEq, Prod.mk.injEq] at h
        obtain ⟨rfl, rfl⟩ := h
        exact ⟨hs.2, by simpa using hs.1⟩

theorem grpsGo_spec {D : List UInt8} {E nc : Nat} : ∀ n a out gs b, a ≤ D.length → grpsGo D E nc n a out = some (gs, b) → gs.length = out.length + n ∧ b ≤ D.length := by
  intro n
  induction n with
  | zero =>
    intro a out cs b ha h
    simp only [grpsGo, Option.some.injEq, Prod.mk.injEq] at h
    obtain ⟨rfl, rfl⟩ := h
    exact ⟨rfl, ha⟩
  | succ n ih =>
    intro a out cs b ha h
    unfold grpsGo at h
    cases hc : grp1 D E nc a with
    | none => simp [hc] at h
    | some p =>
      obtain ⟨c, a'⟩ := p
      simp only [hc] at h
      have hl := grp1_lt hc
      have := ih a' _ cs b hl.1 h
      simp only [List.length_append, List.length_cons, List.length_nil] at this
      exact ⟨by omega, this.2⟩

theorem grps_spec {D : List UInt8} {E nc a : Nat} {gs : List (Nat × List (Nat × Nat))} (h : grps D E nc a = some gs) : gs.length ≤ 50 := by
  unfold grps at h
  cases hv : vi D a with
  | none => simp [hv] at h
  | some p =>
    obtain ⟨n, a1⟩ := p
    have hl := vi_lt hv
    simp only [hv] at h
    split at h
    · cases h
    · cases hc : grpsGo D E nc n a1 [] with
      | none => simp [hc] at h
      | some q =>
        obtain ⟨l, a2⟩ := q
        have hs := grpsGo_spec n a1 [] l a2 hl.2.1 hc
        simp only [hc] at h
        split at h
        · simp only [Option.some.injEq] at h
          subst h
          simp only [List.length_nil] at hs
          omega
        · cases h

end Go.Proofs.Ytjobhlncllfdmaa.Pu

/- Columns as cells; contract of the reference's name. -/
namespace Go.Proofs.Ytjobhlncllfdmaa
open Go.RowKit

def strV (l : List UInt8) : Value := .string ⟨l.toArray⟩
def colV (c : Pu.Col) : List Value := [strV c.name, .int .i64 (c.kind : Int), .bool c.opt]
def colsV (cs : List Pu.Col) : List Value := cs.flatMap colV

theorem length_colsV (cs : List Pu.Col) : (colsV cs).length = cs.length * 3 := by
  induction cs with
  | nil => rfl
  | cons c r ih =>
    have : (colsV (c :: r)).length = 3 + (colsV r).length := by simp [colsV, colV]; omega
    rw [this, ih, List.length_cons]; omega

theorem colsV_at (cs : List Pu.Col) (k j : Nat) (h : k < cs.length) (hj : j < 3) : (colsV cs)[k * 3 + j]? = (colV cs[k])[j]? := by
  induction cs generalizing k with
  | nil => simp at h
  | cons c r ih =>
    have e : colsV (c :: r) = colV c ++ colsV r := by simp [colsV]
    have hl : (colV c).length = 3 := rfl
    rw [e]
    cases k with
    | zero => rw [List.getElem?_append_left (by omega)]; simp
    | succ k =>
      rw [List.getElem?_append_right (by omega), show (k + 1) * 3 + j - (colV c).length = k * 3 + j by omega, ih k (by simpa using h)]
      simp

theorem colsV_snoc (cs : List Pu.Col) (c : Pu.Col) : colsV cs ++ colV c = colsV (cs ++ [c]) := by simp [colsV]

theorem str_list (s : ByteArray) : (⟨s.data.toList.toArray⟩ : ByteArray) = s := by cases s; simp

theorem str_eq_iff (l : List UInt8) (s : ByteArray) : (⟨l.toArray⟩ : ByteArray) = s ↔ l = s.data.toList := by
  constructor
  · rintro rfl; simp
  · rintro rfl; exact str_list s

theorem str_ne {t s : ByteArray} (h : ¬ t = s) : (t.toList == s.toList) = false := by
  rw [beq_eq_false_iff_ne, ByteArray.toList_eq, ByteArray.toList_eq]
  intro e
  exact h (by cases t; cases s; simp only [ByteArray.mk.injEq]; exact Array.ext' e)

theorem hasName_snoc (cs : List Pu.Col) (k : Nat) (nm : List UInt8) (h : k < cs.length) : Pu.hasName (cs.take (k + 1)) nm = (Pu.hasName (cs.take k) nm || cs[k].name == nm) := by
  unfold Pu.hasName
  rw [List.take_succ_eq_append_getElem h, List.any_append]
  simp

/-- the cells of a row of columns -/
theorem cols_cell {w : World} {B : Nat} {ao : Option Addr} {cap : Nat} {cs : List Pu.Col} (h : w.ownsRow B 45 3 (.slice ao cs.length cap) cs.length (colsV cs)) :
    ∀ k, (hk : k < cs.length) → ∃ g, ao = some ⟨g, 0, none⟩ ∧ w.cell? ⟨g, k * 3, none⟩ = some (strV cs[k].name) ∧ w.cell? ⟨g, k * 3 + 1, none⟩ = some (.int .i64 (cs[k].kind : Int)) ∧ w.cell? ⟨g, k * 3 + 2, none⟩ = some (.bool cs[k].opt) := by
  intro k hk
  obtain ⟨g, cap', he, _, _⟩ := h.form (by omega)
  simp only [Value.slice.injEq] at he
  obtain ⟨rfl, _, rfl⟩ := he
  refine ⟨g, rfl, ?_, ?_, ?_⟩
  · rw [h.cellAt _ (by omega)]; exact colsV_at cs k 0 hk (by omega)
  · rw [h.cellAt _ (by omega)]; exact colsV_at cs k 1 hk (by omega)
  · rw [h.cellAt _ (by omega)]; exact colsV_at cs k 2 hk (by omega)

set_option maxHeartbeats 1000000 in
set_option maxRecDepth 100000 in
theorem name_any (B : Nat) (ao : Option Addr) (cap : Nat) (cs : List Pu.Col) (s : ByteArray) (w : World) (h : w.ownsRow B 45 3 (.slice ao cs.length cap) cs.length (colsV cs)) (hcs : cs.length ≤ 20) :
    Calls Try.prog 51 #[.slice ao cs.length cap, .string s] w fun e w' => e = .returned (.bool (Pu.hasName cs s.data.toList)) ∧ w' = w := by
  have HC : Hid (∀ k, (hk : k < cs.length) → ∃ g, ao = some ⟨g, 0, none⟩ ∧ w.cell? ⟨g, k * 3, none⟩ = some (.string ⟨cs[k].name.toArray⟩)) := fun k hk => by
    obtain ⟨g, h1, h2, _⟩ := cols_cell h k hk
    exact ⟨g, h1, h2⟩
  have HN : Hid (∀ k, (hk : k < cs.length) → Pu.hasName (cs.take (k + 1)) s.data.toList = (Pu.hasName (cs.take k) s.data.toList || cs[k].name == s.data.toList)) := fun k hk => hasName_snoc cs k _ hk
  have HE : Hid (Pu.hasName (cs.take cs.length) s.data.toList = Pu.hasName cs s.data.toList) := by rw [Hid, List.take_length]
  have HT : Hid (∀ k, (hk : k < cs.length) → (⟨cs[k].name.toArray⟩ : ByteArray) = s → Pu.hasName cs s.data.toList = true) := fun k hk he => by
    unfold Pu.hasName
    rw [List.any_eq_true]
    exact ⟨cs[k], List.getElem_mem hk, by rw [(str_eq_iff _ _).1 he]; simp⟩
  clear h
  go_enter Try.func51, Try.ntmps51
  go_wp2
  go_loop [5] (fun i => ∃ k : Nat, k ≤ cs.length ∧ i = .int .i64 k ∧ Hid (Pu.hasName (cs.take k) s.data.toList = false)) (fun i => cs.length - (intOf i).toNat)
  case atStart => exact ⟨0, Nat.zero_le _, rfl, rfl⟩
  case round =>
    obtain ⟨k, hk, rfl, Hk⟩ := hrel
    by_cases hk2 : k < cs.length
    · obtain ⟨g, rfl, hc⟩ := HC.out k hk2
      by_cases he : (⟨cs[k].name.toArray⟩ : ByteArray) = s
      · have Hr : Hid (Pu.hasName cs s.data.toList = true) := HT.out k hk2 he
        rw [he] at hc
        clear he
        go_wp2
        go_ret
        exact ⟨by rw [Hr.out]; rfl, rfl⟩
      · have Hn : Hid (Pu.hasName (cs.take (k + 1)) s.data.toList = false) := by
          rw [Hid, HN.out k hk2, Hk.out, Bool.false_or, beq_eq_false_iff_ne]
          exact fun e => he ((str_eq_iff _ _).2 e)
        generalize (⟨cs[k].name.toArray⟩ : ByteArray) = t at *
        have hd : (t.toList == s.toList) = false := str_ne he
        go_wp2
        go_round
        case rel => exact ⟨k + 1, by omega, by go_num, Hn⟩
        case measure => simp [intOf]; omega
    · obtain rfl : k = cs.length := by omega
      go_wp2
      go_ret
      exact ⟨by rw [← HE.out, Hk.out]; rfl, rfl⟩

end Go.Proofs.Ytjobhlncllfdmaa

/- Contract of the reference's columns. -/
namespace Go.Proofs.Ytjobhlncllfdmaa
open Go.RowKit

theorem Try.info45 : (Try.prog.info? 45).map (fun i => (i.zero, i.size, i.bytes)) = some (some (.agg #[.string ByteArray.empty, .int .i64 0, .bool false]), 3, 32) := by kernel_rfl

/-- what the reference's columns answers -/
def ColsAns (base : Nat) (r : Option (List Pu.Col × Nat)) (e : Ending) (w' : World) : Prop :=
  match r with
  | none => e = .returned (.tuple #[.slice none 0 0, .int .i64 0, .bool false])
  | some (cs, a) => ∃ v, e = .returned (.tuple #[v, .int .i64 a, .bool true]) ∧ w'.ownsRow base 45 3 v cs.length (colsV cs)

theorem col1_vi {D : List UInt8} {a : Nat} {out : List Pu.Col} (h : Pu.vi D a = none) : Pu.col1 D a out = none := by simp [Pu.col1, h]
theorem col1_bad {D : List UInt8} {a z nx : Nat} {out : List Pu.Col} (h : Pu.vi D a = some (z, nx)) (hb : z < 1 ∨ 20 < z ∨ D.length ≤ nx + z) : Pu.col1 D a out = none := by
  simp only [Pu.col1, h]; rw [if_pos hb]
theorem col1_bad2 {D : List UInt8} {a z nx : Nat} {out : List Pu.Col} (h : Pu.vi D a = some (z, nx)) (hb : ¬ (z < 1 ∨ 20 < z ∨ D.length ≤ nx + z)) (hk : Pu.hasName out (Pu.piece D nx z) = true ∨ Pu.byteAt D (nx + z) = 3 ∨ 6 < Pu.byteAt D (nx + z)) : Pu.col1 D a out = none := by
  simp only [Pu.col1, h]; rw [if_neg hb, if_pos hk]
theorem col1_yes {D : List UInt8} {a z nx : Nat} {out : List Pu.Col} (h : Pu.vi D a = some (z, nx)) (hb : ¬ (z < 1 ∨ 20 < z ∨ D.length ≤ nx + z)) (hk : ¬ (Pu.hasName out (Pu.piece D nx z) = true ∨ Pu.byteAt D (nx + z) = 3 ∨ 6 < Pu.byteAt D (nx + z))) :
    Pu.col1 D a out = some (⟨Pu.piece D nx z, Pu.byteAt D (nx + z) % 4, decide (4 ≤ Pu.byteAt D (nx + z))⟩, nx + z + 1) := by
  simp only [Pu.col1, h]; rw [if_neg hb, if_neg hk]
theorem colsGo_no {D : List UInt8} {n a : Nat} {out : List Pu.Col} (hn : 0 < n) (h : Pu.col1 D a out = none) : Pu.colsGo D n a out = none := by
  obtain ⟨m, rfl⟩ : ∃ m, n = m + 1 := ⟨n - 1, by omega⟩
  simp [Pu.colsGo, h]
theorem colsGo_yes {D : List UInt8} {n a a' : Nat} {out : List Pu.Col} {c : Pu.Col} (hn : 0 < n) (h : Pu.col1 D a out = some (c, a')) : Pu.colsGo D n a out = Pu.colsGo D (n - 1) a' (out ++ [c]) := by
  obtain ⟨m, rfl⟩ : ∃ m, n = m + 1 := ⟨n - 1, by omega⟩
  simp [Pu.colsGo, h]

theorem str_piece (s : ByteArray) (a p : Nat) (h : a + p ≤ s.size) : s.extract a (a + p) = ⟨(Pu.piece s.data.toList a p).toArray⟩ := by
  rw [← extract_list s a p h, str_list]

theorem colV_eq {x : ByteArray} {b c : Nat} {P : List UInt8} (hx : x = ⟨P.toArray⟩) (hb : b = c) : [Value.string x, .int .i64 ((b : Int) % 4), .bool (decide (4 ≤ (b : Int)))] = colV ⟨P, c % 4, decide (4 ≤ c)⟩ := by
  subst hb hx
  have h : decide (4 ≤ (b : Int)) = decide (4 ≤ b) := by rw [decide_eq_decide]; omega
  simp [colV, strV, h]

theorem three_new {w : World} {B : Nat} {e : TypeId} {x y z : Value} (hB : B = w.heap.size) : ∀ (j : Nat) (u : Value), [x, y, z][j]? = some u → (w.alloc (Obj.cells #[x, y, z] e)).cell? ((⟨B, 0, none⟩ : Addr).add j) = some u := by
  intro j u hj
  subst hB
  match j, hj with
  | 0, hj => simp at hj; subst hj; simp [Addr.add]
  | 1, hj => simp at hj; subst hj; simp [Addr.add]
  | 2, hj => simp at hj; subst hj; simp [Addr.add]

set_option maxHeartbeats 2000000 in
set_option maxRecDepth 100000 in
theorem refCols_any (s : ByteArray) (w : World) (hs : s.size ≤ 140737488355000) :
    Calls Try.prog 49 #[.string s] w fun e w' => ColsAns w.heap.size (Pu.cols s.data.toList) e w' ∧ Below w.heap.size w w' := by
  have Hlen : Hid (s.data.toList.length = s.size) := by simp [Hid]
  cases hv : Pu.vi s.data.toList 0 with
  | none =>
    have Hv : Hid (Pu.vi s.data.toList 0 = none) := hv
    have HR : Hid (Pu.cols s.data.toList = none) := by simp [Hid, Pu.cols, hv]
    clear hv
    go_enter Try.func49, Try.ntmps49
    go_wp2_with fail
    refine (varint_no s 0 _ hs (by omega) Hv.out).mono ?_
    rintro e w' ⟨h, nx, rfl, rfl⟩
    go_wp2
    go_ret3
    exact ⟨by rw [HR.out]; rfl, Below.refl _ _⟩
  | some p =>
    obtain ⟨N, a0⟩ := p
    have Hv : Hid (Pu.vi s.data.toList 0 = some (N, a0)) := hv
    have hvl := Pu.vi_lt hv
    rw [Hlen.out] at hvl
    obtain ⟨_, ha0, hN0⟩ := hvl
    by_cases hN : N < 1 ∨ 20 < N
    · have HR : Hid (Pu.cols s.data.toList = none) := by simp only [Hid, Pu.cols, hv]; rw [if_pos hN]
      clear hv
      by_cases hN1 : N < 1
      · go_enter Try.func49, Try.ntmps49
        go_wp2_with fail
        refine (varint_yes s 0 N a0 _ hs (by omega) Hv.out).mono ?_
        rintro e w' ⟨rfl, rfl⟩
        go_wp2
        go_ret3
        exact ⟨by rw [HR.out]; rfl, Below.refl _ _⟩
      · have hN2 : 20 < N := by omega
        go_enter Try.func49, Try.ntmps49
        go_wp2_with fail
        refine (varint_yes s 0 N a0 _ hs (by omega) Hv.out).mono ?_
        rintro e w' ⟨rfl, rfl⟩
        go_wp2
        go_ret3
        exact ⟨by rw [HR.out]; rfl, Below.refl _ _⟩
    · have HR : Hid (Pu.cols s.data.toList = Pu.colsGo s.data.toList N a0 []) := by simp only [Hid, Pu.cols, hv]; rw [if_neg hN]
      clear hv
      have hN1 : 1 ≤ N := by omega
      have hN2 : N ≤ 20 := by omega
      have hdN : decide ((N : Int) < 1) = false := by simp; omega
      have hdM : decide (20 < (N : Int)) = false := by simp; omega
      clear hN
      go_enter Try.func49, Try.ntmps49
      go_wp2_with fail
      refine (varint_yes s 0 N a0 _ hs (by omega) Hv.out).mono ?_
      rintro e w' ⟨rfl, hw'⟩
      subst w'
      go_wp2
      go_loopw [6, 8, 9] (fun t v i wr => ∃ (a k : Nat) (cs : List Pu.Col), a ≤ s.size ∧ k ≤ N ∧ cs.length = k ∧ t = .int .i64 a ∧ i = .int .i64 k ∧ wr.ownsRow w.heap.size 45 3 v k (colsV cs) ∧ Hid (Pu.cols s.data.toList = Pu.colsGo s.data.toList (N - k) a cs) ∧ Below w.heap.size w wr)
        (fun _ _ i _ => N - (intOf i).toNat)
      case atStart => exact ⟨a0, 0, [], ha0, by omega, rfl, rfl, rfl, World.ownsRow_nil _ _ _ _, HR, Below.refl _ _⟩
      case round =>
        obtain ⟨a, k, cs, ha, hk, rfl, rfl, rfl, hown, HG, hbel⟩ := hrel
        obtain ⟨ao, cap, rfl⟩ := slen_of hown
        by_cases hk2 : cs.length < N
        · have hkd : decide ((cs.length : Int) < (N : Int)) = true := by simp; omega
          cases hz : Pu.vi s.data.toList a with
          | none =>
            have Hz : Hid (Pu.vi s.data.toList a = none) := hz
            have HF : Hid (Pu.cols s.data.toList = none) := by rw [Hid, HG.out]; exact colsGo_no (by omega) (col1_vi hz)
            clear hz
            go_wp2_with fail
            refine (varint_no s a _ hs ha Hz.out).mono ?_
            rintro e w' ⟨h, nx, rfl, rfl⟩
            go_wp2
            go_ret3
            exact ⟨by rw [HF.out]; rfl, hbel⟩
          | some p =>
            obtain ⟨z, nx⟩ := p
            have Hz : Hid (Pu.vi s.data.toList a = some (z, nx)) := hz
            have hzl := Pu.vi_lt hz
            rw [Hlen.out] at hzl
            obtain ⟨hz1, hz2, hz3⟩ := hzl
            by_cases hb : z < 1 ∨ 20 < z ∨ s.size ≤ nx + z
            · have HF : Hid (Pu.cols s.data.toList = none) := by rw [Hid, HG.out]; exact colsGo_no (by omega) (col1_bad hz (by rw [Hlen.out]; exact hb))
              clear hz
              by_cases hb1 : z < 1
              · clear hb
                go_wp2_with fail
                refine (varint_yes s a z nx _ hs ha Hz.out).mono ?_
                rintro e w' ⟨rfl, rfl⟩
                go_wp2
                go_ret3
                exact ⟨by rw [HF.out]; rfl, hbel⟩
              · by_cases hb2 : 20 < z
                · clear hb
                  go_wp2_with fail
                  refine (varint_yes s a z nx _ hs ha Hz.out).mono ?_
                  rintro e w' ⟨rfl, rfl⟩
                  go_wp2
                  go_ret3
                  exact ⟨by rw [HF.out]; rfl, hbel⟩
                · have hb3 : s.size ≤ nx + z := by omega
                  clear hb
                  go_wp2_with fail
                  refine (varint_yes s a z nx _ hs ha Hz.out).mono ?_
                  rintro e w' ⟨rfl, rfl⟩
                  go_wp2
                  go_ret3
                  exact ⟨by rw [HF.out]; rfl, hbel⟩
            · have Hb : Hid (¬ (z < 1 ∨ 20 < z ∨ s.data.toList.length ≤ nx + z)) := by rw [Hid, Hlen.out]; exact hb
              clear hz
              have hb1 : 1 ≤ z := by omega
              have hb2 : z ≤ 20 := by omega
              have hb3 : nx + z < s.size := by omega
              clear hb
              obtain ⟨b, hbe, hbb, HB⟩ := byte_ex s (nx + z) hb3
              have HP : Hid (s.extract nx (nx + z) = ⟨(Pu.piece s.data.toList nx z).toArray⟩) := str_piece s nx z (by omega)
              have Hnm : Hid ((s.extract nx (nx + z)).data.toList = Pu.piece s.data.toList nx z) := extract_list s nx z (by omega)
              by_cases hK : Pu.hasName cs (Pu.piece s.data.toList nx z) = true ∨ b = 3 ∨ 6 < b
              · have HF : Hid (Pu.cols s.data.toList = none) := by rw [Hid, HG.out]; exact colsGo_no (by omega) (col1_bad2 Hz.out Hb.out (by rw [← HB.out]; exact hK))
                cases hh : Pu.hasName cs (Pu.piece s.data.toList nx z) with
                | true =>
                  have Hh : Hid (Pu.hasName cs (s.extract nx (nx + z)).data.toList = true) := by rw [Hid, Hnm.out]; exact hh
                  clear hh hK
                  go_wp2_with fail
                  refine (varint_yes s a z nx _ hs ha Hz.out).mono ?_
                  rintro e w' ⟨rfl, rfl⟩
                  go_wp2_with fail
                  refine (name_any w.heap.size ao cap cs _ _ (hown.alloc _) (by omega)).mono ?_
                  rw [Hh.out]
                  rintro e w' ⟨rfl, rfl⟩
                  go_wp2
                  go_ret3
                  exact ⟨by rw [HF.out]; rfl, hbel.alloc hbel.size _⟩
                | false =>
                  have Hh : Hid (Pu.hasName cs (s.extract nx (nx + z)).data.toList = false) := by rw [Hid, Hnm.out]; exact hh
                  have hK2 : b = 3 ∨ 6 < b := by rw [hh] at hK; simpa using hK
                  clear hh hK
                  by_cases hK3 : b = 3
                  · subst hK3
                    go_wp2_with fail
                    refine (varint_yes s a z nx _ hs ha Hz.out).mono ?_
                    rintro e w' ⟨rfl, rfl⟩
                    go_wp2_with fail
                    refine (name_any w.heap.size ao cap cs _ _ (hown.alloc _) (by omega)).mono ?_
                    rw [Hh.out]
                    rintro e w' ⟨rfl, rfl⟩
                    go_wp2
                    go_ret3
                    exact ⟨by rw [HF.out]; rfl, hbel.alloc hbel.size _⟩
                  · have hK4 : 6 < b := by omega
                    clear hK2
                    go_wp2_with fail
                    refine (varint_yes s a z nx _ hs ha Hz.out).mono ?_
                    rintro e w' ⟨rfl, rfl⟩
                    go_wp2_with fail
                    refine (name_any w.heap.size ao cap cs _ _ (hown.alloc _) (by omega)).mono ?_
                    rw [Hh.out]
                    rintro e w' ⟨rfl, rfl⟩
                    go_wp2
                    go_ret3
                    exact ⟨by rw [HF.out]; rfl, hbel.alloc hbel.size _⟩
              · have HF : Hid (Pu.cols s.data.toList = Pu.colsGo s.data.toList (N - cs.length - 1) (nx + z + 1) (cs ++ [⟨Pu.piece s.data.toList nx z, Pu.byteAt s.data.toList (nx + z) % 4, decide (4 ≤ Pu.byteAt s.data.toList (nx + z))⟩])) := by
                  rw [Hid, HG.out]; exact colsGo_yes (by omega) (col1_yes Hz.out Hb.out (by rw [← HB.out]; exact hK))
                have Hh : Hid (Pu.hasName cs (s.extract nx (nx + z)).data.toList = false) := by
                  rw [Hid, Hnm.out]
                  cases hh : Pu.hasName cs (Pu.piece s.data.toList nx z) with
                  | true => exact absurd (Or.inl hh) hK
                  | false => rfl
                have hK3 : ¬ b = 3 := fun h => hK (.inr (.inl h))
                have hK4 : b ≤ 6 := by have := fun h => hK (.inr (.inr h)); omega
                have hK5 : ((b : Int) == 3) = false := by simp; omega
                clear hK
                obtain ⟨i0, hi, hz0, hz1', hz2'⟩ := info_parts Try.info45
                go_wp2_with fail
                refine (varint_yes s a z nx _ hs ha Hz.out).mono ?_
                rintro e w' ⟨rfl, rfl⟩
                go_wp2_with fail
                refine (name_any w.heap.size ao cap cs _ _ (hown.alloc _) (by omega)).mono ?_
                rw [Hh.out]
                rintro e w' ⟨rfl, rfl⟩
                go_wp2_with (first
                  | (at_builtin; refine wpList_append_own _ rfl _ _ 37 rfl w.heap.size 45 i0 (.agg #[.string ByteArray.empty, .int .i64 0, .bool false]) 3 32 Try.underlying37 hi hz0 hz1' hz2' rfl (by decide) _ _ _ rfl ((hown.alloc _).alloc _) ⟨_, 0, none⟩ 1 1 [.string (s.extract nx (nx + z)), .int .i64 ((b : Int) % 4), .bool (decide (4 ≤ (b : Int)))] rfl rfl ?c1 ?c2 ?c3 ?c4 ?c5 ?_)
                  | go_in)
                case c1 => exact three_new (by rw [size_alloc'])
                case c2 => intro u hu; simp at hu; rcases hu with rfl | rfl | rfl <;> rfl
                case c3 => unfold maxLen; omega
                case c4 => omega
                case c5 => rw [size_alloc', size_alloc']; have := hbel.size; omega
                intro v' w1 hown3 hg _
                have hbel3 := below_append (hbel.alloc hbel.size _) (Nat.le_refl _) hg (fun k e => (hown.lt k e).1)
                rw [colV_eq HP.out HB.out, colsV_snoc] at hown3
                clear hg hown hbel
                go_wp2
                go_roundw
                case rel => exact ⟨nx + z + 1, cs.length + 1, _, by omega, by omega, by simp, by go_num, by go_num, hown3, HF, hbel3⟩
                case measure => simp [intOf]; omega
        · obtain rfl : cs.length = N := by omega
          have HF : Hid (Pu.cols s.data.toList = some (cs, a)) := by rw [Hid, HG.out, Nat.sub_self]; rfl
          go_wp2
          go_ret3
          refine ⟨?_, hbel⟩
          rw [HF.out]
          exact ⟨_, rfl, hown⟩

end Go.Proofs.Ytjobhlncllfdmaa
