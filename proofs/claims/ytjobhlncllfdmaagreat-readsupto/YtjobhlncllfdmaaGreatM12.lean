/- Plain functions: what reading a file tells. -/
import Derived.Test.YtjobhlncllfdmaaGreatM11
import Derived.Test.YtjobhlncllfdmaaGreatM06
import Derived.Test.YtjobhlncllfdmaaGreatM01
namespace Go.Proofs.YtjobhlncllfdmaaGreat.Pu

/-- which cells of a page are there; the place behind -/
def lv (opt : Bool) (p : Pg) : Option (List Nat × Nat) :=
  if opt = false ∨ p.sort = 1 then some (List.replicate p.cells 1, 0) else
  match vi p.body 0 with
  | none => none
  | some (n, a) => if p.body.length < a + n then none else
    match rs (p.body.take (a + n)) 1 p.cells p.cells a [] with
    | none => none
    | some (l, e) => if e = a + n then some (l, a + n) else none

/-- a number of 64 bits as it is told -/
def i64of (u : Nat) : Int := IntKind.i64.wrap (u : Int)

def nullC : Cl := ⟨true, 0, []⟩
def boolC (b : Nat) : Cl := ⟨false, (b : Int), []⟩

/-- one number or text -/
def cell1 (kind : Nat) (D : List UInt8) (a : Nat) : Option (Cl × Nat) :=
  if kind = 1 then (if D.length < a + 8 then none else some (⟨false, i64of (le (piece D a 8)), []⟩, a + 8)) else
  match vi D a with
  | none => none
  | some (z, nx) => if D.length < nx + z then none else some (⟨false, 0, piece D nx z⟩, nx + z)

def eachGo (kind : Nat) (D : List UInt8) : Nat → Nat → List Cl → Option (List Cl × Nat)
  | 0, a, out => some (out, a)
  | n + 1, a, out => match cell1 kind D a with
    | none => none
    | some (c, a') => eachGo kind D n a' (out ++ [c])

/-- the first k bits -/
def bitsL (L : List UInt8) (k : Nat) : List Nat := (List.range k).map fun i => bitAt L i

def bools (D : List UInt8) (a n : Nat) : Option (List Cl) :=
  if D.length - a ≠ (n + 7) / 8 then none else
  if ((bitsL (D.drop a) (8 * (D.length - a))).drop n).all (· == 0) then some (((bitsL (D.drop a) (8 * (D.length - a))).take n).map boolC) else none

def plain (kind : Nat) (D : List UInt8) (a n : Nat) : Option (List Cl) :=
  if kind = 0 then bools D a n else
  match eachGo kind D n a [] with
  | none => none
  | some (l, e) => if e = D.length then some l else none

def pick (dict : List Cl) (l : List Nat) : Option (List Cl) :=
  if l.all (fun i => decide (i < dict.length)) then some (l.map fun i => dict.getD i nullC) else none

def vals (sort kind : Nat) (dict : List Cl) (D : List UInt8) (a n : Nat) : Option (List Cl) :=
  if sort ≠ 2 then plain kind D a n else
  if D.length ≤ a ∨ 16 < byteAt D a then none else
  match rs D (byteAt D a) n n (a + 1) [] with
  | none => none
  | some (l, e) => if e ≠ D.length then none else pick dict l

def total (l : List Nat) : Nat := l.foldl (· + ·) 0
def nz (l : List Nat) : Nat := l.countP (· ≠ 0)
def sprTo (ls : List Nat) (vs : List Cl) (k : Nat) : List Cl := (List.range k).map fun i => if ls.getD i 0 = 0 then nullC else vs.getD (nz (ls.take i)) nullC
def spr (ls : List Nat) (vs : List Cl) : List Cl := sprTo ls vs ls.length

/-- the cells of a page, or the error -/
def dec (opt : Bool) (kind : Nat) (dict : List Cl) (p : Pg) : Except Nat (List Cl) :=
  match lv opt p with
  | none => .error 11
  | some (ls, a) => match vals p.sort kind dict p.body a (total ls) with
    | none => .error 12
    | some vs => .ok (spr ls vs)

def cost (l : List Cl) : Nat := l.foldl (fun u c => u + (8 + c.s.length)) 0

/-- what is known of a column in a group -/
structure Sta where
  left : Nat
  dict : List Cl
  known : Bool
  cells : List Cl

def unp (p : Pg) : Option (List UInt8) :=
  if p.packed = true then (if (unpack p.body (p.size : Int)).2 = 0 ∧ (unpack p.body (p.size : Int)).1.length = p.size then some (unpack p.body (p.size : Int)).1 else none) else some p.body

def Sta.with (st : Sta) (sort : Nat) (l : List Cl) : Sta :=
  if sort = 1 then ⟨st.left, l, true, st.cells⟩ else ⟨st.left - l.length, st.dict, st.known, st.cells ++ l⟩

def page (opt : Bool) (kind : Nat) (st : Sta) (p : Pg) (used budget : Nat) : Except Nat (Nat × Sta) :=
  if budget < used + p.size then .error 10 else
  if sum p.body ≠ p.sum then .error 7 else
  match unp p with
  | none => .error 4
  | some B => match dec opt kind st.dict { p with body := B } with
    | .error e => .error e
    | .ok l => if budget < used + p.size + cost l then .error 10 else .ok (used + p.size + cost l, st.with p.sort l)

def pages (D : List UInt8) (E : Nat) (opt : Bool) (kind budget : Nat) : Nat → Bool → Nat → Nat → Sta → Except Nat (Nat × Sta)
  | 0, _, _, used, st => .ok (used, st)
  | n + 1, first, a, used, st => match head D a E with
    | none => .error 9
    | some (p, nx) => if may p kind st.left st.known first = true then
        (match page opt kind st p used budget with
        | .error e => .error e
        | .ok (u, st') => pages D E opt kind budget n false nx u st')
      else .error 9

/-- a column in a group: what is used, its cells -/
def part (D : List UInt8) (E budget : Nat) (c : Col) (rows : Nat) (ch : Nat × Nat) (used : Nat) : Except Nat (Nat × List Cl) :=
  match pages D E c.opt c.kind budget ch.2 true ch.1 used ⟨rows, [], false, []⟩ with
  | .error e => .error e
  | .ok (u, st) => if 0 < st.left then .error 13 else .ok (u, st.cells)

def colsR (D : List UInt8) (E budget rows : Nat) : List (Col × (Nat × Nat)) → Nat → Nat → List (List Cl) → Except Nat (Nat × List (List Cl))
  | [], _, used, ts => .ok (used, ts)
  | (c, ch) :: r, i, used, ts => match part D E budget c rows ch used with
    | .error e => .error e
    | .ok (u, l) => colsR D E budget rows r (i + 1) u (ts.set i (ts.getD i [] ++ l))

def grpsR (D : List UInt8) (E budget : Nat) (cs : List Col) : List (Nat × List (Nat × Nat)) → Nat → List (List Cl) → Except Nat (Nat × List (List Cl))
  | [], used, ts => .ok (used, ts)
  | g :: r, used, ts => match colsR D E budget g.1 (cs.zip g.2) 0 used ts with
    | .error e => .error e
    | .ok (u, ts') => grpsR D E budget cs r u ts'

/-- what reading a file tells: the columns, their cells, what was used; or the error -/
def read (D : List UInt8) (budget : Int) : Except Nat (List Col × List (List Cl) × Nat) :=
  if budget < 0 ∨ 1073741824 < budget then .error 1 else
  match look D with
  | .bad k => .error k
  | .good E cs gs => match grpsR D E budget.toNat cs gs 0 (List.replicate cs.length []) with
    | .error e => .error e
    | .ok (u, ts) => .ok (cs, ts, u)

/-! numbers in runs: their length and size -/
theorem rs_length {D : List UInt8} {w c : Nat} : ∀ f a out l e, out.length ≤ c → a ≤ D.length → rs D w c f a out = some (l, e) → l.length = c ∧ e ≤ D.length := by
  intro f
  induction f with
  | zero =>
    intro a out l e ho ha h
    unfold rs at h
    split at h
    · cases h
    · simp only [Option.some.injEq, Prod.mk.injEq] at h
      obtain ⟨rfl, rfl⟩ := h
      omega
  | succ f ih =>
    intro a out l e ho ha h
    unfold rs at h
    split at h
    · rename_i hlt
      simp only at h
      cases hs : step D w c a out with
      | none => simp [hs] at h
      | some p =>
        obtain ⟨a', o⟩ := p
        simp only [hs] at h
        have := step_length hlt hs
        exact ih _ _ _ _ this.2.1 this.2.2 h
    · simp only [Option.some.injEq, Prod.mk.injEq] at h
      obtain ⟨rfl, rfl⟩ := h
      omega

theorem step_small {D : List UInt8} {w c a a' : Nat} {out o : List Nat} (ho : ∀ x ∈ out, x < 2 ^ w) (h : step D w c a out = some (a', o)) : ∀ x ∈ o, x < 2 ^ w := by
  unfold step at h
  cases hv : vi D a with
  | none => simp [hv] at h
  | some p =>
    obtain ⟨q, at1⟩ := p
    simp only [hv] at h
    split at h
    · cases h
    · split at h
      · cases hlo : lo D at1 ((w + 7) / 8) with
        | none => simp [hlo] at h
        | some x =>
          simp only [hlo] at h
          split at h
          · cases h
          · rename_i hn
            simp only [Option.some.injEq, Prod.mk.injEq] at h
            obtain ⟨_, rfl⟩ := h
            intro y hy
            rw [List.mem_append] at hy
            rcases hy with hy | hy
            · exact ho y hy
            · rw [List.eq_of_mem_replicate hy]; omega
      · split at h
        · cases h
        · split at h
          · simp only [Option.some.injEq, Prod.mk.injEq] at h
            obtain ⟨_, rfl⟩ := h
            intro y hy
            rw [List.mem_append] at hy
            rcases hy with hy | hy
            · exact ho y hy
            · have hy2 := List.mem_of_mem_take hy
              unfold nums at hy2
              rw [List.mem_map] at hy2
              obtain ⟨i, _, rfl⟩ := hy2
              exact nAt_lt _ _ _
          · cases h

theorem rs_small {D : List UInt8} {w c : Nat} : ∀ f a out l e, (∀ x ∈ out, x < 2 ^ w) → rs D w c f a out = some (l, e) → ∀ x ∈ l, x < 2 ^ w := by
  intro f
  induction f with
  | zero =>
    intro a out l e ho h
    unfold rs at h
    split at h
    · cases h
    · simp only [Option.some.injEq, Prod.mk.injEq] at h
      obtain ⟨rfl, rfl⟩ := h
      exact ho
  | succ f ih =>
    intro a out l e ho h
    unfold rs at h
    split at h
    · simp only at h
      cases hs : step D w c a out with
      | none => simp [hs] at h
      | some p =>
        obtain ⟨a', o⟩ := p
        simp only [hs] at h
        exact ih _ _ _ _ (step_small ho hs) h
    · simp only [Option.some.injEq, Prod.mk.injEq] at h
      obtain ⟨rfl, rfl⟩ := h
      exact ho

theorem total_snoc (l : List Nat) (x : Nat) : total (l ++ [x]) = total l + x := by simp [total]
theorem nz_snoc (l : List Nat) (x : Nat) : nz (l ++ [x]) = nz l + if x = 0 then 0 else 1 := by
  unfold nz
  rw [List.countP_append]
  by_cases h : x = 0 <;> simp [h]

theorem total_replicate (n : Nat) : total (List.replicate n 1) = n := by
  induction n with
  | zero => rfl
  | succ n ih => rw [List.replicate_succ', total_snoc, ih]

theorem lv_spec {opt : Bool} {p : Pg} {l : List Nat} {a : Nat} (h : lv opt p = some (l, a)) : l.length = p.cells ∧ a ≤ p.body.length ∧ (∀ x ∈ l, x < 2) := by
  unfold lv at h
  split at h
  · simp only [Option.some.injEq, Prod.mk.injEq] at h
    obtain ⟨rfl, rfl⟩ := h
    exact ⟨by simp, Nat.zero_le _, fun x hx => by rw [List.eq_of_mem_replicate hx]; omega⟩
  · cases hv : vi p.body 0 with
    | none => simp [hv] at h
    | some q =>
      obtain ⟨n, b⟩ := q
      simp only [hv] at h
      split at h
      · cases h
      · rename_i hn
        cases hr : rs (p.body.take (b + n)) 1 p.cells p.cells b [] with
        | none => simp [hr] at h
        | some q =>
          obtain ⟨l', e⟩ := q
          simp only [hr] at h
          split at h
          · simp only [Option.some.injEq, Prod.mk.injEq] at h
            obtain ⟨rfl, rfl⟩ := h
            have := rs_length p.cells b [] l' e (Nat.zero_le _) (by rw [List.length_take]; omega) hr
            exact ⟨this.1, by omega, rs_small p.cells b [] l' e (by simp) hr⟩
          · cases h

theorem total_le {l : List Nat} (h : ∀ x ∈ l, x < 2) : ∀ k, total (l.take k) ≤ k ∧ total (l.take k) = nz (l.take k) := by
  intro k
  induction k with
  | zero => simp [total, nz]
  | succ k ih =>
    by_cases hk : k < l.length
    · rw [List.take_succ_eq_append_getElem hk, total_snoc, nz_snoc]
      have := h l[k] (List.getElem_mem hk)
      by_cases h0 : l[k] = 0
      · rw [h0]; simp; omega
      · rw [if_neg h0]; omega
    · rw [List.take_of_length_le (by omega)]
      rw [List.take_of_length_le (by omega)] at ih
      omega

theorem nz_mono (l : List Nat) (j k : Nat) (h : j ≤ k) : nz (l.take j) ≤ nz (l.take k) := by
  unfold nz
  rw [show l.take j = (l.take k).take j by rw [List.take_take, Nat.min_eq_left h]]
  exact List.Sublist.countP_le (List.take_sublist _ _)

theorem nz_lt (l : List Nat) (k : Nat) (hk : k < l.length) (h : l[k] ≠ 0) : nz (l.take k) < nz l := by
  have h1 : nz (l.take (k + 1)) = nz (l.take k) + 1 := by rw [List.take_succ_eq_append_getElem hk, nz_snoc, if_neg h]
  have h2 := nz_mono l (k + 1) l.length (by omega)
  rw [List.take_length] at h2
  omega

theorem sprTo_succ (ls : List Nat) (vs : List Cl) (k : Nat) : sprTo ls vs (k + 1) = sprTo ls vs k ++ [if ls.getD k 0 = 0 then nullC else vs.getD (nz (ls.take k)) nullC] := by
  simp [sprTo, List.range_succ]

theorem length_sprTo (ls : List Nat) (vs : List Cl) (k : Nat) : (sprTo ls vs k).length = k := by simp [sprTo]
theorem length_spr (ls : List Nat) (vs : List Cl) : (spr ls vs).length = ls.length := length_sprTo _ _ _

theorem cost_snoc (l : List Cl) (c : Cl) : cost (l ++ [c]) = cost l + (8 + c.s.length) := by simp [cost]

theorem cell1_lt {kind : Nat} {D : List UInt8} {a a' : Nat} {c : Cl} (h : cell1 kind D a = some (c, a')) : a < a' ∧ a' ≤ D.length ∧ c.s.length ≤ D.length := by
  unfold cell1 at h
  split at h
  · split at h
    · cases h
    · simp only [Option.some.injEq, Prod.mk.injEq] at h
      obtain ⟨rfl, rfl⟩ := h
      simp; omega
  · cases hv : vi D a with
    | none => simp [hv] at h
    | some q =>
      obtain ⟨z, nx⟩ := q
      have := vi_lt hv
      simp only [hv] at h
      split at h
      · cases h
      · simp only [Option.some.injEq, Prod.mk.injEq] at h
        obtain ⟨rfl, rfl⟩ := h
        simp only [length_piece D nx z (by omega)]
        omega

theorem eachGo_spec {kind : Nat} {D : List UInt8} : ∀ n a out l e, (∀ c ∈ out, c.s.length ≤ D.length) → a ≤ D.length → eachGo kind D n a out = some (l, e) → l.length = out.length + n ∧ e ≤ D.length ∧ ∀ c ∈ l, c.s.length ≤ D.length := by
  intro n
  induction n with
  | zero =>
    intro a out l e ho ha h
    simp only [eachGo, Option.some.injEq, Prod.mk.injEq] at h
    obtain ⟨rfl, rfl⟩ := h
    exact ⟨rfl, ha, ho⟩
  | succ n ih =>
    intro a out l e ho ha h
    unfold eachGo at h
    cases hc : cell1 kind D a with
    | none => simp [hc] at h
    | some q =>
      obtain ⟨c, a'⟩ := q
      simp only [hc] at h
      have hl := cell1_lt hc
      have := ih a' _ l e (fun x hx => by
        rw [List.mem_append, List.mem_singleton] at hx
        rcases hx with hx | rfl
        · exact ho x hx
        · exact hl.2.2) hl.2.1 h
      simp only [List.length_append, List.length_cons, List.length_nil] at this
      exact ⟨by omega, this.2⟩

theorem plain_spec {kind : Nat} {D : List UInt8} {a n : Nat} {l : List Cl} (ha : a ≤ D.length) (h : plain kind D a n = some l) : l.length = n ∧ ∀ c ∈ l, c.s.length ≤ D.length := by
  unfold plain at h
  split at h
  · unfold bools at h
    split at h
    · cases h
    · rename_i hn
      split at h
      · simp only [Option.some.injEq] at h
        subst h
        refine ⟨?_, fun c hc => ?_⟩
        · simp only [List.length_map, List.length_take, bitsL, List.length_range]
          omega
        · rw [List.mem_map] at hc
          obtain ⟨b, _, rfl⟩ := hc
          simp [boolC]
      · cases h
  · cases he : eachGo kind D n a [] with
    | none => simp [he] at h
    | some q =>
      obtain ⟨l', e⟩ := q
      simp only [he] at h
      split at h
      · simp only [Option.some.injEq] at h
        subst h
        have := eachGo_spec n a [] l' e (by simp) ha he
        simp only [List.length_nil] at this
        exact ⟨by omega, this.2.2⟩
      · cases h

theorem pick_spec {dict l' : List Cl} {l : List Nat} (h : pick dict l = some l') : l'.length = l.length ∧ ∀ M, (∀ c ∈ dict, c.s.length ≤ M) → ∀ c ∈ l', c.s.length ≤ M := by
  unfold pick at h
  split at h
  · rename_i hall
    simp only [Option.some.injEq] at h
    subst h
    refine ⟨by simp, fun M hM c hc => ?_⟩
    rw [List.mem_map] at hc
    obtain ⟨i, hi, rfl⟩ := hc
    have := List.all_eq_true.1 hall i hi
    simp only [decide_eq_true_eq] at this
    rw [List.getD_eq_getElem?_getD, List.getElem?_eq_getElem this, Option.getD_some]
    exact hM _ (List.getElem_mem _)
  · cases h

theorem vals_spec {sort kind : Nat} {dict : List Cl} {D : List UInt8} {a n M : Nat} {l : List Cl} (ha : a ≤ D.length) (hM : D.length ≤ M) (hd : ∀ c ∈ dict, c.s.length ≤ M) (h : vals sort kind dict D a n = some l) : l.length = n ∧ ∀ c ∈ l, c.s.length ≤ M := by
  unfold vals at h
  split at h
  · have := plain_spec ha h
    exact ⟨this.1, fun c hc => Nat.le_trans (this.2 c hc) hM⟩
  · split at h
    · cases h
    · rename_i hb
      cases hr : rs D (byteAt D a) n n (a + 1) [] with
      | none => simp [hr] at h
      | some q =>
        obtain ⟨l', e⟩ := q
        simp only [hr] at h
        split at h
        · cases h
        · have h1 := pick_spec h
          have h2 := rs_length n (a + 1) [] l' e (Nat.zero_le _) (by omega) hr
          exact ⟨by omega, h1.2 M hd⟩

theorem spr_text {ls : List Nat} {vs : List Cl} {M : Nat} (h : ∀ c ∈ vs, c.s.length ≤ M) : ∀ c ∈ spr ls vs, c.s.length ≤ M := by
  intro c hc
  unfold spr sprTo at hc
  rw [List.mem_map] at hc
  obtain ⟨i, _, rfl⟩ := hc
  split
  · simp [nullC]
  · rw [List.getD_eq_getElem?_getD]
    cases hx : vs[nz (List.take i ls)]? with
    | none => simp [nullC]
    | some x => exact h x (List.mem_of_getElem? hx)

theorem dec_spec {opt : Bool} {kind : Nat} {dict : List Cl} {p : Pg} {l : List Cl} {M : Nat} (hM : p.body.length ≤ M) (hd : ∀ c ∈ dict, c.s.length ≤ M) (h : dec opt kind dict p = .ok l) : l.length = p.cells ∧ ∀ c ∈ l, c.s.length ≤ M := by
  unfold dec at h
  cases hl : lv opt p with
  | none => simp [hl] at h
  | some q =>
    obtain ⟨ls, a⟩ := q
    simp only [hl] at h
    have h1 := lv_spec hl
    cases hv : vals p.sort kind dict p.body a (total ls) with
    | none => simp [hv] at h
    | some vs =>
      simp only [hv, Except.ok.injEq] at h
      subst h
      have h2 := vals_spec h1.2.1 hM hd hv
      exact ⟨by rw [length_spr]; exact h1.1, spr_text h2.2⟩

theorem cost_le {M : Nat} : ∀ l : List Cl, (∀ c ∈ l, c.s.length ≤ M) → cost l ≤ l.length * (8 + M) := by
  intro l
  have key : ∀ l : List Cl, ∀ u, l.foldl (fun u c => u + (8 + c.s.length)) u = u + cost l := by
    intro l
    induction l with
    | nil => intro u; rfl
    | cons c r ih =>
      intro u
      unfold cost
      rw [List.foldl_cons, List.foldl_cons, ih, ih]
      omega
  induction l with
  | nil => intro _; simp [cost]
  | cons c r ih =>
    intro h
    have h1 := h c (by simp)
    have h2 := ih (fun x hx => h x (by simp [hx]))
    unfold cost
    rw [List.foldl_cons, key, List.length_cons, Nat.succ_mul]
    omega

theorem length_colsR {D : List UInt8} {E budget rows : Nat} : ∀ l i used ts u ts', colsR D E budget rows l i used ts = .ok (u, ts') → ts'.length = ts.length := by
  intro l
  induction l with
  | nil => intro i used ts u ts' h; simp only [colsR, Except.ok.injEq, Prod.mk.injEq] at h; rw [h.2]
  | cons p r ih =>
    intro i used ts u ts' h
    obtain ⟨c, ch⟩ := p
    unfold colsR at h
    cases hp : part D E budget c rows ch used with
    | error e => simp [hp] at h
    | ok q =>
      obtain ⟨u1, l1⟩ := q
      simp only [hp] at h
      have := ih _ _ _ _ _ h
      simpa using this

end Go.Proofs.YtjobhlncllfdmaaGreat.Pu

/- (*Reader).plain: bools. -/
namespace Go.Proofs.YtjobhlncllfdmaaGreat
open Go.RowKit

/-- what a reader of values answers -/
def VaAns (B : Nat) (r : Option (List Pu.Cl)) (e : Ending) (w' : World) : Prop :=
  match r with
  | none => ∃ v, e = .returned (.tuple #[v, .bool false])
  | some l => ∃ v, e = .returned (.tuple #[v, .bool true]) ∧ w'.ownsRow B 57 3 v l.length (clsV l)

theorem bitsL_nums (L : List UInt8) (k : Nat) : Pu.bitsL L k = Pu.nums L 1 k := by
  unfold Pu.bitsL Pu.nums
  simp [Pu.nAt]

theorem cl_one {w : World} {B : Nat} {x y z : Value} (hB : B = w.heap.size) : ∀ (j : Nat) (u : Value), [x, y, z][j]? = some u → (w.alloc (Obj.cells #[x, y, z] 57)).cell? ((⟨B, 0, none⟩ : Addr).add j) = some u := three_new hB

theorem cl_cells {b : Bool} {n : Int} {s : ByteArray} : ∀ u ∈ [Value.bool b, .int .i64 n, .string s], u.oneCell' = true := by
  intro u hu; simp at hu; rcases hu with rfl | rfl | rfl <;> rfl

theorem nAt1 (L : List UInt8) (k : Nat) : Pu.nAt L (k * 1) 1 = Pu.bitAt L k := by simp [Pu.nAt]

set_option maxHeartbeats 4000000 in
set_option maxRecDepth 100000 in
theorem plain_bools (s : ByteArray) (a n r : Nat) (nm : ByteArray) (left : Nat) (opt known : Bool) (vd vc : Value) (w : World) (h : RB w r nm 0 opt left vd known vc) (hs : s.size ≤ 1073741824) (ha : a ≤ s.size) (hn : n ≤ 100000) :
    Calls Tryz.prog 88 #[.pointer (some ⟨r, 0, none⟩), .string s, .int .i64 (a : Int), .int .i64 (n : Int)] w fun e w' => VaAns w.heap.size (Pu.plain 0 s.data.toList a n) e w' ∧ Below w.heap.size w w' := by
  have c1 := h.c1
  have hlen : s.data.toList.length = s.size := by simp
  have HP : Hid (Pu.plain 0 s.data.toList a n = if s.size - a ≠ (n + 7) / 8 then none else if ((Pu.nums (s.data.toList.drop a) 1 (8 * (s.size - a))).drop n).all (· == 0) then some (((Pu.nums (s.data.toList.drop a) 1 (8 * (s.size - a))).take n).map Pu.boolC) else none) := by
    unfold Hid Pu.plain Pu.bools
    rw [if_pos rfl, hlen, bitsL_nums]
  obtain ⟨m, hm⟩ : ∃ m, m = s.size - a := ⟨_, rfl⟩
  rw [← hm] at HP
  have hm2 : (s.size : Int) - (a : Int) = (m : Int) := by omega
  have hms : m ≤ 1073741824 := by omega
  have hx := ext_drop s a ha
  rw [ByteArray.toList_eq] at hx
  have HL : Hid (s.data.toList.drop a = (s.extract a s.size).data.toList) := hx.symm
  have Hes : Hid ((s.extract a s.size).size = m) := by unfold Hid; rw [hm]; simp
  obtain ⟨L, hL⟩ : ∃ L, L = s.data.toList.drop a := ⟨_, rfl⟩
  rw [← hL] at HP HL
  clear hlen hL hx h
  by_cases hbad : m = (n + 7) / 8
  · have hbd : ((m : Int) != ((n : Int) + 7) / 8) = false := by simp; omega
    have HP2 : Hid (Pu.plain 0 s.data.toList a n = if ((Pu.nums L 1 (8 * m)).drop n).all (· == 0) then some (((Pu.nums L 1 (8 * m)).take n).map Pu.boolC) else none) := by
      rw [Hid, HP.out, if_neg (by simpa using hbad)]
    have hnm : n ≤ 8 * m := by omega
    clear HP hbad hm
    go_enter Tryz.func88, Tryz.ntmps88
    go_wp2
    go_loopw [10, 11] (fun v i wr => ∃ k : Nat, k ≤ 8 * m ∧ i = .int .i64 k ∧ wr.ownsRow w.heap.size 57 3 v (min k n) (clsV (((Pu.nums L 1 k).take n).map Pu.boolC)) ∧ Hid (((Pu.nums L 1 k).drop n).all (· == 0) = true) ∧ Below w.heap.size w wr)
      (fun _ i _ => 8 * m - (intOf i).toNat)
    case atStart => exact ⟨0, Nat.zero_le _, rfl, by simpa [Pu.nums, clsV] using World.ownsRow_nil w w.heap.size 57 3, by simp [Hid, Pu.nums], Below.refl _ _⟩
    case round =>
      obtain ⟨k, hk, rfl, hown, Hz, hbel⟩ := hrel
      obtain ⟨ao, cap, rfl⟩ := slen_of hown
      by_cases hk2 : k < 8 * m
      · have hkd : decide ((k : Int) < 8 * (m : Int)) = true := by simp; omega
        have BT : Hid (∀ W : World, Calls Tryz.prog 101 #[.string (s.extract a s.size), .int .i64 (k : Int)] W fun e w' => ∃ b q : Nat, e = .returned (.int .i64 b) ∧ b < 2 ∧ Hid (b = Pu.bitAt L k) ∧ w' = W.drewN q) := fun W => by
          have := bit_ex (s.extract a s.size) L HL (k : Int) W (by rw [Hes.out]; unfold maxLen; omega) (by omega) (by rw [Hes.out, Int.toNat_natCast]; omega) (by omega)
          rw [Int.toNat_natCast] at this
          exact this
        go_wp2_with fail
        refine (BT.out _).mono ?_
        rintro e w2 ⟨b, q, rfl, hb2, HB, hw2⟩
        have hown2 : w2.ownsRow w.heap.size 57 3 (.slice ao (min k n) cap) (min k n) (clsV (((Pu.nums L 1 k).take n).map Pu.boolC)) := by rw [hw2]; exact ownsRow_drewN hown q
        have hbel2 : Below w.heap.size w w2 := by rw [hw2]; exact below_drewN hbel q
        clear hw2 hown hbel BT
        by_cases hkn : k < n
        · have hmin : min k n = k := Nat.min_eq_left (by omega)
          rw [hmin] at hown2 ⊢
          clear hmin
          obtain ⟨i0, hi, hz0, hz1, hz2⟩ := info_parts Tryz.info57
          go_wp2_with (first
            | (at_builtin; refine wpList_append_own _ rfl _ _ 47 rfl w.heap.size 57 i0 (.agg #[.bool false, .int .i64 0, .string ByteArray.empty]) 3 32 Tryz.underlying47 hi hz0 hz1 hz2 rfl (by decide) _ _ _ rfl (hown2.alloc _) ⟨_, 0, none⟩ 1 1 [.bool false, .int .i64 (b : Int), .string ByteArray.empty] rfl rfl ?c1 ?c2 ?c3 ?c4 ?c5 ?_)
            | go_in)
          case c1 => exact three_new rfl
          case c2 => exact cl_cells
          case c3 => unfold maxLen; omega
          case c4 => omega
          case c5 => rw [size_alloc']; have := hbel2.size; omega
          intro v' w1 hown3 hg _
          have hbel3 := below_append hbel2 (Nat.le_refl _) hg (fun k e => (hown2.lt k e).1)
          have hown4 : w1.ownsRow w.heap.size 57 3 v' (min (k + 1) n) (clsV (((Pu.nums L 1 (k + 1)).take n).map Pu.boolC)) := by
            rw [gath_lt _ _ _ _ hkn, List.map_append, nAt1, ← HB.out, List.map_cons, List.map_nil, ← clsV_snoc, show min (k + 1) n = k + 1 by omega]
            rw [← List.map_take] at hown3
            exact hown3
          clear hg hown2 hbel2 hown3
          go_wp2
          go_roundw
          case rel => exact ⟨k + 1, by omega, by go_num, hown4, zero_lt _ _ _ _ hkn, hbel3⟩
          case measure => simp [intOf]; omega
        · have hkd2 : decide ((k : Int) < (n : Int)) = false := by simp; omega
          have hmin : min k n = n := Nat.min_eq_right (by omega)
          rw [hmin] at hown2 ⊢
          clear hmin
          by_cases hy0 : b = 0
          · subst hy0
            go_wp2
            go_roundw
            case rel => exact ⟨k + 1, by omega, by go_num, by rw [gath_ge _ _ _ _ (by omega), show min (k + 1) n = n by omega]; exact hown2, by rw [Hid, zero_ge _ _ _ _ (by omega), Hz.out, nAt1, ← HB.out]; rfl, hbel2⟩
            case measure => simp [intOf]; omega
          · have hbn : ((b : Int) != 0) = true := by simp; omega
            have HX : Hid (Pu.plain 0 s.data.toList a n = none) := by
              rw [Hid, HP2.out, zero_no (i := k) (by omega) hk2 (by rw [nAt1, ← HB.out]; exact hy0)]
              rfl
            clear hy0
            go_wp2
            go_ret2
            exact ⟨by rw [HX.out]; exact ⟨_, rfl⟩, hbel2⟩
      · obtain rfl : k = 8 * m := by omega
        have HX : Hid (Pu.plain 0 s.data.toList a n = some (((Pu.nums L 1 (8 * m)).take n).map Pu.boolC)) := by
          rw [Hid, HP2.out, Hz.out, if_pos rfl]
        have hll : (((Pu.nums L 1 (8 * m)).take n).map Pu.boolC).length = min (8 * m) n := by simp [Pu.length_nums]; omega
        have Hll : Hid ((((Pu.nums L 1 (8 * m)).take n).map Pu.boolC).length = min (8 * m) n) := hll
        clear hll
        go_wp2
        go_ret2
        refine ⟨?_, hbel⟩
        rw [HX.out]
        exact ⟨_, rfl, by rw [Hll.out]; exact hown⟩
  · have HX : Hid (Pu.plain 0 s.data.toList a n = none) := by rw [Hid, HP.out, if_pos hbad]
    have hbd : ((m : Int) != ((n : Int) + 7) / 8) = true := by simp; omega
    clear HP hm
    go_enter Tryz.func88, Tryz.ntmps88
    go_wp2
    go_ret2
    exact ⟨by rw [HX.out]; exact ⟨_, rfl⟩, Below.refl _ _⟩
end Go.Proofs.YtjobhlncllfdmaaGreat
