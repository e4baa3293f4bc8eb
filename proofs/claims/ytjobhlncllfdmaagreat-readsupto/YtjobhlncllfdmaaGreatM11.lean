/- strataref.head, any place; (*Reader).may. -/
import Derived.Test.YtjobhlncllfdmaaGreatM10
import Derived.Test.YtjobhlncllfdmaaGreatM07
import Derived.Test.YtjobhlncllfdmaaGreatM01
import Derived.Deep.RegionWith
import Derived.Deep.RegionHeld3
namespace Go.Proofs.YtjobhlncllfdmaaGreat
open Go.RowKit

theorem head_any (s : ByteArray) (a en : Nat) (w : World) (hs : s.size ≤ 140737488355000) (ha : a ≤ en) (hen : en ≤ s.size) :
    Calls Tryz.prog 39 #[.string s, .int .i64 (a : Int), .int .i64 (en : Int)] w fun e w' => HdAns (Pu.head s.data.toList a en) e ∧ Below w.heap.size w w' := by
  by_cases h2 : en < a + 2
  · have hx : Pu.head s.data.toList a en = none := by unfold Pu.head; rw [if_pos h2]
    rw [hx]
    exact head_no s a en w hs ha hen (.inl h2)
  · cases hn : Pu.nums4 (s.data.toList.take en) (a + 2) with
    | none =>
      have hx : Pu.head s.data.toList a en = none := by unfold Pu.head; rw [if_neg h2, hn]
      rw [hx]
      exact head_no s a en w hs ha hen (.inr hn)
    | some p =>
      obtain ⟨c, st, z, y, b⟩ := p
      exact head_yes s a en c st z y b w hs ha hen h2 hn

/-- the reference's reader of a column in a group -/
def RB (w : World) (r : Nat) (nm : ByteArray) (kind : Nat) (opt : Bool) (left : Nat) (vd : Value) (known : Bool) (vc : Value) : Prop :=
  w.heap[r]? = some (.cells #[.string nm, .int .i64 (kind : Int), .bool opt, .int .i64 (left : Int), vd, .bool known, vc] 104 (0, 0))

section
variable {w : World} {r kind left : Nat} {nm : ByteArray} {opt known : Bool} {vd vc : Value}
theorem RB.c1 (h : RB w r nm kind opt left vd known vc) : w.cell? ⟨r, 1, none⟩ = some (.int .i64 (kind : Int)) := by rw [cell_of_row w r 1 _ _ _ h]; rfl
theorem RB.c2 (h : RB w r nm kind opt left vd known vc) : w.cell? ⟨r, 2, none⟩ = some (.bool opt) := by rw [cell_of_row w r 2 _ _ _ h]; rfl
theorem RB.c3 (h : RB w r nm kind opt left vd known vc) : w.cell? ⟨r, 3, none⟩ = some (.int .i64 (left : Int)) := by rw [cell_of_row w r 3 _ _ _ h]; rfl
theorem RB.c4 (h : RB w r nm kind opt left vd known vc) : w.cell? ⟨r, 4, none⟩ = some vd := by rw [cell_of_row w r 4 _ _ _ h]; rfl
theorem RB.c5 (h : RB w r nm kind opt left vd known vc) : w.cell? ⟨r, 5, none⟩ = some (.bool known) := by rw [cell_of_row w r 5 _ _ _ h]; rfl
theorem RB.c6 (h : RB w r nm kind opt left vd known vc) : w.cell? ⟨r, 6, none⟩ = some vc := by rw [cell_of_row w r 6 _ _ _ h]; rfl
theorem RB.lt (h : RB w r nm kind opt left vd known vc) : r < w.heap.size := (Array.getElem?_eq_some_iff.1 h).1
end

def Pu.may (p : Pu.Pg) (kind left : Nat) (known first : Bool) : Bool :=
  if p.sort = 0 then decide (p.cells ≤ left) else
  if p.sort = 1 then first && decide (kind ≠ 0) && decide (p.cells ≤ 65536) else
  if p.sort = 2 then known && decide (p.cells ≤ left) else false

set_option maxHeartbeats 4000000 in
set_option maxRecDepth 100000 in
theorem may_any (p : Pu.Pg) (r : Nat) (nm : ByteArray) (kind left : Nat) (opt known first : Bool) (vd vc : Value) (w : World) (h : RB w r nm kind opt left vd known vc) (hp : p.sort < 256) (hc : p.cells ≤ 4294967295) (_hl : left ≤ 1000000) (hk : kind ≤ 2) :
    Calls Tryz.prog 40 #[.pointer (some ⟨r, 0, none⟩), pgV p, .bool first] w fun e w' => e = .returned (.bool (Pu.may p kind left known first)) ∧ Below w.heap.size w w' := by
  have c1 := h.c1
  have c3 := h.c3
  have c5 := h.c5
  have hrl := h.lt
  obtain ⟨so, ce, pa, si, su, bo⟩ := p
  simp only at hp hc
  unfold pgV
  simp only
  generalize (⟨bo.toArray⟩ : ByteArray) = t
  clear h
  by_cases h0 : so = 0
  · subst h0
    have HX : Hid (Pu.may ⟨0, ce, pa, si, su, bo⟩ kind left known first = decide (ce ≤ left)) := by
      unfold Hid Pu.may; rw [if_pos rfl]
    go_enter Tryz.func40, Tryz.ntmps40
    go_wp2
    go_quiet (fail)
    go_wp2
    go_ret
    exact ⟨by rw [HX.out]; rfl, below_drewN ((Below.refl _ _).alloc (Nat.le_refl _) _) _⟩
  · have h0d : ((so : Int) == 0) = false := by simp; omega
    by_cases h1 : so = 1
    · subst h1
      cases first with
      | false =>
        have HX : Hid (Pu.may ⟨1, ce, pa, si, su, bo⟩ kind left known false = false) := by
          unfold Hid Pu.may; rw [if_neg (by simp), if_pos rfl]; rfl
        go_enter Tryz.func40, Tryz.ntmps40
        go_wp2
        go_ret
        exact ⟨by rw [HX.out]; rfl, (Below.refl _ _).alloc (Nat.le_refl _) _⟩
      | true =>
        by_cases hk0 : kind = 0
        · subst hk0
          have HX : Hid (Pu.may ⟨1, ce, pa, si, su, bo⟩ 0 left known true = false) := by
            unfold Hid Pu.may; rw [if_neg (by simp), if_pos rfl]; rfl
          go_enter Tryz.func40, Tryz.ntmps40
          go_wp2
          go_ret
          exact ⟨by rw [HX.out]; rfl, (Below.refl _ _).alloc (Nat.le_refl _) _⟩
        · have hkd : ((kind : Int) != 0) = true := by simp; omega
          by_cases hce : ce ≤ 65536
          · have HX : Hid (Pu.may ⟨1, ce, pa, si, su, bo⟩ kind left known true = true) := by
              unfold Hid Pu.may; rw [if_neg (by simp), if_pos rfl]; simp [hk0, hce]
            have hcd : decide ((ce : Int) ≤ 65536) = true := by simp; omega
            go_enter Tryz.func40, Tryz.ntmps40
            go_wp2
            go_ret
            exact ⟨by rw [HX.out]; rfl, (Below.refl _ _).alloc (Nat.le_refl _) _⟩
          · have HX : Hid (Pu.may ⟨1, ce, pa, si, su, bo⟩ kind left known true = false) := by
              unfold Hid Pu.may; rw [if_neg (by simp), if_pos rfl]; simp [hce]
            have hcd : decide ((ce : Int) ≤ 65536) = false := by simp; omega
            go_enter Tryz.func40, Tryz.ntmps40
            go_wp2
            go_ret
            exact ⟨by rw [HX.out]; rfl, (Below.refl _ _).alloc (Nat.le_refl _) _⟩
    · have h1d : ((so : Int) == 1) = false := by simp; omega
      by_cases h2 : so = 2
      · subst h2
        cases known with
        | false =>
          have HX : Hid (Pu.may ⟨2, ce, pa, si, su, bo⟩ kind left false first = false) := by
            unfold Hid Pu.may; rw [if_neg (by simp), if_neg (by simp), if_pos rfl]; rfl
          go_enter Tryz.func40, Tryz.ntmps40
          go_wp2
          go_quiet (fail)
          go_wp2
          go_ret
          exact ⟨by rw [HX.out]; rfl, below_drewN ((Below.refl _ _).alloc (Nat.le_refl _) _) _⟩
        | true =>
          have HX : Hid (Pu.may ⟨2, ce, pa, si, su, bo⟩ kind left true first = decide (ce ≤ left)) := by
            unfold Hid Pu.may; rw [if_neg (by simp), if_neg (by simp), if_pos rfl, Bool.true_and]
          go_enter Tryz.func40, Tryz.ntmps40
          go_wp2
          go_quiet (fail)
          go_wp2
          go_ret
          exact ⟨by rw [HX.out]; rfl, below_drewN ((Below.refl _ _).alloc (Nat.le_refl _) _) _⟩
      · have h2d : ((so : Int) == 2) = false := by simp; omega
        have HX : Hid (Pu.may ⟨so, ce, pa, si, su, bo⟩ kind left known first = false) := by
          unfold Hid Pu.may; rw [if_neg h0, if_neg h1, if_neg h2]
        go_enter Tryz.func40, Tryz.ntmps40
        go_wp2
        go_ret
        exact ⟨by rw [HX.out]; rfl, (Below.refl _ _).alloc (Nat.le_refl _) _⟩
end Go.Proofs.YtjobhlncllfdmaaGreat

/- Small steps that many walks share. -/
namespace Go.Proofs.YtjobhlncllfdmaaGreat
open Go.RowKit

theorem bnext {w W w3 : World} {B : Nat} (h : Below B w W) (hB : B ≤ w.heap.size) (hb : Below W.heap.size W w3) : Below B w w3 := h.trans (hb.mono (Nat.le_trans hB h.size))
theorem bbox (w : World) (o : Obj) : Below w.heap.size w (w.alloc o) := (Below.refl _ _).alloc (Nat.le_refl _) _
theorem bboxd (w : World) (o : Obj) : Below w.heap.size w (w.alloc o).drew := ((Below.refl _ _).alloc (Nat.le_refl _) _).drew
theorem bboxN (w : World) (o : Obj) (q : Nat) : Below w.heap.size w ((w.alloc o).drewN q) := below_drewN ((Below.refl _ _).alloc (Nat.le_refl _) _) q
theorem bself {w W w3 : World} (h : Below w.heap.size w W) (hb : Below W.heap.size W w3) : Below w.heap.size w w3 := bnext h (Nat.le_refl _) hb

/-- the cells of a box, later -/
theorem box_cell {w w3 : World} {cs : Array Value} {e : TypeId} {j : Nat} (hb : Below (w.alloc (.cells cs e)).heap.size (w.alloc (.cells cs e)) w3) : w3.cell? ⟨w.heap.size, j, none⟩ = cs[j]? := by
  rw [hb.cell (p := ⟨w.heap.size, j, none⟩) (by rw [size_alloc']; exact Nat.lt_succ_self _), cell_of_row _ _ j _ _ _ (heap_alloc_new w _)]
theorem box_celld {w w3 : World} {cs : Array Value} {e : TypeId} {j : Nat} (hb : Below (w.alloc (.cells cs e)).drew.heap.size (w.alloc (.cells cs e)).drew w3) : w3.cell? ⟨w.heap.size, j, none⟩ = cs[j]? := by
  rw [hb.cell (p := ⟨w.heap.size, j, none⟩) (by show w.heap.size < (w.alloc (.cells cs e)).heap.size; rw [size_alloc']; exact Nat.lt_succ_self _)]
  exact cell_of_row (w.alloc (.cells cs e)) _ j _ _ _ (heap_alloc_new w _)
theorem wrap64_eq (n : Int) : wrap64 n = IntKind.i64.wrap n := by rw [IntKind.wrap_i64]; unfold wrap64; omega
end Go.Proofs.YtjobhlncllfdmaaGreat

/- strataref.Varint. -/
namespace Go.Proofs.YtjobhlncllfdmaaGreat
open Go.RowKit

/-- a number in sevens -/
def vb (n : Nat) : List UInt8 := if h : n < 128 then [UInt8.ofNat n] else UInt8.ofNat (128 + n % 128) :: vb (n / 128)
decreasing_by omega

theorem vb_small {n : Nat} (h : n < 128) : vb n = [UInt8.ofNat n] := by unfold vb; rw [dif_pos h]
theorem vb_great {n : Nat} (h : ¬ n < 128) : vb n = UInt8.ofNat (128 + n % 128) :: vb (n / 128) := by conv => lhs; unfold vb
                                                                                                      rw [dif_neg h]

theorem length_vb : ∀ k n, n < 128 ^ (k + 1) → (vb n).length ≤ k + 1 := by
  intro k
  induction k with
  | zero => intro n h; rw [vb_small (by simpa using h)]; simp
  | succ k ih =>
    intro n h
    by_cases h1 : n < 128
    · rw [vb_small h1]; simp
    · rw [vb_great h1, List.length_cons]
      have := ih (n / 128) (by rw [Nat.div_lt_iff_lt_mul (by omega)]; rw [Nat.pow_succ] at h; exact h)
      omega
theorem length_vb8 {n : Nat} (h : n ≤ 140737488355328) : (vb n).length ≤ 7 := by
  refine length_vb 6 n ?_
  have e : (128 : Nat) ^ (6 + 1) = 562949953421312 := by decide
  omega

/-- the text of one byte that was just laid -/
theorem text_one (w : World) (x : Nat) (hx : x < 256) : (convert 25 9 (.slice (some ⟨w.heap.size, 0, none⟩) 1 1)).run Tryz.prog (w.alloc (.cells #[.int .u8 (x : Int)] 5)) = .ok (.string ⟨#[UInt8.ofNat x]⟩) (w.alloc (.cells #[.int .u8 (x : Int)] 5)) := by
  have := run_convert_bytes_back (P := Tryz.prog) (w.alloc (.cells #[.int .u8 (x : Int)] 5)) 25 9 5 ⟨w.heap.size, 0, none⟩ 1 [UInt8.ofNat x] Tryz.underlying25 Tryz.underlying5 Tryz.underlying9 (fun j hj => by
    obtain rfl : j = 0 := by simp at hj; omega
    rw [show (⟨w.heap.size, 0, none⟩ : Addr).add 0 = ⟨w.heap.size, 0, none⟩ from rfl, cell_of_row _ _ 0 _ _ _ (heap_alloc_new w _)]
    simp [Nat.mod_eq_of_lt hx])
  simpa using this

set_option maxHeartbeats 2000000 in
set_option maxRecDepth 100000 in
theorem varintB_small (n : Nat) (w : World) (hn : n < 128) :
    Calls Tryz.prog 13 #[.int .i64 (n : Int)] w fun e w' => e = .returned (.string ⟨(vb n).toArray⟩) ∧ Below w.heap.size w w' := by
  have hd : decide ((n : Int) < 128) = true := by simp; omega
  have hcv := text_one w n (by omega)
  have HV : Hid (vb n = [UInt8.ofNat n]) := vb_small hn
  go_enter Tryz.func13, Tryz.ntmps13
  go_wp2
  go_ret
  exact ⟨by rw [HV.out]; rfl, bbox _ _⟩

/-- the text of one byte that was laid before -/
theorem text_one' {W : World} {g x : Nat} (hx : x < 256) (h : W.heap[g]? = some (.cells #[.int .u8 (x : Int)] 5 (0, 0))) : (convert 25 9 (.slice (some ⟨g, 0, none⟩) 1 1)).run Tryz.prog W = .ok (.string ⟨#[UInt8.ofNat x]⟩) W := by
  have := run_convert_bytes_back (P := Tryz.prog) W 25 9 5 ⟨g, 0, none⟩ 1 [UInt8.ofNat x] Tryz.underlying25 Tryz.underlying5 Tryz.underlying9 (fun j hj => by
    obtain rfl : j = 0 := by simp at hj; omega
    rw [show (⟨g, 0, none⟩ : Addr).add 0 = ⟨g, 0, none⟩ from rfl, cell_of_row _ _ 0 _ _ _ h]
    simp [Nat.mod_eq_of_lt hx])
  simpa using this

set_option maxHeartbeats 4000000 in
set_option maxRecDepth 100000 in
theorem varintB_great (n : Nat) (w : World) (hn : ¬ n < 128) (hb : n ≤ 140737488355328) (ih : ∀ W : World, Calls Tryz.prog 13 #[.int .i64 ((n / 128 : Nat) : Int)] W fun e w' => e = .returned (.string ⟨(vb (n / 128)).toArray⟩) ∧ Below W.heap.size W w') :
    Calls Tryz.prog 13 #[.int .i64 (n : Int)] w fun e w' => e = .returned (.string ⟨(vb n).toArray⟩) ∧ Below w.heap.size w w' := by
  have hd : decide ((n : Int) < 128) = false := by simp; omega
  have HV : Hid (vb n = UInt8.ofNat (128 + n % 128) :: vb (n / 128)) := vb_great hn
  obtain ⟨x, hx⟩ : ∃ x, x = 128 + n % 128 := ⟨_, rfl⟩
  obtain ⟨y, hy⟩ : ∃ y, y = n / 128 := ⟨_, rfl⟩
  rw [← hx, ← hy] at HV
  rw [← hy] at ih
  have hxl : x < 256 := by omega
  have e1 : IntKind.i64.wrap (128 + (n : Int).tmod 128) = (x : Int) := by rw [IntKind.wrap_i64, Int.tmod_eq_emod_of_nonneg (by omega)]; omega
  have e3 : IntKind.u8.wrap (x : Int) = (x : Int) := by rw [IntKind.wrap_u8]; omega
  have e2 : IntKind.i64.wrap ((n : Int) / 128) = (y : Int) := by rw [IntKind.wrap_i64]; omega
  have hcv1 : ∀ X : World, (convert 25 9 (.slice (some ⟨X.heap.size, 0, none⟩) 1 1)).run Tryz.prog (X.alloc (.cells #[.int .u8 (x : Int)] 5)) = .ok (.string ⟨#[UInt8.ofNat x]⟩) (X.alloc (.cells #[.int .u8 (x : Int)] 5)) := fun X => text_one X x hxl
  have hcv2 : ∀ X : World, (convert 25 9 (.slice (some ⟨X.heap.size, 0, none⟩) 1 1)).run Tryz.prog (X.alloc (.cells #[.int .u8 (x : Int)] 5)).drew = .ok (.string ⟨#[UInt8.ofNat x]⟩) (X.alloc (.cells #[.int .u8 (x : Int)] 5)).drew := fun X => text_one' hxl (heap_alloc_new X _)
  have IH : Hid (∀ W : World, Calls Tryz.prog 13 #[.int .i64 (y : Int)] W fun e w' => e = .returned (.string ⟨(vb y).toArray⟩) ∧ Below W.heap.size W w') := ih
  obtain ⟨ty, hty⟩ : ∃ ty : ByteArray, ty = ⟨(vb y).toArray⟩ := ⟨_, rfl⟩
  rw [← hty] at IH
  have HT : Hid (ty = ⟨(vb y).toArray⟩) := hty
  have hts : ty.size ≤ 7 := by rw [hty, ← len_data]; simpa using length_vb8 (n := y) (by omega)
  have h1s : (⟨#[UInt8.ofNat x]⟩ : ByteArray).size = 1 := rfl
  obtain ⟨t1, ht1⟩ : ∃ t1 : ByteArray, t1 = ⟨#[UInt8.ofNat x]⟩ := ⟨_, rfl⟩
  have HT1 : Hid (t1 = ⟨#[UInt8.ofNat x]⟩) := ht1
  rw [← ht1] at hcv1 hcv2 h1s
  clear hx hy ih hty hn ht1
  go_enter Tryz.func13, Tryz.ntmps13
  go_wp2
  go_region_with (go_at_call 13; refine (IH.out _).mono ?_; rintro e w' ⟨rfl, hbc⟩; try (have hcv3 := text_one' (g := w.heap.size) hxl (by rw [hbc.block _ (by simp)]; exact heap_alloc_new w _); rw [← HT1.out] at hcv3))
  all_goals
    go_wp2
    go_ret
    refine ⟨?_, ?_⟩
    · refine congrArg (fun t => Ending.returned (.string t)) (bytes_ext ?_)
      simp only [ByteArray.data_append, Array.toList_append]
      rw [HT1.out, HT.out, HV.out]
      rfl
    · first
        | exact bself (bboxd _ _) hbc
        | exact (bself (Below.refl _ _).drew hbc).alloc hbc.size _

theorem varintB_any : ∀ (n : Nat) (w : World), n ≤ 140737488355328 → Calls Tryz.prog 13 #[.int .i64 (n : Int)] w fun e w' => e = .returned (.string ⟨(vb n).toArray⟩) ∧ Below w.heap.size w w' := by
  intro n
  induction n using Nat.strongRecOn with
  | _ n ih =>
    intro w hb
    by_cases h : n < 128
    · exact varintB_small n w h
    · exact varintB_great n w h hb (fun W => ih (n / 128) (by omega) W (by omega))
end Go.Proofs.YtjobhlncllfdmaaGreat

/- Plain functions on lists of bytes: what packed bytes become. -/
namespace Go.Proofs.YtjobhlncllfdmaaGreat.Pu

def nth (o : List UInt8) (i : Nat) : UInt8 := o.getD i 0

/-- a copy of k bytes from so far back -/
def copyN (back : Nat) : Nat → List UInt8 → List UInt8
  | 0, o => o
  | k + 1, o => copyN back k (o ++ [nth o (o.length - back)])

/-- a literal of size bytes at p -/
def lit (D : List UInt8) (n p size : Nat) (out : List UInt8) : Option (Nat × List UInt8) :=
  if size ≤ D.length - p ∧ size ≤ n - out.length then some (p + size, out ++ piece D p size) else none

/-- a copy; p: the place behind it -/
def cp (n p size back : Nat) (out : List UInt8) : Option (Nat × List UInt8) :=
  if back = 0 ∨ out.length < back ∨ n - out.length < size then none else some (p, copyN back size out)

/-- how many bytes of a number follow the byte t -/
def mo (t : Nat) : Nat := if t % 4 = 0 then (if t / 4 < 60 then 0 else t / 4 - 59) else if t % 4 = 1 then 1 else if t % 4 = 2 then 2 else 4

/-- one element at a (a byte is there) -/
def el (D : List UInt8) (n a : Nat) (out : List UInt8) : Option (Nat × List UInt8) :=
  match lo D (a + 1) (mo (byteAt D a)) with
  | none => none
  | some x =>
    if byteAt D a % 4 = 0 then lit D n (a + 1 + mo (byteAt D a)) (if byteAt D a / 4 < 60 then byteAt D a / 4 + 1 else x + 1) out
    else if byteAt D a % 4 = 1 then cp n (a + 1 + mo (byteAt D a)) (4 + byteAt D a / 4 % 8) (256 * (byteAt D a / 4 / 8) + x) out
    else cp n (a + 1 + mo (byteAt D a)) (byteAt D a / 4 + 1) x out

/-- all elements -/
def un (D : List UInt8) (n : Nat) : Nat → Nat → List UInt8 → Option (List UInt8)
  | f, a, out => if a < D.length then
      match f with
      | 0 => none
      | f + 1 => match el D n a out with
        | none => none
        | some (b, o) => un D n f b o
    else if out.length = n then some out else none

/-- Unpack's answer: the bytes, the error's number -/
def unpack (D : List UInt8) (most : Int) : List UInt8 × Nat :=
  if most < 0 ∨ 1048576 < most then ([], 1) else
  match vi D 0 with
  | none => ([], 2)
  | some (n, a) => if most < (n : Int) then ([], 3) else
    match un D n D.length a [] with
    | none => ([], 4)
    | some o => (o, 0)

theorem length_copyN (back : Nat) : ∀ k o, (copyN back k o).length = o.length + k := by
  intro k
  induction k with
  | zero => intro o; rfl
  | succ k ih => intro o; simp only [copyN, ih, List.length_append, List.length_cons, List.length_nil]; omega

theorem copyN_snoc (back : Nat) : ∀ k o, copyN back (k + 1) o = copyN back k o ++ [nth (copyN back k o) ((copyN back k o).length - back)] := by
  intro k
  induction k with
  | zero => intro o; rfl
  | succ k ih =>
    intro o
    rw [copyN, ih (o ++ [nth o (o.length - back)])]
    rfl

theorem mo_le (t : Nat) (h : t < 256) : mo t ≤ 4 := by unfold mo; split <;> (try split) <;> (try split) <;> omega

theorem el_le {D : List UInt8} {n a b : Nat} {out o : List UInt8} (ho : out.length ≤ n) (h : el D n a out = some (b, o)) : a < b ∧ b ≤ D.length ∧ o.length ≤ n := by
  unfold el at h
  cases hl : lo D (a + 1) (mo (byteAt D a)) with
  | none => simp [hl] at h
  | some x =>
    have hfit : a + 1 + mo (byteAt D a) ≤ D.length := by
      unfold lo at hl; split at hl
      · omega
      · cases hl
    simp only [hl] at h
    have hcp : ∀ size back, cp n (a + 1 + mo (byteAt D a)) size back out = some (b, o) → a < b ∧ b ≤ D.length ∧ o.length ≤ n := by
      intro size back h
      unfold cp at h
      split at h
      · cases h
      · simp only [Option.some.injEq, Prod.mk.injEq] at h
        obtain ⟨rfl, rfl⟩ := h
        rw [length_copyN]
        omega
    have hlit : ∀ size, 0 < size → lit D n (a + 1 + mo (byteAt D a)) size out = some (b, o) → a < b ∧ b ≤ D.length ∧ o.length ≤ n := by
      intro size hs h
      unfold lit at h
      split at h
      · rename_i hc
        simp only [Option.some.injEq, Prod.mk.injEq] at h
        obtain ⟨rfl, rfl⟩ := h
        rw [List.length_append, length_piece D _ _ (by omega)]
        omega
      · cases h
    split at h
    · exact hlit _ (by split <;> omega) h
    · split at h
      · exact hcp _ _ h
      · exact hcp _ _ h

theorem un_done {D : List UInt8} {n f a : Nat} {o : List UInt8} (h : ¬ a < D.length) : un D n f a o = if o.length = n then some o else none := by
  unfold un; rw [if_neg h]
theorem un_no {D : List UInt8} {n f a : Nat} {o : List UInt8} (h : a < D.length) (he : el D n a o = none) : un D n f a o = none := by
  unfold un; rw [if_pos h]; cases f with
  | zero => rfl
  | succ f => simp [he]
theorem un_yes {D : List UInt8} {n f a b : Nat} {o o' : List UInt8} (h : a < D.length) (hf : D.length ≤ a + f) (he : el D n a o = some (b, o')) : un D n f a o = un D n (f - 1) b o' := by
  obtain ⟨g, rfl⟩ : ∃ g, f = g + 1 := ⟨f - 1, by omega⟩
  rw [un, if_pos h]
  simp [he]

end Go.Proofs.YtjobhlncllfdmaaGreat.Pu
