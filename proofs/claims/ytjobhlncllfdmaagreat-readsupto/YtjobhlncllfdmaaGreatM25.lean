/- package table: the purse. -/
import Derived.Test.YtjobhlncllfdmaaGreatM23
import Derived.Test.YtjobhlncllfdmaaGreatM24
import Derived.Test.YtjobhlncllfdmaaGreatM19
import Derived.Test.YtjobhlncllfdmaaGreatM15
import Derived.Test.YtjobhlncllfdmaaGreatM03
import Derived.Test.YtjobhlncllfdmaaGreatM07
import Derived.Deep.DeepCutAuto
import Derived.Deep.RegionWith
namespace Go.Proofs.YtjobhlncllfdmaaGreat
open Go.RowKit

set_option maxHeartbeats 4000000 in
set_option maxRecDepth 100000 in
theorem pay_no (K left cost : Nat) (w : World) (h : w.heap[K]? = some (.cells #[.int .i64 (left : Int)] 81 (0, 0))) (_hl : left ≤ 1073741824) (_hc : cost ≤ 1000000000000) (hx : left < cost) :
    Calls Tryz.prog 66 #[.pointer (some ⟨K, 0, none⟩), .int .i64 (cost : Int)] w fun e w' => e = .returned (.bool false) ∧ w' = w := by
  have c0 : w.cell? ⟨K, 0, none⟩ = some (.int .i64 (left : Int)) := by rw [cell_of_row _ _ 0 _ _ _ h]; rfl
  have hd : decide ((left : Int) < (cost : Int)) = true := by simp; omega
  clear h
  go_enter Tryz.func66, Tryz.ntmps66
  go_wp2
  go_ret
  exact ⟨rfl, rfl⟩

set_option maxHeartbeats 4000000 in
set_option maxRecDepth 100000 in
theorem pay_yes (K left cost : Nat) (w : World) (h : w.heap[K]? = some (.cells #[.int .i64 (left : Int)] 81 (0, 0))) (hl : left ≤ 1073741824) (hx : cost ≤ left) :
    Calls Tryz.prog 66 #[.pointer (some ⟨K, 0, none⟩), .int .i64 (cost : Int)] w fun e w' => e = .returned (.bool true) ∧ w' = w.setCell ⟨K, 0, none⟩ (.int .i64 ((left - cost : Nat) : Int)) := by
  have c0 : w.cell? ⟨K, 0, none⟩ = some (.int .i64 (left : Int)) := by rw [cell_of_row _ _ 0 _ _ _ h]; rfl
  have f0 := frozen_of_row _ _ 0 _ _ h
  have hd : decide ((left : Int) < (cost : Int)) = false := by simp; omega
  obtain ⟨r, hr⟩ : ∃ r, r = left - cost := ⟨_, rfl⟩
  rw [← hr]
  have hr2 : (left : Int) - (cost : Int) = (r : Int) := by omega
  clear h hr
  go_enter Tryz.func66, Tryz.ntmps66
  go_wp2
  go_ret
  exact ⟨rfl, rfl⟩

theorem cost_sub (l : List Pu.Cl) (k : Nat) : Pu.cost (l.take k) ≤ Pu.cost l := by
  have : ∀ A B : List Pu.Cl, Pu.cost A ≤ Pu.cost (A ++ B) := by
    intro A B
    induction B generalizing A with
    | nil => simp
    | cons c r ih =>
      have h1 := ih (A ++ [c])
      rw [Pu.cost_snoc, List.append_assoc] at h1
      simp only [List.singleton_append] at h1
      omega
  have h := this (l.take k) (l.drop k)
  rw [List.take_append_drop] at h
  exact h

/-- what payCells answers -/
def PcAns (w : World) (K left : Nat) (l : List Pu.Cl) (e : Ending) (w' : World) : Prop :=
  if left < Pu.cost l then e = .returned (.bool false) ∧ Fr (fun k => k = K) w w' else e = .returned (.bool true) ∧ w'.heap[K]? = some (.cells #[.int .i64 ((left - Pu.cost l : Nat) : Int)] 81 (0, 0)) ∧ Fr (fun k => k = K) w w'

set_option maxHeartbeats 4000000 in
set_option maxRecDepth 100000 in
theorem payCells_any (K left B : Nat) (av : Option Addr) (cv : Nat) (l : List Pu.Cl) (w : World) (h : w.heap[K]? = some (.cells #[.int .i64 (left : Int)] 81 (0, 0))) (hl : left ≤ 1073741824) (ho : w.ownsRow B 57 3 (.slice av l.length cv) l.length (clsV l)) (hlm : l.length ≤ 100000) (hlt : ∀ c ∈ l, c.s.length ≤ 1073741824) :
    Calls Tryz.prog 70 #[.pointer (some ⟨K, 0, none⟩), .slice av l.length cv] w fun e w' => PcAns w K left l e w' := by
  have hKl : K < w.heap.size := (Array.getElem?_eq_some_iff.1 h).1
  have HC : Hid (∀ k, (hk : k < l.length) → ∃ g, av = some ⟨g, 0, none⟩ ∧ w.cell? ⟨g, k * 3, none⟩ = some (.bool l[k].null) ∧ w.cell? ⟨g, k * 3 + 1, none⟩ = some (.int .i64 l[k].n) ∧ w.cell? ⟨g, k * 3 + 2, none⟩ = some (strV l[k].s) ∧ g < w.heap.size) := cls_cell' ho
  have HNE : Hid (∀ g, av = some ⟨g, 0, none⟩ → g ≠ K) := fun g hg => by subst hg; exact Ty.ne (own_tyS ho rfl) ⟨_, h⟩ (by decide)
  have Hlt : Hid (∀ c ∈ l, c.s.length ≤ 1073741824) := hlt
  have H0 : Hid (w.heap[K]? = some (.cells #[.int .i64 (left : Int)] 81 (0, 0))) := h
  clear h ho hlt
  go_enter Tryz.func70, Tryz.ntmps70
  go_wp2
  go_loopw [9] (fun i wr => ∃ k r : Nat, k ≤ l.length ∧ i = .int .i64 k ∧ r ≤ left ∧ Hid (r + Pu.cost (l.take k) = left) ∧ Hid (wr.heap[K]? = some (.cells #[.int .i64 (r : Int)] 81 (0, 0))) ∧ Hid (Fr (fun j => j = K) w wr)) (fun i _ => l.length - (intOf i).toNat)
  case atStart => exact ⟨0, left, Nat.zero_le _, rfl, Nat.le_refl _, rfl, H0, Fr.refl _ _⟩
  case round =>
    clear H0
    obtain ⟨k, r, hk, rfl, hr, HR, HK, HF⟩ := hrel
    by_cases hk2 : k < l.length
    · obtain ⟨g, hg, c0, c1, c2, hgl⟩ := HC.out k hk2
      have hgK := HNE.out g hg
      subst hg
      have hblk : wr.heap[g]? = w.heap[g]? := HF.out.block g hgl hgK
      have d0 : wr.cell? ⟨g, k * 3, none⟩ = some (.bool l[k].null) := by rw [World.cell?_of_block (w := w) hblk]; exact c0
      have d1 : wr.cell? ⟨g, k * 3 + 1, none⟩ = some (.int .i64 l[k].n) := by rw [World.cell?_of_block (w := w) hblk]; exact c1
      have d2 : wr.cell? ⟨g, k * 3 + 2, none⟩ = some (.string ⟨l[k].s.toArray⟩) := by rw [World.cell?_of_block (w := w) hblk]; exact c2
      have hkd : decide ((k : Int) < (l.length : Int)) = true := by simp; omega
      have HCT : Hid (Pu.cost (l.take (k + 1)) = Pu.cost (l.take k) + (8 + l[k].s.length)) := cost_take l k hk2
      have hls2 := Hlt.out l[k] (List.getElem_mem hk2)
      have hxs := str_size l[k].s
      generalize l[k].null = xb at *
      generalize l[k].n = xn at *
      obtain ⟨xs, hx⟩ : ∃ xs : ByteArray, xs = ⟨l[k].s.toArray⟩ := ⟨_, rfl⟩
      rw [← hx] at d2 hxs
      rw [← hxs] at HCT hls2
      obtain ⟨y, hy⟩ : ∃ y, y = 8 + xs.size := ⟨_, rfl⟩
      have hy2 : (8 : Int) + (xs.size : Int) = (y : Int) := by omega
      have Hy : Hid (y = 8 + xs.size) := hy
      have hyl : y ≤ 1073741832 := by omega
      have hsz : w.heap.size ≤ wr.heap.size := HF.out.size
      clear hx hxs c0 c1 c2 hblk hy
      by_cases hpay : r < y
      · have HX : Hid (left < Pu.cost l) := by
          have h1 := HR.out
          have h2 := HCT.out
          have h3 := cost_sub l (k + 1)
          have h4 := Hy.out
          unfold Hid; omega
        have PY : Hid (∀ ob : Obj, Calls Tryz.prog 66 #[.pointer (some ⟨K, 0, none⟩), .int .i64 (y : Int)] (wr.alloc ob) fun e w' => e = .returned (.bool false) ∧ w' = wr.alloc ob) := fun ob => pay_no K r y (wr.alloc ob) (by rw [Below.heap_alloc _ _ _ (by omega)]; exact HK.out) (by omega) (by omega) hpay
        go_wp2_with fail
        refine (PY.out _).mono ?_
        rintro e w' ⟨rfl, hw'⟩
        subst w'
        go_wp2
        go_ret
        unfold PcAns
        rw [if_pos HX.out]
        exact ⟨rfl, HF.out.trans Fr.alloc' (fun _ _ h => h)⟩
      · have HKn : Hid (∀ ob : Obj, ((wr.alloc ob).setCell ⟨K, 0, none⟩ (.int .i64 ((r - y : Nat) : Int))).heap[K]? = some (.cells #[.int .i64 ((r - y : Nat) : Int)] 81 (0, 0)) ∧ Fr (fun j => j = K) w ((wr.alloc ob).setCell ⟨K, 0, none⟩ (.int .i64 ((r - y : Nat) : Int)))) := fun ob => ⟨by
          rw [row_set (C := #[.int .i64 (r : Int)]) (by rw [Below.heap_alloc _ _ _ (by omega)]; exact HK.out)]; rfl, (HF.out.trans (Fr.alloc' (T := fun j => j = K)) (fun _ _ h => h)).trans (Fr.set' (T := fun j => j = K) rfl) (fun _ _ h => h)⟩
        have PY : Hid (∀ ob : Obj, Calls Tryz.prog 66 #[.pointer (some ⟨K, 0, none⟩), .int .i64 (y : Int)] (wr.alloc ob) fun e w' => e = .returned (.bool true) ∧ w' = (wr.alloc ob).setCell ⟨K, 0, none⟩ (.int .i64 ((r - y : Nat) : Int))) := fun ob => pay_yes K r y (wr.alloc ob) (by rw [Below.heap_alloc _ _ _ (by omega)]; exact HK.out) (by omega) (by omega)
        have HRn : Hid (r - y + Pu.cost (l.take (k + 1)) = left) := by
          have h1 := HR.out
          have h2 := HCT.out
          have h4 := Hy.out
          unfold Hid; omega
        go_wp2_with fail
        refine (PY.out _).mono ?_
        rintro e w2 ⟨rfl, hw2⟩
        have HK2 : Hid (w2.heap[K]? = some (.cells #[.int .i64 ((r - y : Nat) : Int)] 81 (0, 0))) := by rw [Hid, hw2]; exact (HKn.out _).1
        have HF2 : Hid (Fr (fun j => j = K) w w2) := by rw [Hid, hw2]; exact (HKn.out _).2
        clear hw2
        go_wp2
        go_roundw
        case rel => exact ⟨k + 1, r - y, by omega, by go_num, by omega, HRn, HK2, HF2⟩
        case measure => simp [intOf]; omega
    · obtain rfl : k = l.length := by omega
      have HX : Hid (¬ left < Pu.cost l ∧ r = left - Pu.cost l) := by have := HR.out; rw [List.take_length] at this; unfold Hid; omega
      go_wp2
      go_ret
      unfold PcAns
      rw [if_neg HX.out.1, ← HX.out.2]
      exact ⟨rfl, HK.out, HF.out⟩
end Go.Proofs.YtjobhlncllfdmaaGreat

/- package table: a part: what may come next, how it is laid out, what is kept. -/
namespace Go.Proofs.YtjobhlncllfdmaaGreat
open Go.RowKit

/-- the row of a part -/
def ptRow (nm : ByteArray) (kind : Nat) (opt : Bool) (rows : Nat) (vin : Value) (pages : Nat) (known : Bool) (vd vc : Value) : Array Value :=
  #[.string nm, .int .i64 (kind : Int), .bool opt, .int .i64 (rows : Int), vin, .int .i64 (pages : Int), .bool known, vd, vc]

def PtR (w : World) (P : Nat) (nm : ByteArray) (kind : Nat) (opt : Bool) (rows : Nat) (vin : Value) (pages : Nat) (known : Bool) (vd vc : Value) : Prop := w.heap[P]? = some (.cells (ptRow nm kind opt rows vin pages known vd vc) 90 (0, 0))
section
variable {w w' : World} {P kind rows pages : Nat} {nm : ByteArray} {opt known : Bool} {vin vd vc : Value}
theorem PtR.c1 (h : PtR w P nm kind opt rows vin pages known vd vc) : w.cell? ⟨P, 1, none⟩ = some (.int .i64 (kind : Int)) := by rw [cell_of_row w P 1 _ _ _ h]; rfl
theorem PtR.c2 (h : PtR w P nm kind opt rows vin pages known vd vc) : w.cell? ⟨P, 2, none⟩ = some (.bool opt) := by rw [cell_of_row w P 2 _ _ _ h]; rfl
theorem PtR.c3 (h : PtR w P nm kind opt rows vin pages known vd vc) : w.cell? ⟨P, 3, none⟩ = some (.int .i64 (rows : Int)) := by rw [cell_of_row w P 3 _ _ _ h]; rfl
theorem PtR.c5 (h : PtR w P nm kind opt rows vin pages known vd vc) : w.cell? ⟨P, 5, none⟩ = some (.int .i64 (pages : Int)) := by rw [cell_of_row w P 5 _ _ _ h]; rfl
theorem PtR.c6 (h : PtR w P nm kind opt rows vin pages known vd vc) : w.cell? ⟨P, 6, none⟩ = some (.bool known) := by rw [cell_of_row w P 6 _ _ _ h]; rfl
theorem PtR.c7 (h : PtR w P nm kind opt rows vin pages known vd vc) : w.cell? ⟨P, 7, none⟩ = some vd := by rw [cell_of_row w P 7 _ _ _ h]; rfl
theorem PtR.c8 (h : PtR w P nm kind opt rows vin pages known vd vc) : w.cell? ⟨P, 8, none⟩ = some vc := by rw [cell_of_row w P 8 _ _ _ h]; rfl
theorem PtR.fz (h : PtR w P nm kind opt rows vin pages known vd vc) (j : Nat) : w.frozen? ⟨P, j, none⟩ = false := frozen_of_row w P j _ _ h
theorem PtR.lt (h : PtR w P nm kind opt rows vin pages known vd vc) : P < w.heap.size := (Array.getElem?_eq_some_iff.1 h).1
theorem PtR.ty (h : PtR w P nm kind opt rows vin pages known vd vc) : Ty w P 90 := ⟨_, h⟩
theorem PtR.kept (h : PtR w P nm kind opt rows vin pages known vd vc) (hw : w'.heap[P]? = w.heap[P]?) : PtR w' P nm kind opt rows vin pages known vd vc := by unfold PtR; rw [hw]; exact h
end

set_option maxHeartbeats 4000000 in
set_option maxRecDepth 100000 in
theorem rowsLeft_any (P : Nat) (rows n : Nat) (ac : Option Addr) (cc : Nat) (w : World) (h3 : w.cell? ⟨P, 3, none⟩ = some (.int .i64 (rows : Int))) (h8 : w.cell? ⟨P, 8, none⟩ = some (.slice ac n cc)) (hr : rows ≤ 100000) (hn : n ≤ rows) :
    Calls Tryz.prog 81 #[.pointer (some ⟨P, 0, none⟩)] w fun e w' => e = .returned (.int .i64 ((rows - n : Nat) : Int)) ∧ ∃ q, w' = w.drewN q := by
  go_enter Tryz.func81, Tryz.ntmps81
  go_wp2
  go_quiet (fail)
  go_wp2
  go_ret
  exact ⟨ret_int (by omega), _, rfl⟩

set_option maxHeartbeats 4000000 in
set_option maxRecDepth 100000 in
theorem mayHave_any (P : Nat) (nm : ByteArray) (kind rows pages n left : Nat) (opt known : Bool) (vin vd : Value) (ac : Option Addr) (cc : Nat) (p : Pu.Pg) (x4 : Nat) (x5 : Value) (w : World) (h : PtR w P nm kind opt rows vin pages known vd (.slice ac n cc)) (hr : rows ≤ 100000) (hn : n + left = rows) (hp : p.sort ≤ 2) (hc : p.cells ≤ 4294967295) (_hk : kind ≤ 2) (_hpg : pages ≤ 1073741824) :
    Calls Tryz.prog 65 #[.pointer (some ⟨P, 0, none⟩), .agg (pgRow p.sort p.cells p.size p.packed x4 x5)] w fun e w' => e = .returned (.bool (Pu.may p kind left known (decide (pages = 0)))) ∧ Below w.heap.size w w' := by
  have c1 := h.c1
  have c3 := h.c3
  have c5 := h.c5
  have c6 := h.c6
  have c8 := h.c8
  have hPl := h.lt
  have RL : Hid (∀ (ob : Obj) (q : Nat), Calls Tryz.prog 81 #[.pointer (some ⟨P, 0, none⟩)] ((w.alloc ob).drewN q) fun e w' => e = .returned (.int .i64 (left : Int)) ∧ ∃ q', w' = ((w.alloc ob).drewN q).drewN q') := fun ob q => by
    have h' : PtR (w.alloc ob) P nm kind opt rows vin pages known vd (.slice ac n cc) := h.kept (Below.heap_alloc _ _ _ hPl)
    have := rowsLeft_any P rows n ac cc ((w.alloc ob).drewN q) h'.c3 h'.c8 hr (by omega)
    rw [show rows - n = left by omega] at this
    exact this
  have hleft : left ≤ 100000 := by omega
  obtain ⟨so, ce, pa, si, su, bo⟩ := p
  simp only at hp hc ⊢
  unfold pgRow
  clear h hn
  by_cases h1 : so = 1
  · have HX : Hid (Pu.may ⟨so, ce, pa, si, su, bo⟩ kind left known (decide (pages = 0)) = (decide (pages = 0) && decide (kind ≠ 0) && decide (ce ≤ 65536))) := by unfold Hid Pu.may; simp only; rw [if_neg (by omega), if_pos h1]
    have h1d : ((so : Int) == 1) = true := by simp; omega
    by_cases hp0 : pages = 0
    · have hpd : ((pages : Int) == 0) = true := by simp; omega
      by_cases hk0 : kind = 0
      · have hkd : ((kind : Int) != 0) = false := by simp; omega
        have HX2 : Hid (Pu.may ⟨so, ce, pa, si, su, bo⟩ kind left known (decide (pages = 0)) = false) := by rw [Hid, HX.out]; simp [hk0]
        clear h1 hp0 hk0
        go_enter Tryz.func65, Tryz.ntmps65
        go_wp2
        go_ret
        exact ⟨by rw [HX2.out]; rfl, bbox w _⟩
      · have hkd : ((kind : Int) != 0) = true := by simp; omega
        by_cases hce : ce ≤ 65536
        · have hcd : decide ((ce : Int) ≤ 65536) = true := by simp; omega
          have HX2 : Hid (Pu.may ⟨so, ce, pa, si, su, bo⟩ kind left known (decide (pages = 0)) = true) := by rw [Hid, HX.out]; simp [hk0, hp0, hce]
          clear h1 hp0 hk0
          go_enter Tryz.func65, Tryz.ntmps65
          go_wp2
          go_ret
          exact ⟨by rw [HX2.out]; rfl, bbox w _⟩
        · have hcd : decide ((ce : Int) ≤ 65536) = false := by simp; omega
          have HX2 : Hid (Pu.may ⟨so, ce, pa, si, su, bo⟩ kind left known (decide (pages = 0)) = false) := by rw [Hid, HX.out]; simp [hce]
          clear h1 hp0 hk0
          go_enter Tryz.func65, Tryz.ntmps65
          go_wp2
          go_ret
          exact ⟨by rw [HX2.out]; rfl, bbox w _⟩
    · have hpd : ((pages : Int) == 0) = false := by simp; omega
      have HX2 : Hid (Pu.may ⟨so, ce, pa, si, su, bo⟩ kind left known (decide (pages = 0)) = false) := by rw [Hid, HX.out]; simp [hp0]
      clear h1 hp0
      go_enter Tryz.func65, Tryz.ntmps65
      go_wp2
      go_ret
      exact ⟨by rw [HX2.out]; rfl, bbox w _⟩
  · have h1d : ((so : Int) == 1) = false := by simp; omega
    by_cases h2 : so = 2
    · have h2d : ((so : Int) == 2) = true := by simp; omega
      have HX : Hid (Pu.may ⟨so, ce, pa, si, su, bo⟩ kind left known (decide (pages = 0)) = (known && decide (ce ≤ left))) := by unfold Hid Pu.may; simp only; rw [if_neg (by omega), if_neg h1, if_pos h2]
      clear h1 h2
      cases known with
      | false =>
        have HX2 : Hid (Pu.may ⟨so, ce, pa, si, su, bo⟩ kind left false (decide (pages = 0)) = false) := by rw [Hid, HX.out]; rfl
        go_enter Tryz.func65, Tryz.ntmps65
        go_wp2
        go_quiet (fail)
        go_wp2
        go_ret
        exact ⟨by rw [HX2.out]; rfl, bboxN w _ _⟩
      | true =>
        have HX2 : Hid (Pu.may ⟨so, ce, pa, si, su, bo⟩ kind left true (decide (pages = 0)) = decide (ce ≤ left)) := by rw [Hid, HX.out, Bool.true_and]
        go_enter Tryz.func65, Tryz.ntmps65
        go_wp2
        go_quiet ((go_at_call 81; exact Calls.quiet_of (RL.out _ _)))
        go_wp2
        go_ret
        exact ⟨by rw [HX2.out]; rfl, bboxN w _ _⟩
    · have h2d : ((so : Int) == 2) = false := by simp; omega
      have HX : Hid (Pu.may ⟨so, ce, pa, si, su, bo⟩ kind left known (decide (pages = 0)) = decide (ce ≤ left)) := by unfold Hid Pu.may; simp only; rw [if_pos (by omega)]
      clear h1 h2
      go_enter Tryz.func65, Tryz.ntmps65
      go_wp2
      go_quiet ((go_at_call 81; exact Calls.quiet_of (RL.out _ _)))
      go_wp2
      go_ret
      exact ⟨by rw [HX.out]; rfl, bboxN w _ _⟩
end Go.Proofs.YtjobhlncllfdmaaGreat

/- The program's unpacker: its block; room, lengthLessOne. -/
namespace Go.Proofs.YtjobhlncllfdmaaGreat
open Go.RowKit

/-- the unpacker in block R: what is left, what has come out, how much must -/
def UBlk (w : World) (R : Nat) (r v : Value) (n : Nat) : Prop := w.heap[R]? = some (.cells #[r, v, .int .i64 n] 187 (0, 0))

section
variable {w w' : World} {R : Nat} {r v : Value} {n : Nat}
theorem UBlk.c0 (h : UBlk w R r v n) : w.cell? ⟨R, 0, none⟩ = some r := by rw [cell_of_row w R 0 _ _ _ h]; rfl
theorem UBlk.c1 (h : UBlk w R r v n) : w.cell? ⟨R, 1, none⟩ = some v := by rw [cell_of_row w R 1 _ _ _ h]; rfl
theorem UBlk.c2 (h : UBlk w R r v n) : w.cell? ⟨R, 2, none⟩ = some (.int .i64 n) := by rw [cell_of_row w R 2 _ _ _ h]; rfl
theorem UBlk.fz (h : UBlk w R r v n) (j : Nat) : w.frozen? ⟨R, j, none⟩ = false := frozen_of_row w R j _ _ h
theorem UBlk.lt (h : UBlk w R r v n) : R < w.heap.size := (Array.getElem?_eq_some_iff.1 h).1
theorem UBlk.set0 (h : UBlk w R r v n) (u : Value) : UBlk (w.setCell ⟨R, 0, none⟩ u) R u v n := by unfold UBlk; rw [heap_setCell_same w R 0 _ _ u h]; rfl
theorem UBlk.set1 (h : UBlk w R r v n) (u : Value) : UBlk (w.setCell ⟨R, 1, none⟩ u) R r u n := by unfold UBlk; rw [heap_setCell_same w R 1 _ _ u h]; rfl
theorem UBlk.kept (h : UBlk w R r v n) (hw : w'.heap[R]? = w.heap[R]?) : UBlk w' R r v n := by unfold UBlk; rw [hw]; exact h
end

/-- the whole state: at place a of D, o has come out, n bytes must -/
def USt (w : World) (R lb B : Nat) (D : List UInt8) (n a : Nat) (o : List UInt8) : Prop :=
  ∃ ao cap v, UBlk w R (.slice ao (D.length - a) cap) v n ∧ a ≤ D.length ∧ Rest w lb ao cap (D.drop a) ∧ w.ownsRow B 5 1 v o.length (bytesV o) ∧ lb < B ∧ B ≤ R

set_option maxHeartbeats 1000000 in
theorem room_any (R n len : Nat) (ao : Option Addr) (cap : Nat) (w : World) (h1 : w.cell? ⟨R, 1, none⟩ = some (.slice ao len cap)) (h2 : w.cell? ⟨R, 2, none⟩ = some (.int .i64 n)) (hn : n ≤ 1048576) (hl : len ≤ n) :
    Calls Tryz.prog 103 #[.pointer (some ⟨R, 0, none⟩)] w fun e w' => e = .returned (.int .i64 ((n - len : Nat) : Int)) ∧ ∃ q, w' = w.drewN q := by
  go_enter Tryz.func103, Tryz.ntmps103
  go_wp2
  go_quiet (fail)
  go_wp2
  go_ret
  exact ⟨ret_int (by omega), _, rfl⟩

set_option maxHeartbeats 1000000 in
set_option maxRecDepth 100000 in
theorem lless_small (R m : Nat) (w : World) (hm : m < 60) :
    Calls Tryz.prog 112 #[.pointer (some ⟨R, 0, none⟩), .int .i64 m] w fun e w' => e = .returned (.tuple #[.int .u32 m, .bool true]) ∧ w' = w := by
  go_enter Tryz.func112, Tryz.ntmps112
  go_wp2
  go_ret2
  exact ⟨rfl, rfl⟩

set_option maxHeartbeats 1000000 in
set_option maxRecDepth 100000 in
theorem lless_no (R m lb : Nat) (ao : Option Addr) (cap : Nat) (L : List UInt8) (w : World) (hr : Rest w lb ao cap L) (hc : w.cell? ⟨R, 0, none⟩ = some (.slice ao L.length cap)) (hm : 60 ≤ m) (hm2 : m ≤ 63) (h : L.length < m - 59) :
    Calls Tryz.prog 112 #[.pointer (some ⟨R, 0, none⟩), .int .i64 m] w fun e w' => e = .returned (.tuple #[.int .u32 0, .bool false]) ∧ w' = w := by
  have H : Hid (Calls Tryz.prog 59 #[.pointer (some ⟨R, 0, none⟩), .int .i64 ((m - 59 : Nat) : Int)] w fun e w' => e = .returned (.tuple #[.int .u32 0, .bool false]) ∧ w' = w) := number_no R 0 (m - 59) lb ao cap L w hr hc (by omega) h
  have hm59 : (m : Int) - 59 = ((m - 59 : Nat) : Int) := by omega
  clear hr
  go_enter Tryz.func112, Tryz.ntmps112
  go_wp2_with fail
  refine H.out.mono ?_
  rintro e w' ⟨rfl, rfl⟩
  go_wp2
  go_ret2
  exact ⟨rfl, rfl⟩

set_option maxHeartbeats 1000000 in
set_option maxRecDepth 100000 in
theorem lless_yes (R m lb : Nat) (ao : Option Addr) (cap : Nat) (L : List UInt8) (w : World) (hr : Rest w lb ao cap L) (hc : w.cell? ⟨R, 0, none⟩ = some (.slice ao L.length cap)) (hf : w.frozen? ⟨R, 0, none⟩ = false) (hne : R ≠ lb) (hm : 60 ≤ m) (hm2 : m ≤ 63) (h : m - 59 ≤ L.length) :
    Calls Tryz.prog 112 #[.pointer (some ⟨R, 0, none⟩), .int .i64 m] w fun e w' => e = .returned (.tuple #[.int .u32 ((Pu.le (L.take (m - 59)) : Nat) : Int), .bool true]) ∧ w' = w.setCell ⟨R, 0, none⟩ (.slice (cutA ao cap (m - 59)) (L.length - (m - 59)) (cap - (m - 59))) := by
  have H : Hid (Calls Tryz.prog 59 #[.pointer (some ⟨R, 0, none⟩), .int .i64 ((m - 59 : Nat) : Int)] w fun e w' => e = .returned (.tuple #[.int .u32 ((Pu.le (L.take (m - 59)) : Nat) : Int), .bool true]) ∧ w' = w.setCell ⟨R, 0, none⟩ (.slice (cutA ao cap (m - 59)) (L.length - (m - 59)) (cap - (m - 59)))) := number_yes R 0 (m - 59) lb ao cap L w hr hc hf hne (by omega) h
  have hm59 : (m : Int) - 59 = ((m - 59 : Nat) : Int) := by omega
  clear hr
  go_enter Tryz.func112, Tryz.ntmps112
  go_wp2_with fail
  refine H.out.mono ?_
  rintro e w' ⟨rfl, rfl⟩
  go_wp2
  go_ret2
  exact ⟨rfl, rfl⟩

end Go.Proofs.YtjobhlncllfdmaaGreat

/- The program's unpacker: literal. -/
namespace Go.Proofs.YtjobhlncllfdmaaGreat
open Go.RowKit

/-- what a method of the unpacker answers -/
def UAns (R lb B : Nat) (D : List UInt8) (n : Nat) (r : Option (Nat × List UInt8)) (e : Ending) (w' : World) : Prop :=
  match r with
  | none => e = .returned (.bool false)
  | some (a, o) => e = .returned (.bool true) ∧ USt w' R lb B D n a o

theorem USt.skip {w : World} {R lb B : Nat} {D : List UInt8} {n a k : Nat} {o : List UInt8} {ao : Option Addr} {cap : Nat} {v : Value}
    (hb : UBlk w R (.slice ao (D.length - a) cap) v n) (ha : a + k ≤ D.length) (hr : Rest w lb ao cap (D.drop a)) (ho : w.ownsRow B 5 1 v o.length (bytesV o)) (hl : lb < B) (hB : B ≤ R) :
    USt (w.setCell ⟨R, 0, none⟩ (.slice (cutA ao cap k) (D.length - a - k) (cap - k))) R lb B D n (a + k) o := by
  have hr2 := hr.drop k (by simp; omega)
  rw [List.drop_drop] at hr2
  have hv : v.ownBlock ≠ some R := fun e => Ty.ne (own_ty ho e) ⟨_, hb⟩ (by decide) rfl
  exact ⟨cutA ao cap k, cap - k, v, by rw [show D.length - (a + k) = D.length - a - k by omega]; exact hb.set0 _, ha, hr2.kept (heap_setCell_other w _ _ _ (by simp only []; omega)), ownsRow_set_other' ho hv, hl, hB⟩

/-- behind a literal's length: its bytes -/
theorem lit_take {w : World} {lb : Nat} {ao : Option Addr} {cap z : Nat} {L : List UInt8} (hr : Rest w lb ao cap L) (hz : z ≤ L.length) (h0 : 0 < z) :
    ∃ o, ao = some ⟨lb, o, none⟩ ∧ ∀ j u, (bytesV (L.take z))[j]? = some u → w.cell? ((⟨lb, o, none⟩ : Addr).add j) = some u := by
  obtain ⟨_, _, h3⟩ := hr
  rcases h3 with rfl | ⟨o, rfl, hc⟩
  · simp at hz; omega
  · refine ⟨o, rfl, fun j u hu => ?_⟩
    have hj : j < (L.take z).length := by
      have := (List.getElem?_eq_some_iff.1 hu).1
      rw [length_bytesV] at this; exact this
    have hj2 : j < L.length := by rw [List.length_take] at hj; omega
    rw [show (⟨lb, o, none⟩ : Addr).add j = ⟨lb, o + j, none⟩ from by unfold Addr.add; split <;> simp_all, hc j hj2]
    rw [← hu]
    simp only [bytesV, List.getElem?_map, List.getElem?_eq_getElem hj, Option.map_some, List.getElem_take, Pu.byteAt, List.getD_eq_getElem?_getD, List.getElem?_eq_getElem hj2, Option.getD_some]

end Go.Proofs.YtjobhlncllfdmaaGreat

/- Some cells that are read behind a list: where the new one lies. -/
namespace Go.Proofs.YtjobhlncllfdmaaGreat
open Go.RowKit

/-- k elements more, read from an address on: in place, or in a new block and nothing old turned -/
theorem appendC {P : Program} (w : World) (t ty e : TypeId) (i : TypeInfo) (z : Value) (size bytes B : Nat) (ht : P.underlying t = some (.slice e)) (hi : P.info? e = some i) (hz : i.zero = some z) (hsize : i.size = size) (hby : i.bytes = bytes) (hzs : z.cells.size = size)
    (v : Value) (n : Nat) (xs : List Value) (hown : w.ownsRow B e size v n xs) (a : Addr) (k c : Nat) (hk : 0 < k) (ys : List Value) (hly : ys.length = k * size) (hnews : ∀ j u, ys[j]? = some u → w.cell? (a.add j) = some u) (h1 : ∀ u ∈ ys, u.oneCell' = true) (h63 : n + k ≤ maxLen) (hbytes : (n + k) * bytes ≤ 140737488355328) (hB : B ≤ w.heap.size) :
    ∃ g cap w', (Builtin.append_ #[t, t] ty #[v, .slice (some a) k c]).run P w = .ok (.slice (some ⟨g, 0, none⟩) (n + k) cap) w' ∧
      w'.ownsRow B e size (.slice (some ⟨g, 0, none⟩) (n + k) cap) (n + k) (xs ++ ys) ∧ w.grownBy w' v.ownBlock ∧ (v.ownBlock = some g ∨ g = w.heap.size ∧ w.grownBy w' none) := by
  have hlx : xs.length = n * size := hown.1
  have hlen : (xs ++ ys).length = (n + k) * size := by rw [List.length_append, hlx, hly, Nat.add_mul]
  obtain ⟨av, cv, rfl⟩ := slen_of hown
  have hsrc : Src P i.size t (.slice (some a) k c) k ys w := Src.ofSlice w ht a k c ys (by rw [hsize]; exact hly) hnews h1
  have grow : ∀ (base : Option Addr) (sc : Nat), (Builtin.firstCells i.size n (.slice base n sc)).run P w.drew = .ok xs.toArray w.drew → sc < n + k →
      ∃ g cap w', (Builtin.append_ #[t, t] ty #[.slice base n sc, .slice (some a) k c]).run P w = .ok (.slice (some ⟨g, 0, none⟩) (n + k) cap) w' ∧
      w'.ownsRow B e size (.slice (some ⟨g, 0, none⟩) (n + k) cap) (n + k) (xs ++ ys) ∧ g = w.heap.size ∧ w.grownBy w' none := by
    intro base sc hold hsc
    have hr := run_append_grow_src w t t ty e i z ht hi hz base n sc xs hold (.slice (some a) k c) k ys hsrc hsc (by unfold maxLen at h63; omega) (by rw [hby]; exact growslice_fits (by omega) hbytes)
    have hge := grownCap_ge w (n + k) sc e
    have hcm : grownCap w (n + k) sc e ≤ maxLen := grownCap_le_maxLen w (n + k) sc e h63
    refine ⟨_, _, _, hr, ⟨hlen, .inr ⟨w.heap.size, _, _, rfl, hB, heap_alloc_new w.drew _, hge, hcm, ?_, ?_⟩⟩, rfl, ⟨rfl, rfl, rfl, by simp, fun k hk _ => Below.heap_alloc w.drew _ k hk⟩⟩
    · simp only [Array.size_append, List.size_toArray, size_zeroCells, hzs]
      rw [hlen, ← Nat.add_mul]
      congr 1; omega
    · simp only [Array.toList_append]
      rw [← hlen]
      exact List.take_left
  rcases hown.2 with ⟨hv, hn0⟩ | ⟨g, cap, cur, hv, hbg, hg, hnc, hcm, hcs, htake⟩
  · simp only [Value.slice.injEq] at hv
    obtain ⟨rfl, rfl, rfl⟩ := hv
    have hx0 : xs = [] := List.eq_nil_of_length_eq_zero (by rw [hlx]; simp)
    subst hx0
    obtain ⟨g, cap, w', h2, h3, h4, h5⟩ := grow none 0 (by simpa using run_firstCells_none (P := P) w.drew i.size 0 0 0) (by omega)
    exact ⟨_, cap, w', h2, h3, ⟨h5.os, h5.tape, h5.output, h5.size, fun k hk _ => h5.block k hk (by simp)⟩, .inr ⟨h4, h5⟩⟩
  · simp only [Value.slice.injEq, true_and] at hv
    obtain ⟨rfl, rfl⟩ := hv
    by_cases hroom : n + k ≤ cv
    · obtain ⟨w', h2, h3, h4⟩ := run_append_fits w B t ty e i size ht hi hsize g n cv xs hown a k c ys hly hnews h1 hroom
      exact ⟨_, cv, w', h2, h3, h4, .inl rfl⟩
    · have holds : ∀ j u, xs[j]? = some u → w.cell? ((⟨g, 0, none⟩ : Addr).add j) = some u := hown.cells (g := g) rfl
      obtain ⟨g', cap', w', h2, h3, h4, h5⟩ := grow (some ⟨g, 0, none⟩) cv (run_firstCells_some w.drew i.size n ⟨g, 0, none⟩ n cv xs (by rw [hsize]; exact hlx) (by simpa using holds)) (by omega)
      exact ⟨_, cap', w', h2, h3, ⟨h5.os, h5.tape, h5.output, h5.size, fun k hk _ => h5.block k hk (by simp)⟩, .inr ⟨h4, h5⟩⟩

end Go.Proofs.YtjobhlncllfdmaaGreat
