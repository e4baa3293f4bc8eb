/- back: its contract. -/
import Derived.Test.YtjobhlncllfdmaaGreatM47
import Derived.Test.YtjobhlncllfdmaaGreatM02
import Derived.Test.YtjobhlncllfdmaaGreatM39
import Derived.Test.YtjobhlncllfdmaaGreatM46
import Derived.Test.YtjobhlncllfdmaaGreatM45
import Derived.Laws.IdiomStrings
namespace Go.Proofs.YtjobhlncllfdmaaGreat
open Go.RowKit

theorem lent_cell {w : World} {B g N cap : Nat} {s : ByteArray} (h : w.ownsRow B 5 1 (.slice (some ⟨g, 0, none⟩) (s.size + 3) cap) (s.size + 3) (bytesV s.data.toList ++ [.int .u8 200, .int .u8 201, .int .u8 202])) (hN : N < 3) :
    w.cell? ⟨g, s.size + N, none⟩ = some (.int .u8 (200 + N : Nat)) := by
  rw [h.cellAt _ (by omega), List.getElem?_append_right (by rw [length_bytesV]; simp)]
  rw [length_bytesV, show s.size + N - s.data.toList.length = N by simp]
  match N, hN with
  | 0, _ => rfl
  | 1, _ => rfl
  | 2, _ => rfl

set_option maxHeartbeats 2000000 in
set_option maxRecDepth 100000 in
theorem back5 (B b : Nat) (A : Nat → Prop) (nb : Nat) (g cap : Nat) (s : ByteArray) (w : World) (hBk : Book5 w B b A nb) (hl : w.ownsRow B 5 1 (.slice (some ⟨g, 0, none⟩) (s.size + 3) cap) (s.size + 3) (bytesV s.data.toList ++ [.int .u8 200, .int .u8 201, .int .u8 202])) (hlA : ¬ A g)
    (hs : s.size ≤ 140737488355000) (hnb : nb ≤ 900000) :
    Calls Tryz.prog 19 #[.pointer (some ⟨b, 0, none⟩), .slice (some ⟨g, 0, none⟩) (s.size + 3) cap, .string s] w fun e w' => e = .returned (.bool true) ∧ Kept w B b A nb (some g) w' := by
  have K : Hid (Calls Tryz.prog 37 #[.pointer (some ⟨b, 0, none⟩), .slice (some ⟨g, 0, none⟩) (s.size + 3) cap] w fun e w' => e = .returned (.tuple #[]) ∧ Kept w B b A nb (some g) w') :=
    keepBytes5 B b (s.size + 3) A nb (some ⟨g, 0, none⟩) cap _ w hBk hl (fun k hk => by simp only [Value.ownBlock, Option.some.injEq] at hk; subst hk; exact hlA) (by omega) hnb
  have c0 := lent_cell (N := 0) hl (by omega)
  have c1 := lent_cell (N := 1) hl (by omega)
  have c2 := lent_cell (N := 2) hl (by omega)
  have hcap : s.size + 3 ≤ cap := by
    rcases hl.2 with ⟨h, _⟩ | ⟨g', cap', cur, h, _, _, hnc, _⟩
    · cases h
    · simp only [Value.slice.injEq] at h
      omega
  have hcm : cap ≤ 9223372036854775807 := by
    rcases hl.2 with ⟨h, _⟩ | ⟨g', cap', cur, h, _, _, hnc, hm, _⟩
    · cases h
    · simp only [Value.slice.injEq] at h
      unfold maxLen at hm
      omega
  have hcv : (convert 25 9 (.slice (some ⟨g, 0, none⟩) s.size cap)).run Tryz.prog w = .ok (.string s) w := by
    have hlen : s.data.toList.length = s.size := by simp
    have hb := run_convert_bytes_back (P := Tryz.prog) w 25 9 5 ⟨g, 0, none⟩ cap s.data.toList Tryz.underlying25 Tryz.underlying5 Tryz.underlying9 (fun j hj => by
      rw [show (⟨g, 0, none⟩ : Addr).add j = ⟨g, j, none⟩ from by unfold Addr.add; split <;> simp_all, hl.cellAt j (by omega), List.getElem?_append_left (by rw [length_bytesV]; exact hj)]
      simp only [bytesV, List.getElem?_map, List.getElem?_eq_getElem hj, Option.map_some])
    rw [hlen] at hb
    rw [hb]
  rw [Nat.add_zero] at c0
  clear hBk hl
  go_enter Tryz.func19, Tryz.ntmps19
  go_wp2_with fail
  refine K.out.mono ?_
  rintro e w1 ⟨rfl, hK⟩
  have HK : Hid _ := hK
  clear hK
  go_wp2
  go_ret
  exact ⟨rfl, HK.out⟩
end Go.Proofs.YtjobhlncllfdmaaGreat

/- sameColumns: its contract. -/
namespace Go.Proofs.YtjobhlncllfdmaaGreat
open Go.RowKit

set_option maxHeartbeats 1000000 in
set_option maxRecDepth 100000 in
theorem sameCols (a1 a2 : Option Addr) (c1 c2 : Nat) (cs : List Pu.Col) (B1 B2 : Nat) (w : World) (h1 : w.ownsRow B1 54 3 (.slice a1 cs.length c1) cs.length (colsV cs)) (h2 : w.ownsRow B2 54 3 (.slice a2 cs.length c2) cs.length (colsV cs)) (hx : cs.length ≤ 100000) :
    Calls Tryz.prog 21 #[.slice a1 cs.length c1, .slice a2 cs.length c2] w fun e w' => e = .returned (.bool true) ∧ ∃ n, w' = w.drewN n := by
  have HC1 : Hid (∀ k, (hk : k < cs.length) → ∃ g, a1 = some ⟨g, 0, none⟩ ∧ w.cell? ⟨g, k * 3, none⟩ = some (strV cs[k].name) ∧ w.cell? ⟨g, k * 3 + 1, none⟩ = some (.int .i64 (cs[k].kind : Int)) ∧ w.cell? ⟨g, k * 3 + 2, none⟩ = some (.bool cs[k].opt)) := cols_cell h1
  have HC2 : Hid (∀ k, (hk : k < cs.length) → ∃ g, a2 = some ⟨g, 0, none⟩ ∧ w.cell? ⟨g, k * 3, none⟩ = some (strV cs[k].name) ∧ w.cell? ⟨g, k * 3 + 1, none⟩ = some (.int .i64 (cs[k].kind : Int)) ∧ w.cell? ⟨g, k * 3 + 2, none⟩ = some (.bool cs[k].opt)) := cols_cell h2
  clear h1 h2
  have hnn : ((cs.length : Int) != (cs.length : Int)) = false := by simp
  go_enter Tryz.func21, Tryz.ntmps21
  go_wp2
  go_loopw [5] (fun i wr => ∃ k q : Nat, k ≤ cs.length ∧ i = .int .i64 k ∧ wr = w.drewN q) (fun i _ => cs.length - (intOf i).toNat)
  case atStart => exact ⟨0, 0, Nat.zero_le _, rfl, rfl⟩
  case round =>
    obtain ⟨k, q, hk, rfl, rfl⟩ := hrel
    by_cases hk2 : k < cs.length
    · obtain ⟨g1, rfl, d1, d2, d3⟩ := HC1.out k hk2
      obtain ⟨g2, rfl, e1, e2, e3⟩ := HC2.out k hk2
      unfold strV at d1 e1
      generalize (⟨cs[k].name.toArray⟩ : ByteArray) = x at *
      generalize cs[k].kind = y at *
      generalize cs[k].opt = z at *
      go_wp2
      go_quiet (fail)
      go_wp2
      go_roundw
      case rel => exact ⟨k + 1, _, by omega, by go_num, rfl⟩
      case measure => simp [intOf]; omega
    · go_wp2
      go_ret
      exact ⟨rfl, q, rfl⟩
end Go.Proofs.YtjobhlncllfdmaaGreat

/- What holds through the keeping of other lists. -/
namespace Go.Proofs.YtjobhlncllfdmaaGreat
open Go.RowKit

/-- the book, on the way from w0 -/
def Chain (w0 : World) (B b n : Nat) (A : Nat → Prop) (W : World) : Prop := Book5 W B b A n ∧ Below B w0 W

/-- a row that is not the book's -/
def Mine (W : World) (A : Nat → Prop) (B : Nat) (e : TypeId) (sz : Nat) (v : Value) (n : Nat) (xs : List Value) : Prop := W.ownsRow B e sz v n xs ∧ ∀ k, v.ownBlock = some k → ¬ A k

/-- a block that is not the book's -/
def Apart (W : World) (A : Nat → Prop) (k : Nat) (o : Obj) : Prop := W.heap[k]? = some o ∧ ¬ A k

section
variable {w0 W W' : World} {B b n : Nat} {A A' : Nat → Prop} {l0 : Option Nat} {e : TypeId} {sz : Nat} {v : Value} {m : Nat} {xs : List Value} {k : Nat} {o : Obj}

theorem Chain.below (h : Chain w0 B b n A W) (hb : Below W.heap.size W W') : Chain w0 B b n A W' :=
  ⟨h.1.below hb (Nat.le_refl _), h.2.trans (hb.mono h.1.bsize)⟩

/-- what a keeping leaves -/
def After (W : World) (A : Nat → Prop) (l0 : Option Nat) (A' : Nat → Prop) (W' : World) : Prop :=
  (∀ k, A' k → A k ∨ l0 = some k ∨ W.heap.size ≤ k) ∧ (∀ k, k < W.heap.size → ¬ A k → l0 ≠ some k → W'.heap[k]? = W.heap[k]?) ∧ W.heap.size ≤ W'.heap.size

theorem Chain.kept (h : Chain w0 B b n A W) (hk : Kept W B b A n l0 W') (hl : ∀ k, l0 = some k → B ≤ k) : ∃ A', Chain w0 B b (n + 4) A' W' ∧ After W A l0 A' W' := by
  obtain ⟨A', h1, h2, h3⟩ := hk
  have hlt := h.1.lt
  refine ⟨A', ⟨h1, h.2.trans (h3.below h.1.bsize (fun k hk => ?_))⟩, h2, fun k hk ha hl => h3.block k hk (fun t => by rcases t with t | t; exact ha t; exact hl t), h3.size⟩
  rcases hk with hk | hk
  · exact (hlt k hk).1
  · exact hl k hk

theorem Mine.below (h : Mine W A B e sz v m xs) (hb : Below W.heap.size W W') : Mine W' A B e sz v m xs :=
  ⟨own_agreeS h.1 (fun k hk => hb.block k (own_tyS h.1 hk).lt), h.2⟩
theorem Mine.after (h : Mine W A B e sz v m xs) (ha : After W A l0 A' W') (hne : ∀ k, v.ownBlock = some k → l0 ≠ some k) : Mine W' A' B e sz v m xs := by
  refine ⟨own_agreeS h.1 (fun k hk => ha.2.1 k (own_tyS h.1 hk).lt (h.2 k hk) (hne k hk)), fun k hk hA => ?_⟩
  rcases ha.1 k hA with t | t | t
  · exact h.2 k hk t
  · exact hne k hk t
  · have := (own_tyS h.1 hk).lt; omega
theorem Apart.below (h : Apart W A k o) (hb : Below W.heap.size W W') : Apart W' A k o :=
  ⟨by rw [hb.block k (Array.getElem?_eq_some_iff.1 h.1).1]; exact h.1, h.2⟩
theorem Apart.after (h : Apart W A k o) (ha : After W A l0 A' W') (hne : l0 ≠ some k) : Apart W' A' k o := by
  have hlt := (Array.getElem?_eq_some_iff.1 h.1).1
  refine ⟨by rw [ha.2.1 k hlt h.2 hne]; exact h.1, fun hA => ?_⟩
  rcases ha.1 k hA with t | t | t
  · exact h.2 t
  · exact hne t
  · omega
end

/-- lent bytes are bytes to be read -/
theorem rest_of_lent5 {w : World} {B g cap : Nat} {s : ByteArray} (h : w.ownsRow B 5 1 (.slice (some ⟨g, 0, none⟩) (s.size + 3) cap) (s.size + 3) (bytesV s.data.toList ++ [.int .u8 200, .int .u8 201, .int .u8 202])) :
    Rest w g (some ⟨g, 0, none⟩) cap s.data.toList := by
  have hlen : s.data.toList.length = s.size := by simp
  have hcap : s.size + 3 ≤ cap ∧ cap ≤ maxLen := by
    rcases h.2 with ⟨h, _⟩ | ⟨g', cap', cur, h, _, _, hnc, hm, _⟩
    · cases h
    · simp only [Value.slice.injEq] at h
      obtain ⟨_, _, rfl⟩ := h
      exact ⟨hnc, hm⟩
  refine ⟨by omega, hcap.2, .inr ⟨0, rfl, fun j hj => ?_⟩⟩
  rw [Nat.zero_add, h.cellAt j (by omega), List.getElem?_append_left (by rw [length_bytesV]; exact hj)]
  simp only [bytesV, List.getElem?_map, List.getElem?_eq_getElem hj, Option.map_some, Pu.byteAt, List.getD_eq_getElem?_getD, Option.getD_some]

theorem look_bounds {D : List UInt8} {E : Nat} {cs : List Pu.Col} {gs : List (Nat × List (Nat × Nat))} (h : Pu.look D = .good E cs gs) : cs.length ≤ 20 ∧ gs.length ≤ 50 := by
  rw [look_find] at h
  cases hf : Pu.find D with
  | none => simp [hf] at h
  | some p =>
    obtain ⟨E', z, y⟩ := p
    simp only [hf] at h
    split at h
    · cases h
    · cases hft : Pu.foot (Pu.piece D E' z) E' with
      | none => simp [hft] at h
      | some q =>
        obtain ⟨cs', gs'⟩ := q
        simp only [hft, Pu.Seen.good.injEq] at h
        obtain ⟨_, rfl, rfl⟩ := h
        unfold Pu.foot at hft
        cases hc : Pu.cols (Pu.piece D E' z) with
        | none => simp [hc] at hft
        | some r =>
          obtain ⟨cs2, a⟩ := r
          simp only [hc] at hft
          cases hg : Pu.grps (Pu.piece D E' z) E' cs2.length a with
          | none => simp [hg] at hft
          | some gs2 =>
            simp only [hg, Option.some.injEq, Prod.mk.injEq] at hft
            obtain ⟨rfl, rfl⟩ := hft
            exact ⟨(Pu.cols_spec hc).2.1, Pu.grps_spec hg⟩

theorem look_bad_le {D : List UInt8} {k : Nat} (h : Pu.look D = .bad k) : 6 ≤ k ∧ k ≤ 8 := by
  rw [look_find] at h
  cases hf : Pu.find D with
  | none => simp only [hf, Pu.Seen.bad.injEq] at h; omega
  | some p =>
    obtain ⟨E', z, y⟩ := p
    simp only [hf] at h
    split at h
    · simp only [Pu.Seen.bad.injEq] at h; omega
    · cases hft : Pu.foot (Pu.piece D E' z) E' with
      | none => simp only [hft, Pu.Seen.bad.injEq] at h; omega
      | some q => obtain ⟨cs', gs'⟩ := q; simp [hft] at h

end Go.Proofs.YtjobhlncllfdmaaGreat

/- table.Read, strata.Read: any bytes, any budget. -/
namespace Go.Proofs.YtjobhlncllfdmaaGreat
open Go.RowKit

theorem read_fin {D : List UInt8} {b E : Nat} {cs : List Pu.Col} {gs : List (Nat × List (Nat × Nat))} (hb : b ≤ 1073741824) (h : Pu.look D = .good E cs gs) : Pu.read D (b : Int) = finR cs (Pu.grpsR D E b cs gs 0 (List.replicate cs.length [])) := by
  unfold Pu.read finR
  rw [if_neg (by omega), h]
  simp only [Int.toNat_natCast]
  cases Pu.grpsR D E b cs gs 0 (List.replicate cs.length []) with
  | error e => rfl
  | ok q => rfl
theorem pread_bad {D : List UInt8} {b k : Nat} (hb : b ≤ 1073741824) (h : Pu.look D = .bad k) : Pu.read D (b : Int) = .error k := by
  unfold Pu.read
  rw [if_neg (by omega), h]
theorem read_arg {D : List UInt8} {bd : Int} (hb : bd < 0 ∨ 1073741824 < bd) : Pu.read D bd = .error 1 := by
  unfold Pu.read
  rw [if_pos hb]

theorem TabD.mono {W : World} {B B' : Nat} {v : Value} {ts : List (List Pu.Cl)} (h : TabD W B v ts) (hB : B' ≤ B) : TabD W B' v ts := by
  obtain ⟨vs, h1, h2, h3⟩ := h
  refine ⟨vs, h1.mono hB, fun i hi => ?_, h3⟩
  obtain ⟨ai, ci, g1, g2⟩ := h2 i hi
  exact ⟨ai, ci, g1, g2.mono hB⟩

theorem tableRead_any (lb : Nat) (ao : Option Addr) (cap : Nat) (D : List UInt8) (bd : Int) (w : World) (h : Rest w lb ao cap D) (hlb : lb < w.heap.size) (hD : D.length ≤ 1073741824) :
    Calls Tryz.prog 17 #[.slice ao D.length cap, .int .i64 bd] w fun e w' => TrAns w (Pu.read D bd) e w' := by
  by_cases hb : bd < 0 ∨ 1073741824 < bd
  · rw [read_arg hb]
    exact tableRead_arg ao D.length cap bd w hb
  · obtain ⟨b, rfl⟩ : ∃ b : Nat, bd = (b : Int) := ⟨bd.toNat, by omega⟩
    have hb2 : b ≤ 1073741824 := by omega
    have hf := footRead_any lb ao cap D (w.alloc (.cells #[.slice none 0 0, .slice none 0 0] 36)) (h.kept (Below.heap_alloc _ _ _ hlb)) (by rw [size_alloc']; omega) (by omega)
    rw [size_alloc'] at hf
    cases hl : Pu.look D with
    | bad k =>
      rw [pread_bad hb2 hl]
      rw [hl] at hf
      exact tableRead_bad ao D.length cap b k w hb2 (by have := (look_bad_le hl).1; omega) hf
    | good E cs gs =>
      rw [read_fin hb2 hl]
      rw [hl] at hf
      exact tableRead_good lb ao cap D b E cs gs w hb2 h hlb hl hf hD

theorem refRead_two (s : ByteArray) (bd : Int) (w : World) (hs : s.size ≤ 1073741824) (GOOD : ∀ (b E : Nat) (cs : List Pu.Col) (gs : List (Nat × List (Nat × Nat))), b ≤ 1073741824 → Pu.look s.data.toList = .good E cs gs → Calls Tryz.prog 20 #[.string s, .int .i64 (b : Int)] w fun e w' => TrAns w (finR cs (Pu.grpsR s.data.toList E b cs gs 0 (List.replicate cs.length []))) e w') :
    Calls Tryz.prog 20 #[.string s, .int .i64 bd] w fun e w' => TrAns w (Pu.read s.data.toList bd) e w' := by
  by_cases hb : bd < 0 ∨ 1073741824 < bd
  · rw [read_arg hb]
    exact refRead_arg s bd w hb
  · obtain ⟨b, rfl⟩ : ∃ b : Nat, bd = (b : Int) := ⟨bd.toNat, by omega⟩
    have hb2 : b ≤ 1073741824 := by omega
    cases hl : Pu.look s.data.toList with
    | bad k =>
      rw [pread_bad hb2 hl]
      exact refRead_bad s b k w hs hb2 (by have := (look_bad_le hl).1; omega) hl
    | good E cs gs =>
      rw [read_fin hb2 hl]
      exact GOOD b E cs gs hb2 hl

set_option maxHeartbeats 4000000 in
set_option maxRecDepth 100000 in
theorem strataRead_any (lb : Nat) (ao : Option Addr) (cap : Nat) (D : List UInt8) (bd : Int) (w : World) (h : Rest w lb ao cap D) (hlb : lb < w.heap.size) (hD : D.length ≤ 1073741824) :
    Calls Tryz.prog 6 #[.slice ao D.length cap, .int .i64 bd] w fun e w' => TrAns w (Pu.read D bd) e w' := by
  have TR : Hid (Calls Tryz.prog 17 #[.slice ao D.length cap, .int .i64 bd] (w.alloc (.cells #[.slice none 0 0, .slice none 0 0] 36)) fun e w' => TrAns (w.alloc (.cells #[.slice none 0 0, .slice none 0 0] 36)) (Pu.read D bd) e w') := tableRead_any lb ao cap D bd _ (h.kept (Below.heap_alloc _ _ _ hlb)) (by rw [size_alloc']; omega) hD
  obtain ⟨d, hd⟩ : ∃ d, d = D.length := ⟨_, rfl⟩
  rw [← hd] at TR ⊢
  clear h hlb hD hd
  cases hr : Pu.read D bd with
  | error k =>
    rw [hr] at TR
    clear hr
    go_enter Tryz.func6, Tryz.ntmps6
    go_wp2_with fail
    refine TR.out.mono ?_
    rintro e w2 ⟨hb2, rfl⟩
    rw [size_alloc'] at hb2
    have r2 := row_in rfl hb2
    have HB : Hid (Below w.heap.size w w2) := (bbox w _).trans (hb2.mono (by omega))
    obtain ⟨a1, a2, a3, a4, a5, a6, a7, a8, a9⟩ := err_cells r2 r2
    clear hb2 r2 TR
    go_wp2
    exact bodyPost_ret (v := .tuple #[.agg #[.slice none 0 0, .slice none 0 0], .int .i64 0, .int .i64 (k : Int)]) (by simp [results, Tryz.results6, go_sem, a7, a8]) rfl ⟨(HB.out.setCell (Nat.le_refl _) _).setCell (Nat.le_refl _) _, rfl⟩
  | ok q =>
    obtain ⟨cs, ts, u⟩ := q
    rw [hr] at TR
    clear hr
    go_enter Tryz.func6, Tryz.ntmps6
    go_wp2_with fail
    refine TR.out.mono ?_
    rintro e w2 ⟨hb2, vc, vt, rfl, oc, ot, otl⟩
    rw [size_alloc'] at hb2 oc ot
    obtain ⟨vs, q1, q2, q3⟩ := ot
    obtain ⟨av, cv, rfl⟩ := slen_of oc
    obtain ⟨at2, ct, rfl⟩ := slen_of q1
    have r2 := row_in rfl hb2
    have HB : Hid (Below w.heap.size w w2) := (bbox w _).trans (hb2.mono (by omega))
    have t2 : Ty w2 w.heap.size 36 := ⟨_, r2⟩
    obtain ⟨nc, hnc⟩ : ∃ nc, nc = cs.length := ⟨_, rfl⟩
    obtain ⟨nt, hnt⟩ : ∃ nt, nt = ts.length := ⟨_, rfl⟩
    have Hoc : Hid (w2.ownsRow (w.heap.size + 1) 54 3 (.slice av nc cv) cs.length (colsV cs)) := by rw [hnc]; exact oc
    have Htb : Hid (TabD w2 (w.heap.size + 1) (.slice at2 nt ct) ts) := by rw [hnt]; exact ⟨vs, q1, q2, q3⟩
    have KT : Hid (∀ k e, Ty w2 k e → e ≠ 36 → ((w2.setCell ⟨w.heap.size, 0, none⟩ (.slice av nc cv)).setCell ⟨w.heap.size, 1, none⟩ (.slice at2 nt ct)).heap[k]? = w2.heap[k]?) := fun k e hk he => by rw [row_off (Ty.ne hk t2 he), row_off (Ty.ne hk t2 he)]
    have a1 : w2.cell? ⟨w.heap.size, 0, none⟩ = some (.slice none 0 0) := by rw [cell_of_row _ _ 0 _ _ _ r2]; rfl
    have a2 : w2.cell? ⟨w.heap.size, 1, none⟩ = some (.slice none 0 0) := by rw [cell_of_row _ _ 1 _ _ _ r2]; rfl
    have a3 := frozen_of_row _ _ 0 _ _ r2
    have a4 := frozen_of_row _ _ 1 _ _ r2
    have r5 := setTwo_row r2 (.slice av nc cv) (.slice at2 nt ct)
    have a7 : ((w2.setCell ⟨w.heap.size, 0, none⟩ (.slice av nc cv)).setCell ⟨w.heap.size, 1, none⟩ (.slice at2 nt ct)).cell? ⟨w.heap.size, 0, none⟩ = some (.slice av nc cv) := by rw [cell_of_row _ _ 0 _ _ _ r5]; rfl
    have a8 : ((w2.setCell ⟨w.heap.size, 0, none⟩ (.slice av nc cv)).setCell ⟨w.heap.size, 1, none⟩ (.slice at2 nt ct)).cell? ⟨w.heap.size, 1, none⟩ = some (.slice at2 nt ct) := by rw [cell_of_row _ _ 1 _ _ _ r5]; rfl
    rw [← hnc, ← hnt]
    have HTL : Hid (ts.length = cs.length ∧ cs.length ≤ 20 ∧ ∀ x ∈ ts, x.length ≤ 1000000) := otl
    clear otl hb2 r2 r5 t2 TR oc q1 q2 q3 hnc hnt
    go_wp2
    refine bodyPost_ret (v := .tuple #[.agg #[.slice av nc cv, .slice at2 nt ct], .int .i64 (u : Int), .int .i64 0]) (by simp [results, Tryz.results6, go_sem, a7, a8]) rfl ?_
    refine ⟨(HB.out.setCell (Nat.le_refl _) _).setCell (Nat.le_refl _) _, .slice av nc cv, .slice at2 nt ct, rfl, ?_, ?_, HTL.out⟩
    · exact (own_agreeS Hoc.out (fun k hk => KT.out k 54 (own_tyS Hoc.out hk) (by decide))).mono (by omega)
    · exact TabD.mono (Htb.out.kept (fun k hk => by rcases hk with hk | hk; exact KT.out k 47 hk (by decide); exact KT.out k 57 hk (by decide))) (by omega)
end Go.Proofs.YtjobhlncllfdmaaGreat

/- strataref.Read: one page more. -/
namespace Go.Proofs.YtjobhlncllfdmaaGreat
open Go.RowKit

theorem head_small {D : List UInt8} {a E nx : Nat} {p : Pu.Pg} (h : Pu.head D a E = some (p, nx)) : p.sort < 256 ∧ p.cells ≤ 4294967295 := by
  unfold Pu.head at h
  by_cases h0 : E < a + 2
  · rw [if_pos h0] at h; cases h
  · rw [if_neg h0] at h
    cases h3 : Pu.nums4 (D.take E) (a + 2) with
    | none => simp [h3] at h
    | some q =>
      obtain ⟨c, st, z, y, b⟩ := q
      simp only [h3] at h
      by_cases h1 : E - b < st
      · rw [if_pos h1] at h; cases h
      · rw [if_neg h1] at h
        by_cases h2 : Pu.byteAt D (a + 1) < 2 ∧ (if Pu.byteAt D (a + 1) = 1 then z ≤ 1048576 else z = st)
        · rw [if_pos h2] at h
          simp only [Option.some.injEq, Prod.mk.injEq] at h
          obtain ⟨rfl, rfl⟩ := h
          obtain ⟨q1, q2, q3, v1, _⟩ := nums4_some h3
          have := (Pu.vi_lt v1).2.2
          refine ⟨?_, by simp only; omega⟩
          simp only
          exact Pu.byteAt_lt _ _
        · rw [if_neg h2] at h; cases h

/-- what one page more does -/
def RStep (W0 : World) (r : Nat) (nm : ByteArray) (D : List UInt8) (E b : Nat) (opt : Bool) (kind q : Nat) (PP : Except Nat (Nat × Pu.Sta)) (j u a : Nat) (W : World) : Prop :=
  (Pu.head D a E = none ∧ PP = .error 9) ∨
  ∃ p nx, Pu.head D a E = some (p, nx) ∧
    (((∀ W', Below W.heap.size W W' → Calls Tryz.prog 40 #[.pointer (some ⟨r, 0, none⟩), pgV p, .bool (decide (j = 0))] W' fun e w' => e = .returned (.bool false) ∧ Below W'.heap.size W' w') ∧ PP = .error 9) ∨
    ((∀ W', Below W.heap.size W W' → Calls Tryz.prog 40 #[.pointer (some ⟨r, 0, none⟩), pgV p, .bool (decide (j = 0))] W' fun e w' => e = .returned (.bool true) ∧ Below W'.heap.size W' w') ∧
      ((∃ k : Nat, k ≠ 0 ∧ PP = .error k ∧ ∀ W', Below W.heap.size W W' → Calls Tryz.prog 41 #[.pointer (some ⟨r, 0, none⟩), pgV p, .int .i64 (u : Int), .int .i64 (b : Int)] W' fun e w' => e = .returned (.tuple #[.int .i64 0, .int .i64 (k : Int)]) ∧ Below W0.heap.size W' w') ∨
       ∃ (u' : Nat) (st' : Pu.Sta), (∀ W', Below W.heap.size W W' → Calls Tryz.prog 41 #[.pointer (some ⟨r, 0, none⟩), pgV p, .int .i64 (u : Int), .int .i64 (b : Int)] W' fun e w' => e = .returned (.tuple #[.int .i64 (u' : Int), .int .i64 0]) ∧ Below W0.heap.size W' w' ∧ RSta w' r W0.heap.size nm kind opt st') ∧
         ∀ W', RSta W' r W0.heap.size nm kind opt st' → Below W0.heap.size W0 W' → RPg W0 r nm D E b opt kind q PP (j + 1) u' nx W')))

theorem RPg.step {W0 : World} {r : Nat} {nm : ByteArray} {D : List UInt8} {E b : Nat} {opt : Bool} {kind q : Nat} {PP : Except Nat (Nat × Pu.Sta)} {j u a : Nat} {W : World} (h : RPg W0 r nm D E b opt kind q PP j u a W) (hj : j < q) (hE : E ≤ D.length) (hD : D.length ≤ 1073741824) (hb : b ≤ 1073741824) (hk : kind ≤ 2) : RStep W0 r nm D E b opt kind q PP j u a W := by
  obtain ⟨st, hst, hbl, hu, ha, hdl, hds, hcl, hPP⟩ := h
  have hFl : (D.take E).length = E := by rw [List.length_take]; omega
  rw [show q - j = (q - (j + 1)) + 1 by omega, pages_next D E opt kind b (q - (j + 1)) j a u st hE] at hPP
  cases hh : Pu.head D a E with
  | none =>
    refine .inl ⟨hh, ?_⟩
    rw [hPP]
    unfold Pu.nextR
    rcases headT_head D E a hE with ⟨q', h1, h2⟩ | ⟨h1, _⟩
    · rw [hh] at h2; cases h2
    · rw [h1]
  | some pn =>
    obtain ⟨p, nx⟩ := pn
    obtain ⟨s1, s2⟩ := head_small hh
    have MAY : ∀ W', Below W.heap.size W W' → Calls Tryz.prog 40 #[.pointer (some ⟨r, 0, none⟩), pgV p, .bool (decide (j = 0))] W' fun e w' => e = .returned (.bool (Pu.may p kind st.left st.known (decide (j = 0)))) ∧ Below W'.heap.size W' w' := fun W' hW' => by
      obtain ⟨vd, vc, g1, _⟩ := hst.below hW'
      exact may_any p r nm kind st.left opt st.known (decide (j = 0)) vd vc W' g1 s1 s2 (by omega) hk
    refine .inr ⟨p, nx, hh, ?_⟩
    rcases headT_head D E a hE with ⟨q', h1, h2⟩ | ⟨h1, h2⟩
    · rw [hh] at h2
      simp only [Option.some.injEq] at h2
      subst h2
      obtain ⟨b1, b2, b3, b4, b5, b6, b7⟩ := headT_bounds h1
      rw [hFl] at b6 b7
      by_cases hm : Pu.may p kind st.left st.known (decide (j = 0)) = true
      · rw [hm] at MAY
        refine .inr ⟨MAY, ?_⟩
        obtain ⟨m1, m2⟩ := may_cells hm (by omega)
        have PAGE : ∀ W', Below W.heap.size W W' → Calls Tryz.prog 41 #[.pointer (some ⟨r, 0, none⟩), pgV p, .int .i64 (u : Int), .int .i64 (b : Int)] W' fun e w' => PgAns W' r W0.heap.size nm kind opt (Pu.page opt kind st p u b) e w' := fun W' hW' =>
          page_any p r W0.heap.size nm kind opt st u b W' (hst.below hW') hk m1 (by omega) (by omega) b3 b5 b4 hu hb hdl hds (by omega) (by omega) m2
        cases hp : Pu.page opt kind st p u b with
        | error k =>
          have hn : Pu.nextR (D.take E) opt kind b j a u st = .error k := by unfold Pu.nextR; rw [h1]; simp only; rw [if_pos hm, hp]
          rw [hn] at hPP
          rw [hp] at PAGE
          exact .inl ⟨k, (next_err hn).1, hPP, PAGE⟩
        | ok q' =>
          obtain ⟨u', st'⟩ := q'
          have hn : Pu.nextR (D.take E) opt kind b j a u st = .ok (u', st', nx) := by unfold Pu.nextR; rw [h1]; simp only; rw [if_pos hm, hp]
          rw [hn] at hPP
          rw [hp] at PAGE
          obtain ⟨n1, n2, n3, n4, n5⟩ := next_spec hn (by omega) (by omega) hdl hds
          have hsum := pageSum hp m2 (by omega) b5 hds
          refine .inr ⟨u', st', PAGE, fun W' hs' hb' => ⟨st', hs', hb', n2, b7, n4, n5, by omega, ?_⟩⟩
          rw [hPP]
          rfl
      · have hm' : Pu.may p kind st.left st.known (decide (j = 0)) = false := by simpa using hm
        rw [hm'] at MAY
        refine .inl ⟨MAY, ?_⟩
        rw [hPP]
        unfold Pu.nextR
        rw [h1]
        simp only
        rw [if_neg hm]
    · rcases h2 with h2 | ⟨p', nx', h2, hs⟩
      · rw [hh] at h2; cases h2
      · rw [hh] at h2
        simp only [Option.some.injEq, Prod.mk.injEq] at h2
        obtain ⟨rfl, rfl⟩ := h2
        rw [may_sort hs] at MAY
        refine .inl ⟨MAY, ?_⟩
        rw [hPP]
        unfold Pu.nextR
        rw [h1]
end Go.Proofs.YtjobhlncllfdmaaGreat
