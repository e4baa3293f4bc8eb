/- The program's cells.writeValues, Plain. -/
import Derived.Test.YtjobhlncllfdmaaM17
namespace Go.Proofs.Ytjobhlncllfdmaa
open Go.RowKit

/-- a whole number as 64 bits -/
def uN (n : Int) : Nat := (n % 18446744073709551616).toNat
theorem uN_lt (n : Int) : uN n < 18446744073709551616 := by unfold uN; omega
/-- one cell that is not null, in a column that is not of bools -/
def val1 (kind : Nat) (c : Pu.Cl) : List UInt8 := if kind = 1 then leB 8 (uN c.n) else vb c.s.length ++ c.s
def valuesL (kind : Nat) (l : List Pu.Cl) : List UInt8 := if kind = 0 then boolsL l else l.flatMap (val1 kind)

theorem length_val1 (kind : Nat) (c : Pu.Cl) (h : c.s.length ≤ 1000) : (val1 kind c).length ≤ 1007 := by
  unfold val1
  have := length_vb8 (n := c.s.length) (by omega)
  split
  · rw [length_leB]; omega
  · rw [List.length_append]; omega
theorem length_val (kind : Nat) : ∀ (l : List Pu.Cl), (∀ c ∈ l, c.s.length ≤ 1000) → (l.flatMap (val1 kind)).length ≤ 1007 * l.length
  | [], _ => by simp
  | c :: r, h => by
    have h1 := length_val1 kind c (h c (by simp))
    have h2 := length_val kind r (fun c hc => h c (by simp [hc]))
    rw [List.flatMap_cons, List.length_append, List.length_cons]
    omega
theorem val_take (kind : Nat) (l : List Pu.Cl) (k : Nat) (hk : k < l.length) : (l.take (k + 1)).flatMap (val1 kind) = (l.take k).flatMap (val1 kind) ++ val1 kind l[k] := by
  rw [List.take_succ_eq_append_getElem hk, List.flatMap_append]; simp

set_option maxHeartbeats 4000000 in
set_option maxRecDepth 100000 in
theorem writeValues_any (R B lb cap kind : Nat) (v : Value) (L : List UInt8) (l : List Pu.Cl) (ao : Option Addr) (w : World) (h : OS w R B v L) (hB : B ≤ w.heap.size) (hr : Rs w 3 lb ao l.length cap (clsV l)) (hlb : lb < w.heap.size) (hlR : lb ≠ R) (hlv : v.ownBlock ≠ some lb) (hl : l.length ≤ 100000) (hkind : kind ≤ 2)
    (hbool : kind = 0 → ∀ c ∈ l, c.n = 0 ∨ c.n = 1) (htext : ∀ c ∈ l, c.s.length ≤ 1000) (hs : L.length + 1000000000 ≤ 140737488355328) :
    Calls Try.prog 109 #[.pointer (some ⟨R, 0, none⟩), .slice ao l.length cap, .int .i64 kind] w fun e w' => e = .returned (.tuple #[]) ∧ OG w R B v (L ++ valuesL kind l) w' := by
  by_cases hk0 : kind = 0
  · subst hk0
    have C : Hid (Calls Try.prog 112 #[.pointer (some ⟨R, 0, none⟩), .slice ao l.length cap] w fun e w' => e = .returned (.tuple #[]) ∧ OG w R B v (L ++ valuesL 0 l) w') := by
      have := writeBools_any R B lb cap v L l ao w h hB hr hlb hl (hbool rfl) (by omega)
      exact this
    clear h hr hbool htext
    go_enter Try.func109, Try.ntmps109
    go_wp2_with fail
    refine C.out.mono ?_
    rintro e w3 ⟨rfl, h3⟩
    go_wp2
    refine bodyPost_ret (v := .tuple #[]) (by simp [results, Try.results109, go_sem]) rfl ⟨rfl, h3⟩
  obtain ⟨N, hN⟩ : ∃ N, N = l.length := ⟨_, rfl⟩
  have H0 : Hid (OG w R B v (L ++ (l.take 0).flatMap (val1 kind)) w) := by
    rw [Hid, show L ++ (l.take 0).flatMap (val1 kind) = L by simp]; exact OG.refl h
  have HC : Hid (∀ (wr : World) (k : Nat) (M : List UInt8), OG w R B v M wr → (hk : k < l.length) → ∃ o, ao = some ⟨lb, o, none⟩ ∧ wr.cell? ⟨lb, o + k * 3, none⟩ = some (.bool l[k].null) ∧ wr.cell? ⟨lb, o + k * 3 + 1, none⟩ = some (.int .i64 l[k].n) ∧ wr.cell? ⟨lb, o + k * 3 + 2, none⟩ = some (strV l[k].s)) := fun wr k M hg hk => by
    obtain ⟨_, _, f, _⟩ := hg
    exact (hr.kept (f.block _ hlb (fun e => by rcases e with e | e; exact hlR e; exact hlv e))).cl3 k hk
  have HT : Hid (∀ c ∈ l, c.s.length ≤ 1000) := htext
  have HN : Hid (N = l.length) := hN
  have HL : Hid (∀ k, ((l.take k).flatMap (val1 kind)).length ≤ 1007 * 100000) := fun k => by
    have := length_val kind (l.take k) (fun c hc => htext c (List.mem_of_mem_take hc))
    have h2 : (l.take k).length ≤ l.length := by rw [List.length_take]; omega
    have : 1007 * (l.take k).length ≤ 1007 * 100000 := Nat.mul_le_mul_left _ (by omega)
    omega
  have HF : Hid (valuesL kind l = l.flatMap (val1 kind)) := by unfold Hid valuesL; rw [if_neg hk0]
  rw [HF.out]
  rw [← hN] at hl ⊢
  have hd0 : ((kind : Int) == 0) = false := by simp; omega
  clear hr hN h hbool htext
  go_enter Try.func109, Try.ntmps109
  go_wp2
  go_loopw [15] (fun i wr => ∃ (k : Nat), k ≤ N ∧ i = .int .i64 k ∧ Hid (OG w R B v (L ++ (l.take k).flatMap (val1 kind)) wr))
    (fun i _ => N - (intOf i).toNat)
  case atStart => exact ⟨0, Nat.zero_le _, rfl, H0⟩
  case round =>
    obtain ⟨k, hk, rfl, Hg⟩ := hrel
    by_cases hk2 : k < N
    · have hkl : k < l.length := by rw [← HN.out]; exact hk2
      obtain ⟨o, rfl, h0, h1, h2⟩ := HC.out wr k _ Hg.out hkl
      obtain ⟨c, hc⟩ : ∃ c, c = l[k] := ⟨_, rfl⟩
      rw [← hc] at h0 h1 h2
      have htk := val_take kind l k hkl
      rw [← hc] at htk
      have hct := HT.out c (by rw [hc]; exact List.getElem_mem hkl)
      obtain ⟨b, x, s⟩ := c
      simp only at h0 h1 h2 hct
      obtain ⟨t, ht⟩ : ∃ t : ByteArray, t = ⟨s.toArray⟩ := ⟨_, rfl⟩
      have hts : t.size = s.length := by rw [ht]; simp [ByteArray.size]
      have htd : t.data.toList = s := by rw [ht]
      have h2' : wr.cell? ⟨lb, o + k * 3 + 2, none⟩ = some (.string t) := by rw [ht]; exact h2
      obtain ⟨W1, hW1⟩ : ∃ W1, W1 = wr.alloc (.cells #[.bool b, .int .i64 x, .string t] 66) := ⟨_, rfl⟩
      have hx1 : W1.cell? ⟨wr.heap.size, 1, none⟩ = some (.int .i64 x) := by rw [hW1, cell_of_row _ _ 1 _ _ _ (heap_alloc_new wr _)]; rfl
      have hg1 : OG w R B v (L ++ (l.take k).flatMap (val1 kind)) W1 := by rw [hW1]; exact Hg.out.later (bbox wr _)
      have hll := HL.out k
      obtain ⟨v1, o1, f1, g1⟩ := hg1
      have hBs : B ≤ W1.heap.size := by have := f1.size; omega
      have hls : (L ++ (l.take k).flatMap (val1 kind)).length + 2000 ≤ 140737488355328 := by rw [List.length_append]; omega
      by_cases hk1 : kind = 1
      · have C : Hid (Calls Try.prog 75 #[.pointer (some ⟨R, 0, none⟩), .int .u64 (uN x : Int), .int .i64 8] W1 fun e w' => e = .returned (.tuple #[]) ∧ OG w R B v (L ++ (l.take (k + 1)).flatMap (val1 kind)) w') := by
          have := outNumber_any R B (uN x) 8 v1 _ W1 o1 hBs (uN_lt x) (by omega) (by omega)
          refine this.mono ?_
          rintro e w' ⟨rfl, h⟩
          refine ⟨rfl, ?_⟩
          rw [htk, ← List.append_assoc]
          have e : val1 kind (⟨b, x, s⟩ : Pu.Cl) = leB 8 (uN x) := by unfold val1; rw [if_pos hk1]
          rw [e]
          exact OG.step o1 f1 g1 h
        have huw : IntKind.u64.wrap x = (uN x : Int) := by unfold uN; rw [IntKind.wrap_u64]; omega
        have huw2 : x % 18446744073709551616 = (uN x : Int) := by unfold uN; omega
        have hW1' : wr.alloc (.cells #[.bool b, .int .i64 x, .string t] 66) = W1 := hW1.symm
        have hd1 : ((kind : Int) == 1) = true := by simp; omega
        clear hk1 hc htk hct ht hts htd o1 f1 g1 Hg hll hls hW1 h2
        go_wp2_with fail
        refine C.out.mono ?_
        rintro e w2 ⟨rfl, h2⟩
        have Hg2 : Hid (OG w R B v (L ++ (l.take (k + 1)).flatMap (val1 kind)) w2) := h2
        clear C h2
        go_wp2
        go_roundw
        case rel => exact ⟨k + 1, by omega, by go_num, Hg2⟩
        case measure => simp [intOf]; omega
      · have C : Hid (Calls Try.prog 91 #[.pointer (some ⟨R, 0, none⟩), .int .i64 (t.size : Int)] W1 fun e w2 => e = .returned (.tuple #[]) ∧ w2.cell? ⟨wr.heap.size, 2, none⟩ = some (.string t) ∧ Calls Try.prog 71 #[.pointer (some ⟨R, 0, none⟩), .string t] w2 fun e w' => e = .returned (.tuple #[]) ∧ OG w R B v (L ++ (l.take (k + 1)).flatMap (val1 kind)) w') := by
          have hl1 := length_vb8 (n := t.size) (by omega)
          have hx2 : W1.cell? ⟨wr.heap.size, 2, none⟩ = some (.string t) := by rw [hW1, cell_of_row _ _ 2 _ _ _ (heap_alloc_new wr _)]; rfl
          have hRlt : R < wr.heap.size := by
            obtain ⟨_, o, _, _⟩ := Hg.out
            exact o.lt
          have hvlt : v1.ownBlock ≠ some wr.heap.size := fun e => by
            obtain ⟨v0, o0, _, _⟩ := Hg.out
            have c1 : wr.cell? ⟨R, 0, none⟩ = some v1 := by
              have := o1.c0
              rw [hW1, World.cell?_alloc_lt _ _ _ hRlt] at this
              exact this
            rw [o0.c0] at c1
            have := (o0.own.lt wr.heap.size (by rw [Option.some.inj c1]; exact e)).2
            omega
          refine (outVarint_any R B t.size v1 _ W1 o1 hBs (by omega) (by omega)).mono ?_
          rintro e w2 ⟨rfl, hg⟩
          obtain ⟨v2, o2, f2, g2⟩ := hg
          refine ⟨rfl, ?_, ?_⟩
          · rw [World.cell?_of_block (w := W1) (f2.block wr.heap.size (by rw [hW1, size_alloc']; omega) (fun e => by rcases e with e | e; omega; exact hvlt e))]
            exact hx2
          · refine (outText_any R B v2 t _ w2 o2 (by have := f2.size; omega) (by rw [List.length_append]; omega)).mono ?_
            rintro e w' ⟨rfl, h⟩
            refine ⟨rfl, ?_⟩
            rw [htk, ← List.append_assoc]
            have e : val1 kind (⟨b, x, s⟩ : Pu.Cl) = vb t.size ++ t.data.toList := by unfold val1; rw [if_neg hk1, hts, htd]
            rw [e]
            rw [List.append_assoc] at h
            exact OG.step o1 f1 g1 (OG.step o2 f2 g2 h)
        have hx2 : W1.cell? ⟨wr.heap.size, 2, none⟩ = some (.string t) := by rw [hW1, cell_of_row _ _ 2 _ _ _ (heap_alloc_new wr _)]; rfl
        have hW1' : wr.alloc (.cells #[.bool b, .int .i64 x, .string t] 66) = W1 := hW1.symm
        have hd1 : ((kind : Int) == 1) = false := by simp; omega
        clear hk1 hc htk hct ht hts htd o1 f1 g1 Hg hll hls hW1 h2
        go_wp2_with fail
        refine C.out.mono ?_
        rintro e w2 ⟨rfl, hx3, C2⟩
        have C2' : Hid (Calls Try.prog 71 #[.pointer (some ⟨R, 0, none⟩), .string t] w2 fun e w' => e = .returned (.tuple #[]) ∧ OG w R B v (L ++ (l.take (k + 1)).flatMap (val1 kind)) w') := C2
        clear C C2
        go_wp2_with fail
        refine C2'.out.mono ?_
        rintro e w3 ⟨rfl, h3⟩
        have Hg2 : Hid (OG w R B v (L ++ (l.take (k + 1)).flatMap (val1 kind)) w3) := h3
        clear C2' h3
        go_wp2
        go_roundw
        case rel => exact ⟨k + 1, by omega, by go_num, Hg2⟩
        case measure => simp [intOf]; omega
    · obtain rfl : k = N := by omega
      have htl : l.take k = l := List.take_of_length_le (by rw [HN.out]; exact Nat.le_refl _)
      rw [htl] at Hg
      go_wp2
      go_end0
      exact ⟨rfl, Hg.out⟩
end Go.Proofs.Ytjobhlncllfdmaa

/- The program's cells.Plain. -/
namespace Go.Proofs.Ytjobhlncllfdmaa
open Go.RowKit

theorem Rs.own_or {w : World} {B : Nat} {e : TypeId} {sz : Nat} {ao : Option Addr} {n cap : Nat} {xs : List Value} (h : w.ownsRow B e sz (.slice ao n cap) n xs) (lb0 : Nat) : ∃ lb, Rs w sz lb ao n cap xs ∧ (lb = lb0 ∨ (Value.slice ao n cap).ownBlock = some lb) := by
  rcases h.2 with ⟨hv, rfl⟩ | ⟨g, cap', cur, hv, _, hg, h1, h2, h3, h4⟩
  · simp only [Value.slice.injEq] at hv
    obtain ⟨rfl, _, rfl⟩ := hv
    exact ⟨lb0, ⟨Nat.le_refl _, by unfold maxLen; omega, h.1, .inl rfl⟩, .inl rfl⟩
  · simp only [Value.slice.injEq, true_and] at hv
    obtain ⟨rfl, rfl⟩ := hv
    refine ⟨g, ⟨h1, h2, h.1, .inr ⟨0, rfl, fun j hj => ?_⟩⟩, .inr rfl⟩
    rw [Nat.zero_add, h.cellAt j (by have := h.1; omega), List.getElem?_eq_getElem hj]

/-- the bytes of a plain page -/
def plainL (kind : Nat) (nulls : Bool) (l : List Pu.Cl) : List UInt8 := (if nulls = true then levelsL l else []) ++ valuesL kind (valsL l)

theorem length_levelsL (l : List Pu.Cl) (hl : l.length ≤ 100000) : (levelsL l).length ≤ 32 * l.length + 7 := by
  have h := length_runsL (width := 1) (by omega) (l := lvL l) (by rw [length_lvL]; omega)
  rw [length_lvL] at h
  have h2 := length_vb8 (n := (runsL 1 (lvL l)).length) (by omega)
  unfold levelsL
  rw [List.length_append]; omega

/-- what follows behind the levels -/
def PlTail (w : World) (R kind : Nat) (_l : List Pu.Cl) (ao : Option Addr) (N cap : Nat) (P : List UInt8) (w1 : World) : Prop :=
  Calls Try.prog 107 #[.slice ao N cap] w1 fun e w2 => ∃ a2 n2 c2, e = .returned (.slice a2 n2 c2) ∧
    Calls Try.prog 109 #[.pointer (some ⟨R, 0, none⟩), .slice a2 n2 c2, .int .i64 kind] w2 fun e w3 => e = .returned (.tuple #[]) ∧
      ∃ v, Calls Try.prog 60 #[.pointer (some ⟨R, 0, none⟩)] w3 (fun e w4 => e = .returned v ∧ w4 = w3) ∧ w3.ownsRow R 5 1 v P.length (bytesV P) ∧ Below R w w3

theorem plain_tail {w w1 : World} {R lb cap kind : Nat} {v1 : Value} {M : List UInt8} {l : List Pu.Cl} {ao : Option Addr} (hR : R = w.heap.size) (hr : Rs w 3 lb ao l.length cap (clsV l)) (hlb : lb < w.heap.size) (hl : l.length ≤ 100000) (hkind : kind ≤ 2)
    (hbool : kind = 0 → ∀ c ∈ valsL l, c.n = 0 ∨ c.n = 1) (htext : ∀ c ∈ l, c.s.length ≤ 1000) (o1 : OS w1 R R v1 M) (b1 : Below R w w1) (hM : M.length ≤ 100000000) : PlTail w R kind l ao l.length cap (M ++ valuesL kind (valsL l)) w1 := by
  have hb1 := b1.size
  refine (valuesOf_any lb cap l ao w1 (hr.kept (b1.block _ (by omega))) (by omega) (by omega)).mono ?_
  rintro e w2 ⟨vv, rfl, ho, hb⟩
  obtain ⟨a2, c2, rfl⟩ := slen_of ho
  refine ⟨a2, _, c2, rfl, ?_⟩
  obtain ⟨lb2, hr2, hlb2⟩ := Rs.own_or ho lb
  have o2 := o1.below hb
  have hbs := hb.size
  have hvl := length_valsL l
  have h1 : lb2 < w2.heap.size ∧ lb2 ≠ R ∧ v1.ownBlock ≠ some lb2 := by
    rcases hlb2 with rfl | h
    · exact ⟨by omega, by omega, fun e => by have := (o1.own.lt lb2 e).1; omega⟩
    · have := ho.lt lb2 h
      have h2 := o1.lt
      exact ⟨this.2, by omega, fun e => by have := (o1.own.lt lb2 e).2; omega⟩
  refine (writeValues_any R R lb2 c2 kind v1 M (valsL l) a2 w2 o2 (by omega) hr2 h1.1 h1.2.1 h1.2.2 (by omega) hkind hbool (fun c hc => htext c (List.mem_filter.1 hc).1) (by omega)).mono ?_
  rintro e w3 ⟨rfl, hg⟩
  have b2 : Below R w w2 := b1.trans (hb.mono (by omega))
  obtain ⟨v3, o3, b3⟩ := hg.fresh b2 hR o2
  exact ⟨rfl, v3, outBytes_any R R v3 _ w3 o3, o3.own, b3⟩

set_option maxHeartbeats 4000000 in
set_option maxRecDepth 100000 in
theorem cellsPlain_any (lb cap kind : Nat) (nulls : Bool) (l : List Pu.Cl) (ao : Option Addr) (w : World) (hr : Rs w 3 lb ao l.length cap (clsV l)) (hlb : lb < w.heap.size) (hl : l.length ≤ 100000) (hkind : kind ≤ 2)
    (hbool : kind = 0 → ∀ c ∈ valsL l, c.n = 0 ∨ c.n = 1) (htext : ∀ c ∈ l, c.s.length ≤ 1000) :
    Calls Try.prog 102 #[.slice ao l.length cap, .int .i64 kind, .bool nulls] w fun e w' => ∃ v, e = .returned v ∧ w'.ownsRow w.heap.size 5 1 v (plainL kind nulls l).length (bytesV (plainL kind nulls l)) ∧ Below w.heap.size w w' := by
  obtain ⟨R, hR⟩ : ∃ R, R = w.heap.size := ⟨_, rfl⟩
  obtain ⟨W0, hW0⟩ : ∃ W0, W0 = w.alloc (.cells #[.slice none 0 0] 116) := ⟨_, rfl⟩
  have o0 : OS W0 R R (.slice none 0 0) [] := ⟨by rw [hW0, hR]; exact heap_alloc_new w _, World.ownsRow_nil _ _ _ _⟩
  have b0 : Below R w W0 := by rw [hR, hW0]; exact bbox w _
  obtain ⟨N, hN⟩ : ∃ N, N = l.length := ⟨_, rfl⟩
  have HT : Hid (∀ w1 v1 M, OS w1 R R v1 M → Below R w w1 → M.length ≤ 100000000 → PlTail w R kind l ao N cap (M ++ valuesL kind (valsL l)) w1) := fun w1 v1 M o b h => by
    rw [hN]; exact plain_tail hR hr hlb hl hkind hbool htext o b h
  have HL : Hid (Calls Try.prog 108 #[.pointer (some ⟨R, 0, none⟩), .slice ao N cap] W0 fun e w' => e = .returned (.tuple #[]) ∧ PlTail w R kind l ao N cap (levelsL l ++ valuesL kind (valsL l)) w') := by
    have hb0 := b0.size
    have hll := length_levelsL l hl
    rw [Hid, hN]
    refine (writeLevels_any R R lb cap _ [] l ao W0 o0 (by omega) (hr.kept (b0.block _ (by omega))) (by omega) (by omega) (by simp)).mono ?_
    rintro e w1 ⟨rfl, hg⟩
    rw [List.nil_append] at hg
    obtain ⟨v1, o1, b1⟩ := hg.fresh b0 hR o0
    exact ⟨rfl, plain_tail hR hr hlb hl hkind hbool htext o1 b1 (by omega)⟩
  have HZ : Hid (PlTail w R kind l ao N cap ([] ++ valuesL kind (valsL l)) W0) := HT.out W0 _ [] o0 b0 (by simp)
  have hW0' : w.alloc (.cells #[.slice none 0 0] 116) = W0 := hW0.symm
  have hsz : w.heap.size = R := hR.symm
  rw [← hN] at hl ⊢
  rw [hsz]
  clear hr hbool htext o0 b0 hN hR hW0 HT hlb
  cases nulls
  · obtain ⟨P, hP⟩ : ∃ P, P = plainL kind false l := ⟨_, rfl⟩
    have HZ' : Hid (PlTail w R kind l ao N cap P W0) := by rw [hP]; exact HZ.out
    rw [← hP]
    clear HZ HL hP
    go_enter Try.func102, Try.ntmps102
    go_wp2_with fail
    refine HZ'.out.mono ?_
    rintro e w2 ⟨a2, n2, c2, rfl, C2⟩
    have C2' : Hid (Calls Try.prog 109 #[.pointer (some ⟨R, 0, none⟩), .slice a2 n2 c2, .int .i64 kind] w2 fun e w3 => e = .returned (.tuple #[]) ∧ ∃ v, Calls Try.prog 60 #[.pointer (some ⟨R, 0, none⟩)] w3 (fun e w4 => e = .returned v ∧ w4 = w3) ∧ w3.ownsRow R 5 1 v P.length (bytesV P) ∧ Below R w w3) := C2
    clear C2 HZ'
    go_wp2_with fail
    refine C2'.out.mono ?_
    rintro e w3 ⟨rfl, v, C3, ho, hb⟩
    have C3' : Hid (Calls Try.prog 60 #[.pointer (some ⟨R, 0, none⟩)] w3 (fun e w4 => e = .returned v ∧ w4 = w3)) := C3
    clear C3 C2'
    go_wp2_with fail
    refine C3'.out.mono ?_
    rintro e w4 ⟨rfl, hw4⟩
    subst w4
    go_wp2
    go_ret
    exact ⟨v, rfl, ho, hb⟩
  · obtain ⟨P, hP⟩ : ∃ P, P = plainL kind true l := ⟨_, rfl⟩
    have HL' : Hid (Calls Try.prog 108 #[.pointer (some ⟨R, 0, none⟩), .slice ao N cap] W0 fun e w' => e = .returned (.tuple #[]) ∧ PlTail w R kind l ao N cap P w') := by rw [hP]; exact HL.out
    rw [← hP]
    clear HZ HL hP
    go_enter Try.func102, Try.ntmps102
    go_wp2_with fail
    refine HL'.out.mono ?_
    rintro e w1 ⟨rfl, C1⟩
    have HZ' : Hid (PlTail w R kind l ao N cap P w1) := C1
    clear C1 HL'
    go_wp2_with fail
    refine HZ'.out.mono ?_
    rintro e w2 ⟨a2, n2, c2, rfl, C2⟩
    have C2' : Hid (Calls Try.prog 109 #[.pointer (some ⟨R, 0, none⟩), .slice a2 n2 c2, .int .i64 kind] w2 fun e w3 => e = .returned (.tuple #[]) ∧ ∃ v, Calls Try.prog 60 #[.pointer (some ⟨R, 0, none⟩)] w3 (fun e w4 => e = .returned v ∧ w4 = w3) ∧ w3.ownsRow R 5 1 v P.length (bytesV P) ∧ Below R w w3) := C2
    clear C2 HZ'
    go_wp2_with fail
    refine C2'.out.mono ?_
    rintro e w3 ⟨rfl, v, C3, ho, hb⟩
    have C3' : Hid (Calls Try.prog 60 #[.pointer (some ⟨R, 0, none⟩)] w3 (fun e w4 => e = .returned v ∧ w4 = w3)) := C3
    clear C3 C2'
    go_wp2_with fail
    refine C3'.out.mono ?_
    rintro e w4 ⟨rfl, hw4⟩
    subst w4
    go_wp2
    go_ret
    exact ⟨v, rfl, ho, hb⟩
end Go.Proofs.Ytjobhlncllfdmaa
