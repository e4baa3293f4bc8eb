/- The program's page.Write. -/
import Derived.Test.YtjobhlncllfdmaaM18
import Derived.Test.YtjobhlncllfdmaaM21
import Derived.Shelf.Small.Bits
import Derived.Maps.OwnSet
import Derived.Maps.Views
namespace Go.Proofs.Ytjobhlncllfdmaa
open Go.RowKit

section
variable {w w1 : World} {R B : Nat} {v : Value} {L : List UInt8}
theorem OG.num (h : OG w R B v L w1) (hB : B ≤ w.heap.size) (x n : Nat) (hx : x < 18446744073709551616) (hn : n ≤ 8) (hs : L.length + 8 ≤ 140737488355328) :
    Calls Try.prog 75 #[.pointer (some ⟨R, 0, none⟩), .int .u64 x, .int .i64 n] w1 fun e w' => e = .returned (.tuple #[]) ∧ OG w R B v (L ++ leB n x) w' := by
  obtain ⟨v1, o1, f1, g1⟩ := h
  refine (outNumber_any R B x n v1 L w1 o1 (by have := f1.size; omega) hx hn hs).mono ?_
  rintro e w' ⟨rfl, h⟩
  exact ⟨rfl, OG.step o1 f1 g1 h⟩
theorem OG.var (h : OG w R B v L w1) (hB : B ≤ w.heap.size) (x : Nat) (hx : x ≤ 140737488355328) (hs : L.length + 8 ≤ 140737488355328) :
    Calls Try.prog 91 #[.pointer (some ⟨R, 0, none⟩), .int .i64 x] w1 fun e w' => e = .returned (.tuple #[]) ∧ OG w R B v (L ++ vb x) w' := by
  obtain ⟨v1, o1, f1, g1⟩ := h
  refine (outVarint_any R B x v1 L w1 o1 (by have := f1.size; omega) hx hs).mono ?_
  rintro e w' ⟨rfl, h⟩
  exact ⟨rfl, OG.step o1 f1 g1 h⟩
theorem OG.text (h : OG w R B v L w1) (hB : B ≤ w.heap.size) (s : ByteArray) (hs : L.length + s.size ≤ 140737488355328) :
    Calls Try.prog 71 #[.pointer (some ⟨R, 0, none⟩), .string s] w1 fun e w' => e = .returned (.tuple #[]) ∧ OG w R B v (L ++ s.data.toList) w' := by
  obtain ⟨v1, o1, f1, g1⟩ := h
  refine (outText_any R B v1 s L w1 o1 (by have := f1.size; omega) hs).mono ?_
  rintro e w' ⟨rfl, h⟩
  exact ⟨rfl, OG.step o1 f1 g1 h⟩
theorem OG.piece (h : OG w R B v L w1) (hB : B ≤ w.heap.size) {B2 : Nat} {x : Value} {P : List UInt8} (hx : w1.ownsRow B2 5 1 x P.length (bytesV P)) (hs : L.length + P.length ≤ 140737488355328) :
    Calls Try.prog 74 #[.pointer (some ⟨R, 0, none⟩), x] w1 fun e w' => e = .returned (.tuple #[]) ∧ OG w R B v (L ++ P) w' := by
  obtain ⟨v1, o1, f1, g1⟩ := h
  refine (outPiece_any R B B2 v1 x L P w1 o1 hx (by have := f1.size; omega) hs).mono ?_
  rintro e w' ⟨rfl, h⟩
  exact ⟨rfl, OG.step o1 f1 g1 h⟩
end

theorem rest_of_own {w : World} {B : Nat} {ao : Option Addr} {cap : Nat} {L : List UInt8} (h : w.ownsRow B 5 1 (.slice ao L.length cap) L.length (bytesV L)) : ∃ lb, Rest w lb ao cap L := by
  obtain ⟨lb, ⟨h1, h2, h3, h4⟩, _⟩ := Rs.own_or h 0
  refine ⟨lb, h1, h2, ?_⟩
  rcases h4 with h4 | ⟨o, rfl, hc⟩
  · exact .inl (List.eq_nil_of_length_eq_zero h4)
  · refine .inr ⟨o, rfl, fun j hj => ?_⟩
    rw [hc j (by rw [length_bytesV]; exact hj)]
    simp only [bytesV, List.getElem_map, Pu.byteAt, List.getD_eq_getElem?_getD, List.getElem?_eq_getElem hj, Option.getD_some]

/-- a page that is not packed -/
def pageL (sort cells : Nat) (D : List UInt8) : List UInt8 := [UInt8.ofNat sort, 0] ++ vb cells ++ vb D.length ++ vb D.length ++ leB 4 (Pu.sum D) ++ D

theorem leB_one (x : Nat) (hx : x < 256) : leB 1 x = [UInt8.ofNat x] := by simp [leB, Nat.mod_eq_of_lt hx]

set_option maxHeartbeats 4000000 in
set_option maxRecDepth 100000 in
theorem pageWrite_any (R B B2 so ce : Nat) (v x : Value) (L D : List UInt8) (w : World) (h : OS w R B v L) (hB : B ≤ w.heap.size) (hx : w.ownsRow B2 5 1 x D.length (bytesV D)) (hne : ∀ k, x.ownBlock = some k → k ≠ R ∧ v.ownBlock ≠ some k) (hso : so < 256) (hce : ce ≤ 1000000) (hD : D.length ≤ 1000000000) (hs : L.length + 2000000000 ≤ 140737488355328) :
    Calls Try.prog 101 #[.pointer (some ⟨R, 0, none⟩), .int .u32 so, .int .i64 ce, x] w fun e w' => e = .returned (.tuple #[]) ∧ OG w R B v (L ++ pageL so ce D) w' := by
  obtain ⟨ax, cx, rfl⟩ := slen_of hx
  obtain ⟨N, hN⟩ : ∃ N, N = D.length := ⟨_, rfl⟩
  obtain ⟨q, hq⟩ : ∃ q, q = Pu.sum D := ⟨_, rfl⟩
  have hql : q < 4294967296 := by rw [hq]; exact Pu.sum_lt _
  have l1 := length_vb8 (n := ce) (by omega)
  have l2 := length_vb8 (n := N) (by omega)
  have HX : Hid (∀ M w1, OG w R B v M w1 → w1.ownsRow B2 5 1 (.slice ax N cx) D.length (bytesV D)) := fun M w1 hg => by rw [hN]; exact hg.row hx hne
  have S1 : Hid (Calls Try.prog 75 #[.pointer (some ⟨R, 0, none⟩), .int .u64 so, .int .i64 1] w fun e w' => e = .returned (.tuple #[]) ∧ OG w R B v (L ++ [UInt8.ofNat so]) w') := by
    have := (OG.refl h).num hB so 1 (by omega) (by omega) (by omega)
    rw [leB_one so hso] at this; exact this
  have S2 : Hid (∀ w1, OG w R B v (L ++ [UInt8.ofNat so]) w1 → Calls Try.prog 75 #[.pointer (some ⟨R, 0, none⟩), .int .u64 0, .int .i64 1] w1 fun e w' => e = .returned (.tuple #[]) ∧ OG w R B v (L ++ [UInt8.ofNat so] ++ [0]) w') := fun w1 hg => by
    have := hg.num hB 0 1 (by omega) (by omega) (by simp; omega)
    rw [leB_one 0 (by omega)] at this; exact this
  have S3 : Hid (∀ w1, OG w R B v (L ++ [UInt8.ofNat so] ++ [0]) w1 → Calls Try.prog 91 #[.pointer (some ⟨R, 0, none⟩), .int .i64 ce] w1 fun e w' => e = .returned (.tuple #[]) ∧ OG w R B v (L ++ [UInt8.ofNat so] ++ [0] ++ vb ce) w') := fun w1 hg => hg.var hB ce (by omega) (by simp; omega)
  have S4 : Hid (∀ w1, OG w R B v (L ++ [UInt8.ofNat so] ++ [0] ++ vb ce) w1 → Calls Try.prog 91 #[.pointer (some ⟨R, 0, none⟩), .int .i64 N] w1 fun e w' => e = .returned (.tuple #[]) ∧ OG w R B v (L ++ [UInt8.ofNat so] ++ [0] ++ vb ce ++ vb N) w') := fun w1 hg => hg.var hB N (by omega) (by simp; omega)
  have S5 : Hid (∀ w1, OG w R B v (L ++ [UInt8.ofNat so] ++ [0] ++ vb ce ++ vb N) w1 → Calls Try.prog 91 #[.pointer (some ⟨R, 0, none⟩), .int .i64 N] w1 fun e w' => e = .returned (.tuple #[]) ∧ OG w R B v (L ++ [UInt8.ofNat so] ++ [0] ++ vb ce ++ vb N ++ vb N) w') := fun w1 hg => hg.var hB N (by omega) (by simp; omega)
  have S6 : Hid (∀ w1, OG w R B v (L ++ [UInt8.ofNat so] ++ [0] ++ vb ce ++ vb N ++ vb N) w1 → Calls Try.prog 66 #[.slice ax N cx] w1 (fun e w' => e = .returned (.int .u32 (q : Int)) ∧ w' = w1) ∧ Calls Try.prog 75 #[.pointer (some ⟨R, 0, none⟩), .int .u64 q, .int .i64 4] w1 fun e w' => e = .returned (.tuple #[]) ∧ OG w R B v (L ++ [UInt8.ofNat so] ++ [0] ++ vb ce ++ vb N ++ vb N ++ leB 4 q) w') := fun w1 hg => by
    refine ⟨?_, hg.num hB q 4 (by omega) (by omega) (by simp; omega)⟩
    have := HX.out _ w1 hg
    rw [hN] at this
    obtain ⟨lb, hr⟩ := rest_of_own this
    rw [hN, hq]
    exact of_any lb ax cx D w1 hr
  have S7 : Hid (∀ w1, OG w R B v (L ++ [UInt8.ofNat so] ++ [0] ++ vb ce ++ vb N ++ vb N ++ leB 4 q) w1 → Calls Try.prog 74 #[.pointer (some ⟨R, 0, none⟩), .slice ax N cx] w1 fun e w' => e = .returned (.tuple #[]) ∧ OG w R B v (L ++ pageL so ce D) w') := fun w1 hg => by
    have l3 := length_leB 4 q
    have := hg.piece hB (HX.out _ w1 hg) (by simp; omega)
    unfold pageL
    rw [← hN, ← hq]
    simp only [List.append_assoc, List.cons_append, List.nil_append] at this ⊢
    exact this
  rw [← hN]
  clear h hx hne HX hN hq
  go_enter Try.func101, Try.ntmps101
  go_wp2_with fail
  refine S1.out.mono ?_
  rintro e w1 ⟨rfl, h1⟩
  have C2 := S2.out w1 h1
  clear h1
  have C2' : Hid (Calls Try.prog 75 #[.pointer (some ⟨R, 0, none⟩), .int .u64 0, .int .i64 1] w1 fun e w' => e = .returned (.tuple #[]) ∧ OG w R B v (L ++ [UInt8.ofNat so] ++ [0]) w') := C2
  clear C2 S1 S2
  go_wp2_with fail
  refine C2'.out.mono ?_
  rintro e w2 ⟨rfl, h2⟩
  have C3 : Hid (Calls Try.prog 91 #[.pointer (some ⟨R, 0, none⟩), .int .i64 ce] w2 fun e w' => e = .returned (.tuple #[]) ∧ OG w R B v (L ++ [UInt8.ofNat so] ++ [0] ++ vb ce) w') := S3.out w2 h2
  clear h2 C2' S3
  go_wp2_with fail
  refine C3.out.mono ?_
  rintro e w3 ⟨rfl, h3⟩
  have C4 : Hid (Calls Try.prog 91 #[.pointer (some ⟨R, 0, none⟩), .int .i64 N] w3 fun e w' => e = .returned (.tuple #[]) ∧ OG w R B v (L ++ [UInt8.ofNat so] ++ [0] ++ vb ce ++ vb N) w') := S4.out w3 h3
  clear h3 C3 S4
  go_wp2_with fail
  refine C4.out.mono ?_
  rintro e w4 ⟨rfl, h4⟩
  have C5 : Hid (Calls Try.prog 91 #[.pointer (some ⟨R, 0, none⟩), .int .i64 N] w4 fun e w' => e = .returned (.tuple #[]) ∧ OG w R B v (L ++ [UInt8.ofNat so] ++ [0] ++ vb ce ++ vb N ++ vb N) w') := S5.out w4 h4
  clear h4 C4 S5
  go_wp2_with fail
  refine C5.out.mono ?_
  rintro e w5 ⟨rfl, h5⟩
  have C6 : Hid (Calls Try.prog 66 #[.slice ax N cx] w5 (fun e w' => e = .returned (.int .u32 (q : Int)) ∧ w' = w5)) := (S6.out w5 h5).1
  have C7 : Hid (Calls Try.prog 75 #[.pointer (some ⟨R, 0, none⟩), .int .u64 q, .int .i64 4] w5 fun e w' => e = .returned (.tuple #[]) ∧ OG w R B v (L ++ [UInt8.ofNat so] ++ [0] ++ vb ce ++ vb N ++ vb N ++ leB 4 q) w') := (S6.out w5 h5).2
  clear h5 C5 S6
  go_wp2_with fail
  refine C6.out.mono ?_
  rintro e w6 ⟨rfl, hw6⟩
  subst w6
  go_wp2_with fail
  refine C7.out.mono ?_
  rintro e w7 ⟨rfl, h7⟩
  have C8 : Hid (Calls Try.prog 74 #[.pointer (some ⟨R, 0, none⟩), .slice ax N cx] w7 fun e w' => e = .returned (.tuple #[]) ∧ OG w R B v (L ++ pageL so ce D) w') := S7.out w7 h7
  clear h7 C7 S7
  go_wp2_with fail
  refine C8.out.mono ?_
  rintro e w8 ⟨rfl, h8⟩
  go_wp2
  go_end0
  exact ⟨rfl, h8⟩

end Go.Proofs.Ytjobhlncllfdmaa

/- The program's width of a dictionary; math/bits.Len by the library's contract. -/
namespace Go.Proofs.Ytjobhlncllfdmaa
open Go.RowKit Go.Shelf

def lays125_ren : Go.Shelf.Ren := ⟨fun | 125 => 113 | 128 => 117 | 129 => 118 | n => n, fun | 46 => 126 | 3 => 3 | 51 => 76 | 53 => 109 | 4 => 4 | 5 => 5 | 9 => 9 | n => n, fun | n => n⟩
theorem lays125 : Go.Proofs.Lays.n125 Try.prog lays125_ren := {
  mixed := by kernel_rfl
  f125 := Try.func113.trans (congrArg some (by kernel_rfl))
  f128 := Try.func117.trans (congrArg some (by kernel_rfl))
  f129 := Try.func118.trans (congrArg some (by kernel_rfl))
  t3 := Try.underlying3
  a3 := Try.isAgg3
  z3 := Try.sizeOf3
  v3 := Try.zeroValue3
  t4 := Try.underlying4
  a4 := Try.isAgg4
  z4 := Try.sizeOf4
  v4 := Try.zeroValue4
  t5 := Try.underlying5
  a5 := Try.isAgg5
  z5 := Try.sizeOf5
  v5 := Try.zeroValue5
  t9 := Try.underlying9
  a9 := Try.isAgg9
  z9 := Try.sizeOf9
  v9 := Try.zeroValue9
  t46 := Try.underlying126
  a46 := Try.isAgg126
  z46 := Try.sizeOf126
  v46 := Try.zeroValue126
  t51 := Try.underlying76
  a51 := Try.isAgg76
  z51 := Try.sizeOf76
  v51 := Try.zeroValue76
  t53 := Try.underlying109
  a53 := Try.isAgg109
  z53 := Try.sizeOf109
  v53 := Try.zeroValue109 }
theorem bits_Len (x : Int) (w : World) (h0 : 0 ≤ x) (h1 : x ≤ 18446744073709551615) :
    Calls Try.prog 113 #[.int .u64 x] w fun e w' => e = .returned (.int .i64 (Lib.bitLen x.toNat)) ∧ w' = w := Any.bits_Len lays125 x w h0 h1

/-- the least width that holds so many different numbers -/
def widL (n : Nat) : Nat := Lib.bitLen (n - 1)

set_option maxHeartbeats 4000000 in
set_option maxRecDepth 100000 in
theorem dictWidth_any (n : Nat) (aw : Option Addr) (cw : Nat) (vi : Value) (w : World) (hn : 0 < n) (hn2 : n ≤ 1000000) (hvi : ∃ ai ni ci, vi = .slice ai ni ci) :
    Calls Try.prog 110 #[.agg #[.slice aw n cw, vi]] w fun e w' => e = .returned (.int .i64 (widL n : Int)) ∧ Below w.heap.size w w' := by
  obtain ⟨ai, ni, ci, rfl⟩ := hvi
  obtain ⟨m, hm⟩ : ∃ m, m = n - 1 := ⟨_, rfl⟩
  obtain ⟨W1, hW1⟩ : ∃ W1, W1 = w.alloc (.cells #[.slice aw n cw, .slice ai ni ci] 164) := ⟨_, rfl⟩
  have C : Hid (∀ W : World, Calls Try.prog 113 #[.int .u64 (m : Int)] W fun e w' => e = .returned (.int .i64 (widL n : Int)) ∧ w' = W) := fun W => by
    have := bits_Len (m : Int) W (by omega) (by omega)
    rw [Int.toNat_natCast, hm] at this
    rw [hm]
    exact this
  have hb : Below w.heap.size w W1 := by rw [hW1]; exact bbox w _
  have hc : W1.cell? ⟨w.heap.size, 0, none⟩ = some (.slice aw n cw) := by rw [hW1, cell_of_row _ _ 0 _ _ _ (heap_alloc_new w _)]; rfl
  have hW1' : w.alloc (.cells #[.slice aw n cw, .slice ai ni ci] 164) = W1 := hW1.symm
  have e1 : (n : Int) - 1 = (m : Int) := by omega
  have e2 : max (m : Int) 0 = (m : Int) := by omega
  clear hm hW1
  go_enter Try.func110, Try.ntmps110
  go_wp2_with fail
  refine (C.out _).mono ?_
  rintro e w' ⟨rfl, hw'⟩
  subst w'
  go_wp2
  go_ret
  exact ⟨rfl, hb⟩

end Go.Proofs.Ytjobhlncllfdmaa

/- Plain: a dictionary; a map that holds where each text stands. -/
namespace Go.Proofs.Ytjobhlncllfdmaa
open Go.RowKit Go.Maps

/-- where a text stands first; their number, if it does not -/
def ix : List Pu.Cl → List UInt8 → Nat
  | [], _ => 0
  | c :: r, s => if c.s = s then 0 else ix r s + 1
theorem ix_le : ∀ (ws : List Pu.Cl) (s : List UInt8), ix ws s ≤ ws.length
  | [], _ => Nat.le_refl _
  | c :: r, s => by unfold ix; have := ix_le r s; split <;> simp <;> omega
theorem ix_snoc : ∀ (ws : List Pu.Cl) (c : Pu.Cl) (s : List UInt8), ix (ws ++ [c]) s = if ix ws s < ws.length then ix ws s else if c.s = s then ws.length else ws.length + 1
  | [], c, s => by simp [ix]
  | d :: r, c, s => by
    have h1 := ix_snoc r c s
    have h2 := ix_le r s
    simp only [List.cons_append, ix]
    by_cases e : d.s = s
    · simp [e]
    · simp only [e, if_false, h1, List.length_cons]
      split <;> split <;> (try split) <;> omega

/-- one value more -/
def dicStep (st : List Pu.Cl × List Nat) (c : Pu.Cl) : List Pu.Cl × List Nat := (if ix st.1 c.s < st.1.length then st.1 else st.1 ++ [c], st.2 ++ [ix st.1 c.s])
def dic (l : List Pu.Cl) : List Pu.Cl × List Nat := l.foldl dicStep ([], [])
theorem dic_take (l : List Pu.Cl) (k : Nat) (hk : k < l.length) : dic (l.take (k + 1)) = dicStep (dic (l.take k)) l[k] := by
  unfold dic; rw [List.take_succ_eq_append_getElem hk, List.foldl_append]; rfl
theorem dic_len (l : List Pu.Cl) : ∀ k, k ≤ l.length → (dic (l.take k)).1.length ≤ k ∧ (dic (l.take k)).2.length = k
  | 0, _ => by simp [dic]
  | k + 1, h => by
    have ih := dic_len l k (by omega)
    rw [dic_take l k (by omega)]
    unfold dicStep
    constructor
    · show (if _ then _ else _ : List Pu.Cl).length ≤ _
      split
      · omega
      · rw [List.length_append]; simp; omega
    · show (_ ++ [_]).length = _
      rw [List.length_append, ih.2]; rfl

abbrev kS (s : List UInt8) : Lit := .string s
abbrev z0 : DataW Unit := .lit (.int .i64 0)

/-- the map holds where each text of the dictionary stands -/
structure DR (D : DataW Unit) (ws : List Pu.Cl) : Prop where
  isMap : IsMap D
  has : ∀ s, Maps.has D (kS s) = decide (ix ws s < ws.length)
  at' : ∀ s, ix ws s < ws.length → D.atKey (kS s) z0 = .lit (.int .i64 (ix ws s : Int))

theorem DR.nil : DR (.map []) [] := ⟨⟨[], rfl⟩, fun s => by simp [ix]; rfl, fun s h => by simp [ix] at h⟩
theorem DR.put {D : DataW Unit} {ws : List Pu.Cl} (h : DR D ws) (c : Pu.Cl) (hc : ¬ ix ws c.s < ws.length) : DR (D.put (kS c.s) (.lit (.int .i64 (ws.length : Int)))) (ws ++ [c]) := by
  obtain ⟨hm, hh, ha⟩ := h
  have hk : WideAt.IsKeyLit (kS c.s) := by simp [WideAt.IsKeyLit]
  refine ⟨?_, fun s => ?_, fun s hs => ?_⟩
  · obtain ⟨es, rfl⟩ := hm; exact ⟨_, rfl⟩
  · rw [ix_snoc]
    by_cases e : c.s = s
    · subst e
      rw [has_put_same hm hk]
      simp [hc]
    · rw [has_put_other (fun e' => e (by simpa [kS] using e'.symm)), hh s]
      simp only [e, if_false, List.length_append, List.length_singleton]
      by_cases h1 : ix ws s < ws.length
      · simp [h1]; omega
      · simp [h1]
  · rw [ix_snoc] at hs ⊢
    by_cases e : c.s = s
    · subst e
      rw [atKey_put_same hm hk]
      simp [hc]
    · rw [atKey_put_other (fun e' => e (by simpa [kS] using e'.symm))]
      simp only [e, if_false, List.length_append, List.length_singleton] at hs ⊢
      by_cases h1 : ix ws s < ws.length
      · simp only [h1, if_true] at hs ⊢
        exact ha s h1
      · simp [h1] at hs

theorem law9 : Keyed Try.prog 9 := string_keyed Try.underlying9
theorem zero3 (w : World) : (zeroValue 3).run Try.prog w = .ok (.int .i64 0) w := by kernel_rfl

/-- one element more, made just now, in the walk -/
theorem wpList_push {P : Program} {ops : Array Oper} {rest : List Oper} {o : Oper} {a : Act} {Q : Exit → Act → World → Prop} {w : World} (hgd : o.guard = none) (s x : Operand) (t : TypeId)
    (ho : o.op = .call { callee := .builtin .append, args := #[s, x], argTypes := #[t, t] }) (hty : o.type = t) {B : Nat} {e : TypeId} {i : TypeInfo} {z : Value} {size bytes : Nat} (ht : P.underlying t = some (.slice e)) (hi : P.info? e = some i) (hz : i.zero = some z) (hsize : i.size = size) (hby : i.bytes = bytes) (hzs : z.cells.size = size)
    {v : Value} {n : Nat} {xs : List Value} (hown : w.ownsRow B e size v n xs) (news : Array Value) (hl : news.size = size) (h1 : ∀ u ∈ news.toList, u.oneCell' = true) (h63 : n + 1 ≤ maxLen) (hbytes : (n + 1) * bytes ≤ 140737488355328) (hB : B ≤ w.heap.size)
    (hs : a.eval s = v) (hx : a.eval x = .slice (some ⟨w.heap.size, 0, none⟩) 1 1)
    (h : ∀ a1 c1 w1, w1.ownsRow B e size (.slice a1 (n + 1) c1) (n + 1) (xs ++ news.toList) → w.grownBy w1 v.ownBlock → (∀ k, (Value.slice a1 (n + 1) c1).ownBlock = some k → v.ownBlock = some k ∨ w.heap.size ≤ k) → wpList P ops Q rest (a.put o.dst (.slice a1 (n + 1) c1)) w1) :
    wpList P ops Q (o :: rest) a (w.alloc (.cells news e)) := by
  obtain ⟨a1, c1, w1, run, own, gr, lies⟩ := own_push ht hi hz hsize hby hzs hown news hl h1 h63 hbytes hB
  exact wpList_append_run hgd s x t t ho v _ _ hs hx (by rw [hty]; exact run) (h a1 c1 w1 own gr lies)

end Go.Proofs.Ytjobhlncllfdmaa

/- The program's cells.DictionaryOf. -/
namespace Go.Proofs.Ytjobhlncllfdmaa
open Go.RowKit Go.Maps

/-- what is so in the loop of DictionaryOf: the result's and the dictionary's blocks, the map, the values, the words, the indices -/
structure DS (w : World) (S S4 : Nat) (vals : List Pu.Cl) (vv : Value) (m : Nat) (D : DataW Unit) (vw vi : Value) (ws : List Pu.Cl) (is : List Nat) (wr : World) : Prop where
  t2 : wr.heap[S]? = some (.cells #[.slice none 0 0, .slice none 0 0] 164 (0, 0))
  t3 : wr.heap[S + 1]? = some (.cells #[vw, vi] 164 (0, 0))
  map : wr.ownsMap Try.prog 9 (plainElem Try.prog 3) (S + 2) m D
  vals : wr.ownsRow (S + 3) 66 3 vv vals.length (clsV vals)
  valsLt : ∀ k, vv.ownBlock = some k → k < S4
  ow : wr.ownsRow S4 66 3 vw ws.length (clsV ws)
  oi : wr.ownsRow S4 3 1 vi is.length (ints is)
  below : Below S w wr
  s3 : S + 3 ≤ S4
  s4 : S4 ≤ wr.heap.size
  s0 : S = w.heap.size

section
variable {w wr w1 : World} {S S4 : Nat} {vals : List Pu.Cl} {vv : Value} {m : Nat} {D : DataW Unit} {vw vi : Value} {ws : List Pu.Cl} {is : List Nat}

theorem ownTyS {w : World} {B : Nat} {e : TypeId} {size : Nat} {v : Value} {n : Nat} {xs : List Value} (h : w.ownsRow B e size v n xs) {k : Nat} (hk : v.ownBlock = some k) : Ty w k e := by
  rcases h.2 with ⟨rfl, _⟩ | ⟨g, cap, cur, rfl, _, hg, _⟩
  · simp [Value.ownBlock] at hk
  · simp only [Value.ownBlock, Option.some.injEq] at hk
    subst hk
    exact ⟨cur, hg⟩

/-- all but some blocks is as it was -/
theorem DS.keep (h : DS w S S4 vals vv m D vw vi ws is wr) (hsz : wr.heap.size ≤ w1.heap.size) (hb : Below S w w1) (k2 : w1.heap[S]? = wr.heap[S]?) {vw' vi' : Value} {ws' : List Pu.Cl} {is' : List Nat} {m' : Nat} {D' : DataW Unit}
    (t3 : w1.heap[S + 1]? = some (.cells #[vw', vi'] 164 (0, 0))) (hm : w1.ownsMap Try.prog 9 (plainElem Try.prog 3) (S + 2) m' D') (hv : ∀ k, vv.ownBlock = some k → w1.heap[k]? = wr.heap[k]?)
    (hw : w1.ownsRow S4 66 3 vw' ws'.length (clsV ws')) (hi : w1.ownsRow S4 3 1 vi' is'.length (ints is')) : DS w S S4 vals vv m' D' vw' vi' ws' is' w1 :=
  ⟨by rw [k2]; exact h.t2, t3, hm, own_agreeS h.vals hv, h.valsLt, hw, hi, hb, h.s3, Nat.le_trans h.s4 hsz, h.s0⟩

theorem DS.alloc (h : DS w S S4 vals vv m D vw vi ws is wr) (o : Obj) : DS w S S4 vals vv m D vw vi ws is (wr.alloc o) := by
  have s4 := h.s4
  have s3 := h.s3
  have kp : ∀ k, k < wr.heap.size → (wr.alloc o).heap[k]? = wr.heap[k]? := fun k hk => Below.heap_alloc wr o k hk
  refine h.keep (by rw [size_alloc']; omega) (h.below.alloc (by have := h.below.size; have := h.s0; omega) o) (kp _ (by omega)) (by rw [kp _ (by omega)]; exact h.t3) (h.map.alloc o) (fun k hk => kp k (h.vals.lt k hk).2) (h.ow.alloc o) (h.oi.alloc o)

theorem DS.stepMap (h : DS w S S4 vals vv m D vw vi ws is wr) {D' : DataW Unit} {m' : Nat} (hg : wr.grownBy w1 (some (S + 2))) (hm : w1.ownsMap Try.prog 9 (plainElem Try.prog 3) (S + 2) m' D') : DS w S S4 vals vv m' D' vw vi ws is w1 := by
  have s4 := h.s4
  have s3 := h.s3
  have kp : ∀ k, k < wr.heap.size → k ≠ S + 2 → w1.heap[k]? = wr.heap[k]? := fun k hk hn => hg.block k hk (fun e => hn (Option.some.inj e))
  refine h.keep hg.size (h.below.grown hg (by have := h.below.size; have := h.s0; omega) (fun k hk => by have := Option.some.inj hk; omega)) (kp _ (by omega) (by omega)) (by rw [kp _ (by omega) (by omega)]; exact h.t3) hm (fun k hk => ?_) (own_agreeS h.ow (fun k hk => ?_)) (own_agreeS h.oi (fun k hk => ?_))
  · have := h.vals.lt k hk; exact kp k this.2 (by omega)
  · have := h.ow.lt k hk; exact kp k this.2 (by omega)
  · have := h.oi.lt k hk; exact kp k this.2 (by omega)

theorem DS.stepWord (h : DS w S S4 vals vv m D vw vi ws is wr) {v' : Value} {ws' : List Pu.Cl} (hg : wr.grownBy w1 vw.ownBlock) (ho : w1.ownsRow S4 66 3 v' ws'.length (clsV ws')) : DS w S S4 vals vv m D v' vi ws' is (w1.setCell ⟨S + 1, 0, none⟩ v') ∧ w1.cell? ⟨S + 1, 0, none⟩ = some vw ∧ w1.cell? ⟨S + 1, 1, none⟩ = some vi ∧ w1.frozen? ⟨S + 1, 0, none⟩ = false ∧ w1.frozen? ⟨S + 1, 1, none⟩ = false := by
  have s4 := h.s4
  have s3 := h.s3
  have hvw : ∀ k, vw.ownBlock = some k → S4 ≤ k := fun k hk => (h.ow.lt k hk).1
  have kp : ∀ k, k < wr.heap.size → vw.ownBlock ≠ some k → w1.heap[k]? = wr.heap[k]? := fun k hk hn => hg.block k hk (fun e => hn e.symm)
  have low : ∀ k, k < S4 → w1.heap[k]? = wr.heap[k]? := fun k hk => kp k (by omega) (fun e => by have := hvw k e; omega)
  have r3 : w1.heap[S + 1]? = some (.cells #[vw, vi] 164 (0, 0)) := by rw [low _ (by omega)]; exact h.t3
  have oth : ∀ k, k ≠ S + 1 → (w1.setCell ⟨S + 1, 0, none⟩ v').heap[k]? = w1.heap[k]? := fun k hk => heap_setCell_other w1 _ k _ hk
  refine ⟨?_, by rw [cell_of_row _ _ 0 _ _ _ r3]; rfl, by rw [cell_of_row _ _ 1 _ _ _ r3]; rfl, frozen_of_row _ _ 0 _ _ r3, frozen_of_row _ _ 1 _ _ r3⟩
  have b1 : Below S w w1 := h.below.grown hg (by have := h.below.size; have := h.s0; omega) (fun k hk => by have := hvw k hk; omega)
  refine h.keep (w1 := w1.setCell ⟨S + 1, 0, none⟩ v') (by rw [size_set]; exact hg.size) ⟨b1.os, b1.tape, b1.output, by rw [size_set]; exact b1.size, fun k hk => by rw [oth k (by omega)]; exact b1.block k hk⟩ (by rw [oth _ (by omega)]; exact low _ (by omega)) (by rw [heap_setCell_same w1 (S + 1) 0 _ _ _ r3]; rfl) ?_ (fun k hk => ?_) (own_agreeS ho (fun k hk => ?_)) (own_agreeS h.oi (fun k hk => ?_))
  · have hm1 : w1.ownsMap Try.prog 9 (plainElem Try.prog 3) (S + 2) m D := h.map.kept hg (fun e => by have := hvw _ e.symm; omega)
    exact hm1.kept (row := some (S + 1)) ⟨rfl, rfl, rfl, by rw [size_set]; exact Nat.le_refl _, fun k _ hk => oth k (fun e => hk (by rw [e]))⟩ (by simp)
  · have a := h.vals.lt k hk
    have c := h.valsLt k hk
    rw [oth k (by omega)]
    exact low k c
  · have a := ho.lt k hk
    exact oth k (by omega)
  · have a := h.oi.lt k hk
    rw [oth k (by omega)]
    exact kp k a.2 (fun e => Ty.ne (ownTyS h.oi hk) (ownTyS h.ow e) (by decide) rfl)

theorem DS.stepIdx (h : DS w S S4 vals vv m D vw vi ws is wr) {v' : Value} {is' : List Nat} (hg : wr.grownBy w1 vi.ownBlock) (ho : w1.ownsRow S4 3 1 v' is'.length (ints is')) : DS w S S4 vals vv m D vw v' ws is' (w1.setCell ⟨S + 1, 1, none⟩ v') ∧ w1.cell? ⟨S + 1, 1, none⟩ = some vi ∧ w1.frozen? ⟨S + 1, 1, none⟩ = false := by
  have s4 := h.s4
  have s3 := h.s3
  have hvi : ∀ k, vi.ownBlock = some k → S4 ≤ k := fun k hk => (h.oi.lt k hk).1
  have kp : ∀ k, k < wr.heap.size → vi.ownBlock ≠ some k → w1.heap[k]? = wr.heap[k]? := fun k hk hn => hg.block k hk (fun e => hn e.symm)
  have low : ∀ k, k < S4 → w1.heap[k]? = wr.heap[k]? := fun k hk => kp k (by omega) (fun e => by have := hvi k e; omega)
  have r3 : w1.heap[S + 1]? = some (.cells #[vw, vi] 164 (0, 0)) := by rw [low _ (by omega)]; exact h.t3
  have oth : ∀ k, k ≠ S + 1 → (w1.setCell ⟨S + 1, 1, none⟩ v').heap[k]? = w1.heap[k]? := fun k hk => heap_setCell_other w1 _ k _ hk
  refine ⟨?_, by rw [cell_of_row _ _ 1 _ _ _ r3]; rfl, frozen_of_row _ _ 1 _ _ r3⟩
  have b1 : Below S w w1 := h.below.grown hg (by have := h.below.size; have := h.s0; omega) (fun k hk => by have := hvi k hk; omega)
  refine h.keep (w1 := w1.setCell ⟨S + 1, 1, none⟩ v') (by rw [size_set]; exact hg.size) ⟨b1.os, b1.tape, b1.output, by rw [size_set]; exact b1.size, fun k hk => by rw [oth k (by omega)]; exact b1.block k hk⟩ (by rw [oth _ (by omega)]; exact low _ (by omega)) (by rw [heap_setCell_same w1 (S + 1) 1 _ _ _ r3]; rfl) ?_ (fun k hk => ?_) (own_agreeS h.ow (fun k hk => ?_)) (own_agreeS ho (fun k hk => ?_))
  · have hm1 : w1.ownsMap Try.prog 9 (plainElem Try.prog 3) (S + 2) m D := h.map.kept hg (fun e => by have := hvi _ e.symm; omega)
    exact hm1.kept (row := some (S + 1)) ⟨rfl, rfl, rfl, by rw [size_set]; exact Nat.le_refl _, fun k _ hk => oth k (fun e => hk (by rw [e]))⟩ (by simp)
  · have a := h.vals.lt k hk
    have c := h.valsLt k hk
    rw [oth k (by omega)]
    exact low k c
  · have a := h.ow.lt k hk
    rw [oth k (by omega)]
    exact kp k a.2 (fun e => Ty.ne (ownTyS h.ow hk) (ownTyS h.oi e) (by decide) rfl)
  · have a := ho.lt k hk
    exact oth k (by omega)
end

end Go.Proofs.Ytjobhlncllfdmaa
