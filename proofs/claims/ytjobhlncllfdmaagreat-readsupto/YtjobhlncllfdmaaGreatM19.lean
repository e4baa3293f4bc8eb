/- A string's bytes behind a row of one's own; low with numbers as the walk writes them. -/
import Derived.Test.YtjobhlncllfdmaaGreatM03
import Derived.Test.YtjobhlncllfdmaaGreatM01
import Derived.Test.YtjobhlncllfdmaaGreatM11
import Derived.Test.YtjobhlncllfdmaaGreatM02
import Derived.Laws.IdiomStrings
namespace Go.Proofs.YtjobhlncllfdmaaGreat
open Go.RowKit

theorem append_strOn (s : ByteArray) (w : World) (B : Nat) (v : Value) (n : Nat) (xs : List Value) (hown : w.ownsRow B 5 1 v n xs) (hB : B ≤ w.heap.size) (hs : n + s.size ≤ 140737488355328) (ty : TypeId) :
    ∃ v' w1, (Builtin.append_ #[25, 9] ty #[v, .string s]).run Tryz.prog w = .ok v' w1 ∧ w1.ownsRow B 5 1 v' (n + s.size) (xs ++ bytesV s.data.toList) ∧ w.grownBy w1 v.ownBlock := by
  obtain ⟨i0, hi, hz0, hz1, hz2⟩ := info_parts Tryz.info5
  have hsrc : Src Tryz.prog i0.size 9 (.string s) s.size (byteCells s) w := by rw [hz1]; exact Src.ofString w Tryz.underlying9 s
  have hlx : xs.length = n := by have := hown.1; omega
  have hbl : (bytesV s.data.toList).length = s.size := by rw [length_bytesV]; simp
  obtain ⟨ao, cap, rfl⟩ := slen_of hown
  by_cases h0 : s.size = 0
  · have hb : byteCells s = [] := List.eq_nil_of_length_eq_zero (by rw [byteCells_length]; exact h0)
    rw [h0, hb] at hsrc
    have hle : n ≤ cap := by
      rcases hown.2 with ⟨h, _⟩ | ⟨g, cap', cur, h, _, _, hnc, _⟩
      · simp only [Value.slice.injEq] at h; omega
      · simp only [Value.slice.injEq] at h; omega
    refine ⟨_, _, run_append_nothing w 25 9 ty 5 i0 Tryz.underlying25 hi ao n cap hle (.string s) hsrc, ?_, ⟨rfl, rfl, rfl, Nat.le_refl _, fun _ _ _ => rfl⟩⟩
    rw [h0, show bytesV s.data.toList = [] from hb, List.append_nil, Nat.add_zero]
    exact hown
  · have grow : ∀ (olds : List Value), (Builtin.firstCells i0.size n (.slice ao n cap)).run Tryz.prog w.drew = .ok olds.toArray w.drew → olds = xs → cap < n + s.size → ∃ v' w1, (Builtin.append_ #[25, 9] ty #[.slice ao n cap, .string s]).run Tryz.prog w = .ok v' w1 ∧ w1.ownsRow B 5 1 v' (n + s.size) (xs ++ bytesV s.data.toList) ∧ w.grownBy w1 (Value.slice ao n cap).ownBlock := by
      intro olds hold he hc
      subst he
      have hr := run_append_grow_src w 25 9 ty 5 i0 (.int .u8 0) Tryz.underlying25 hi hz0 ao n cap olds hold (.string s) s.size (byteCells s) hsrc hc (by omega) (by rw [hz2]; exact growslice_fits (by omega) (by omega))
      have hge := grownCap_ge w (n + s.size) cap 5
      have hcm : grownCap w (n + s.size) cap 5 ≤ maxLen := grownCap_le_maxLen w (n + s.size) cap 5 (by unfold maxLen; omega)
      refine ⟨_, _, hr, ⟨by rw [List.length_append, hlx, hbl]; omega, .inr ⟨w.heap.size, _, _, rfl, hB, heap_alloc_new w.drew _, hge, hcm, ?_, ?_⟩⟩, ⟨rfl, rfl, rfl, by simp, fun k hk _ => Below.heap_alloc w.drew _ k hk⟩⟩
      · simp only [Array.size_append, List.size_toArray, List.length_append, byteCells_length, size_zeroCells, hlx]
        rw [show (Value.int .u8 0).cells.size = 1 from rfl]; omega
      · rw [Array.toList_append, List.take_append_of_le_length (by simp [byteCells_length, hlx]), List.take_of_length_le (by simp [byteCells_length, hlx])]
        rfl
    rcases hown.2 with ⟨hv, hn0⟩ | ⟨g, cap', cur, hv, hbg, hg, hnc, hcm, hcs, htake⟩
    · simp only [Value.slice.injEq] at hv
      obtain ⟨rfl, rfl, rfl⟩ := hv
      have hx0 : xs = [] := List.eq_nil_of_length_eq_zero hlx
      exact grow [] (by simpa using run_firstCells_none (P := Tryz.prog) w.drew i0.size 0 0 0) hx0.symm (by omega)
    · simp only [Value.slice.injEq, true_and] at hv
      obtain ⟨rfl, rfl⟩ := hv
      by_cases hroom : n + s.size ≤ cap
      · have hbc : byteCells s = bytesV s.data.toList := rfl
        have hst := run_storeCells_at Tryz.prog g n 5 (byteCells s) 0 cur w hg (by rw [byteCells_length]; omega) hsrc.one
        simp only [Nat.add_zero] at hst
        have hr : (Builtin.append_ #[25, 9] ty #[.slice (some ⟨g, 0, none⟩) n cap, .string s]).run Tryz.prog w = .ok (.slice (some ⟨g, 0, none⟩) (n + s.size) cap) (w.setRow g (cur.toList.take n ++ byteCells s ++ cur.toList.drop (n + (byteCells s).length)).toArray) := by
          have hc2 := hsrc.cells
          rw [hz1] at hc2
          simp [Builtin.append_, run_underlying Tryz.underlying25, run_underlying Tryz.underlying9, sizeOf, typeInfo, hi, hsrc.len, hroom, hc2, hz1, Addr.add_lit, hst]
        refine ⟨_, _, hr, ⟨by rw [List.length_append, hlx, hbl]; omega, .inr ⟨g, cap, _, rfl, hbg, setRow_heap w g cur _ 5 _ hg, hroom, hcm, ?_, ?_⟩⟩, ⟨rfl, rfl, rfl, by simp, fun k _ hk => setRow_other w g k _ (fun e => hk (by simp [Value.ownBlock, e]))⟩⟩
        · simp only [List.size_toArray, List.length_append, List.length_take, List.length_drop, Array.length_toList, byteCells_length]
          omega
        · rw [show cur.toList.take n = xs from by rw [← htake, Nat.mul_one], hbc]
          rw [show (n + s.size) * 1 = (xs ++ bytesV s.data.toList).length from by rw [List.length_append, hlx, hbl]; omega]
          exact List.take_left
      · have holds : ∀ j u, xs[j]? = some u → w.cell? ((⟨g, 0, none⟩ : Addr).add j) = some u := hown.cells (g := g) rfl
        exact grow xs (run_firstCells_some w.drew i0.size n ⟨g, 0, none⟩ n cap xs (by rw [hz1]; omega) (by simpa using holds)) rfl (by omega)

theorem lowI_no (s : ByteArray) (a n : Int) (w : World) (hs : s.size ≤ 140737488355000) (h0 : 0 ≤ a) (ha : a ≤ s.size) (hn0 : 0 ≤ n) (hn : n ≤ 4) (hv : Pu.lo s.data.toList a.toNat n.toNat = none) :
    Calls Tryz.prog 51 #[.string s, .int .i64 a, .int .i64 n] w fun e w' => e = .returned (.tuple #[.int .i64 0, .bool false]) ∧ w' = w := by
  obtain ⟨a', rfl⟩ := Int.eq_ofNat_of_zero_le h0
  obtain ⟨n', rfl⟩ := Int.eq_ofNat_of_zero_le hn0
  rw [Int.toNat_natCast, Int.toNat_natCast] at hv
  exact low_no s a' n' w hs (by omega) (by omega) hv

theorem lowI_yes (s : ByteArray) (a n : Int) (x : Nat) (w : World) (hs : s.size ≤ 140737488355000) (h0 : 0 ≤ a) (ha : a ≤ s.size) (hn0 : 0 ≤ n) (hn : n ≤ 4) (hv : Pu.lo s.data.toList a.toNat n.toNat = some x) :
    Calls Tryz.prog 51 #[.string s, .int .i64 a, .int .i64 n] w fun e w' => e = .returned (.tuple #[.int .i64 x, .bool true]) ∧ w' = w := by
  obtain ⟨a', rfl⟩ := Int.eq_ofNat_of_zero_le h0
  obtain ⟨n', rfl⟩ := Int.eq_ofNat_of_zero_le hn0
  rw [Int.toNat_natCast, Int.toNat_natCast] at hv
  exact low_yes s a' n' x w hs (by omega) (by omega) hv

end Go.Proofs.YtjobhlncllfdmaaGreat

/- Contract of the reference's Unpack. -/
namespace Go.Proofs.YtjobhlncllfdmaaGreat
open Go.RowKit

theorem el_none {D : List UInt8} {n a b : Nat} {o : List UInt8} (hb : b = Pu.byteAt D a) (hl : Pu.lo D (a + 1) (Pu.mo b) = none) : Pu.el D n a o = none := by
  subst hb; unfold Pu.el; rw [hl]
theorem el_lit {D : List UInt8} {n a b x z : Nat} {o : List UInt8} (hb : b = Pu.byteAt D a) (hl : Pu.lo D (a + 1) (Pu.mo b) = some x) (hk : b % 4 = 0) (hz : z = if b / 4 < 60 then b / 4 + 1 else x + 1) : Pu.el D n a o = Pu.lit D n (a + 1 + Pu.mo b) z o := by
  subst hb; unfold Pu.el; rw [hl]; simp only [hk, if_true]; rw [hz]
theorem el_cp1 {D : List UInt8} {n a b x : Nat} {o : List UInt8} (hb : b = Pu.byteAt D a) (hl : Pu.lo D (a + 1) (Pu.mo b) = some x) (hk : b % 4 = 1) : Pu.el D n a o = Pu.cp n (a + 1 + Pu.mo b) (4 + b / 4 % 8) (256 * (b / 4 / 8) + x) o := by
  subst hb; unfold Pu.el; rw [hl]; simp [hk]
theorem el_cp2 {D : List UInt8} {n a b x : Nat} {o : List UInt8} (hb : b = Pu.byteAt D a) (hl : Pu.lo D (a + 1) (Pu.mo b) = some x) (hk : b % 4 = 2 ∨ b % 4 = 3) : Pu.el D n a o = Pu.cp n (a + 1 + Pu.mo b) (b / 4 + 1) x o := by
  subst hb; unfold Pu.el; rw [hl]; rcases hk with hk | hk <;> simp [hk]
theorem mo_0s {b : Nat} (h : b % 4 = 0) (hm : b / 4 < 60) : Pu.mo b = 0 := by simp [Pu.mo, h, hm]
theorem mo_0l {b : Nat} (h : b % 4 = 0) (hm : ¬ b / 4 < 60) : Pu.mo b = b / 4 - 59 := by simp [Pu.mo, h, hm]
theorem mo_1 {b : Nat} (h : b % 4 = 1) : Pu.mo b = 1 := by simp [Pu.mo, h]
theorem mo_2 {b : Nat} (h : b % 4 = 2) : Pu.mo b = 2 := by simp [Pu.mo, h]
theorem mo_3 {b : Nat} (h : b % 4 = 3) : Pu.mo b = 4 := by simp [Pu.mo, h]

theorem bytesV_append (a b : List UInt8) : bytesV (a ++ b) = bytesV a ++ bytesV b := by simp [bytesV]
theorem bytesV_cell {w : World} {B g n cap i : Nat} {o : List UInt8} (h : w.ownsRow B 5 1 (.slice (some ⟨g, 0, none⟩) n cap) n (bytesV o)) (hi : i < n) : w.cell? ⟨g, i, none⟩ = some (.int .u8 ((Pu.nth o i).toNat : Int)) := by
  have hl : o.length = n := by have := h.1; rw [length_bytesV] at this; omega
  rw [h.cellAt i (by omega)]
  simp only [bytesV, List.getElem?_map, List.getElem?_eq_getElem (show i < o.length by omega), Option.map_some, Pu.nth, List.getD_eq_getElem?_getD, Option.getD_some]


theorem conv_own {w : World} {B n cap : Nat} {ao : Option Addr} {o : List UInt8} (h : w.ownsRow B 5 1 (.slice ao n cap) n (bytesV o)) : (convert 25 9 (.slice ao n cap)).run Tryz.prog w = .ok (strV o) w := by
  have hl : o.length = n := by have := h.1; rw [length_bytesV] at this; omega
  rcases h.2 with ⟨hv, hn⟩ | ⟨g, cap', cur, hv, _, hg, _⟩
  · simp only [Value.slice.injEq] at hv
    obtain ⟨rfl, rfl, rfl⟩ := hv
    have ho : o = [] := List.eq_nil_of_length_eq_zero hl
    subst ho
    rw [run_convert_bytes_string w 25 9 5 none 0 0 Tryz.underlying25 Tryz.underlying5 Tryz.underlying9]
    rfl
  · simp only [Value.slice.injEq, true_and] at hv
    obtain ⟨rfl, rfl⟩ := hv
    have hb := run_convert_bytes_back (P := Tryz.prog) w 25 9 5 ⟨g, 0, none⟩ cap o Tryz.underlying25 Tryz.underlying5 Tryz.underlying9 (fun j hj => by
      rw [show (⟨g, 0, none⟩ : Addr).add j = ⟨g, j, none⟩ from by unfold Addr.add; split <;> simp_all, h.cellAt j (by omega)]
      simp only [bytesV, List.getElem?_map, List.getElem?_eq_getElem hj, Option.map_some])
    rw [hl] at hb
    exact hb

/-- what the reference's Unpack answers of the elements -/
def UnAns (r : Option (List UInt8)) (e : Ending) : Prop :=
  match r with
  | none => e = .returned (.tuple #[.string ByteArray.empty, .int .i64 4])
  | some o => e = .returned (.tuple #[strV o, .int .i64 0])

end Go.Proofs.YtjobhlncllfdmaaGreat
