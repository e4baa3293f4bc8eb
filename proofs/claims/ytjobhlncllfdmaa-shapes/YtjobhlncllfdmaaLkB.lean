/- Contract of the reference's columns. -/
import Derived.Test.YtjobhlncllfdmaaLkA
namespace Go.Proofs.Ytjobhlncllfdmaa
open Go.RowKit

theorem Try.info45 : (Try.prog.info? 45).map (fun i => (i.zero, i.size, i.bytes)) = some (some (.agg #[.string ByteArray.empty, .int .i64 0, .bool false]), 3, 32) := by kernel_rfl

/-- what the reference's columns answers -/
def ColsAns (base : Nat) (r : Option (List Pu.Col × Nat)) (e : Ending) (w' : World) : Prop :=
  match r with
  | none => e = .returned (.tuple #[.slice none 0 0, .int .i64 0, .bool false])
  | some (cs, a) => ∃ v, e = .returned (.tuple #[v, .int .i64 a, .bool true]) ∧ w'.ownsRow base 45 3 v cs.length (colsV cs)

theorem col1_vi {D : List UInt8} {a : Nat} {out : List Pu.Col} (h : Pu.vi D a = none) : Pu.col1 D a out = none := by simp [Pu.col1, h]
theorem col1_bad {D : List UInt8} {a z nx : Nat} {out : List Pu.Col} (h : Pu.vi D a = some (z, nx)) (hb : z < 1 ∨ 20 < z ∨ D.length ≤ nx + z) : Pu.col1 D a out = none := by
  simp only [Pu.col1, h]; rw [if_pos hb]
theorem col1_bad2 {D : List UInt8} {a z nx : Nat} {out : List Pu.Col} (h : Pu.vi D a = some (z, nx)) (hb : ¬ (z < 1 ∨ 20 < z ∨ D.length ≤ nx + z)) (hk : Pu.hasName out (Pu.piece D nx z) = true ∨ Pu.byteAt D (nx + z) = 3 ∨ 6 < Pu.byteAt D (nx + z)) : Pu.col1 D a out = none := by
  simp only [Pu.col1, h]; rw [if_neg hb, if_pos hk]
theorem col1_yes {D : List UInt8} {a z nx : Nat} {out : List Pu.Col} (h : Pu.vi D a = some (z, nx)) (hb : ¬ (z < 1 ∨ 20 < z ∨ D.length ≤ nx + z)) (hk : ¬ (Pu.hasName out (Pu.piece D nx z) = true ∨ Pu.byteAt D (nx + z) = 3 ∨ 6 < Pu.byteAt D (nx + z))) :
    Pu.col1 D a out = some (⟨Pu.piece D nx z, Pu.byteAt D (nx + z) % 4, decide (4 ≤ Pu.byteAt D (nx + z))⟩, nx + z + 1) := by
  simp only [Pu.col1, h]; rw [if_neg hb, if_neg hk]
theorem colsGo_no {D : List UInt8} {n a : Nat} {out : List Pu.Col} (hn : 0 < n) (h : Pu.col1 D a out = none) : Pu.colsGo D n a out = none := by
  obtain ⟨m, rfl⟩ : ∃ m, n = m + 1 := ⟨n - 1, by omega⟩
  simp [Pu.colsGo, h]
theorem colsGo_yes {D : List UInt8} {n a a' : Nat} {out : List Pu.Col} {c : Pu.Col} (hn : 0 < n) (h : Pu.col1 D a out = some (c, a')) : Pu.colsGo D n a out = Pu.colsGo D (n - 1) a' (out ++ [c]) := by
  obtain ⟨m, rfl⟩ : ∃ m, n = m + 1 := ⟨n - 1, by omega⟩
  simp [Pu.colsGo, h]

theorem str_piece (s : ByteArray) (a p : Nat) (h : a + p ≤ s.size) : s.extract a (a + p) = ⟨(Pu.piece s.data.toList a p).toArray⟩ := by
  rw [← extract_list s a p h, str_list]

theorem colV_eq {x : ByteArray} {b c : Nat} {P : List UInt8} (hx : x = ⟨P.toArray⟩) (hb : b = c) : [Value.string x, .int .i64 ((b : Int) % 4), .bool (decide (4 ≤ (b : Int)))] = colV ⟨P, c % 4, decide (4 ≤ c)⟩ := by
  subst hb hx
  have h : decide (4 ≤ (b : Int)) = decide (4 ≤ b) := by rw [decide_eq_decide]; omega
  simp [colV, strV, h]

theorem three_new {w : World} {B : Nat} {e : TypeId} {x y z : Value} (hB : B = w.heap.size) : ∀ (j : Nat) (u : Value), [x, y, z][j]? = some u → (w.alloc (Obj.cells #[x, y, z] e)).cell? ((⟨B, 0, none⟩ : Addr).add j) = some u := by
  intro j u hj
  subst hB
  match j, hj with
  | 0, hj => simp at hj; subst hj; simp [Addr.add]
  | 1, hj => simp at hj; subst hj; simp [Addr.add]
  | 2, hj => simp at hj; subst hj; simp [Addr.add]

set_option maxHeartbeats 2000000 in
set_option maxRecDepth 100000 in
theorem refCols_any (s : ByteArray) (w : World) (hs : s.size ≤ 140737488355000) :
    Calls Try.prog 49 #[.string s] w fun e w' => ColsAns w.heap.size (Pu.cols s.data.toList) e w' ∧ Below w.heap.size w w' := by
  have Hlen : Hid (s.data.toList.length = s.size) := by simp [Hid]
  cases hv : Pu.vi s.data.toList 0 with
  | none =>
    have Hv : Hid (Pu.vi s.data.toList 0 = none) := hv
    have HR : Hid (Pu.cols s.data.toList = none) := by simp [Hid, Pu.cols, hv]
    clear hv
    go_enter Try.func49, Try.ntmps49
    go_wp2_with fail
    refine (varint_no s 0 _ hs (by omega) Hv.out).mono ?_
    rintro e w' ⟨h, nx, rfl, rfl⟩
    go_wp2
    go_ret3
    exact ⟨by rw [HR.out]; rfl, Below.refl _ _⟩
  | some p =>
    obtain ⟨N, a0⟩ := p
    have Hv : Hid (Pu.vi s.data.toList 0 = some (N, a0)) := hv
    have hvl := Pu.vi_lt hv
    rw [Hlen.out] at hvl
    obtain ⟨_, ha0, hN0⟩ := hvl
    by_cases hN : N < 1 ∨ 20 < N
    · have HR : Hid (Pu.cols s.data.toList = none) := by simp only [Hid, Pu.cols, hv]; rw [if_pos hN]
      clear hv
      by_cases hN1 : N < 1
      · go_enter Try.func49, Try.ntmps49
        go_wp2_with fail
        refine (varint_yes s 0 N a0 _ hs (by omega) Hv.out).mono ?_
        rintro e w' ⟨rfl, rfl⟩
        go_wp2
        go_ret3
        exact ⟨by rw [HR.out]; rfl, Below.refl _ _⟩
      · have hN2 : 20 < N := by omega
        go_enter Try.func49, Try.ntmps49
        go_wp2_with fail
        refine (varint_yes s 0 N a0 _ hs (by omega) Hv.out).mono ?_
        rintro e w' ⟨rfl, rfl⟩
        go_wp2
        go_ret3
        exact ⟨by rw [HR.out]; rfl, Below.refl _ _⟩
    · have HR : Hid (Pu.cols s.data.toList = Pu.colsGo s.data.toList N a0 []) := by simp only [Hid, Pu.cols, hv]; rw [if_neg hN]
      clear hv
      have hN1 : 1 ≤ N := by omega
      have hN2 : N ≤ 20 := by omega
      have hdN : decide ((N : Int) < 1) = false := by simp; omega
      have hdM : decide (20 < (N : Int)) = false := by simp; omega
      clear hN
      go_enter Try.func49, Try.ntmps49
      go_wp2_with fail
      refine (varint_yes s 0 N a0 _ hs (by omega) Hv.out).mono ?_
      rintro e w' ⟨rfl, hw'⟩
      subst w'
      go_wp2
      go_loopw [6, 8, 9] (fun t v i wr => ∃ (a k : Nat) (cs : List Pu.Col), a ≤ s.size ∧ k ≤ N ∧ cs.length = k ∧ t = .int .i64 a ∧ i = .int .i64 k ∧ wr.ownsRow w.heap.size 45 3 v k (colsV cs) ∧ Hid (Pu.cols s.data.toList = Pu.colsGo s.data.toList (N - k) a cs) ∧ Below w.heap.size w wr)
        (fun _ _ i _ => N - (intOf i).toNat)
      case atStart => exact ⟨a0, 0, [], ha0, by omega, rfl, rfl, rfl, World.ownsRow_nil _ _ _ _, HR, Below.refl _ _⟩
      case round =>
        obtain ⟨a, k, cs, ha, hk, rfl, rfl, rfl, hown, HG, hbel⟩ := hrel
        obtain ⟨ao, cap, rfl⟩ := slen_of hown
        by_cases hk2 : cs.length < N
        · have hkd : decide ((cs.length : Int) < (N : Int)) = true := by simp; omega
          cases hz : Pu.vi s.data.toList a with
          | none =>
            have Hz : Hid (Pu.vi s.data.toList a = none) := hz
            have HF : Hid (Pu.cols s.data.toList = none) := by rw [Hid, HG.out]; exact colsGo_no (by omega) (col1_vi hz)
            clear hz
            go_wp2_with fail
            refine (varint_no s a _ hs ha Hz.out).mono ?_
            rintro e w' ⟨h, nx, rfl, rfl⟩
            go_wp2
            go_ret3
            exact ⟨by rw [HF.out]; rfl, hbel⟩
          | some p =>
            obtain ⟨z, nx⟩ := p
            have Hz : Hid (Pu.vi s.data.toList a = some (z, nx)) := hz
            have hzl := Pu.vi_lt hz
            rw [Hlen.out] at hzl
            obtain ⟨hz1, hz2, hz3⟩ := hzl
            by_cases hb : z < 1 ∨ 20 < z ∨ s.size ≤ nx + z
            · have HF : Hid (Pu.cols s.data.toList = none) := by rw [Hid, HG.out]; exact colsGo_no (by omega) (col1_bad hz (by rw [Hlen.out]; exact hb))
              clear hz
              by_cases hb1 : z < 1
              · clear hb
                go_wp2_with fail
                refine (varint_yes s a z nx _ hs ha Hz.out).mono ?_
                rintro e w' ⟨rfl, rfl⟩
                go_wp2
                go_ret3
                exact ⟨by rw [HF.out]; rfl, hbel⟩
              · by_cases hb2 : 20 < z
                · clear hb
                  go_wp2_with fail
                  refine (varint_yes s a z nx _ hs ha Hz.out).mono ?_
                  rintro e w' ⟨rfl, rfl⟩
                  go_wp2
                  go_ret3
                  exact ⟨by rw [HF.out]; rfl, hbel⟩
                · have hb3 : s.size ≤ nx + z := by omega
                  clear hb
                  go_wp2_with fail
                  refine (varint_yes s a z nx _ hs ha Hz.out).mono ?_
                  rintro e w' ⟨rfl, rfl⟩
                  go_wp2
                  go_ret3
                  exact ⟨by rw [HF.out]; rfl, hbel⟩
            · have Hb : Hid (¬ (z < 1 ∨ 20 < z ∨ s.data.toList.length ≤ nx + z)) := by rw [Hid, Hlen.out]; exact hb
              clear hz
              have hb1 : 1 ≤ z := by omega
              have hb2 : z ≤ 20 := by omega
              have hb3 : nx + z < s.size := by omega
              clear hb
              obtain ⟨b, hbe, hbb, HB⟩ := byte_ex s (nx + z) hb3
              have HP : Hid (s.extract nx (nx + z) = ⟨(Pu.piece s.data.toList nx z).toArray⟩) := str_piece s nx z (by omega)
              have Hnm : Hid ((s.extract nx (nx + z)).data.toList = Pu.piece s.data.toList nx z) := extract_list s nx z (by omega)
              by_cases hK : Pu.hasName cs (Pu.piece s.data.toList nx z) = true ∨ b = 3 ∨ 6 < b
              · have HF : Hid (Pu.cols s.data.toList = none) := by rw [Hid, HG.out]; exact colsGo_no (by omega) (col1_bad2 Hz.out Hb.out (by rw [← HB.out]; exact hK))
                cases hh : Pu.hasName cs (Pu.piece s.data.toList nx z) with
                | true =>
                  have Hh : Hid (Pu.hasName cs (s.extract nx (nx + z)).data.toList = true) := by rw [Hid, Hnm.out]; exact hh
                  clear hh hK
                  go_wp2_with fail
                  refine (varint_yes s a z nx _ hs ha Hz.out).mono ?_
                  rintro e w' ⟨rfl, rfl⟩
                  go_wp2_with fail
                  refine (name_any w.heap.size ao cap cs _ _ (hown.alloc _) (by omega)).mono ?_
                  rw [Hh.out]
                  rintro e w' ⟨rfl, rfl⟩
                  go_wp2
                  go_ret3
                  exact ⟨by rw [HF.out]; rfl, hbel.alloc hbel.size _⟩
                | false =>
                  have Hh : Hid (Pu.hasName cs (s.extract nx (nx + z)).data.toList = false) := by rw [Hid, Hnm.out]; exact hh
                  have hK2 : b = 3 ∨ 6 < b := by rw [hh] at hK; simpa using hK
                  clear hh hK
                  by_cases hK3 : b = 3
                  · subst hK3
                    go_wp2_with fail
                    refine (varint_yes s a z nx _ hs ha Hz.out).mono ?_
                    rintro e w' ⟨rfl, rfl⟩
                    go_wp2_with fail
                    refine (name_any w.heap.size ao cap cs _ _ (hown.alloc _) (by omega)).mono ?_
                    rw [Hh.out]
                    rintro e w' ⟨rfl, rfl⟩
                    go_wp2
                    go_ret3
                    exact ⟨by rw [HF.out]; rfl, hbel.alloc hbel.size _⟩
                  · have hK4 : 6 < b := by omega
                    clear hK2
                    go_wp2_with fail
                    refine (varint_yes s a z nx _ hs ha Hz.out).mono ?_
                    rintro e w' ⟨rfl, rfl⟩
                    go_wp2_with fail
                    refine (name_any w.heap.size ao cap cs _ _ (hown.alloc _) (by omega)).mono ?_
                    rw [Hh.out]
                    rintro e w' ⟨rfl, rfl⟩
                    go_wp2
                    go_ret3
                    exact ⟨by rw [HF.out]; rfl, hbel.alloc hbel.size _⟩
              · have HF : Hid (Pu.cols s.data.toList = Pu.colsGo s.data.toList (N - cs.length - 1) (nx + z + 1) (cs ++ [⟨Pu.piece s.data.toList nx z, Pu.byteAt s.data.toList (nx + z) % 4, decide (4 ≤ Pu.byteAt s.data.toList (nx + z))⟩])) := by
                  rw [Hid, HG.out]; exact colsGo_yes (by omega) (col1_yes Hz.out Hb.out (by rw [← HB.out]; exact hK))
                have Hh : Hid (Pu.hasName cs (s.extract nx (nx + z)).data.toList = false) := by
                  rw [Hid, Hnm.out]
                  cases hh : Pu.hasName cs (Pu.piece s.data.toList nx z) with
                  | true => exact absurd (Or.inl hh) hK
                  | false => rfl
                have hK3 : ¬ b = 3 := fun h => hK (.inr (.inl h))
                have hK4 : b ≤ 6 := by have := fun h => hK (.inr (.inr h)); omega
                have hK5 : ((b : Int) == 3) = false := by simp; omega
                clear hK
                obtain ⟨i0, hi, hz0, hz1', hz2'⟩ := info_parts Try.info45
                go_wp2_with fail
                refine (varint_yes s a z nx _ hs ha Hz.out).mono ?_
                rintro e w' ⟨rfl, rfl⟩
                go_wp2_with fail
                refine (name_any w.heap.size ao cap cs _ _ (hown.alloc _) (by omega)).mono ?_
                rw [Hh.out]
                rintro e w' ⟨rfl, rfl⟩
                go_wp2_with (first
                  | (at_builtin; refine wpList_append_own _ rfl _ _ 37 rfl w.heap.size 45 i0 (.agg #[.string ByteArray.empty, .int .i64 0, .bool false]) 3 32 Try.underlying37 hi hz0 hz1' hz2' rfl (by decide) _ _ _ rfl ((hown.alloc _).alloc _) ⟨_, 0, none⟩ 1 1 [.string (s.extract nx (nx + z)), .int .i64 ((b : Int) % 4), .bool (decide (4 ≤ (b : Int)))] rfl rfl ?c1 ?c2 ?c3 ?c4 ?c5 ?_)
                  | go_in)
                case c1 => exact three_new (by rw [size_alloc'])
                case c2 => intro u hu; simp at hu; rcases hu with rfl | rfl | rfl <;> rfl
                case c3 => unfold maxLen; omega
                case c4 => omega
                case c5 => rw [size_alloc', size_alloc']; have := hbel.size; omega
                intro v' w1 hown3 hg _
                have hbel3 := below_append (hbel.alloc hbel.size _) (Nat.le_refl _) hg (fun k e => (hown.lt k e).1)
                rw [colV_eq HP.out HB.out, colsV_snoc] at hown3
                clear hg hown hbel
                go_wp2
                go_roundw
                case rel => exact ⟨nx + z + 1, cs.length + 1, _, by omega, by omega, by simp, by go_num, by go_num, hown3, HF, hbel3⟩
                case measure => simp [intOf]; omega
        · obtain rfl : cs.length = N := by omega
          have HF : Hid (Pu.cols s.data.toList = some (cs, a)) := by rw [Hid, HG.out, Nat.sub_self]; rfl
          go_wp2
          go_ret3
          refine ⟨?_, hbel⟩
          rw [HF.out]
          exact ⟨_, rfl, hown⟩

end Go.Proofs.Ytjobhlncllfdmaa
