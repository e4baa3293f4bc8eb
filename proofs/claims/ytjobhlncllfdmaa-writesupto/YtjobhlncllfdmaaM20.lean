/- The program's reader of a footer: contract of column. -/
import Derived.Test.YtjobhlncllfdmaaM19
import Derived.Test.YtjobhlncllfdmaaM05
namespace Go.Proofs.Ytjobhlncllfdmaa
open Go.RowKit

/-- an append whose run is known, as one step of a region that draws -/
theorem step_append_run {P : Program} {ops : Array Oper} {o : Oper} {a : Act} {w : World} {K : Act → World → Prop} {Q : Exit → Act → World → Prop} {E : Prop} (hg : o.guard = none) (s x : Operand) (t tx : TypeId)
    (ho : o.op = .call { callee := .builtin .append, args := #[s, x], argTypes := #[t, tx] }) (vs vx v' : Value) (w' : World) (hs : a.eval s = vs) (hx : a.eval x = vx)
    (hr : (Builtin.append_ #[t, tx] o.type #[vs, vx]).run P w = .ok v' w') (hK : K (a.put o.dst v') w') : if Region.wanted o (yielded ops a.tmps) = true then Oper.wp P o a w K Q else E := by
  have hw : Region.wanted o (yielded ops a.tmps) = true := by simp [Region.wanted, hg]
  rw [if_pos hw]
  unfold Oper.wp execOp
  simp only [ho, resolve, invoke, builtin, Sem.run_bind, Sem.run_pure, Result.andThen_ok, List.map_toArray, List.map_cons, List.map_nil, hs, hx, hr]
  exact hK

section
variable {w w1 : World} {o : Obj} {R lb B : Nat} {D : List UInt8} {E a n : Nat} {cs : List Pu.Col} {c : Pu.Col} {ws : List (Nat × Value)} {ao : Option Addr} {cap : Nat} {vc vr v' : Value}

/-- a column more -/
theorem FSt.pushC (hb : Rd w R (.slice ao (D.length - a) cap) E vc vr) (ha : a ≤ D.length) (hr : Rest w lb ao cap (D.drop a)) (hc : w.ownsRow B 45 3 vc cs.length (colsV cs)) (ho : w.ownsRow B 105 2 vr ws.length (grsV ws)) (hl : lb < B) (hB : B ≤ R)
    (hg : (w.alloc o).grownBy w1 vc.ownBlock) (ho' : w1.ownsRow B 45 3 v' (cs.length + 1) (colsV cs ++ colV c)) :
    Rd w1 R (.slice ao (D.length - a) cap) E vc vr ∧ FSt (w1.setCell ⟨R, 1, none⟩ v') R lb B D E a (cs ++ [c]) ws vr ∧ Below B w (w1.setCell ⟨R, 1, none⟩ v') := by
  have hRl := hb.ty.lt
  have hb1 : Rd w1 R (.slice ao (D.length - a) cap) E vc vr := hb.kept (agree_step hg hRl (fun e' => Ty.ne (own_tyS hc e') hb.ty (by decide) rfl))
  have hlb : w1.heap[lb]? = w.heap[lb]? := agree_step hg (by omega) (fun e' => by have := (hc.lt lb e').1; omega)
  have hor : ∀ k, vr.ownBlock = some k → (w1.setCell ⟨R, 1, none⟩ v').heap[k]? = w.heap[k]? := fun k hk =>
    agree_set hg (own_tyS ho hk).lt (fun e' => Ty.ne (own_tyS hc e') (own_tyS ho hk) (by decide) rfl) (Ty.ne (own_tyS ho hk) hb.ty (by decide))
  refine ⟨hb1, ⟨ao, cap, v', hb1.set1 v', ha, (hr.kept hlb).kept (heap_setCell_other w1 _ _ _ (by simp only []; omega)), ?_, own_agreeS ho hor, hl, hB⟩, ?_⟩
  · rw [← colsV_snoc, show (cs ++ [c]).length = cs.length + 1 by simp]
    exact ownsRow_set_other' ho' (fun e' => Ty.ne (own_tyS ho' e') hb1.ty (by decide) rfl)
  · have hBs : B ≤ w.heap.size := by omega
    exact (((Below.refl B w).alloc hBs o).grown hg (by rw [size_alloc']; omega) (fun k e => (hc.lt k e).1)).setCell hB v'

/-- a group more -/
theorem FSt.pushR {r : Nat × Value} (hb : Rd w R (.slice ao (D.length - a) cap) E vc vr) (ha : a ≤ D.length) (hr : Rest w lb ao cap (D.drop a)) (hc : w.ownsRow B 45 3 vc cs.length (colsV cs)) (ho : w.ownsRow B 105 2 vr ws.length (grsV ws)) (hl : lb < B) (hB : B ≤ R)
    (hg : (w.alloc o).grownBy w1 vr.ownBlock) (ho' : w1.ownsRow B 105 2 v' (ws.length + 1) (grsV ws ++ grV r)) :
    Rd w1 R (.slice ao (D.length - a) cap) E vc vr ∧ FSt (w1.setCell ⟨R, 2, none⟩ v') R lb B D E a cs (ws ++ [r]) v' ∧ Below B w (w1.setCell ⟨R, 2, none⟩ v') := by
  have hRl := hb.ty.lt
  have hb1 : Rd w1 R (.slice ao (D.length - a) cap) E vc vr := hb.kept (agree_step hg hRl (fun e' => Ty.ne (own_tyS ho e') hb.ty (by decide) rfl))
  have hlb : w1.heap[lb]? = w.heap[lb]? := agree_step hg (by omega) (fun e' => by have := (ho.lt lb e').1; omega)
  have hor : ∀ k, vc.ownBlock = some k → (w1.setCell ⟨R, 2, none⟩ v').heap[k]? = w.heap[k]? := fun k hk =>
    agree_set hg (own_tyS hc hk).lt (fun e' => Ty.ne (own_tyS ho e') (own_tyS hc hk) (by decide) rfl) (Ty.ne (own_tyS hc hk) hb.ty (by decide))
  refine ⟨hb1, ⟨ao, cap, vc, hb1.set2 v', ha, (hr.kept hlb).kept (heap_setCell_other w1 _ _ _ (by simp only []; omega)), own_agreeS hc hor, ?_, hl, hB⟩, ?_⟩
  · rw [grsV_snoc, show (ws ++ [r]).length = ws.length + 1 by simp]
    exact ownsRow_set_other' ho' (fun e' => Ty.ne (own_tyS ho' e') hb1.ty (by decide) rfl)
  · have hBs : B ≤ w.heap.size := by omega
    exact (((Below.refl B w).alloc hBs o).grown hg (by rw [size_alloc']; omega) (fun k e => (ho.lt k e).1)).setCell hB v'
end

theorem nameAt_some {D : List UInt8} {a nx' : Nat} {nm : List UInt8} (h : Pu.nameAt D a = some (nm, nx')) : ∃ z nx, Pu.vi D a = some (z, nx) ∧ ¬ (z < 1 ∨ 20 < z) ∧ nx' = nx + z ∧ nm = Pu.piece D nx z ∧ nx' ≤ D.length := by
  unfold Pu.nameAt Pu.num at h
  cases hv : Pu.vi D a with
  | none => simp [hv] at h
  | some q =>
    obtain ⟨z, nx⟩ := q
    simp only [hv] at h
    by_cases hb : z < 1 ∨ 20 < z
    · rw [if_pos hb] at h; cases h
    · rw [if_neg hb] at h
      simp only at h
      split at h
      · cases h
      · simp only [Option.some.injEq, Prod.mk.injEq] at h
        exact ⟨z, nx, rfl, hb, h.2.symm, h.1.symm, by omega⟩
theorem col1_name_none {D : List UInt8} {a : Nat} {cs : List Pu.Col} (h : Pu.nameAt D a = none) : Pu.col1 D a cs = none := by
  unfold Pu.nameAt Pu.num at h
  cases hv : Pu.vi D a with
  | none => exact col1_vi hv
  | some q =>
    obtain ⟨z, nx⟩ := q
    refine col1_bad hv ?_
    simp only [hv] at h
    by_cases hb : z < 1 ∨ 20 < z
    · omega
    · rw [if_neg hb] at h
      simp only at h
      split at h
      · omega
      · cases h
theorem col1_name_no {D : List UInt8} {a nx' : Nat} {nm : List UInt8} {cs : List Pu.Col} (h : Pu.nameAt D a = some (nm, nx')) (hb : Pu.hasName cs nm = true ∨ D.length ≤ nx' ∨ Pu.byteAt D nx' = 3 ∨ 6 < Pu.byteAt D nx') : Pu.col1 D a cs = none := by
  obtain ⟨z, nx, hv, hz, rfl, rfl, hl⟩ := nameAt_some h
  by_cases hd : D.length ≤ nx + z
  · exact col1_bad hv (.inr (.inr hd))
  · refine col1_bad2 hv (by omega) ?_
    rcases hb with h | h | h | h
    · exact .inl h
    · omega
    · exact .inr (.inl h)
    · exact .inr (.inr h)
theorem col1_name_yes {D : List UInt8} {a nx' : Nat} {nm : List UInt8} {cs : List Pu.Col} (h : Pu.nameAt D a = some (nm, nx')) (hb : ¬ (Pu.hasName cs nm = true ∨ D.length ≤ nx' ∨ Pu.byteAt D nx' = 3 ∨ 6 < Pu.byteAt D nx')) :
    Pu.col1 D a cs = some (⟨nm, Pu.byteAt D nx' % 4, decide (4 ≤ Pu.byteAt D nx')⟩, nx' + 1) := by
  obtain ⟨z, nx, hv, hz, rfl, rfl, hl⟩ := nameAt_some h
  refine col1_yes hv (fun h' => ?_) (fun h' => hb ?_)
  · rcases h' with h' | h' | h'
    · exact hz (.inl h')
    · exact hz (.inr h')
    · exact hb (.inr (.inl h'))
  · rcases h' with h' | h'
    · exact .inl h'
    · exact .inr (.inr h')

def ColAns (R lb B : Nat) (D : List UInt8) (E : Nat) (cs : List Pu.Col) (ws : List (Nat × Value)) (vr : Value) (r : Option (Pu.Col × Nat)) (e : Ending) (w' : World) : Prop :=
  match r with
  | none => e = .returned (.bool false)
  | some (c, a') => e = .returned (.bool true) ∧ FSt w' R lb B D E a' (cs ++ [c]) ws vr

theorem le_one (D : List UInt8) (a : Nat) (h : a < D.length) : Pu.le ((D.drop a).take 1) = Pu.byteAt D a := by
  rw [List.drop_eq_getElem_cons h, List.take_succ_cons, List.take_zero]
  simp only [Pu.le, Pu.byteAt, List.getD_eq_getElem?_getD, List.getElem?_eq_getElem h, Option.getD_some]
  omega

set_option maxHeartbeats 4000000 in
set_option maxRecDepth 100000 in
theorem fcolumn (R lb B : Nat) (D : List UInt8) (E a : Nat) (cs : List Pu.Col) (ws : List (Nat × Value)) (vr : Value) (w : World) (h : FSt w R lb B D E a cs ws vr) (hcs : cs.length < 20) :
    Calls Try.prog 97 #[.pointer (some ⟨R, 0, none⟩)] w fun e w' => ColAns R lb B D E cs ws vr (Pu.col1 D a cs) e w' ∧ Below B w w' := by
  have V : Hid (Calls Try.prog 104 #[.pointer (some ⟨R, 0, none⟩)] w fun e w' => NmAns R lb B D E cs ws vr (Pu.nameAt D a) e w' ∧ Below B w w') := fname R lb B D E a cs ws vr w h
  have hBR := h.base
  have hRw := h.lt
  clear h
  cases hn : Pu.nameAt D a with
  | none =>
    have HX : Hid (Pu.col1 D a cs = none) := col1_name_none hn
    rw [hn] at V
    clear hn
    go_enter Try.func97, Try.ntmps97
    go_wp2_with fail
    refine V.out.mono ?_
    rintro e w' ⟨rfl, hbel⟩
    go_wp2
    go_ret
    exact ⟨by rw [HX.out]; rfl, hbel⟩
  | some pr =>
    obtain ⟨nm, nx⟩ := pr
    have HN : Hid (Pu.nameAt D a = some (nm, nx)) := hn
    rw [hn] at V
    clear hn
    go_enter Try.func97, Try.ntmps97
    go_wp2_with fail
    refine V.out.mono ?_
    rintro e w1 ⟨⟨rfl, hS⟩, hbel⟩
    have HS : Hid (FSt w1 R lb B D E nx cs ws vr) := hS
    have hle := hS.le
    have hB1 : B ≤ w1.heap.size := Nat.le_trans (Nat.le_trans hBR (Nat.le_of_lt hRw)) hbel.size
    have HH : Hid (Calls Try.prog 105 #[.pointer (some ⟨R, 0, none⟩), .string ⟨nm.toArray⟩] w1 fun e w' => e = .returned (.bool (Pu.hasName cs nm)) ∧ Below w1.heap.size w1 w') := by
      exact fhas R lb B D E nx cs ws vr ⟨nm.toArray⟩ w1 hS (by omega)
    clear hS
    go_wp2_with fail
    refine HH.out.mono ?_
    rintro e w2 ⟨rfl, hbel2⟩
    have hbel' : Below B w w2 := hbel.trans (hbel2.mono hB1)
    have HS2 : Hid (FSt w2 R lb B D E nx cs ws vr) := HS.out.below hbel2
    clear hbel hbel2 HS
    cases hh : Pu.hasName cs nm with
    | true =>
      have HX : Hid (Pu.col1 D a cs = none) := col1_name_no HN.out (.inl hh)
      clear hh
      go_wp2
      go_ret
      exact ⟨by rw [HX.out]; rfl, hbel'⟩
    | false =>
      have Hh : Hid (Pu.hasName cs nm = false) := hh
      clear hh
      by_cases hend : D.length ≤ nx
      · have HX : Hid (Pu.col1 D a cs = none) := col1_name_no HN.out (.inr (.inl hend))
        have NO : Hid (Calls Try.prog 78 #[.pointer (some ⟨R, 0, none⟩), .int .i64 1] w2 fun e w' => e = .returned (.tuple #[.int .u32 0, .bool false]) ∧ w' = w2) := by
          obtain ⟨ao, cap, vc, hb, ha, hr, hc, ho, hlb, hB⟩ := HS2.out
          exact number_no R 0 1 lb ao cap (D.drop nx) w2 hr (by rw [List.length_drop]; exact hb.c0) (by omega) (by rw [List.length_drop]; omega)
        go_wp2_with fail
        refine NO.out.mono ?_
        rintro e w' ⟨rfl, hw'⟩
        subst w'
        go_wp2
        go_ret
        exact ⟨by rw [HX.out]; rfl, hbel'⟩
      · obtain ⟨b, hbE⟩ : ∃ b, b = Pu.byteAt D nx := ⟨_, rfl⟩
        have Hb : Hid (b = Pu.byteAt D nx) := hbE
        have hb256 : b < 256 := by rw [hbE]; exact Pu.byteAt_lt _ _
        obtain ⟨⟨kb1, kb2⟩, kb3, kb4⟩ := kind_bits ⟨b, hb256⟩
        simp only at kb1 kb2 kb3 kb4
        have NY : Hid (∃ w3, Calls Try.prog 78 #[.pointer (some ⟨R, 0, none⟩), .int .i64 1] w2 (fun e w' => e = .returned (.tuple #[.int .u32 (b : Int), .bool true]) ∧ w' = w3) ∧ FSt w3 R lb B D E (nx + 1) cs ws vr ∧ Below B w w3) := by
          obtain ⟨ao, cap, vc, hb, ha, hr, hc, ho, hlb, hB⟩ := HS2.out
          refine ⟨_, ?_, FSt.skip (n := 1) hb (by omega) hr hc ho hlb hB, hbel'.setCell hB _⟩
          have := number_yes R 0 1 lb ao cap (D.drop nx) w2 hr (by rw [List.length_drop]; exact hb.c0) (hb.fz 0) (by omega) (by omega) (by rw [List.length_drop]; omega)
          rw [le_one D nx (by omega), List.length_drop, ← hbE] at this
          exact this
        obtain ⟨w3, N1, N2, N3⟩ := NY.out
        have HN1 : Hid (Calls Try.prog 78 #[.pointer (some ⟨R, 0, none⟩), .int .i64 1] w2 (fun e w' => e = .returned (.tuple #[.int .u32 (b : Int), .bool true]) ∧ w' = w3)) := N1
        have HS3 : Hid (FSt w3 R lb B D E (nx + 1) cs ws vr) := N2
        have hB3 : B ≤ w3.heap.size := Nat.le_trans (Nat.le_trans hBR (Nat.le_of_lt hRw)) N3.size
        clear NY N1 N2 HS2 hbE HH V
        by_cases hbad : b = 3 ∨ 6 < b
        · have HX : Hid (Pu.col1 D a cs = none) := col1_name_no HN.out (by rw [← Hb.out]; rcases hbad with h | h <;> simp [h])
          have hk := kb1 hbad
          obtain ⟨kk, hkk⟩ : ∃ kk, bits .andNot .u32 (b : Int) 4 = kk := ⟨_, rfl⟩
          rw [hkk] at hk kb3 kb4
          clear kb1 kb2 hbad
          go_wp2_with fail
          refine HN1.out.mono ?_
          rintro e w' ⟨rfl, hw'⟩
          subst w'
          go_wp2
          go_ret
          exact ⟨by rw [HX.out]; rfl, N3.alloc hB3 _⟩
        · have HX : Hid (Pu.col1 D a cs = some (⟨nm, Pu.byteAt D nx % 4, decide (4 ≤ Pu.byteAt D nx)⟩, nx + 1)) := col1_name_yes HN.out (by rw [← Hb.out, Hh.out]; simp; omega)
          obtain ⟨hk1, hk2⟩ := kb2 hbad
          clear kb1 kb2
          obtain ⟨kk, hkk⟩ : ∃ kk, kk = b % 4 := ⟨_, rfl⟩
          rw [← hkk] at hk1
          have hk3 : kk ≤ 2 := by omega
          have HK : Hid (kk = b % 4) := hkk
          rw [hk1] at kb3 kb4
          obtain ⟨op, hop⟩ : ∃ op, op = decide (4 ≤ b) := ⟨_, rfl⟩
          rw [← hop] at hk2
          have HOp : Hid (op = decide (4 ≤ b)) := hop
          clear hkk hop hbad
          obtain ⟨ao, cap, vc, hb, ha, hr, hc, ho, hlb, hB⟩ := HS3.out.below (w1 := (w3.alloc (.cells #[.string ⟨nm.toArray⟩, .int .i64 (kk : Int), .bool op] 45)).drew) (((Below.refl _ _).alloc (Nat.le_refl _) _).drew)
          obtain ⟨av, cv, rfl⟩ := slen_of hc
          obtain ⟨i0, hi, hz0, hz1, hz2⟩ := info_parts Try.info45
          have hBs : B ≤ ((w3.alloc (.cells #[.string ⟨nm.toArray⟩, .int .i64 (kk : Int), .bool op] 45)).drew.alloc (.cells #[.string ⟨nm.toArray⟩, .int .i64 (kk : Int), .bool op] 45)).heap.size := by rw [size_alloc']; show B ≤ (w3.alloc _).heap.size + 1; rw [size_alloc']; omega
          have hsz4 : (w3.alloc (.cells #[.string ⟨nm.toArray⟩, .int .i64 (kk : Int), .bool op] 45)).drew.heap.size = w3.heap.size + 1 := by show (w3.alloc _).heap.size = _; rw [size_alloc']
          have hnew : ∀ (j : Nat) (u : Value), [Value.string ⟨nm.toArray⟩, .int .i64 (kk : Int), .bool op][j]? = some u → ((w3.alloc (.cells #[.string ⟨nm.toArray⟩, .int .i64 (kk : Int), .bool op] 45)).drew.alloc (.cells #[.string ⟨nm.toArray⟩, .int .i64 (kk : Int), .bool op] 45)).cell? ((⟨w3.heap.size + 1, 0, none⟩ : Addr).add j) = some u := three_new hsz4.symm
          obtain ⟨g, cp, w4, run4, own4, gr4, at4⟩ := appendS ((w3.alloc (.cells #[.string ⟨nm.toArray⟩, .int .i64 (kk : Int), .bool op] 45)).drew.alloc (.cells #[.string ⟨nm.toArray⟩, .int .i64 (kk : Int), .bool op] 45)) 37 37 45 i0 (.agg #[.string ByteArray.empty, .int .i64 0, .bool false]) 3 32 B Try.underlying37 hi hz0 hz1 hz2 rfl (by decide) _ _ _ (hc.alloc _) ⟨w3.heap.size + 1, 0, none⟩ [.string ⟨nm.toArray⟩, .int .i64 (kk : Int), .bool op] rfl hnew (by intro u hu; simp at hu; rcases hu with rfl | rfl | rfl <;> rfl) 1 (by unfold maxLen; omega) (by omega) hBs
          have HR4 : Hid ((Builtin.append_ #[37, 37] 37 #[.slice av cs.length cv, .slice (some ⟨w3.heap.size + 1, 0, none⟩) 1 1]).run Try.prog ((w3.alloc (.cells #[.string ⟨nm.toArray⟩, .int .i64 (kk : Int), .bool op] 45)).alloc (.cells #[.string ⟨nm.toArray⟩, .int .i64 (kk : Int), .bool op] 45)).drew = .ok (.slice (some ⟨g, 0, none⟩) (cs.length + 1) cp) w4) := run4
          have hcv : [Value.string ⟨nm.toArray⟩, .int .i64 (kk : Int), .bool op] = colV ⟨nm, Pu.byteAt D nx % 4, decide (4 ≤ Pu.byteAt D nx)⟩ := by rw [← Hb.out, ← HK.out, ← HOp.out]; rfl
          rw [hcv] at own4
          have hP := FSt.pushC hb ha hr hc ho hlb hB gr4 own4
          have c2 := hb.c1
          have c2b : ((w3.alloc (.cells #[.string ⟨nm.toArray⟩, .int .i64 (kk : Int), .bool op] 45)).alloc (.cells #[.string ⟨nm.toArray⟩, .int .i64 (kk : Int), .bool op] 45)).drew.cell? ⟨R, 1, none⟩ = some (.slice av cs.length cv) := (hb.kept (w' := (w3.alloc (.cells #[.string ⟨nm.toArray⟩, .int .i64 (kk : Int), .bool op] 45)).drew.alloc (.cells #[.string ⟨nm.toArray⟩, .int .i64 (kk : Int), .bool op] 45)) (Below.heap_alloc _ _ R hb.ty.lt)).c1
          have c2' := hP.1.c1
          have f2' := hP.1.fz 1
          have HF : Hid (FSt (w4.setCell ⟨R, 1, none⟩ (.slice (some ⟨g, 0, none⟩) (cs.length + 1) cp)) R lb B D E (nx + 1) (cs ++ [⟨nm, Pu.byteAt D nx % 4, decide (4 ≤ Pu.byteAt D nx)⟩]) ws vr) := hP.2.1
          have HB4 : Hid (Below B w (w4.setCell ⟨R, 1, none⟩ (.slice (some ⟨g, 0, none⟩) (cs.length + 1) cp))) := ((N3.alloc hB3 _).drew).trans hP.2.2
          clear run4 own4 gr4 at4 hP hb hr hc ho hcv hnew hsz4 hBs
          go_wp2_with fail
          refine HN1.out.mono ?_
          rintro e w' ⟨rfl, hw'⟩
          subst w'
          go_wp2
          go_region_law (refine step_append_run rfl (.tmp 44) (.tmp 46) 37 37 rfl _ _ _ _ rfl rfl HR4.out ?_)
          all_goals
            go_wp2
            go_ret
            rw [HX.out]
            exact ⟨⟨rfl, HF.out⟩, HB4.out⟩

end Go.Proofs.Ytjobhlncllfdmaa
