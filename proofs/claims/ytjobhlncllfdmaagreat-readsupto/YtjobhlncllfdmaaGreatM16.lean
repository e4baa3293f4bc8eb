/- The program's reader of a footer: contract of column. -/
import Derived.Test.YtjobhlncllfdmaaGreatM15
import Derived.Test.YtjobhlncllfdmaaGreatM07
import Derived.Test.YtjobhlncllfdmaaGreatM09
import Derived.Test.YtjobhlncllfdmaaGreatM13
import Derived.Deep.RegionWith
import Derived.Deep.RegionLaw
import Derived.Deep.DeepCutAuto
namespace Go.Proofs.YtjobhlncllfdmaaGreat
open Go.RowKit

/-- an append whose run is known, as one step of a region that draws -/
theorem step_append_run {P : Program} {ops : Array Oper} {o : Oper} {a : Act} {w : World} {K : Act → World → Prop} {Q : Exit → Act → World → Prop} {E : Prop} (hg : o.guard = none) (s x : Operand) (t tx : TypeId)
    (ho : o.op = .call { callee := .builtin .append, args := #[s, x], argTypes := #[t, tx] }) (vs vx v' : Value) (w' : World) (hs : a.eval s = vs) (hx : a.eval x = vx)
    (hr : (Builtin.append_ #[t, tx] o.type #[vs, vx]).run P w = .ok v' w') (hK : K (a.put o.dst v') w') : if Region.wanted o (yielded ops a.tmps) = true then Oper.wp P o a w K Q else E := by
  have hw : Region.wanted o (yielded ops a.tmps) = true := by simp [Region.wanted, hg]
  rw [if_pos hw]
  unfold Oper.wp execOp
  simp only [ho, resolve, invoke, builtin, Sem.run_bind, Sem.run_pure, Result.andThen_ok, List.map_toArray, List.map_cons, List.map_nil, hs, hx, hr]
  exact hK

section
variable {w w1 : World} {o : Obj} {R lb B : Nat} {D : List UInt8} {E a n : Nat} {cs : List Pu.Col} {c : Pu.Col} {ws : List (Nat × Value)} {ao : Option Addr} {cap : Nat} {vc vr v' : Value}

/-- a column more -/
theorem FSt.pushC (hb : Rd w R (.slice ao (D.length - a) cap) E vc vr) (ha : a ≤ D.length) (hr : Rest w lb ao cap (D.drop a)) (hc : w.ownsRow B 54 3 vc cs.length (colsV cs)) (ho : w.ownsRow B 84 2 vr ws.length (grsV ws)) (hl : lb < B) (hB : B ≤ R)
    (hg : (w.alloc o).grownBy w1 vc.ownBlock) (ho' : w1.ownsRow B 54 3 v' (cs.length + 1) (colsV cs ++ colV c)) :
    Rd w1 R (.slice ao (D.length - a) cap) E vc vr ∧ FSt (w1.setCell ⟨R, 1, none⟩ v') R lb B D E a (cs ++ [c]) ws vr ∧ Below B w (w1.setCell ⟨R, 1, none⟩ v') := by
  have hRl := hb.ty.lt
  have hb1 : Rd w1 R (.slice ao (D.length - a) cap) E vc vr := hb.kept (agree_step hg hRl (fun e' => Ty.ne (own_tyS hc e') hb.ty (by decide) rfl))
  have hlb : w1.heap[lb]? = w.heap[lb]? := agree_step hg (by omega) (fun e' => by have := (hc.lt lb e').1; omega)
  have hor : ∀ k, vr.ownBlock = some k → (w1.setCell ⟨R, 1, none⟩ v').heap[k]? = w.heap[k]? := fun k hk =>
    agree_set hg (own_tyS ho hk).lt (fun e' => Ty.ne (own_tyS hc e') (own_tyS ho hk) (by decide) rfl) (Ty.ne (own_tyS ho hk) hb.ty (by decide))
  refine ⟨hb1, ⟨ao, cap, v', hb1.set1 v', ha, (hr.kept hlb).kept (heap_setCell_other w1 _ _ _ (by simp only []; omega)), ?_, own_agreeS ho hor, hl, hB⟩, ?_⟩
  · rw [← colsV_snoc, show (cs ++ [c]).length = cs.length + 1 by simp]
    exact ownsRow_set_other' ho' (fun e' => Ty.ne (own_tyS ho' e') hb1.ty (by decide) rfl)
  · have hBs : B ≤ w.heap.size := by omega
    exact (((Below.refl B w).alloc hBs o).grown hg (by rw [size_alloc']; omega) (fun k e => (hc.lt k e).1)).setCell hB v'

/-- a group more -/
theorem FSt.pushR {r : Nat × Value} (hb : Rd w R (.slice ao (D.length - a) cap) E vc vr) (ha : a ≤ D.length) (hr : Rest w lb ao cap (D.drop a)) (hc : w.ownsRow B 54 3 vc cs.length (colsV cs)) (ho : w.ownsRow B 84 2 vr ws.length (grsV ws)) (hl : lb < B) (hB : B ≤ R)
    (hg : (w.alloc o).grownBy w1 vr.ownBlock) (ho' : w1.ownsRow B 84 2 v' (ws.length + 1) (grsV ws ++ grV r)) :
    Rd w1 R (.slice ao (D.length - a) cap) E vc vr ∧ FSt (w1.setCell ⟨R, 2, none⟩ v') R lb B D E a cs (ws ++ [r]) v' ∧ Below B w (w1.setCell ⟨R, 2, none⟩ v') := by
  have hRl := hb.ty.lt
  have hb1 : Rd w1 R (.slice ao (D.length - a) cap) E vc vr := hb.kept (agree_step hg hRl (fun e' => Ty.ne (own_tyS ho e') hb.ty (by decide) rfl))
  have hlb : w1.heap[lb]? = w.heap[lb]? := agree_step hg (by omega) (fun e' => by have := (ho.lt lb e').1; omega)
  have hor : ∀ k, vc.ownBlock = some k → (w1.setCell ⟨R, 2, none⟩ v').heap[k]? = w.heap[k]? := fun k hk =>
    agree_set hg (own_tyS hc hk).lt (fun e' => Ty.ne (own_tyS ho e') (own_tyS hc hk) (by decide) rfl) (Ty.ne (own_tyS hc hk) hb.ty (by decide))
  refine ⟨hb1, ⟨ao, cap, vc, hb1.set2 v', ha, (hr.kept hlb).kept (heap_setCell_other w1 _ _ _ (by simp only []; omega)), own_agreeS hc hor, ?_, hl, hB⟩, ?_⟩
  · rw [grsV_snoc, show (ws ++ [r]).length = ws.length + 1 by simp]
    exact ownsRow_set_other' ho' (fun e' => Ty.ne (own_tyS ho' e') hb1.ty (by decide) rfl)
  · have hBs : B ≤ w.heap.size := by omega
    exact (((Below.refl B w).alloc hBs o).grown hg (by rw [size_alloc']; omega) (fun k e => (ho.lt k e).1)).setCell hB v'
end

theorem nameAt_some {D : List UInt8} {a nx' : Nat} {nm : List UInt8} (h : Pu.nameAt D a = some (nm, nx')) : ∃ z nx, Pu.vi D a = some (z, nx) ∧ ¬ (z < 1 ∨ 20 < z) ∧ nx' = nx + z ∧ nm = Pu.piece D nx z ∧ nx' ≤ D.length := by
  unfold Pu.nameAt Pu.num at h
  cases hv : Pu.vi D a with
  | none => simp [hv] at h
  | some q =>
    obtain ⟨z, nx⟩ := q
    simp only [hv] at h
    by_cases hb : z < 1 ∨ 20 < z
    · rw [if_pos hb] at h; cases h
    · rw [if_neg hb] at h
      simp only at h
      split at h
      · cases h
      · simp only [Option.some.injEq, Prod.mk.injEq] at h
        exact ⟨z, nx, rfl, hb, h.2.symm, h.1.symm, by omega⟩
theorem col1_name_none {D : List UInt8} {a : Nat} {cs : List Pu.Col} (h : Pu.nameAt D a = none) : Pu.col1 D a cs = none := by
  unfold Pu.nameAt Pu.num at h
  cases hv : Pu.vi D a with
  | none => exact col1_vi hv
  | some q =>
    obtain ⟨z, nx⟩ := q
    refine col1_bad hv ?_
    simp only [hv] at h
    by_cases hb : z < 1 ∨ 20 < z
    · omega
    · rw [if_neg hb] at h
      simp only at h
      split at h
      · omega
      · cases h
theorem col1_name_no {D : List UInt8} {a nx' : Nat} {nm : List UInt8} {cs : List Pu.Col} (h : Pu.nameAt D a = some (nm, nx')) (hb : Pu.hasName cs nm = true ∨ D.length ≤ nx' ∨ Pu.byteAt D nx' = 3 ∨ 6 < Pu.byteAt D nx') : Pu.col1 D a cs = none := by
  obtain ⟨z, nx, hv, hz, rfl, rfl, hl⟩ := nameAt_some h
  by_cases hd : D.length ≤ nx + z
  · exact col1_bad hv (.inr (.inr hd))
  · refine col1_bad2 hv (by omega) ?_
    rcases hb with h | h | h | h
    · exact .inl h
    · omega
    · exact .inr (.inl h)
    · exact .inr (.inr h)
theorem col1_name_yes {D : List UInt8} {a nx' : Nat} {nm : List UInt8} {cs : List Pu.Col} (h : Pu.nameAt D a = some (nm, nx')) (hb : ¬ (Pu.hasName cs nm = true ∨ D.length ≤ nx' ∨ Pu.byteAt D nx' = 3 ∨ 6 < Pu.byteAt D nx')) :
    Pu.col1 D a cs = some (⟨nm, Pu.byteAt D nx' % 4, decide (4 ≤ Pu.byteAt D nx')⟩, nx' + 1) := by
  obtain ⟨z, nx, hv, hz, rfl, rfl, hl⟩ := nameAt_some h
  refine col1_yes hv (fun h' => ?_) (fun h' => hb ?_)
  · rcases h' with h' | h' | h'
    · exact hz (.inl h')
    · exact hz (.inr h')
    · exact hb (.inr (.inl h'))
  · rcases h' with h' | h'
    · exact .inl h'
    · exact .inr (.inr h')

def ColAns (R lb B : Nat) (D : List UInt8) (E : Nat) (cs : List Pu.Col) (ws : List (Nat × Value)) (vr : Value) (r : Option (Pu.Col × Nat)) (e : Ending) (w' : World) : Prop :=
  match r with
  | none => e = .returned (.bool false)
  | some (c, a') => e = .returned (.bool true) ∧ FSt w' R lb B D E a' (cs ++ [c]) ws vr

theorem le_one (D : List UInt8) (a : Nat) (h : a < D.length) : Pu.le ((D.drop a).take 1) = Pu.byteAt D a := by
  rw [List.drop_eq_getElem_cons h, List.take_succ_cons, List.take_zero]
  simp only [Pu.le, Pu.byteAt, List.getD_eq_getElem?_getD, List.getElem?_eq_getElem h, Option.getD_some]
  omega

set_option maxHeartbeats 4000000 in
set_option maxRecDepth 100000 in
theorem fcolumn (R lb B : Nat) (D : List UInt8) (E a : Nat) (cs : List Pu.Col) (ws : List (Nat × Value)) (vr : Value) (w : World) (h : FSt w R lb B D E a cs ws vr) (hcs : cs.length < 20) :
    Calls Tryz.prog 78 #[.pointer (some ⟨R, 0, none⟩)] w fun e w' => ColAns R lb B D E cs ws vr (Pu.col1 D a cs) e w' ∧ Below B w w' := by
  have V : Hid (Calls Tryz.prog 90 #[.pointer (some ⟨R, 0, none⟩)] w fun e w' => NmAns R lb B D E cs ws vr (Pu.nameAt D a) e w' ∧ Below B w w') := fname R lb B D E a cs ws vr w h
  have hBR := h.base
  have hRw := h.lt
  clear h
  cases hn : Pu.nameAt D a with
  | none =>
    have HX : Hid (Pu.col1 D a cs = none) := col1_name_none hn
    rw [hn] at V
    clear hn
    go_enter Tryz.func78, Tryz.ntmps78
    go_wp2_with fail
    refine V.out.mono ?_
    rintro e w' ⟨rfl, hbel⟩
    go_wp2
    go_ret
    exact ⟨by rw [HX.out]; rfl, hbel⟩
  | some pr =>
    obtain ⟨nm, nx⟩ := pr
    have HN : Hid (Pu.nameAt D a = some (nm, nx)) := hn
    rw [hn] at V
    clear hn
    go_enter Tryz.func78, Tryz.ntmps78
    go_wp2_with fail
    refine V.out.mono ?_
    rintro e w1 ⟨⟨rfl, hS⟩, hbel⟩
    have HS : Hid (FSt w1 R lb B D E nx cs ws vr) := hS
    have hle := hS.le
    have hB1 : B ≤ w1.heap.size := Nat.le_trans (Nat.le_trans hBR (Nat.le_of_lt hRw)) hbel.size
    have HH : Hid (Calls Tryz.prog 91 #[.pointer (some ⟨R, 0, none⟩), .string ⟨nm.toArray⟩] w1 fun e w' => e = .returned (.bool (Pu.hasName cs nm)) ∧ Below w1.heap.size w1 w') := by
      exact fhas R lb B D E nx cs ws vr ⟨nm.toArray⟩ w1 hS (by omega)
    clear hS
    go_wp2_with fail
    refine HH.out.mono ?_
    rintro e w2 ⟨rfl, hbel2⟩
    have hbel' : Below B w w2 := hbel.trans (hbel2.mono hB1)
    have HS2 : Hid (FSt w2 R lb B D E nx cs ws vr) := HS.out.below hbel2
    clear hbel hbel2 HS
    cases hh : Pu.hasName cs nm with
    | true =>
      have HX : Hid (Pu.col1 D a cs = none) := col1_name_no HN.out (.inl hh)
      clear hh
      go_wp2
      go_ret
      exact ⟨by rw [HX.out]; rfl, hbel'⟩
    | false =>
      have Hh : Hid (Pu.hasName cs nm = false) := hh
      clear hh
      by_cases hend : D.length ≤ nx
      · have HX : Hid (Pu.col1 D a cs = none) := col1_name_no HN.out (.inr (.inl hend))
        have NO : Hid (Calls Tryz.prog 59 #[.pointer (some ⟨R, 0, none⟩), .int .i64 1] w2 fun e w' => e = .returned (.tuple #[.int .u32 0, .bool false]) ∧ w' = w2) := by
          obtain ⟨ao, cap, vc, hb, ha, hr, hc, ho, hlb, hB⟩ := HS2.out
          exact number_no R 0 1 lb ao cap (D.drop nx) w2 hr (by rw [List.length_drop]; exact hb.c0) (by omega) (by rw [List.length_drop]; omega)
        go_wp2_with fail
        refine NO.out.mono ?_
        rintro e w' ⟨rfl, hw'⟩
        subst w'
        go_wp2
        go_ret
        exact ⟨by rw [HX.out]; rfl, hbel'⟩
      · obtain ⟨b, hbE⟩ : ∃ b, b = Pu.byteAt D nx := ⟨_, rfl⟩
        have Hb : Hid (b = Pu.byteAt D nx) := hbE
        have hb256 : b < 256 := by rw [hbE]; exact Pu.byteAt_lt _ _
        obtain ⟨⟨kb1, kb2⟩, kb3, kb4⟩ := kind_bits ⟨b, hb256⟩
        simp only at kb1 kb2 kb3 kb4
        have NY : Hid (∃ w3, Calls Tryz.prog 59 #[.pointer (some ⟨R, 0, none⟩), .int .i64 1] w2 (fun e w' => e = .returned (.tuple #[.int .u32 (b : Int), .bool true]) ∧ w' = w3) ∧ FSt w3 R lb B D E (nx + 1) cs ws vr ∧ Below B w w3) := by
          obtain ⟨ao, cap, vc, hb, ha, hr, hc, ho, hlb, hB⟩ := HS2.out
          refine ⟨_, ?_, FSt.skip (n := 1) hb (by omega) hr hc ho hlb hB, hbel'.setCell hB _⟩
          have := number_yes R 0 1 lb ao cap (D.drop nx) w2 hr (by rw [List.length_drop]; exact hb.c0) (hb.fz 0) (by omega) (by omega) (by rw [List.length_drop]; omega)
          rw [le_one D nx (by omega), List.length_drop, ← hbE] at this
          exact this
        obtain ⟨w3, N1, N2, N3⟩ := NY.out
        have HN1 : Hid (Calls Tryz.prog 59 #[.pointer (some ⟨R, 0, none⟩), .int .i64 1] w2 (fun e w' => e = .returned (.tuple #[.int .u32 (b : Int), .bool true]) ∧ w' = w3)) := N1
        have HS3 : Hid (FSt w3 R lb B D E (nx + 1) cs ws vr) := N2
        have hB3 : B ≤ w3.heap.size := Nat.le_trans (Nat.le_trans hBR (Nat.le_of_lt hRw)) N3.size
        clear NY N1 N2 HS2 hbE HH V
        by_cases hbad : b = 3 ∨ 6 < b
        · have HX : Hid (Pu.col1 D a cs = none) := col1_name_no HN.out (by rw [← Hb.out]; rcases hbad with h | h <;> simp [h])
          have hk := kb1 hbad
          obtain ⟨kk, hkk⟩ : ∃ kk, bits .andNot .u32 (b : Int) 4 = kk := ⟨_, rfl⟩
          rw [hkk] at hk kb3 kb4
          clear kb1 kb2 hbad
          go_wp2_with fail
          refine HN1.out.mono ?_
          rintro e w' ⟨rfl, hw'⟩
          subst w'
          go_wp2
          go_ret
          exact ⟨by rw [HX.out]; rfl, N3.alloc hB3 _⟩
        · have HX : Hid (Pu.col1 D a cs = some (⟨nm, Pu.byteAt D nx % 4, decide (4 ≤ Pu.byteAt D nx)⟩, nx + 1)) := col1_name_yes HN.out (by rw [← Hb.out, Hh.out]; simp; omega)
          obtain ⟨hk1, hk2⟩ := kb2 hbad
          clear kb1 kb2
          obtain ⟨kk, hkk⟩ : ∃ kk, kk = b % 4 := ⟨_, rfl⟩
          rw [← hkk] at hk1
          have hk3 : kk ≤ 2 := by omega
          have HK : Hid (kk = b % 4) := hkk
          rw [hk1] at kb3 kb4
          obtain ⟨op, hop⟩ : ∃ op, op = decide (4 ≤ b) := ⟨_, rfl⟩
          rw [← hop] at hk2
          have HOp : Hid (op = decide (4 ≤ b)) := hop
          clear hkk hop hbad
          obtain ⟨ao, cap, vc, hb, ha, hr, hc, ho, hlb, hB⟩ := HS3.out.below (w1 := (w3.alloc (.cells #[.string ⟨nm.toArray⟩, .int .i64 (kk : Int), .bool op] 54)).drew) (((Below.refl _ _).alloc (Nat.le_refl _) _).drew)
          obtain ⟨av, cv, rfl⟩ := slen_of hc
          obtain ⟨i0, hi, hz0, hz1, hz2⟩ := info_parts Tryz.info54
          have hBs : B ≤ ((w3.alloc (.cells #[.string ⟨nm.toArray⟩, .int .i64 (kk : Int), .bool op] 54)).drew.alloc (.cells #[.string ⟨nm.toArray⟩, .int .i64 (kk : Int), .bool op] 54)).heap.size := by rw [size_alloc']; show B ≤ (w3.alloc _).heap.size + 1; rw [size_alloc']; omega
          have hsz4 : (w3.alloc (.cells #[.string ⟨nm.toArray⟩, .int .i64 (kk : Int), .bool op] 54)).drew.heap.size = w3.heap.size + 1 := by show (w3.alloc _).heap.size = _; rw [size_alloc']
          have hnew : ∀ (j : Nat) (u : Value), [Value.string ⟨nm.toArray⟩, .int .i64 (kk : Int), .bool op][j]? = some u → ((w3.alloc (.cells #[.string ⟨nm.toArray⟩, .int .i64 (kk : Int), .bool op] 54)).drew.alloc (.cells #[.string ⟨nm.toArray⟩, .int .i64 (kk : Int), .bool op] 54)).cell? ((⟨w3.heap.size + 1, 0, none⟩ : Addr).add j) = some u := three_new hsz4.symm
          obtain ⟨g, cp, w4, run4, own4, gr4, at4⟩ := appendS ((w3.alloc (.cells #[.string ⟨nm.toArray⟩, .int .i64 (kk : Int), .bool op] 54)).drew.alloc (.cells #[.string ⟨nm.toArray⟩, .int .i64 (kk : Int), .bool op] 54)) 22 22 54 i0 (.agg #[.string ByteArray.empty, .int .i64 0, .bool false]) 3 32 B Tryz.underlying22 hi hz0 hz1 hz2 rfl (by decide) _ _ _ (hc.alloc _) ⟨w3.heap.size + 1, 0, none⟩ [.string ⟨nm.toArray⟩, .int .i64 (kk : Int), .bool op] rfl hnew (by intro u hu; simp at hu; rcases hu with rfl | rfl | rfl <;> rfl) 1 (by unfold maxLen; omega) (by omega) hBs
          have HR4 : Hid ((Builtin.append_ #[22, 22] 22 #[.slice av cs.length cv, .slice (some ⟨w3.heap.size + 1, 0, none⟩) 1 1]).run Tryz.prog ((w3.alloc (.cells #[.string ⟨nm.toArray⟩, .int .i64 (kk : Int), .bool op] 54)).alloc (.cells #[.string ⟨nm.toArray⟩, .int .i64 (kk : Int), .bool op] 54)).drew = .ok (.slice (some ⟨g, 0, none⟩) (cs.length + 1) cp) w4) := run4
          have hcv : [Value.string ⟨nm.toArray⟩, .int .i64 (kk : Int), .bool op] = colV ⟨nm, Pu.byteAt D nx % 4, decide (4 ≤ Pu.byteAt D nx)⟩ := by rw [← Hb.out, ← HK.out, ← HOp.out]; rfl
          rw [hcv] at own4
          have hP := FSt.pushC hb ha hr hc ho hlb hB gr4 own4
          have c2 := hb.c1
          have c2b : ((w3.alloc (.cells #[.string ⟨nm.toArray⟩, .int .i64 (kk : Int), .bool op] 54)).alloc (.cells #[.string ⟨nm.toArray⟩, .int .i64 (kk : Int), .bool op] 54)).drew.cell? ⟨R, 1, none⟩ = some (.slice av cs.length cv) := (hb.kept (w' := (w3.alloc (.cells #[.string ⟨nm.toArray⟩, .int .i64 (kk : Int), .bool op] 54)).drew.alloc (.cells #[.string ⟨nm.toArray⟩, .int .i64 (kk : Int), .bool op] 54)) (Below.heap_alloc _ _ R hb.ty.lt)).c1
          have c2' := hP.1.c1
          have f2' := hP.1.fz 1
          have HF : Hid (FSt (w4.setCell ⟨R, 1, none⟩ (.slice (some ⟨g, 0, none⟩) (cs.length + 1) cp)) R lb B D E (nx + 1) (cs ++ [⟨nm, Pu.byteAt D nx % 4, decide (4 ≤ Pu.byteAt D nx)⟩]) ws vr) := hP.2.1
          have HB4 : Hid (Below B w (w4.setCell ⟨R, 1, none⟩ (.slice (some ⟨g, 0, none⟩) (cs.length + 1) cp))) := ((N3.alloc hB3 _).drew).trans hP.2.2
          clear run4 own4 gr4 at4 hP hb hr hc ho hcv hnew hsz4 hBs
          go_wp2_with fail
          refine HN1.out.mono ?_
          rintro e w' ⟨rfl, hw'⟩
          subst w'
          go_wp2
          go_region_law (refine step_append_run rfl (.tmp 44) (.tmp 46) 22 22 rfl _ _ _ _ rfl rfl HR4.out ?_)
          all_goals
            go_wp2
            go_ret
            rw [HX.out]
            exact ⟨⟨rfl, HF.out⟩, HB4.out⟩

end Go.Proofs.YtjobhlncllfdmaaGreat

/- A list behind a list: where the new one lies. -/
namespace Go.Proofs.YtjobhlncllfdmaaGreat
open Go.RowKit

/-- k elements more, of any size: in place, or in a new block and nothing old turned -/
theorem appendM {P : Program} (w : World) (t ty e : TypeId) (i : TypeInfo) (z : Value) (size bytes B : Nat) (ht : P.underlying t = some (.slice e)) (hi : P.info? e = some i) (hz : i.zero = some z) (hsize : i.size = size) (hby : i.bytes = bytes) (hzs : z.cells.size = size) (_hs0 : 0 < size)
    (v : Value) (n : Nat) (xs : List Value) (hown : w.ownsRow B e size v n xs) (ao : Option Addr) (k c B2 : Nat) (ys : List Value) (hsrc2 : w.ownsRow B2 e size (.slice ao k c) k ys) (h1 : ∀ u ∈ ys, u.oneCell' = true) (h63 : n + k ≤ maxLen) (hbytes : (n + k) * bytes ≤ 140737488355328) (hB : B ≤ w.heap.size) :
    ∃ ao' cap w', (Builtin.append_ #[t, t] ty #[v, .slice ao k c]).run P w = .ok (.slice ao' (n + k) cap) w' ∧
      w'.ownsRow B e size (.slice ao' (n + k) cap) (n + k) (xs ++ ys) ∧ w.grownBy w' v.ownBlock ∧ ((Value.slice ao' (n + k) cap).ownBlock = v.ownBlock ∨ (Value.slice ao' (n + k) cap).ownBlock = some w.heap.size ∧ w.grownBy w' none) := by
  have hlx : xs.length = n * size := hown.1
  have hly : ys.length = k * size := hsrc2.1
  have hlen : (xs ++ ys).length = (n + k) * size := by rw [List.length_append, hlx, hly, Nat.add_mul]
  obtain ⟨av, cv, rfl⟩ := slen_of hown
  by_cases hk0 : k = 0
  · subst hk0
    have hy0 : ys = [] := List.eq_nil_of_length_eq_zero (by rw [hly, Nat.zero_mul])
    subst hy0
    have hsrc : Src P i.size t (.slice ao 0 c) 0 [] w := by
      cases ao with
      | none => exact Src.ofNil w ht c
      | some a => exact Src.ofSlice w ht a 0 c [] (by simp) (by simp) (by simp)
    have hle : n ≤ cv := by
      rcases hown.2 with ⟨h, _⟩ | ⟨g, cap', cur, h, _, _, hnc, _⟩
      · simp only [Value.slice.injEq] at h; omega
      · simp only [Value.slice.injEq] at h; omega
    refine ⟨av, cv, w, run_append_nothing w t t ty e i ht hi av n cv hle (.slice ao 0 c) hsrc, by simpa using hown, ⟨rfl, rfl, rfl, Nat.le_refl _, fun _ _ _ => rfl⟩, .inl rfl⟩
  · obtain ⟨gs, caps, he, _, _⟩ := hsrc2.form (by omega)
    simp only [Value.slice.injEq] at he
    obtain ⟨rfl, _, rfl⟩ := he
    have hnews : ∀ j u, ys[j]? = some u → w.cell? ((⟨gs, 0, none⟩ : Addr).add j) = some u := hsrc2.cells (g := gs) rfl
    have hsrc : Src P i.size t (.slice (some ⟨gs, 0, none⟩) k c) k ys w := Src.ofSlice w ht ⟨gs, 0, none⟩ k c ys (by rw [hsize]; exact hly) hnews h1
    have grow : ∀ (base : Option Addr) (sc : Nat), (Builtin.firstCells i.size n (.slice base n sc)).run P w.drew = .ok xs.toArray w.drew → sc < n + k →
        ∃ g cap w', (Builtin.append_ #[t, t] ty #[.slice base n sc, .slice (some ⟨gs, 0, none⟩) k c]).run P w = .ok (.slice (some ⟨g, 0, none⟩) (n + k) cap) w' ∧
        w'.ownsRow B e size (.slice (some ⟨g, 0, none⟩) (n + k) cap) (n + k) (xs ++ ys) ∧ g = w.heap.size ∧ w.grownBy w' none := by
      intro base sc hold hsc
      have hr := run_append_grow_src w t t ty e i z ht hi hz base n sc xs hold (.slice (some ⟨gs, 0, none⟩) k c) k ys hsrc hsc (by unfold maxLen at h63; omega) (by rw [hby]; exact growslice_fits (by omega) hbytes)
      have hge := grownCap_ge w (n + k) sc e
      have hcm : grownCap w (n + k) sc e ≤ maxLen := grownCap_le_maxLen w (n + k) sc e h63
      refine ⟨_, _, _, hr, ⟨hlen, .inr ⟨w.heap.size, _, _, rfl, hB, heap_alloc_new w.drew _, hge, hcm, ?_, ?_⟩⟩, rfl, ⟨rfl, rfl, rfl, by simp, fun k hk _ => Below.heap_alloc w.drew _ k hk⟩⟩
      · simp only [Array.size_append, List.size_toArray, size_zeroCells, hzs]
        rw [hlen, ← Nat.add_mul]
        congr 1; omega
      · simp only [Array.toList_append]
        rw [← hlen]
        exact List.take_left
    rcases hown.2 with ⟨hv, hn0⟩ | ⟨g, cap, cur, hv, hbg, hg, hnc, hcm, hcs, htake⟩
    · simp only [Value.slice.injEq] at hv
      obtain ⟨rfl, rfl, rfl⟩ := hv
      have hx0 : xs = [] := List.eq_nil_of_length_eq_zero (by rw [hlx]; simp)
      subst hx0
      obtain ⟨g, cap, w', h2, h3, h4, h5⟩ := grow none 0 (by simpa using run_firstCells_none (P := P) w.drew i.size 0 0 0) (by omega)
      exact ⟨_, cap, w', h2, h3, ⟨h5.os, h5.tape, h5.output, h5.size, fun k hk _ => h5.block k hk (by simp)⟩, .inr ⟨by rw [← h4]; rfl, h5⟩⟩
    · simp only [Value.slice.injEq, true_and] at hv
      obtain ⟨rfl, rfl⟩ := hv
      by_cases hroom : n + k ≤ cv
      · obtain ⟨w', h2, h3, h4⟩ := run_append_fits w B t ty e i size ht hi hsize g n cv xs hown ⟨gs, 0, none⟩ k c ys hly hnews h1 hroom
        exact ⟨_, cv, w', h2, h3, h4, .inl rfl⟩
      · have holds : ∀ j u, xs[j]? = some u → w.cell? ((⟨g, 0, none⟩ : Addr).add j) = some u := hown.cells (g := g) rfl
        obtain ⟨g', cap', w', h2, h3, h4, h5⟩ := grow (some ⟨g, 0, none⟩) cv (run_firstCells_some w.drew i.size n ⟨g, 0, none⟩ n cv xs (by rw [hsize]; exact hlx) (by simpa using holds)) (by omega)
        exact ⟨_, cap', w', h2, h3, ⟨h5.os, h5.tape, h5.output, h5.size, fun k hk _ => h5.block k hk (by simp)⟩, .inr ⟨by rw [← h4]; rfl, h5⟩⟩

end Go.Proofs.YtjobhlncllfdmaaGreat

/- (*Reader).values: its contract. -/
namespace Go.Proofs.YtjobhlncllfdmaaGreat
open Go.RowKit

theorem ints_cell {w : World} {B : Nat} {ao : Option Addr} {cap : Nat} {l : List Nat} (h : w.ownsRow B 3 1 (.slice ao l.length cap) l.length (ints l)) :
    ∀ k, (hk : k < l.length) → ∃ g, ao = some ⟨g, 0, none⟩ ∧ w.cell? ⟨g, k, none⟩ = some (.int .i64 ((l[k] : Nat) : Int)) ∧ g < w.heap.size := by
  intro k hk
  obtain ⟨g, cap', he, _, _⟩ := h.form (by omega)
  simp only [Value.slice.injEq] at he
  obtain ⟨rfl, _, rfl⟩ := he
  refine ⟨g, rfl, ?_, (own_tyS h rfl).lt⟩
  rw [h.cellAt k (by omega)]
  simp [ints, List.getElem?_eq_getElem hk]

theorem cls_cell' {w : World} {B : Nat} {ao : Option Addr} {cap : Nat} {cs : List Pu.Cl} (h : w.ownsRow B 57 3 (.slice ao cs.length cap) cs.length (clsV cs)) :
    ∀ k, (hk : k < cs.length) → ∃ g, ao = some ⟨g, 0, none⟩ ∧ w.cell? ⟨g, k * 3, none⟩ = some (.bool cs[k].null) ∧ w.cell? ⟨g, k * 3 + 1, none⟩ = some (.int .i64 cs[k].n) ∧ w.cell? ⟨g, k * 3 + 2, none⟩ = some (strV cs[k].s) ∧ g < w.heap.size := by
  intro k hk
  obtain ⟨g, h1, h2, h3, h4⟩ := cls_cell h k hk
  subst h1
  exact ⟨g, rfl, h2, h3, h4, (own_tyS h rfl).lt⟩

theorem clV_eq (c : Pu.Cl) : [Value.bool c.null, .int .i64 c.n, strV c.s] = clV c := rfl

/-- one cell more: the append of a list of one cell, where the box of the cell was drawn -/
theorem cl_push {wr : World} {B : Nat} {ao : Option Addr} {cap k : Nat} {xs : List Value} (hown : wr.ownsRow B 57 3 (.slice ao k cap) k xs) (b : Bool) (n : Int) (s : ByteArray) (hk : k + 1 ≤ 1000000000) (hB : B ≤ wr.heap.size) :
    ∃ g cap' w4, (Builtin.append_ #[47, 47] 47 #[.slice ao k cap, .slice (some ⟨wr.heap.size, 0, none⟩) 1 1]).run Tryz.prog (wr.alloc (.cells #[.bool b, .int .i64 n, .string s] 57)).drew = .ok (.slice (some ⟨g, 0, none⟩) (k + 1) cap') w4 ∧
      w4.ownsRow B 57 3 (.slice (some ⟨g, 0, none⟩) (k + 1) cap') (k + 1) (xs ++ [.bool b, .int .i64 n, .string s]) ∧ (wr.drew.alloc (.cells #[.bool b, .int .i64 n, .string s] 57)).grownBy w4 (Value.slice ao k cap).ownBlock := by
  obtain ⟨i0, hi, hz0, hz1, hz2⟩ := info_parts Tryz.info57
  have hown' : wr.drew.ownsRow B 57 3 (.slice ao k cap) k xs := hown
  obtain ⟨g, cp, w4, run4, own4, gr4, _⟩ := appendS (wr.drew.alloc (.cells #[.bool b, .int .i64 n, .string s] 57)) 47 47 57 i0 (.agg #[.bool false, .int .i64 0, .string ByteArray.empty]) 3 32 B Tryz.underlying47 hi hz0 hz1 hz2 rfl (by decide) _ _ _ (hown'.alloc _) ⟨wr.heap.size, 0, none⟩ [.bool b, .int .i64 n, .string s] rfl (three_new rfl) cl_cells 1 (by unfold maxLen; omega) (by omega) (by rw [size_alloc']; show B ≤ wr.heap.size + 1; omega)
  exact ⟨g, cp, w4, run4, own4, gr4⟩

set_option maxHeartbeats 4000000 in
set_option maxRecDepth 100000 in
theorem values_plain (p : Pu.Pg) (a n r kind : Nat) (nm : ByteArray) (left : Nat) (opt known : Bool) (vd vc : Value) (dict : List Pu.Cl) (w : World) (h : RB w r nm kind opt left vd known vc) (hk : kind ≤ 2) (hb : p.body.length ≤ 1073741824) (ha : a ≤ p.body.length) (hn : n ≤ 100000) (hs : p.sort ≠ 2) :
    Calls Tryz.prog 73 #[.pointer (some ⟨r, 0, none⟩), pgV p, .int .i64 (a : Int), .int .i64 (n : Int)] w fun e w' => VaAns w.heap.size (Pu.vals p.sort kind dict p.body a n) e w' ∧ Below w.heap.size w w' := by
  obtain ⟨so, ce, pa, si, su, bo⟩ := p
  simp only at hb ha hs ⊢
  unfold pgV
  simp only
  obtain ⟨t, ht⟩ : ∃ t : ByteArray, t = ⟨bo.toArray⟩ := ⟨_, rfl⟩
  rw [← ht]
  have hbo : t.data.toList = bo := by rw [ht]
  have hts : t.size = bo.length := by rw [← len_dataB, hbo]
  have HX : Hid (Pu.vals so kind dict bo a n = Pu.plain kind t.data.toList a n) := by unfold Hid Pu.vals; rw [if_pos hs, hbo]
  have hsd : ((so : Int) != 2) = true := by simp; omega
  have PL : Hid (∀ o : Obj, Calls Tryz.prog 88 #[.pointer (some ⟨r, 0, none⟩), .string t, .int .i64 (a : Int), .int .i64 (n : Int)] (w.alloc o) fun e w' => VaAns (w.alloc o).heap.size (Pu.plain kind t.data.toList a n) e w' ∧ Below (w.alloc o).heap.size (w.alloc o) w') := fun o =>
    plain_any t a n r kind nm left opt known vd vc (w.alloc o) (by unfold RB; rw [Below.heap_alloc _ _ _ h.lt]; exact h) hk (by omega) (by omega) hn
  clear h ht hbo hts hs
  cases hp : Pu.plain kind t.data.toList a n with
  | none =>
    rw [hp] at PL HX
    clear hp
    go_enter Tryz.func73, Tryz.ntmps73
    go_wp2_with fail
    refine (PL.out _).mono ?_
    rintro e w3 ⟨⟨v, rfl⟩, hb3⟩
    go_wp2
    go_ret2
    exact ⟨by rw [HX.out]; exact ⟨_, rfl⟩, bself (bbox w _) hb3⟩
  | some l =>
    rw [hp] at PL HX
    clear hp
    go_enter Tryz.func73, Tryz.ntmps73
    go_wp2_with fail
    refine (PL.out _).mono ?_
    rintro e w3 ⟨⟨v, rfl, hown⟩, hb3⟩
    go_wp2
    go_ret2
    exact ⟨by rw [HX.out]; exact ⟨_, rfl, hown.mono (bbox w _).size⟩, bself (bbox w _) hb3⟩

end Go.Proofs.YtjobhlncllfdmaaGreat
