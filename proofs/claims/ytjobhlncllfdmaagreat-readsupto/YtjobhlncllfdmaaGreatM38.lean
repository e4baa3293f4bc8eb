/- The program's reader of a footer: contract of group. -/
import Derived.Test.YtjobhlncllfdmaaGreatM21
namespace Go.Proofs.YtjobhlncllfdmaaGreat
open Go.RowKit

theorem grp_num (D : List UInt8) (E nc a : Nat) : Pu.grp1 D E nc a = match Pu.num D a 1 1000 with | none => none | some (r, a1) => (match Pu.chunksGo D E nc a1 [] with | none => none | some (l, a2) => some ((r, l), a2)) := by
  unfold Pu.grp1 Pu.num
  cases Pu.vi D a with
  | none => rfl
  | some q =>
    obtain ⟨n, a1⟩ := q
    simp only
    split <;> rfl

theorem Tryz.info86 : (Tryz.prog.info? 86).map (fun i => (i.zero, i.size, i.bytes)) = some (some (.agg #[.int .i64 0, .int .i64 0]), 2, 16) := by kernel_rfl
theorem Tryz.info84 : (Tryz.prog.info? 84).map (fun i => (i.zero, i.size, i.bytes)) = some (some (.agg #[.int .i64 0, .slice none 0 0]), 2, 32) := by kernel_rfl

/-- old blocks of places stay -/
def KeepT (w w' : World) : Prop := ∀ k, Ty w k 86 → w'.heap[k]? = w.heap[k]?

def GrAns (R lb B : Nat) (D : List UInt8) (E : Nat) (cs : List Pu.Col) (ws : List (Nat × Value)) (w : World) (r : Option ((Nat × List (Nat × Nat)) × Nat)) (e : Ending) (w' : World) : Prop :=
  match r with
  | none => e = .returned (.bool false)
  | some (g, a') => e = .returned (.bool true) ∧ ∃ vr' vp, FSt w' R lb B D E a' cs (ws ++ [(g.1, vp)]) vr' ∧ w'.ownsRow B 86 2 vp g.2.length (plsV g.2) ∧ KeepT w w'

/-- a place more in the group's own list -/
theorem pl_push {wa w4 : World} {o : Obj} {R lb B G n n' : Nat} {D : List UInt8} {E b : Nat} {cs : List Pu.Col} {ws : List (Nat × Value)} {vr vp v' x : Value} {xs ys : List Value} (hF : FSt wa R lb B D E b cs ws vr) (hG : wa.heap[G]? = some (.cells #[x, vp] 84 (0, 0))) (hvr : ∀ k, vr.ownBlock = some k → k < G) (hBG : B ≤ G)
    (hp : wa.ownsRow G 86 2 vp n xs) (hg : (wa.alloc o).grownBy w4 vp.ownBlock) (ho' : w4.ownsRow G 86 2 v' n' ys) :
    w4.heap[G]? = some (.cells #[x, vp] 84 (0, 0)) ∧ FSt (w4.setCell ⟨G, 1, none⟩ v') R lb B D E b cs ws vr ∧ (w4.setCell ⟨G, 1, none⟩ v').heap[G]? = some (.cells #[x, v'] 84 (0, 0)) ∧ (w4.setCell ⟨G, 1, none⟩ v').ownsRow G 86 2 v' n' ys ∧
      (∀ k, k < G → (w4.setCell ⟨G, 1, none⟩ v').heap[k]? = wa.heap[k]?) ∧ Below B wa (w4.setCell ⟨G, 1, none⟩ v') := by
  have hGl : G < wa.heap.size := (Array.getElem?_eq_some_iff.1 hG).1
  have hGt : Ty wa G 84 := ⟨_, hG⟩
  have hG4 : w4.heap[G]? = some (.cells #[x, vp] 84 (0, 0)) := by rw [agree_step hg hGl (fun e' => Ty.ne (own_tyS hp e') hGt (by decide) rfl)]; exact hG
  have hset : (w4.setCell ⟨G, 1, none⟩ v').heap[G]? = some (.cells #[x, v'] 84 (0, 0)) := by rw [heap_setCell_same w4 G 1 _ _ _ hG4]; rfl
  have hag : ∀ k, k < wa.heap.size → vp.ownBlock ≠ some k → k ≠ G → (w4.setCell ⟨G, 1, none⟩ v').heap[k]? = wa.heap[k]? := fun k h1 h2 h3 => agree_set hg h1 h2 h3
  have hlow : ∀ k, k < G → (w4.setCell ⟨G, 1, none⟩ v').heap[k]? = wa.heap[k]? := fun k hk => hag k (by omega) (fun e' => by have := (hp.lt k e').1; omega) (by omega)
  refine ⟨hG4, ?_, hset, ownsRow_set_other' ho' (fun e' => Ty.ne (own_tyS ho' e') ⟨_, hG4⟩ (by decide) rfl), hlow, ?_⟩
  · obtain ⟨ao, cap, vc, h1, h2, h3, h4, h5, h6, h7⟩ := hF
    have e1 : ∀ t, t ≠ 86 → ∀ k, Ty wa k t → vp.ownBlock ≠ some k := fun t ht k hk e' => Ty.ne (own_tyS hp e') hk (fun e => ht e.symm) rfl
    exact ⟨ao, cap, vc, h1.kept (hag R h1.ty.lt (e1 126 (by decide) R h1.ty) (Ty.ne h1.ty hGt (by decide))), h2, h3.kept (hlow lb (by omega)), own_agreeS h4 (fun k hk => hag k (own_tyS h4 hk).lt (e1 54 (by decide) k (own_tyS h4 hk)) (Ty.ne (own_tyS h4 hk) hGt (by decide))),
      own_agreeS h5 (fun k hk => hlow k (hvr k hk)), h6, h7⟩
  · have hBs : B ≤ wa.heap.size := by omega
    exact (((Below.refl B wa).alloc hBs o).grown hg (by rw [size_alloc']; omega) (fun k e => by have := (hp.lt k e).1; omega)).setCell hBG v'

set_option maxHeartbeats 4000000 in
set_option maxRecDepth 100000 in
theorem fgroup (R lb B : Nat) (D : List UInt8) (E a : Nat) (cs : List Pu.Col) (ws : List (Nat × Value)) (vr : Value) (w : World) (h : FSt w R lb B D E a cs ws vr) (hE : E ≤ 140737488355328) (hcs : cs.length ≤ 20) (hws : ws.length < 50) :
    Calls Tryz.prog 79 #[.pointer (some ⟨R, 0, none⟩)] w fun e w' => GrAns R lb B D E cs ws w (Pu.grp1 D E cs.length a) e w' ∧ Below B w w' := by
  have V : Hid (Calls Tryz.prog 77 #[.pointer (some ⟨R, 0, none⟩), .int .i64 1, .int .i64 1000] w fun e w' => NumAns R lb B D E cs ws vr (Pu.num D a 1 1000) e w' ∧ Below B w w' ∧ KeepR R w w') := fnumberK R lb B D E a 1 1000 cs ws vr w h (by omega) (by omega)
  have HC : Hid (Pu.grp1 D E cs.length a = match Pu.num D a 1 1000 with | none => none | some (r, a1) => (match Pu.chunksGo D E cs.length a1 [] with | none => none | some (l, a2) => some ((r, l), a2))) := grp_num D E cs.length a
  have hBR := h.base
  have hRw := h.lt
  have HRt : Hid (Ty w R 126) := by obtain ⟨_, _, _, hb, _⟩ := h; exact hb.ty
  clear h
  cases hn : Pu.num D a 1 1000 with
  | none =>
    have HX : Hid (Pu.grp1 D E cs.length a = none) := by rw [Hid, HC.out, hn]
    rw [hn] at V
    clear hn HC
    go_enter Tryz.func79, Tryz.ntmps79
    go_wp2_with fail
    refine V.out.mono ?_
    rintro e w' ⟨rfl, hbel, _⟩
    go_wp2
    go_ret
    exact ⟨by rw [HX.out]; rfl, hbel⟩
  | some pr =>
    obtain ⟨r, a1⟩ := pr
    obtain ⟨_, hr1, hr2, _, _⟩ := num_some hn
    rw [hn] at V
    have HC2 : Hid (Pu.grp1 D E cs.length a = match Pu.chunksGo D E cs.length a1 [] with | none => none | some (l, a2) => some ((r, l), a2)) := by rw [Hid, HC.out, hn]
    clear hn HC
    go_enter Tryz.func79, Tryz.ntmps79
    go_wp2_with fail
    refine V.out.mono ?_
    rintro e w1 ⟨⟨rfl, hS⟩, hbel, hkp⟩
    have HS : Hid (FSt w1 R lb B D E a1 cs ws vr) := hS
    have HKp : Hid (KeepR R w w1) := hkp
    obtain ⟨ao, cap, vc, hb, ha, hr, hc, ho, hlb, hB⟩ := hS
    obtain ⟨av, cv, rfl⟩ := slen_of hc
    have HVr : Hid (∀ k, vr.ownBlock = some k → k < w1.heap.size) := fun k hk => (own_tyS ho hk).lt
    have hB1 : B ≤ w1.heap.size := Nat.le_trans (Nat.le_trans hBR (Nat.le_of_lt hRw)) hbel.size
    have c1 : (w1.alloc (.cells #[.int .i64 (r : Int), .slice none 0 0] 84)).cell? ⟨R, 1, none⟩ = some (.slice av cs.length cv) := (hb.kept (w' := w1.alloc (.cells #[.int .i64 (r : Int), .slice none 0 0] 84)) (Below.heap_alloc _ _ _ hb.ty.lt)).c1
    have HS0 : Hid (FSt (w1.alloc (.cells #[.int .i64 (r : Int), .slice none 0 0] 84)) R lb B D E a1 cs ws vr) := HS.out.below ((Below.refl _ _).alloc (Nat.le_refl _) _)
    have HB0 : Hid (Below B w (w1.alloc (.cells #[.int .i64 (r : Int), .slice none 0 0] 84))) := hbel.alloc hB1 _
    have HK0 : Hid (KeepR R w1 (w1.alloc (.cells #[.int .i64 (r : Int), .slice none 0 0] 84))) := fun k hk _ => Below.heap_alloc _ _ _ hk
    have HG0 : Hid ((w1.alloc (.cells #[.int .i64 (r : Int), .slice none 0 0] 84)).heap[w1.heap.size]? = some (.cells #[.int .i64 (r : Int), .slice none 0 0] 84 (0, 0))) := heap_alloc_new w1 _
    have hRw1 : R < w1.heap.size := hb.ty.lt
    have hsz : w.heap.size ≤ w1.heap.size := hbel.size
    clear hb hr hc ho hkp hbel HS V
    go_wp2
    go_loopw [23] (fun i wr => ∃ (b : Nat) (l : List (Nat × Nat)) (ap : Option Addr) (cp : Nat), l.length ≤ cs.length ∧ i = .int .i64 l.length ∧ Hid (Pu.chunksGo D E cs.length a1 [] = Pu.chunksGo D E (cs.length - l.length) b l) ∧ Hid (FSt wr R lb B D E b cs ws vr) ∧ Hid (Below B w wr) ∧ Hid (KeepR R w1 wr) ∧ Hid (wr.heap[w1.heap.size]? = some (.cells #[.int .i64 (r : Int), .slice ap l.length cp] 84 (0, 0))) ∧ Hid (wr.ownsRow w1.heap.size 86 2 (.slice ap l.length cp) l.length (plsV l))) (fun i _ => cs.length - (intOf i).toNat)
    case atStart => exact ⟨a1, [], none, 0, by simp, rfl, rfl, HS0, HB0, HK0, HG0, World.ownsRow_nil _ _ _ _⟩
    case round =>
      obtain ⟨b, l, ap, cp, hll, rfl, HG, HF, HB, HK, HGr, HP⟩ := hrel
      by_cases hk : l.length < cs.length
      · have PG : Hid (Calls Tryz.prog 92 #[.pointer (some ⟨R, 0, none⟩)] wr fun e w' => PlAns R lb B D E cs ws vr (Pu.chunk1 D E b) e w' ∧ Below B wr w' ∧ KeepR R wr w') := fplace R lb B D E b cs ws vr wr HF.out hE
        cases hc : Pu.chunk1 D E b with
        | none =>
          have HY : Hid (Pu.grp1 D E cs.length a = none) := by rw [Hid, HC2.out, HG.out, chunksGo_no (by omega) hc]
          rw [hc] at PG
          clear hc
          go_wp2_with fail
          refine PG.out.mono ?_
          rintro e w2 ⟨⟨x, y, rfl⟩, hb2, _⟩
          have hb3 := HB.out.trans hb2
          have hB3 : B ≤ w2.heap.size := Nat.le_trans (Nat.le_trans hBR (Nat.le_of_lt hRw)) hb3.size
          clear hb2
          go_wp2
          go_ret
          exact ⟨by rw [HY.out]; rfl, hb3.alloc hB3 _⟩
        | some p =>
          obtain ⟨⟨p, q⟩, b'⟩ := p
          have HY : Hid (Pu.chunksGo D E cs.length a1 [] = Pu.chunksGo D E (cs.length - (l ++ [(p, q)]).length) b' (l ++ [(p, q)])) := by rw [Hid, HG.out, chunksGo_yes (by omega) hc]; simp [Nat.sub_sub]
          rw [hc] at PG
          clear hc
          go_wp2_with fail
          refine PG.out.mono ?_
          rintro e w2 ⟨⟨rfl, hS2⟩, hb2, hk2⟩
          have hs1 : w1.heap.size < wr.heap.size := (Array.getElem?_eq_some_iff.1 HGr.out).1
          have hs2 : wr.heap.size ≤ w2.heap.size := hb2.size
          obtain ⟨wa, hwa⟩ : ∃ wa, wa = w2.alloc (.cells #[.int .i64 (p : Int), .int .i64 (q : Int)] 86) := ⟨_, rfl⟩
          have hbw : Below w2.heap.size w2 wa := by rw [hwa]; exact (Below.refl _ _).alloc (Nat.le_refl _) _
          have hFa : FSt wa R lb B D E b' cs ws vr := hS2.below hbw
          have hGa : wa.heap[w1.heap.size]? = some (.cells #[.int .i64 (r : Int), .slice ap l.length cp] 84 (0, 0)) := by
            rw [hbw.block _ (by omega), hk2 _ hs1 (by omega)]; exact HGr.out
          have hPa : wa.ownsRow w1.heap.size 86 2 (.slice ap l.length cp) l.length (plsV l) := own_agreeS HP.out (fun k hk => by
            have := (own_tyS HP.out hk).lt
            rw [hbw.block k (by omega), hk2 k this (by have := (HP.out.lt k hk).1; omega)])
          have hsa : wa.heap.size = w2.heap.size + 1 := by rw [hwa, size_alloc']
          obtain ⟨i0, hi, hz0, hz1, hz2⟩ := info_parts Tryz.info86
          have d1 := cell_of_row _ _ 1 _ _ _ hGa
          rw [hwa] at d1
          simp only [List.getElem?_toArray, List.getElem?_cons_zero, List.getElem?_cons_succ] at d1
          have HFa : Hid (FSt wa R lb B D E b' cs ws vr) := hFa
          have HGa : Hid (wa.heap[w1.heap.size]? = some (.cells #[.int .i64 (r : Int), .slice ap l.length cp] 84 (0, 0))) := hGa
          have HKa : Hid (KeepR R w1 wa ∧ Below B w wa) := ⟨fun k h1 h2 => by rw [hbw.block k (by omega), hk2 k (by omega) h2]; exact HK.out k h1 h2, HB.out.trans (hb2.trans (hbw.mono (by omega)))⟩
          clear hbw hFa hGa hS2 hb2 hk2 PG
          rw [hwa] at hPa HFa HGa HKa hsa
          clear hwa wa
          go_wp2_with (first
            | (at_builtin; refine wpList_append_own _ rfl _ _ 82 rfl w1.heap.size 86 i0 (.agg #[.int .i64 0, .int .i64 0]) 2 16 Tryz.underlying82 hi hz0 hz1 hz2 rfl (by decide) _ _ _ rfl (hPa.alloc _) ⟨_, 0, none⟩ 1 1 [.int .i64 (p : Int), .int .i64 (q : Int)] rfl rfl ?d1 ?d2 ?d3 ?d4 ?d5 ?_)
            | go_in)
          case d1 => exact two_new (by simp)
          case d2 => intro u hu; simp at hu; rcases hu with rfl | rfl <;> rfl
          case d3 => unfold maxLen; omega
          case d4 => omega
          case d5 => rw [size_alloc', hsa]; omega
          intro v' w4 own4 gr4 hnn
          clear hnn
          obtain ⟨ap5, cp5, hv5⟩ := slen_of own4
          rw [hv5] at own4 ⊢
          clear hv5 v'
          obtain ⟨q1, q2, q3, q4, q5, q6⟩ := pl_push HFa.out HGa.out HVr.out hB1 hPa gr4 own4
          have d2 := cell_of_row _ _ 1 _ _ _ q1
          have f2 := frozen_of_row _ _ 1 _ _ q1
          simp only [List.getElem?_toArray, List.getElem?_cons_zero, List.getElem?_cons_succ] at d2
          have HF4 : Hid (FSt (w4.setCell ⟨w1.heap.size, 1, none⟩ (.slice ap5 (l.length + 1) cp5)) R lb B D E b' cs ws vr) := q2
          have HG4 : Hid ((w4.setCell ⟨w1.heap.size, 1, none⟩ (.slice ap5 (l.length + 1) cp5)).heap[w1.heap.size]? = some (.cells #[.int .i64 (r : Int), .slice ap5 (l ++ [(p, q)]).length cp5] 84 (0, 0))) := by rw [Hid, List.length_append]; exact q3
          have HP4 : Hid ((w4.setCell ⟨w1.heap.size, 1, none⟩ (.slice ap5 (l.length + 1) cp5)).ownsRow w1.heap.size 86 2 (.slice ap5 (l ++ [(p, q)]).length cp5) (l ++ [(p, q)]).length (plsV (l ++ [(p, q)]))) := by rw [Hid, List.length_append, plsV_snoc]; exact q4
          have HK4 : Hid (KeepR R w1 (w4.setCell ⟨w1.heap.size, 1, none⟩ (.slice ap5 (l.length + 1) cp5))) := fun k h1 h2 => by rw [q5 k h1]; exact HKa.out.1 k h1 h2
          have HB4 : Hid (Below B w (w4.setCell ⟨w1.heap.size, 1, none⟩ (.slice ap5 (l.length + 1) cp5))) := HKa.out.2.trans q6
          clear own4 gr4 q1 q2 q3 q4 q5 q6 hPa hsa HFa HGa HKa
          go_wp2
          go_roundw
          case rel => exact ⟨b', l ++ [(p, q)], _, _, by simp; omega, by simp, HY, HF4, HB4, HK4, HG4, HP4⟩
          case measure => simp [intOf]; omega
      · have hle : l.length = cs.length := by omega
        have HY : Hid (Pu.grp1 D E cs.length a = some ((r, l), b)) := by rw [Hid, HC2.out, HG.out, hle, Nat.sub_self]; rfl
        clear hle
        have hs1 : w1.heap.size < wr.heap.size := (Array.getElem?_eq_some_iff.1 HGr.out).1
        have hBw : B ≤ wr.heap.size := by omega
        obtain ⟨ao, cap, vc, hb, ha, hr, hc, ho, hlb, hB⟩ := HF.out
        obtain ⟨ar, cr, hvr⟩ := slen_of ho
        rw [hvr] at hb ho
        have c2 := hb.c2
        have e0 := cell_of_row _ _ 0 _ _ _ HGr.out
        have e1 := cell_of_row _ _ 1 _ _ _ HGr.out
        simp only [List.getElem?_toArray, List.getElem?_cons_zero, List.getElem?_cons_succ] at e0 e1
        obtain ⟨i0, hi, hz0, hz1, hz2⟩ := info_parts Tryz.info84
        obtain ⟨g, cp', w4, run4, own4, gr4, at4⟩ := appendS (wr.drew.alloc (.cells #[.int .i64 (r : Int), .slice ap l.length cp] 84)) 75 75 84 i0 (.agg #[.int .i64 0, .slice none 0 0]) 2 32 B Tryz.underlying75 hi hz0 hz1 hz2 rfl (by decide) _ _ _ (World.ownsRow.alloc (w := wr.drew) ho _) ⟨wr.heap.size, 0, none⟩ [.int .i64 (r : Int), .slice ap l.length cp] rfl (two_new rfl) (by intro u hu; simp at hu; rcases hu with rfl | rfl <;> rfl) 1 (by unfold maxLen; omega) (by omega) (by rw [size_alloc']; show B ≤ wr.heap.size + 1; omega)
        have HR4 : Hid ((Builtin.append_ #[75, 75] 75 #[.slice ar ws.length cr, .slice (some ⟨wr.heap.size, 0, none⟩) 1 1]).run Tryz.prog (wr.alloc (.cells #[.int .i64 (r : Int), .slice ap l.length cp] 84)).drew = .ok (.slice (some ⟨g, 0, none⟩) (ws.length + 1) cp') w4) := run4
        have hbd : Rd wr.drew R (.slice ao (D.length - b) cap) E vc (.slice ar ws.length cr) := hb
        have hP := FSt.pushR (w := wr.drew) (r := (r, .slice ap l.length cp)) hbd ha hr hc ho hlb hB gr4 own4
        have c2' := hP.1.c2
        have f2' := hP.1.fz 2
        have c2b : (wr.alloc (.cells #[.int .i64 (r : Int), .slice ap l.length cp] 84)).drew.cell? ⟨R, 2, none⟩ = some (.slice ar ws.length cr) := (hb.kept (w' := wr.alloc (.cells #[.int .i64 (r : Int), .slice ap l.length cp] 84)) (Below.heap_alloc _ _ R hb.ty.lt)).c2
        have HFn : Hid (FSt (w4.setCell ⟨R, 2, none⟩ (.slice (some ⟨g, 0, none⟩) (ws.length + 1) cp')) R lb B D E b cs (ws ++ [(r, .slice ap l.length cp)]) (.slice (some ⟨g, 0, none⟩) (ws.length + 1) cp')) := hP.2.1
        have HBn : Hid (Below B w (w4.setCell ⟨R, 2, none⟩ (.slice (some ⟨g, 0, none⟩) (ws.length + 1) cp'))) := HB.out.drew.trans hP.2.2
        have hag : ∀ k, Ty wr k 86 → (w4.setCell ⟨R, 2, none⟩ (.slice (some ⟨g, 0, none⟩) (ws.length + 1) cp')).heap[k]? = wr.heap[k]? := fun k hk =>
          agree_set (w := wr.drew) gr4 hk.lt (fun e' => Ty.ne (own_tyS ho e') hk (by decide) rfl) (Ty.ne hk hb.ty (by decide))
        have HPn : Hid ((w4.setCell ⟨R, 2, none⟩ (.slice (some ⟨g, 0, none⟩) (ws.length + 1) cp')).ownsRow B 86 2 (.slice ap l.length cp) l.length (plsV l)) := (own_agreeS HP.out (fun k hk => hag k (own_tyS HP.out hk))).mono hB1
        have HTn : Hid (KeepT w (w4.setCell ⟨R, 2, none⟩ (.slice (some ⟨g, 0, none⟩) (ws.length + 1) cp'))) := fun k hk => by
          have hkR : k ≠ R := Ty.ne hk HRt.out (by decide)
          have h1 : w1.heap[k]? = w.heap[k]? := HKp.out k hk.lt hkR
          have h2 : wr.heap[k]? = w.heap[k]? := by rw [HK.out k (Nat.lt_of_lt_of_le hk.lt hsz) hkR]; exact h1
          rw [hag k (by obtain ⟨c, hc⟩ := hk; exact ⟨c, by rw [h2]; exact hc⟩)]; exact h2
        clear run4 own4 gr4 at4 hP hb hr hc ho hbd hag HF HGr HP HK
        go_wp2
        go_region_law (refine step_append_run rfl (.tmp 44) (.tmp 46) 75 75 rfl _ _ _ _ rfl rfl HR4.out ?_)
        all_goals
          go_wp2
          go_ret
          rw [HY.out]
          exact ⟨⟨rfl, _, _, HFn.out, HPn.out, HTn.out⟩, HBn.out⟩

end Go.Proofs.YtjobhlncllfdmaaGreat

/- The program's reader of a footer: contracts of groups, whole. -/
namespace Go.Proofs.YtjobhlncllfdmaaGreat
open Go.RowKit

/-- the groups' places -/
def GL (w : World) (B : Nat) (ws : List (Nat × Value)) (gs : List (Nat × List (Nat × Nat))) : Prop :=
  ws.length = gs.length ∧ ∀ (i : Nat) p g, ws[i]? = some p → gs[i]? = some g → p.1 = g.1 ∧ w.ownsRow B 86 2 p.2 g.2.length (plsV g.2)
theorem GL.nil {w : World} {B : Nat} : GL w B [] [] := ⟨rfl, fun i p g h _ => by simp at h⟩
theorem GL.kept {w w' : World} {B : Nat} {ws : List (Nat × Value)} {gs : List (Nat × List (Nat × Nat))} (h : GL w B ws gs) (hw : KeepT w w') : GL w' B ws gs :=
  ⟨h.1, fun i p g h1 h2 => ⟨(h.2 i p g h1 h2).1, own_agreeS (h.2 i p g h1 h2).2 (fun k hk => hw k (own_tyS (h.2 i p g h1 h2).2 hk))⟩⟩
theorem GL.mono {w : World} {B B' : Nat} {ws : List (Nat × Value)} {gs : List (Nat × List (Nat × Nat))} (h : GL w B ws gs) (hB : B' ≤ B) : GL w B' ws gs :=
  ⟨h.1, fun i p g h1 h2 => ⟨(h.2 i p g h1 h2).1, (h.2 i p g h1 h2).2.mono hB⟩⟩
theorem GL.snoc {w w' : World} {B : Nat} {ws : List (Nat × Value)} {gs : List (Nat × List (Nat × Nat))} {p : Nat × Value} {g : Nat × List (Nat × Nat)} (h : GL w B ws gs) (hw : KeepT w w') (h1 : p.1 = g.1) (h2 : w'.ownsRow B 86 2 p.2 g.2.length (plsV g.2)) : GL w' B (ws ++ [p]) (gs ++ [g]) := by
  have hk := h.kept hw
  refine ⟨by simp [h.1], fun i q f hq hf => ?_⟩
  have hl := h.1
  rcases Nat.lt_trichotomy i ws.length with hi | hi | hi
  · rw [List.getElem?_append_left hi] at hq
    rw [List.getElem?_append_left (by omega)] at hf
    exact hk.2 i q f hq hf
  · rw [List.getElem?_append_right (by omega), show i - ws.length = 0 by omega] at hq
    rw [List.getElem?_append_right (by omega), show i - gs.length = 0 by omega] at hf
    simp only [List.getElem?_cons_zero, Option.some.injEq] at hq hf
    subst hq hf
    exact ⟨h1, h2⟩
  · rw [List.getElem?_append_right (by omega), List.getElem?_eq_none (by simp; omega)] at hq
    cases hq

/-- groups, up to a place -/
def Pu.grpsUp (D : List UInt8) (E nc a : Nat) : Option (List (Nat × List (Nat × Nat)) × Nat) :=
  match Pu.num D a 0 50 with
  | none => none
  | some (n, a1) => Pu.grpsGo D E nc n a1 []

theorem grps_up (D : List UInt8) (E nc a : Nat) : Pu.grps D E nc a = match Pu.grpsUp D E nc a with | none => none | some (gs, a2) => if a2 = D.length then some gs else none := by
  unfold Pu.grps Pu.grpsUp Pu.num
  cases Pu.vi D a with
  | none => rfl
  | some q =>
    obtain ⟨n, a1⟩ := q
    simp only
    by_cases h : 50 < n
    · rw [if_pos h, if_pos (.inr h)]
    · rw [if_neg h, if_neg (by omega)]
      rfl

def GrsAns (R lb B : Nat) (D : List UInt8) (E : Nat) (cs : List Pu.Col) (r : Option (List (Nat × List (Nat × Nat)) × Nat)) (e : Ending) (w' : World) : Prop :=
  match r with
  | none => e = .returned (.bool false)
  | some (gs, a') => e = .returned (.bool true) ∧ ∃ ws vr, FSt w' R lb B D E a' cs ws vr ∧ GL w' B ws gs

set_option maxHeartbeats 2000000 in
set_option maxRecDepth 100000 in
theorem fgroups (R lb B : Nat) (D : List UInt8) (E a : Nat) (cs : List Pu.Col) (w : World) (h : FSt w R lb B D E a cs [] (.slice none 0 0)) (hE : E ≤ 140737488355328) (hcs : cs.length ≤ 20) :
    Calls Tryz.prog 62 #[.pointer (some ⟨R, 0, none⟩)] w fun e w' => GrsAns R lb B D E cs (Pu.grpsUp D E cs.length a) e w' ∧ Below B w w' := by
  have V : Hid (Calls Tryz.prog 77 #[.pointer (some ⟨R, 0, none⟩), .int .i64 0, .int .i64 50] w fun e w' => NumAns R lb B D E cs [] (.slice none 0 0) (Pu.num D a 0 50) e w' ∧ Below B w w') := fnumber R lb B D E a 0 50 cs [] (.slice none 0 0) w h (by omega) (by omega)
  clear h
  cases hn : Pu.num D a 0 50 with
  | none =>
    have HX : Hid (Pu.grpsUp D E cs.length a = none) := by simp [Hid, Pu.grpsUp, hn]
    rw [hn] at V
    clear hn
    go_enter Tryz.func62, Tryz.ntmps62
    go_wp2_with fail
    refine V.out.mono ?_
    rintro e w' ⟨rfl, hbel⟩
    go_wp2
    go_ret
    exact ⟨by rw [HX.out]; rfl, hbel⟩
  | some pr =>
    obtain ⟨N, a0⟩ := pr
    have HX : Hid (Pu.grpsUp D E cs.length a = Pu.grpsGo D E cs.length N a0 []) := by simp [Hid, Pu.grpsUp, hn]
    obtain ⟨_, hN1, hN2, _, _⟩ := num_some hn
    rw [hn] at V
    clear hn
    go_enter Tryz.func62, Tryz.ntmps62
    go_wp2_with fail
    refine V.out.mono ?_
    rintro e w1 ⟨⟨rfl, hS⟩, hbel⟩
    have HS : Hid (FSt w1 R lb B D E a0 cs [] (.slice none 0 0)) := hS
    clear hS
    go_wp2
    go_loopw [13] (fun i wr => ∃ (a : Nat) (gs : List (Nat × List (Nat × Nat))) (ws : List (Nat × Value)) (vr : Value), gs.length ≤ N ∧ i = .int .i64 gs.length ∧ Hid (Pu.grpsGo D E cs.length N a0 [] = Pu.grpsGo D E cs.length (N - gs.length) a gs) ∧ Hid (FSt wr R lb B D E a cs ws vr) ∧ Hid (GL wr B ws gs) ∧ Hid (Below B w wr)) (fun i _ => N - (intOf i).toNat)
    case atStart => exact ⟨a0, [], [], _, by simp, rfl, rfl, HS, GL.nil, hbel⟩
    case round =>
      obtain ⟨b, gs, ws, vr, hcl, rfl, HG, HF, HGL, HB⟩ := hrel
      by_cases hk : gs.length < N
      · have CO : Hid (Calls Tryz.prog 79 #[.pointer (some ⟨R, 0, none⟩)] wr fun e w' => GrAns R lb B D E cs ws wr (Pu.grp1 D E cs.length b) e w' ∧ Below B wr w') := fgroup R lb B D E b cs ws vr wr HF.out hE hcs (by rw [HGL.out.1]; omega)
        cases hc : Pu.grp1 D E cs.length b with
        | none =>
          have HY : Hid (Pu.grpsUp D E cs.length a = none) := by rw [Hid, HX.out, HG.out]; exact grpsGo_no (by omega) hc
          rw [hc] at CO
          clear hc
          go_wp2_with fail
          refine CO.out.mono ?_
          rintro e w2 ⟨rfl, hb2⟩
          have hb3 := HB.out.trans hb2
          clear hb2
          go_wp2
          go_ret
          exact ⟨by rw [HY.out]; rfl, hb3⟩
        | some p =>
          obtain ⟨g, b'⟩ := p
          have HY : Hid (Pu.grpsGo D E cs.length N a0 [] = Pu.grpsGo D E cs.length (N - (gs ++ [g]).length) b' (gs ++ [g])) := by rw [Hid, HG.out, grpsGo_yes (by omega) hc]; simp [Nat.sub_sub]
          rw [hc] at CO
          clear hc
          go_wp2_with fail
          refine CO.out.mono ?_
          rintro e w2 ⟨⟨rfl, vr2, vp, hS2, hP2, hT2⟩, hb2⟩
          have HS2 : Hid (FSt w2 R lb B D E b' cs (ws ++ [(g.1, vp)]) vr2) := hS2
          have HGL2 : Hid (GL w2 B (ws ++ [(g.1, vp)]) (gs ++ [g])) := HGL.out.snoc hT2 rfl hP2
          have HB2 : Hid (Below B w w2) := HB.out.trans hb2
          clear hb2 hS2 hP2 hT2
          go_wp2
          go_roundw
          case rel => exact ⟨b', gs ++ [g], _, _, by simp; omega, by simp, HY, HS2, HGL2, HB2⟩
          case measure => simp [intOf]; omega
      · obtain rfl : gs.length = N := by omega
        have HY : Hid (Pu.grpsUp D E cs.length a = some (gs, b)) := by rw [Hid, HX.out, HG.out, Nat.sub_self]; rfl
        go_wp2
        go_ret
        rw [HY.out]
        exact ⟨⟨rfl, _, _, HF.out, HGL.out⟩, HB.out⟩

def WhAns (R lb B : Nat) (D : List UInt8) (E : Nat) (r : Option (List Pu.Col × List (Nat × List (Nat × Nat)))) (e : Ending) (w' : World) : Prop :=
  match r with
  | none => e = .returned (.bool false)
  | some (cs, gs) => e = .returned (.bool true) ∧ ∃ ws vr, FSt w' R lb B D E D.length cs ws vr ∧ GL w' B ws gs

set_option maxHeartbeats 2000000 in
set_option maxRecDepth 100000 in
theorem fwhole (R lb B : Nat) (D : List UInt8) (E : Nat) (w : World) (h : FSt w R lb B D E 0 [] [] (.slice none 0 0)) (hE : E ≤ 140737488355328) :
    Calls Tryz.prog 48 #[.pointer (some ⟨R, 0, none⟩)] w fun e w' => WhAns R lb B D E (Pu.foot D E) e w' ∧ Below B w w' := by
  have V : Hid (Calls Tryz.prog 61 #[.pointer (some ⟨R, 0, none⟩)] w fun e w' => ColsAnsP R lb B D E [] (.slice none 0 0) (Pu.cols D) e w' ∧ Below B w w') := fcolumns R lb B D E [] (.slice none 0 0) w h
  clear h
  cases hc : Pu.cols D with
  | none =>
    have HX : Hid (Pu.foot D E = none) := by simp [Hid, Pu.foot, hc]
    rw [hc] at V
    clear hc
    go_enter Tryz.func48, Tryz.ntmps48
    go_wp2_with fail
    refine V.out.mono ?_
    rintro e w' ⟨rfl, hbel⟩
    go_wp2
    go_ret
    exact ⟨by rw [HX.out]; rfl, hbel⟩
  | some pr =>
    obtain ⟨cs, a⟩ := pr
    obtain ⟨_, hcs, _⟩ := Pu.cols_spec hc
    rw [hc] at V
    have HF0 : Hid (Pu.foot D E = match Pu.grpsUp D E cs.length a with | none => none | some (gs, a2) => if a2 = D.length then some (cs, gs) else none) := by
      simp only [Hid, Pu.foot, hc, grps_up]
      cases Pu.grpsUp D E cs.length a with
      | none => rfl
      | some q =>
        obtain ⟨gs, a2⟩ := q
        simp only
        by_cases h : a2 = D.length
        · rw [if_pos h, if_pos h]
        · rw [if_neg h, if_neg h]
    clear hc
    go_enter Tryz.func48, Tryz.ntmps48
    go_wp2_with fail
    refine V.out.mono ?_
    rintro e w1 ⟨⟨rfl, hS⟩, hbel⟩
    have G : Hid (Calls Tryz.prog 62 #[.pointer (some ⟨R, 0, none⟩)] w1 fun e w' => GrsAns R lb B D E cs (Pu.grpsUp D E cs.length a) e w' ∧ Below B w1 w') := fgroups R lb B D E a cs w1 hS hE hcs
    clear hS
    cases hg : Pu.grpsUp D E cs.length a with
    | none =>
      have HX : Hid (Pu.foot D E = none) := by rw [Hid, HF0.out, hg]
      rw [hg] at G
      clear hg HF0
      go_wp2_with fail
      refine G.out.mono ?_
      rintro e w2 ⟨rfl, hb2⟩
      have hb3 := hbel.trans hb2
      clear hb2 hbel
      go_wp2
      go_ret
      exact ⟨by rw [HX.out]; rfl, hb3⟩
    | some q =>
      obtain ⟨gs, a2⟩ := q
      have HF1 : Hid (Pu.foot D E = if a2 = D.length then some (cs, gs) else none) := by rw [Hid, HF0.out, hg]
      rw [hg] at G
      clear hg HF0
      go_wp2_with fail
      refine G.out.mono ?_
      rintro e w2 ⟨⟨rfl, ws, vr, hS2, hL2⟩, hb2⟩
      have HL2 : Hid (GL w2 B ws gs) := hL2
      have hb3 := hbel.trans hb2
      have hle := hS2.le
      have L : Hid (Calls Tryz.prog 63 #[.pointer (some ⟨R, 0, none⟩)] w2 fun e w' => e = .returned (.int .i64 ((D.length - a2 : Nat) : Int)) ∧ w' = w2) := by
        obtain ⟨ao, cap, vc, hb, _⟩ := hS2
        exact left_any R 0 ao (D.length - a2) cap w2 hb.c0
      have HS2 : Hid (FSt w2 R lb B D E a2 cs ws vr) := hS2
      clear hb2 hbel hS2 hL2
      by_cases hend : a2 = D.length
      · have HX : Hid (Pu.foot D E = some (cs, gs)) := by rw [Hid, HF1.out, if_pos hend]
        have hz : D.length - a2 = 0 := by omega
        rw [hz] at L
        rw [hend] at HS2
        clear hend HF1 hz
        go_wp2_with fail
        refine L.out.mono ?_
        rintro e w' ⟨rfl, hw'⟩
        subst w'
        go_wp2
        go_ret
        rw [HX.out]
        exact ⟨⟨rfl, _, _, HS2.out, HL2.out⟩, hb3⟩
      · have HX : Hid (Pu.foot D E = none) := by rw [Hid, HF1.out, if_neg hend]
        obtain ⟨k, hk⟩ : ∃ k, k = D.length - a2 := ⟨_, rfl⟩
        have hk0 : 0 < k := by omega
        have hkd : ((k : Int) == 0) = false := by simp; omega
        rw [← hk] at L
        clear hend HF1 hk
        go_wp2_with fail
        refine L.out.mono ?_
        rintro e w' ⟨rfl, hw'⟩
        subst w'
        go_wp2
        go_ret
        exact ⟨by rw [HX.out]; rfl, hb3⟩

end Go.Proofs.YtjobhlncllfdmaaGreat
