/- The program's reader of a footer: contract of group. -/
import Derived.Test.YtjobhlncllfdmaaFtD
namespace Go.Proofs.Ytjobhlncllfdmaa
open Go.RowKit

theorem grp_num (D : List UInt8) (E nc a : Nat) : Pu.grp1 D E nc a = match Pu.num D a 1 1000 with | none => none | some (r, a1) => (match Pu.chunksGo D E nc a1 [] with | none => none | some (l, a2) => some ((r, l), a2)) := by
  unfold Pu.grp1 Pu.num
  cases Pu.vi D a with
  | none => rfl
  | some q =>
    obtain ⟨n, a1⟩ := q
    simp only
    split <;> rfl

theorem Try.info158 : (Try.prog.info? 158).map (fun i => (i.zero, i.size, i.bytes)) = some (some (.agg #[.int .i64 0, .int .i64 0]), 2, 16) := by kernel_rfl
theorem Try.info105 : (Try.prog.info? 105).map (fun i => (i.zero, i.size, i.bytes)) = some (some (.agg #[.int .i64 0, .slice none 0 0]), 2, 32) := by kernel_rfl

/-- old blocks of places stay -/
def KeepT (w w' : World) : Prop := ∀ k, Ty w k 158 → w'.heap[k]? = w.heap[k]?

def GrAns (R lb B : Nat) (D : List UInt8) (E : Nat) (cs : List Pu.Col) (ws : List (Nat × Value)) (w : World) (r : Option ((Nat × List (Nat × Nat)) × Nat)) (e : Ending) (w' : World) : Prop :=
  match r with
  | none => e = .returned (.bool false)
  | some (g, a') => e = .returned (.bool true) ∧ ∃ vr' vp, FSt w' R lb B D E a' cs (ws ++ [(g.1, vp)]) vr' ∧ w'.ownsRow B 158 2 vp g.2.length (plsV g.2) ∧ KeepT w w'

/-- a place more in the group's own list -/
theorem pl_push {wa w4 : World} {o : Obj} {R lb B G n n' : Nat} {D : List UInt8} {E b : Nat} {cs : List Pu.Col} {ws : List (Nat × Value)} {vr vp v' x : Value} {xs ys : List Value} (hF : FSt wa R lb B D E b cs ws vr) (hG : wa.heap[G]? = some (.cells #[x, vp] 105 (0, 0))) (hvr : ∀ k, vr.ownBlock = some k → k < G) (hBG : B ≤ G)
    (hp : wa.ownsRow G 158 2 vp n xs) (hg : (wa.alloc o).grownBy w4 vp.ownBlock) (ho' : w4.ownsRow G 158 2 v' n' ys) :
    w4.heap[G]? = some (.cells #[x, vp] 105 (0, 0)) ∧ FSt (w4.setCell ⟨G, 1, none⟩ v') R lb B D E b cs ws vr ∧ (w4.setCell ⟨G, 1, none⟩ v').heap[G]? = some (.cells #[x, v'] 105 (0, 0)) ∧ (w4.setCell ⟨G, 1, none⟩ v').ownsRow G 158 2 v' n' ys ∧
      (∀ k, k < G → (w4.setCell ⟨G, 1, none⟩ v').heap[k]? = wa.heap[k]?) ∧ Below B wa (w4.setCell ⟨G, 1, none⟩ v') := by
  have hGl : G < wa.heap.size := (Array.getElem?_eq_some_iff.1 hG).1
  have hGt : Ty wa G 105 := ⟨_, hG⟩
  have hG4 : w4.heap[G]? = some (.cells #[x, vp] 105 (0, 0)) := by rw [agree_step hg hGl (fun e' => Ty.ne (own_tyS hp e') hGt (by decide) rfl)]; exact hG
  have hset : (w4.setCell ⟨G, 1, none⟩ v').heap[G]? = some (.cells #[x, v'] 105 (0, 0)) := by rw [heap_setCell_same w4 G 1 _ _ _ hG4]; rfl
  have hag : ∀ k, k < wa.heap.size → vp.ownBlock ≠ some k → k ≠ G → (w4.setCell ⟨G, 1, none⟩ v').heap[k]? = wa.heap[k]? := fun k h1 h2 h3 => agree_set hg h1 h2 h3
  have hlow : ∀ k, k < G → (w4.setCell ⟨G, 1, none⟩ v').heap[k]? = wa.heap[k]? := fun k hk => hag k (by omega) (fun e' => by have := (hp.lt k e').1; omega) (by omega)
  refine ⟨hG4, ?_, hset, ownsRow_set_other' ho' (fun e' => Ty.ne (own_tyS ho' e') ⟨_, hG4⟩ (by decide) rfl), hlow, ?_⟩
  · obtain ⟨ao, cap, vc, h1, h2, h3, h4, h5, h6, h7⟩ := hF
    have e1 : ∀ t, t ≠ 158 → ∀ k, Ty wa k t → vp.ownBlock ≠ some k := fun t ht k hk e' => Ty.ne (own_tyS hp e') hk (fun e => ht e.symm) rfl
    exact ⟨ao, cap, vc, h1.kept (hag R h1.ty.lt (e1 135 (by decide) R h1.ty) (Ty.ne h1.ty hGt (by decide))), h2, h3.kept (hlow lb (by omega)), own_agreeS h4 (fun k hk => hag k (own_tyS h4 hk).lt (e1 45 (by decide) k (own_tyS h4 hk)) (Ty.ne (own_tyS h4 hk) hGt (by decide))),
      own_agreeS h5 (fun k hk => hlow k (hvr k hk)), h6, h7⟩
  · have hBs : B ≤ wa.heap.size := by omega
    exact (((Below.refl B wa).alloc hBs o).grown hg (by rw [size_alloc']; omega) (fun k e => by have := (hp.lt k e).1; omega)).setCell hBG v'

set_option maxHeartbeats 4000000 in
set_option maxRecDepth 100000 in
theorem fgroup (R lb B : Nat) (D : List UInt8) (E a : Nat) (cs : List Pu.Col) (ws : List (Nat × Value)) (vr : Value) (w : World) (h : FSt w R lb B D E a cs ws vr) (hE : E ≤ 140737488355328) (hcs : cs.length ≤ 20) (hws : ws.length < 50) :
    Calls Try.prog 98 #[.pointer (some ⟨R, 0, none⟩)] w fun e w' => GrAns R lb B D E cs ws w (Pu.grp1 D E cs.length a) e w' ∧ Below B w w' := by
  have V : Hid (Calls Try.prog 96 #[.pointer (some ⟨R, 0, none⟩), .int .i64 1, .int .i64 1000] w fun e w' => NumAns R lb B D E cs ws vr (Pu.num D a 1 1000) e w' ∧ Below B w w' ∧ KeepR R w w') := fnumberK R lb B D E a 1 1000 cs ws vr w h (by omega) (by omega)
  have HC : Hid (Pu.grp1 D E cs.length a = match Pu.num D a 1 1000 with | none => none | some (r, a1) => (match Pu.chunksGo D E cs.length a1 [] with | none => none | some (l, a2) => some ((r, l), a2))) := grp_num D E cs.length a
  have hBR := h.base
  have hRw := h.lt
  have HRt : Hid (Ty w R 135) := by obtain ⟨_, _, _, hb, _⟩ := h; exact hb.ty
  clear h
  cases hn : Pu.num D a 1 1000 with
  | none =>
    have HX : Hid (Pu.grp1 D E cs.length a = none) := by rw [Hid, HC.out, hn]
    rw [hn] at V
    clear hn HC
    go_enter Try.func98, Try.ntmps98
    go_wp2_with fail
    refine V.out.mono ?_
    rintro e w' ⟨rfl, hbel, _⟩
    go_wp2
    go_ret
    exact ⟨by rw [HX.out]; rfl, hbel⟩
  | some pr =>
    obtain ⟨r, a1⟩ := pr
    obtain ⟨_, hr1, hr2, _, _⟩ := num_some hn
    rw [hn] at V
    have HC2 : Hid (Pu.grp1 D E cs.length a = match Pu.chunksGo D E cs.length a1 [] with | none => none | some (l, a2) => some ((r, l), a2)) := by rw [Hid, HC.out, hn]
    clear hn HC
    go_enter Try.func98, Try.ntmps98
    go_wp2_with fail
    refine V.out.mono ?_
    rintro e w1 ⟨⟨rfl, hS⟩, hbel, hkp⟩
    have HS : Hid (FSt w1 R lb B D E a1 cs ws vr) := hS
    have HKp : Hid (KeepR R w w1) := hkp
    obtain ⟨ao, cap, vc, hb, ha, hr, hc, ho, hlb, hB⟩ := hS
    obtain ⟨av, cv, rfl⟩ := slen_of hc
    have HVr : Hid (∀ k, vr.ownBlock = some k → k < w1.heap.size) := fun k hk => (own_tyS ho hk).lt
    have hB1 : B ≤ w1.heap.size := Nat.le_trans (Nat.le_trans hBR (Nat.le_of_lt hRw)) hbel.size
    have c1 : (w1.alloc (.cells #[.int .i64 (r : Int), .slice none 0 0] 105)).cell? ⟨R, 1, none⟩ = some (.slice av cs.length cv) := (hb.kept (w' := w1.alloc (.cells #[.int .i64 (r : Int), .slice none 0 0] 105)) (Below.heap_alloc _ _ _ hb.ty.lt)).c1
    have HS0 : Hid (FSt (w1.alloc (.cells #[.int .i64 (r : Int), .slice none 0 0] 105)) R lb B D E a1 cs ws vr) := HS.out.below ((Below.refl _ _).alloc (Nat.le_refl _) _)
    have HB0 : Hid (Below B w (w1.alloc (.cells #[.int .i64 (r : Int), .slice none 0 0] 105))) := hbel.alloc hB1 _
    have HK0 : Hid (KeepR R w1 (w1.alloc (.cells #[.int .i64 (r : Int), .slice none 0 0] 105))) := fun k hk _ => Below.heap_alloc _ _ _ hk
    have HG0 : Hid ((w1.alloc (.cells #[.int .i64 (r : Int), .slice none 0 0] 105)).heap[w1.heap.size]? = some (.cells #[.int .i64 (r : Int), .slice none 0 0] 105 (0, 0))) := heap_alloc_new w1 _
    have hRw1 : R < w1.heap.size := hb.ty.lt
    have hsz : w.heap.size ≤ w1.heap.size := hbel.size
    clear hb hr hc ho hkp hbel HS V
    go_wp2
    go_loopw [23] (fun i wr => ∃ (b : Nat) (l : List (Nat × Nat)) (ap : Option Addr) (cp : Nat), l.length ≤ cs.length ∧ i = .int .i64 l.length ∧ Hid (Pu.chunksGo D E cs.length a1 [] = Pu.chunksGo D E (cs.length - l.length) b l) ∧ Hid (FSt wr R lb B D E b cs ws vr) ∧ Hid (Below B w wr) ∧ Hid (KeepR R w1 wr) ∧ Hid (wr.heap[w1.heap.size]? = some (.cells #[.int .i64 (r : Int), .slice ap l.length cp] 105 (0, 0))) ∧ Hid (wr.ownsRow w1.heap.size 158 2 (.slice ap l.length cp) l.length (plsV l))) (fun i _ => cs.length - (intOf i).toNat)
    case atStart => exact ⟨a1, [], none, 0, by simp, rfl, rfl, HS0, HB0, HK0, HG0, World.ownsRow_nil _ _ _ _⟩
    case round =>
      obtain ⟨b, l, ap, cp, hll, rfl, HG, HF, HB, HK, HGr, HP⟩ := hrel
      by_cases hk : l.length < cs.length
      · have PG : Hid (Calls Try.prog 106 #[.pointer (some ⟨R, 0, none⟩)] wr fun e w' => PlAns R lb B D E cs ws vr (Pu.chunk1 D E b) e w' ∧ Below B wr w' ∧ KeepR R wr w') := fplace R lb B D E b cs ws vr wr HF.out hE
        cases hc : Pu.chunk1 D E b with
        | none =>
          have HY : Hid (Pu.grp1 D E cs.length a = none) := by rw [Hid, HC2.out, HG.out, chunksGo_no (by omega) hc]
          rw [hc] at PG
          clear hc
          go_wp2_with fail
          refine PG.out.mono ?_
          rintro e w2 ⟨⟨x, y, rfl⟩, hb2, _⟩
          have hb3 := HB.out.trans hb2
          have hB3 : B ≤ w2.heap.size := Nat.le_trans (Nat.le_trans hBR (Nat.le_of_lt hRw)) hb3.size
          clear hb2
          go_wp2
          go_ret
          exact ⟨by rw [HY.out]; rfl, hb3.alloc hB3 _⟩
        | some p =>
          obtain ⟨⟨p, q⟩, b'⟩ := p
          have HY : Hid (Pu.chunksGo D E cs.length a1 [] = Pu.chunksGo D E (cs.length - (l ++ [(p, q)]).length) b' (l ++ [(p, q)])) := by rw [Hid, HG.out, chunksGo_yes (by omega) hc]; simp [Nat.sub_sub]
          rw [hc] at PG
          clear hc
          go_wp2_with fail
          refine PG.out.mono ?_
          rintro e w2 ⟨⟨rfl, hS2⟩, hb2, hk2⟩
          have hs1 : w1.heap.size < wr.heap.size := (Array.getElem?_eq_some_iff.1 HGr.out).1
          have hs2 : wr.heap.size ≤ w2.heap.size := hb2.size
          obtain ⟨wa, hwa⟩ : ∃ wa, wa = w2.alloc (.cells #[.int .i64 (p : Int), .int .i64 (q : Int)] 158) := ⟨_, rfl⟩
          have hbw : Below w2.heap.size w2 wa := by rw [hwa]; exact (Below.refl _ _).alloc (Nat.le_refl _) _
          have hFa : FSt wa R lb B D E b' cs ws vr := hS2.below hbw
          have hGa : wa.heap[w1.heap.size]? = some (.cells #[.int .i64 (r : Int), .slice ap l.length cp] 105 (0, 0)) := by
            rw [hbw.block _ (by omega), hk2 _ hs1 (by omega)]; exact HGr.out
          have hPa : wa.ownsRow w1.heap.size 158 2 (.slice ap l.length cp) l.length (plsV l) := own_agreeS HP.out (fun k hk => by
            have := (own_tyS HP.out hk).lt
            rw [hbw.block k (by omega), hk2 k this (by have := (HP.out.lt k hk).1; omega)])
          have hsa : wa.heap.size = w2.heap.size + 1 := by rw [hwa, size_alloc']
          obtain ⟨i0, hi, hz0, hz1, hz2⟩ := info_parts Try.info158
          have d1 := cell_of_row _ _ 1 _ _ _ hGa
          rw [hwa] at d1
          simp only [List.getElem?_toArray, List.getElem?_cons_zero, List.getElem?_cons_succ] at d1
          have HFa : Hid (FSt wa R lb B D E b' cs ws vr) := hFa
          have HGa : Hid (wa.heap[w1.heap.size]? = some (.cells #[.int .i64 (r : Int), .slice ap l.length cp] 105 (0, 0))) := hGa
          have HKa : Hid (KeepR R w1 wa ∧ Below B w wa) := ⟨fun k h1 h2 => by rw [hbw.block k (by omega), hk2 k (by omega) h2]; exact HK.out k h1 h2, HB.out.trans (hb2.trans (hbw.mono (by omega)))⟩
          clear hbw hFa hGa hS2 hb2 hk2 PG
          rw [hwa] at hPa HFa HGa HKa hsa
          clear hwa wa
          go_wp2_with (first
            | (at_builtin; refine wpList_append_own _ rfl _ _ 103 rfl w1.heap.size 158 i0 (.agg #[.int .i64 0, .int .i64 0]) 2 16 Try.underlying103 hi hz0 hz1 hz2 rfl (by decide) _ _ _ rfl (hPa.alloc _) ⟨_, 0, none⟩ 1 1 [.int .i64 (p : Int), .int .i64 (q : Int)] rfl rfl ?d1 ?d2 ?d3 ?d4 ?d5 ?_)
            | go_in)
          case d1 => exact two_new (by simp)
          case d2 => intro u hu; simp at hu; rcases hu with rfl | rfl <;> rfl
          case d3 => unfold maxLen; omega
          case d4 => omega
          case d5 => rw [size_alloc', hsa]; omega
          intro v' w4 own4 gr4 hnn
          clear hnn
          obtain ⟨ap5, cp5, hv5⟩ := slen_of own4
          rw [hv5] at own4 ⊢
          clear hv5 v'
          obtain ⟨q1, q2, q3, q4, q5, q6⟩ := pl_push HFa.out HGa.out HVr.out hB1 hPa gr4 own4
          have d2 := cell_of_row _ _ 1 _ _ _ q1
          have f2 := frozen_of_row _ _ 1 _ _ q1
          simp only [List.getElem?_toArray, List.getElem?_cons_zero, List.getElem?_cons_succ] at d2
          have HF4 : Hid (FSt (w4.setCell ⟨w1.heap.size, 1, none⟩ (.slice ap5 (l.length + 1) cp5)) R lb B D E b' cs ws vr) := q2
          have HG4 : Hid ((w4.setCell ⟨w1.heap.size, 1, none⟩ (.slice ap5 (l.length + 1) cp5)).heap[w1.heap.size]? = some (.cells #[.int .i64 (r : Int), .slice ap5 (l ++ [(p, q)]).length cp5] 105 (0, 0))) := by rw [Hid, List.length_append]; exact q3
          have HP4 : Hid ((w4.setCell ⟨w1.heap.size, 1, none⟩ (.slice ap5 (l.length + 1) cp5)).ownsRow w1.heap.size 158 2 (.slice ap5 (l ++ [(p, q)]).length cp5) (l ++ [(p, q)]).length (plsV (l ++ [(p, q)]))) := by rw [Hid, List.length_append, plsV_snoc]; exact q4
          have HK4 : Hid (KeepR R w1 (w4.setCell ⟨w1.heap.size, 1, none⟩ (.slice ap5 (l.length + 1) cp5))) := fun k h1 h2 => by rw [q5 k h1]; exact HKa.out.1 k h1 h2
          have HB4 : Hid (Below B w (w4.setCell ⟨w1.heap.size, 1, none⟩ (.slice ap5 (l.length + 1) cp5))) := HKa.out.2.trans q6
          clear own4 gr4 q1 q2 q3 q4 q5 q6 hPa hsa HFa HGa HKa
          go_wp2
          go_roundw
          case rel => exact ⟨b', l ++ [(p, q)], _, _, by simp; omega, by simp, HY, HF4, HB4, HK4, HG4, HP4⟩
          case measure => simp [intOf]; omega
      · have hle : l.length = cs.length := by omega
        have HY : Hid (Pu.grp1 D E cs.length a = some ((r, l), b)) := by rw [Hid, HC2.out, HG.out, hle, Nat.sub_self]; rfl
        clear hle
        have hs1 : w1.heap.size < wr.heap.size := (Array.getElem?_eq_some_iff.1 HGr.out).1
        have hBw : B ≤ wr.heap.size := by omega
        obtain ⟨ao, cap, vc, hb, ha, hr, hc, ho, hlb, hB⟩ := HF.out
        obtain ⟨ar, cr, hvr⟩ := slen_of ho
        rw [hvr] at hb ho
        have c2 := hb.c2
        have e0 := cell_of_row _ _ 0 _ _ _ HGr.out
        have e1 := cell_of_row _ _ 1 _ _ _ HGr.out
        simp only [List.getElem?_toArray, List.getElem?_cons_zero, List.getElem?_cons_succ] at e0 e1
        obtain ⟨i0, hi, hz0, hz1, hz2⟩ := info_parts Try.info105
        obtain ⟨g, cp', w4, run4, own4, gr4, at4⟩ := appendS (wr.drew.alloc (.cells #[.int .i64 (r : Int), .slice ap l.length cp] 105)) 98 98 105 i0 (.agg #[.int .i64 0, .slice none 0 0]) 2 32 B Try.underlying98 hi hz0 hz1 hz2 rfl (by decide) _ _ _ (World.ownsRow.alloc (w := wr.drew) ho _) ⟨wr.heap.size, 0, none⟩ [.int .i64 (r : Int), .slice ap l.length cp] rfl (two_new rfl) (by intro u hu; simp at hu; rcases hu with rfl | rfl <;> rfl) 1 (by unfold maxLen; omega) (by omega) (by rw [size_alloc']; show B ≤ wr.heap.size + 1; omega)
        have HR4 : Hid ((Builtin.append_ #[98, 98] 98 #[.slice ar ws.length cr, .slice (some ⟨wr.heap.size, 0, none⟩) 1 1]).run Try.prog (wr.alloc (.cells #[.int .i64 (r : Int), .slice ap l.length cp] 105)).drew = .ok (.slice (some ⟨g, 0, none⟩) (ws.length + 1) cp') w4) := run4
        have hbd : Rd wr.drew R (.slice ao (D.length - b) cap) E vc (.slice ar ws.length cr) := hb
        have hP := FSt.pushR (w := wr.drew) (r := (r, .slice ap l.length cp)) hbd ha hr hc ho hlb hB gr4 own4
        have c2' := hP.1.c2
        have f2' := hP.1.fz 2
        have c2b : (wr.alloc (.cells #[.int .i64 (r : Int), .slice ap l.length cp] 105)).drew.cell? ⟨R, 2, none⟩ = some (.slice ar ws.length cr) := (hb.kept (w' := wr.alloc (.cells #[.int .i64 (r : Int), .slice ap l.length cp] 105)) (Below.heap_alloc _ _ R hb.ty.lt)).c2
        have HFn : Hid (FSt (w4.setCell ⟨R, 2, none⟩ (.slice (some ⟨g, 0, none⟩) (ws.length + 1) cp')) R lb B D E b cs (ws ++ [(r, .slice ap l.length cp)]) (.slice (some ⟨g, 0, none⟩) (ws.length + 1) cp')) := hP.2.1
        have HBn : Hid (Below B w (w4.setCell ⟨R, 2, none⟩ (.slice (some ⟨g, 0, none⟩) (ws.length + 1) cp'))) := HB.out.drew.trans hP.2.2
        have hag : ∀ k, Ty wr k 158 → (w4.setCell ⟨R, 2, none⟩ (.slice (some ⟨g, 0, none⟩) (ws.length + 1) cp')).heap[k]? = wr.heap[k]? := fun k hk =>
          agree_set (w := wr.drew) gr4 hk.lt (fun e' => Ty.ne (own_tyS ho e') hk (by decide) rfl) (Ty.ne hk hb.ty (by decide))
        have HPn : Hid ((w4.setCell ⟨R, 2, none⟩ (.slice (some ⟨g, 0, none⟩) (ws.length + 1) cp')).ownsRow B 158 2 (.slice ap l.length cp) l.length (plsV l)) := (own_agreeS HP.out (fun k hk => hag k (own_tyS HP.out hk))).mono hB1
        have HTn : Hid (KeepT w (w4.setCell ⟨R, 2, none⟩ (.slice (some ⟨g, 0, none⟩) (ws.length + 1) cp'))) := fun k hk => by
          have hkR : k ≠ R := Ty.ne hk HRt.out (by decide)
          have h1 : w1.heap[k]? = w.heap[k]? := HKp.out k hk.lt hkR
          have h2 : wr.heap[k]? = w.heap[k]? := by rw [HK.out k (Nat.lt_of_lt_of_le hk.lt hsz) hkR]; exact h1
          rw [hag k (by obtain ⟨c, hc⟩ := hk; exact ⟨c, by rw [h2]; exact hc⟩)]; exact h2
        clear run4 own4 gr4 at4 hP hb hr hc ho hbd hag HF HGr HP HK
        go_wp2
        go_region_law (refine step_append_run rfl (.tmp 44) (.tmp 46) 98 98 rfl _ _ _ _ rfl rfl HR4.out ?_)
        all_goals
          go_wp2
          go_ret
          rw [HY.out]
          exact ⟨⟨rfl, _, _, HFn.out, HPn.out, HTn.out⟩, HBn.out⟩

end Go.Proofs.Ytjobhlncllfdmaa
