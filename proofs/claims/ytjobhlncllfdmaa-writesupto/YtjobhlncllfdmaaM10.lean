/- Contract of the reference's groups. -/
import Derived.Test.YtjobhlncllfdmaaM05
namespace Go.Proofs.Ytjobhlncllfdmaa
open Go.RowKit

/-- what the reference's groups answers -/
def GrpsAns (w : World) (F : Nat) (vc : Value) (E : Nat) (r : Option (List (Nat × List (Nat × Nat)))) (e : Ending) (w' : World) : Prop :=
  match r with
  | none => e = .returned (.bool false) ∧ Fr (fun k => k = F) w w'
  | some gs => e = .returned (.bool true) ∧ ∃ vr vk vs, GS w w' F vc E (gs.map Prod.fst) (gs.map Prod.snd) vr vk vs

def grpsFin (n : Nat) (r : Option (List (Nat × List (Nat × Nat)) × Nat)) : Option (List (Nat × List (Nat × Nat))) :=
  match r with
  | none => none
  | some (gs, a2) => if a2 = n then some gs else none

theorem Fr.allocs {T : Nat → Prop} {w w1 : World} (h : Fr T w w1) (o : Obj) : Fr T w (w1.alloc o) := h.trans (Fr.of_below (fun _ => False) ((Below.refl _ _).alloc (Nat.le_refl _) o)) (fun _ _ h => h.elim)
theorem Fr.drewN {T : Nat → Prop} {w w1 : World} (h : Fr T w w1) (q : Nat) : Fr T w (w1.drewN q) := ⟨h.os, h.tape, h.output, h.size, h.block⟩

theorem Fr.setNew {T : Nat → Prop} {w w1 : World} (h : Fr T w w1) {R j : Nat} (hR : w.heap.size ≤ R) (u : Value) : Fr T w (w1.setCell ⟨R, j, none⟩ u) :=
  h.trans Fr.set (fun k hk e => by subst e; omega)

theorem two_new {w : World} {B : Nat} {e : TypeId} {x y : Value} (hB : B = w.heap.size) : ∀ (j : Nat) (u : Value), [x, y][j]? = some u → (w.alloc (Obj.cells #[x, y] e)).cell? ((⟨B, 0, none⟩ : Addr).add j) = some u := by
  intro j u hj
  subst hB
  match j, hj with
  | 0, hj => simp at hj; subst hj; simp [Addr.add]
  | 1, hj => simp at hj; subst hj; simp [Addr.add]

set_option maxHeartbeats 4000000 in
set_option maxRecDepth 100000 in
theorem refGroups_any (s : ByteArray) (a F E nc : Nat) (av : Option Addr) (cv : Nat) (w : World) (hs : s.size ≤ 140737488355000) (ha : a ≤ s.size) (_hE : E ≤ 140737488355000) (hnc : nc ≤ 20) (hF : FBlk w F (.slice av nc cv) nilS nilS E) :
    Calls Try.prog 50 #[.pointer (some ⟨F, 0, none⟩), .string s, .int .i64 a] w fun e w' => GrpsAns w F (.slice av nc cv) E (Pu.grps s.data.toList E nc a) e w' := by
  have Hlen : Hid (s.data.toList.length = s.size) := by simp [Hid]
  have HF : Hid (FBlk w F (.slice av nc cv) nilS nilS E) := hF
  clear hF
  cases hv : Pu.vi s.data.toList a with
  | none =>
    have Hv : Hid (Pu.vi s.data.toList a = none) := hv
    have HR : Hid (Pu.grps s.data.toList E nc a = none) := by simp [Hid, Pu.grps, hv]
    clear hv
    go_enter Try.func50, Try.ntmps50
    go_wp2_with fail
    refine (varint_no s a _ hs ha Hv.out).mono ?_
    rintro e w' ⟨h, nx, rfl, hw'⟩
    subst w'
    go_wp2
    go_ret
    rw [HR.out]
    exact ⟨rfl, Fr.refl _ _⟩
  | some p =>
    obtain ⟨N, a0⟩ := p
    have Hv : Hid (Pu.vi s.data.toList a = some (N, a0)) := hv
    have hvl := Pu.vi_lt hv
    rw [Hlen.out] at hvl
    obtain ⟨_, ha0, hN0⟩ := hvl
    by_cases hN : 50 < N
    · have HR : Hid (Pu.grps s.data.toList E nc a = none) := by simp only [Hid, Pu.grps, hv]; rw [if_pos hN]
      clear hv
      go_enter Try.func50, Try.ntmps50
      go_wp2_with fail
      refine (varint_yes s a N a0 _ hs ha Hv.out).mono ?_
      rintro e w' ⟨rfl, hw'⟩
      subst w'
      go_wp2
      go_ret
      rw [HR.out]
      exact ⟨rfl, Fr.refl _ _⟩
    · have HR : Hid (Pu.grps s.data.toList E nc a = grpsFin s.data.toList.length (Pu.grpsGo s.data.toList E nc N a0 [])) := by simp only [Hid, Pu.grps, hv]; rw [if_neg hN]; rfl
      clear hv
      have hdN : decide (50 < (N : Int)) = false := by simp; omega
      go_enter Try.func50, Try.ntmps50
      go_wp2_with fail
      refine (varint_yes s a N a0 _ hs ha Hv.out).mono ?_
      rintro e w' ⟨rfl, hw'⟩
      subst w'
      go_wp2
      go_loopw [2, 9] (fun t i wr => ∃ (a : Nat) (gs : List (Nat × List (Nat × Nat))), a ≤ s.size ∧ gs.length ≤ N ∧ t = .int .i64 a ∧ i = .int .i64 gs.length ∧ Hid (∃ vr vk vs, GS w wr F (.slice av nc cv) E (gs.map Prod.fst) (gs.map Prod.snd) vr vk vs) ∧ Hid (Pu.grpsGo s.data.toList E nc N a0 [] = Pu.grpsGo s.data.toList E nc (N - gs.length) a gs))
        (fun _ i _ => N - (intOf i).toNat)
      case atStart => exact ⟨a0, [], ha0, by simp, rfl, rfl, ⟨_, _, _, GS.start HF.out⟩, rfl⟩
      case round =>
        obtain ⟨a', gs, ha', hgl, rfl, rfl, HGS, HG⟩ := hrel
        by_cases hk2 : gs.length < N
        · have hkd : decide ((gs.length : Int) < (N : Int)) = true := by simp; omega
          have HFr : Hid (Fr (fun k => k = F) w wr) := by obtain ⟨vr, vk, vs, h⟩ := HGS.out; exact h.2.2.2.2.1
          cases hz : Pu.vi s.data.toList a' with
          | none =>
            have Hz : Hid (Pu.vi s.data.toList a' = none) := hz
            have HX : Hid (Pu.grps s.data.toList E nc a = none) := by rw [Hid, HR.out, HG.out, grpsGo_no (by omega) (grp1_vi hz)]; rfl
            clear hz
            go_wp2_with fail
            refine (varint_no s a' _ hs ha' Hz.out).mono ?_
            rintro e w' ⟨h, nx, rfl, hw'⟩
            subst w'
            go_wp2
            go_ret
            rw [HX.out]
            exact ⟨rfl, HFr.out⟩
          | some p =>
            obtain ⟨r, a1⟩ := p
            have Hz : Hid (Pu.vi s.data.toList a' = some (r, a1)) := hz
            have hzl := Pu.vi_lt hz
            rw [Hlen.out] at hzl
            obtain ⟨hz1, hz2, hz3⟩ := hzl
            by_cases hr : r < 1 ∨ 1000 < r
            · have HX : Hid (Pu.grps s.data.toList E nc a = none) := by rw [Hid, HR.out, HG.out, grpsGo_no (by omega) (grp1_bad hz hr)]; rfl
              clear hz
              by_cases hr1 : r < 1
              · clear hr
                go_wp2_with fail
                refine (varint_yes s a' r a1 _ hs ha' Hz.out).mono ?_
                rintro e w' ⟨rfl, hw'⟩
                subst w'
                go_wp2
                go_ret
                rw [HX.out]
                exact ⟨rfl, HFr.out⟩
              · have hr2 : 1000 < r := by omega
                clear hr
                go_wp2_with fail
                refine (varint_yes s a' r a1 _ hs ha' Hz.out).mono ?_
                rintro e w' ⟨rfl, hw'⟩
                subst w'
                go_wp2
                go_ret
                rw [HX.out]
                exact ⟨rfl, HFr.out⟩
            · have Hr : Hid (¬ (r < 1 ∨ 1000 < r)) := hr
              have hr1 : 1 ≤ r := by omega
              have hr2 : r ≤ 1000 := by omega
              have hrd : decide ((r : Int) < 1) = false := by simp; omega
              have hrd2 : decide (1000 < (r : Int)) = false := by simp; omega
              clear hr hz
              obtain ⟨vr, vk, vs, hGS⟩ := HGS.out
              clear HGS
              have hR := hGS.2.1
              obtain ⟨ar, cr, rfl⟩ := slen_of hR
              have c1 := hGS.1.c1
              have hszw : w.heap.size ≤ wr.heap.size := HFr.out.size
              have HGS1 : Hid (GS w wr F (.slice av nc cv) E (gs.map Prod.fst) (gs.map Prod.snd) (.slice ar (gs.map Prod.fst).length cr) vk vs) := hGS
              rw [List.length_map] at hR c1
              clear hGS
              obtain ⟨i0, hi, hz0, hz1', hz2'⟩ := info_parts Try.info3
              go_wp2_with fail
              refine (varint_yes s a' r a1 _ hs ha' Hz.out).mono ?_
              rintro e w' ⟨rfl, hw'⟩
              subst w'
              go_wp2_with (first
                | (at_builtin; refine wpList_append_own _ rfl _ _ 26 rfl w.heap.size 3 i0 (.int .i64 0) 1 8 Try.underlying26 hi hz0 hz1' hz2' rfl (by decide) _ _ _ rfl (hR.alloc _) ⟨_, 0, none⟩ 1 1 [.int .i64 (r : Int)] rfl rfl ?c1 ?c2 ?c3 ?c4 ?c5 ?_)
                | go_in)
              case c1 => exact one_new rfl
              case c2 => exact one_cell
              case c3 => unfold maxLen; omega
              case c4 => omega
              case c5 => rw [size_alloc']; omega
              intro v' w1 ho3 hg hnn
              clear hnn
              obtain ⟨ao5, cap5, hv5⟩ := slen_of ho3
              rw [hv5] at ho3 ⊢
              clear hv5 v'
              have hp : FBlk w1 F (.slice av nc cv) (.slice ar (gs.map Prod.fst).length cr) vk E ∧ GS w (w1.setCell ⟨F, 1, none⟩ (.slice ao5 (gs.length + 1) cap5)) F (.slice av nc cv) E (gs.map Prod.fst ++ [r]) (gs.map Prod.snd) (.slice ao5 (gs.length + 1) cap5) vk vs := by
                refine GS.pushR (o := Obj.cells #[.int .i64 (r : Int)] 3) HGS1.out ?_ ?_
                · rw [List.length_map]; exact hg
                · rw [List.length_map]; exact ho3
              have c1' := hp.1.c1
              have f1' := hp.1.fz 1
              rw [List.length_map] at c1'
              have HP : Hid (GS w (w1.setCell ⟨F, 1, none⟩ (.slice ao5 (gs.length + 1) cap5)) F (.slice av nc cv) E (gs.map Prod.fst ++ [r]) (gs.map Prod.snd) (.slice ao5 (gs.length + 1) cap5) vk vs) := hp.2
              clear hp hg ho3 HGS1 hR c1
              go_wp2
              generalize w1.setCell ⟨F, 1, none⟩ (.slice ao5 (gs.length + 1) cap5) = wm at *
              clear c1' f1' HFr
              go_loopw [2, 11, 12] (fun t v i wi => ∃ (b : Nat) (out : List (Nat × Nat)), b ≤ s.size ∧ out.length ≤ nc ∧ t = .int .i64 b ∧ i = .int .i64 out.length ∧ wi.ownsRow wm.heap.size 138 2 v out.length (chV out) ∧ Hid (Pu.chunksGo s.data.toList E nc a1 [] = Pu.chunksGo s.data.toList E (nc - out.length) b out) ∧ Below wm.heap.size wm wi)
                (fun _ _ i _ => nc - (intOf i).toNat)
              case atStart => exact ⟨a1, [], hz2, by simp, rfl, rfl, World.ownsRow_nil _ _ _ _, rfl, Below.refl _ _⟩
              case round =>
                obtain ⟨b, out, hb, hol, rfl, rfl, hown, HC, hbel⟩ := hrel
                obtain ⟨ao2, cap2, rfl⟩ := slen_of hown
                have hG := HP.out.below hbel
                have c0 := hG.1.c0
                have c3 := hG.1.c3
                have hFw := hG.1.ty.lt
                have HFr : Hid (Fr (fun k => k = F) w wr) := hG.2.2.2.2.1
                have HG2 : Hid (GS w wr F (.slice av nc cv) E (gs.map Prod.fst ++ [r]) (gs.map Prod.snd) (.slice ao5 (gs.length + 1) cap5) vk vs) := hG
                clear hG
                by_cases hj : out.length < nc
                · have hjd : decide ((out.length : Int) < (nc : Int)) = true := by simp; omega
                  have HX : Hid (Pu.chunk1 s.data.toList E b = none → Pu.grps s.data.toList E nc a = none) := fun h1 => by
                    rw [HR.out, HG.out, grpsGo_no (by omega) (grp1_no Hz.out (by rw [HC.out]; exact chunksGo_no (by omega) h1))]; rfl
                  cases hp : Pu.vi s.data.toList b with
                  | none =>
                    have Hp : Hid (Pu.vi s.data.toList b = none) := hp
                    have HX2 : Hid (Pu.grps s.data.toList E nc a = none) := HX.out (chunk1_vi hp)
                    clear hp HX
                    go_wp2_with fail
                    refine (varint_no s b _ hs hb Hp.out).mono ?_
                    rintro e w' ⟨h, nx, rfl, hw'⟩
                    subst w'
                    go_wp2
                    go_quiet (fail)
                    go_wp2
                    go_ret
                    rw [HX2.out]
                    exact ⟨rfl, (HFr.out.allocs _).drewN _⟩
                  | some p =>
                    obtain ⟨p, b1⟩ := p
                    have Hp : Hid (Pu.vi s.data.toList b = some (p, b1)) := hp
                    have hpl := Pu.vi_lt hp
                    rw [Hlen.out] at hpl
                    obtain ⟨hp1, hp2, hp3⟩ := hpl
                    by_cases hpb : p < 4 ∨ E < p
                    · have HX2 : Hid (Pu.grps s.data.toList E nc a = none) := HX.out (chunk1_bad hp hpb)
                      clear hp HX
                      by_cases hp4 : p < 4
                      · have hp4d : decide ((p : Int) < 4) = true := by simp; omega
                        clear hpb
                        go_wp2_with fail
                        refine (varint_yes s b p b1 _ hs hb Hp.out).mono ?_
                        rintro e w' ⟨rfl, hw'⟩
                        subst w'
                        go_wp2
                        go_quiet (fail)
                        go_wp2
                        go_ret
                        rw [HX2.out]
                        exact ⟨rfl, (HFr.out.allocs _).drewN _⟩
                      · have hp4d : decide ((p : Int) < 4) = false := by simp; omega
                        have hp5d : decide ((E : Int) < (p : Int)) = true := by simp; omega
                        have hp5 : E < p := by omega
                        clear hpb
                        go_wp2_with fail
                        refine (varint_yes s b p b1 _ hs hb Hp.out).mono ?_
                        rintro e w' ⟨rfl, hw'⟩
                        subst w'
                        go_wp2
                        go_quiet (fail)
                        go_wp2
                        go_ret
                        rw [HX2.out]
                        exact ⟨rfl, (HFr.out.allocs _).drewN _⟩
                    · have Hpb : Hid (¬ (p < 4 ∨ E < p)) := hpb
                      have hp4d : decide ((p : Int) < 4) = false := by simp; omega
                      have hp5d : decide ((E : Int) < (p : Int)) = false := by simp; omega
                      have hp4 : 4 ≤ p := by omega
                      have hp5 : p ≤ E := by omega
                      clear hpb hp
                      cases hq : Pu.vi s.data.toList b1 with
                      | none =>
                        have Hq : Hid (Pu.vi s.data.toList b1 = none) := hq
                        have HX2 : Hid (Pu.grps s.data.toList E nc a = none) := HX.out (chunk1_vi2 Hp.out hq)
                        clear hq HX
                        go_wp2_with fail
                        refine (varint_yes s b p b1 _ hs hb Hp.out).mono ?_
                        rintro e w' ⟨rfl, hw'⟩
                        subst w'
                        go_wp2
                        go_quiet (fail)
                        go_wp2_with fail
                        refine (varint_no s b1 _ hs hp2 Hq.out).mono ?_
                        rintro e w' ⟨h, nx, rfl, hw'⟩
                        subst w'
                        go_wp2
                        go_ret
                        rw [HX2.out]
                        exact ⟨rfl, Fr.setNew ((HFr.out.allocs _).drewN _) HFr.out.size _⟩
                      | some q =>
                        obtain ⟨q, b2⟩ := q
                        have Hq : Hid (Pu.vi s.data.toList b1 = some (q, b2)) := hq
                        have hql := Pu.vi_lt hq
                        rw [Hlen.out] at hql
                        obtain ⟨hq1, hq2, hq3⟩ := hql
                        by_cases hqb : q < 1 ∨ 50 < q
                        · have HX2 : Hid (Pu.grps s.data.toList E nc a = none) := HX.out (chunk1_bad2 Hp.out hq hqb)
                          clear hq HX
                          by_cases hq4 : q < 1
                          · have hq4d : decide ((q : Int) < 1) = true := by simp; omega
                            clear hqb
                            go_wp2_with fail
                            refine (varint_yes s b p b1 _ hs hb Hp.out).mono ?_
                            rintro e w' ⟨rfl, hw'⟩
                            subst w'
                            go_wp2
                            go_quiet (fail)
                            go_wp2_with fail
                            refine (varint_yes s b1 q b2 _ hs hp2 Hq.out).mono ?_
                            rintro e w' ⟨rfl, hw'⟩
                            subst w'
                            go_wp2
                            go_ret
                            rw [HX2.out]
                            exact ⟨rfl, Fr.setNew ((HFr.out.allocs _).drewN _) HFr.out.size _⟩
                          · have hq4d : decide ((q : Int) < 1) = false := by simp; omega
                            have hq5d : decide (50 < (q : Int)) = true := by simp; omega
                            have hq5 : 50 < q := by omega
                            clear hqb
                            go_wp2_with fail
                            refine (varint_yes s b p b1 _ hs hb Hp.out).mono ?_
                            rintro e w' ⟨rfl, hw'⟩
                            subst w'
                            go_wp2
                            go_quiet (fail)
                            go_wp2_with fail
                            refine (varint_yes s b1 q b2 _ hs hp2 Hq.out).mono ?_
                            rintro e w' ⟨rfl, hw'⟩
                            subst w'
                            go_wp2
                            go_ret
                            rw [HX2.out]
                            exact ⟨rfl, Fr.setNew ((HFr.out.allocs _).drewN _) HFr.out.size _⟩
                        · have HY : Hid (Pu.chunksGo s.data.toList E nc a1 [] = Pu.chunksGo s.data.toList E (nc - out.length - 1) b2 (out ++ [(p, q)])) := by
                            rw [Hid, HC.out]; exact chunksGo_yes (by omega) (chunk1_yes Hp.out Hpb.out hq hqb)
                          have hq4d : decide ((q : Int) < 1) = false := by simp; omega
                          have hq5d : decide (50 < (q : Int)) = false := by simp; omega
                          have hq4 : 1 ≤ q := by omega
                          have hq5 : q ≤ 50 := by omega
                          clear hqb hq HX
                          obtain ⟨i2, hi2, hy0, hy1, hy2⟩ := info_parts Try.info138
                          go_wp2_with fail
                          refine (varint_yes s b p b1 _ hs hb Hp.out).mono ?_
                          rintro e w' ⟨rfl, hw'⟩
                          subst w'
                          go_wp2
                          go_quiet (fail)
                          go_wp2_with fail
                          refine (varint_yes s b1 q b2 _ hs hp2 Hq.out).mono ?_
                          rintro e w' ⟨rfl, hw'⟩
                          subst w'
                          have hne : (Value.slice ao2 out.length cap2).ownBlock ≠ some wr.heap.size := fun e' => by have := (hown.lt _ e').2; omega
                          have hown2 : (((wr.alloc (Obj.cells #[.int .i64 (p : Int), .int .i64 0] 138)).drewN nq).setCell ⟨wr.heap.size, 1, none⟩ (.int .i64 (q : Int))).ownsRow wm.heap.size 138 2 (.slice ao2 out.length cap2) out.length (chV out) := ownsRow_set_other' (ownsRow_drewN (hown.alloc _) nq) hne
                          have hbel2 : Below wm.heap.size wm (((wr.alloc (Obj.cells #[.int .i64 (p : Int), .int .i64 0] 138)).drewN nq).setCell ⟨wr.heap.size, 1, none⟩ (.int .i64 (q : Int))) := (below_drewN (hbel.alloc hbel.size _) nq).setCell hbel.size _
                          go_wp2_with (first
                            | (at_builtin; refine wpList_append_own _ rfl _ _ 136 rfl wm.heap.size 138 i2 (.agg #[.int .i64 0, .int .i64 0]) 2 16 Try.underlying136 hi2 hy0 hy1 hy2 rfl (by decide) _ _ _ rfl (hown2.alloc _) ⟨_, 0, none⟩ 1 1 [.int .i64 (p : Int), .int .i64 (q : Int)] rfl rfl ?d1 ?d2 ?d3 ?d4 ?d5 ?_)
                            | go_in)
                          case d1 => exact two_new (by simp)
                          case d2 => intro u hu; simp at hu; rcases hu with rfl | rfl <;> rfl
                          case d3 => unfold maxLen; omega
                          case d4 => omega
                          case d5 => rw [size_alloc']; have := hbel2.size; omega
                          intro v' w2 hown3 hg _
                          have hbel3 := below_append hbel2 (Nat.le_refl _) hg (fun k e => (hown2.lt k e).1)
                          rw [chV_snoc] at hown3
                          clear hg hown2 hown hbel hbel2 hne
                          go_wp2
                          go_roundw
                          case rel => exact ⟨b2, out ++ [(p, q)], hq2, by simp; omega, rfl, by simp, by simpa using hown3, by rw [Hid, HY.out]; simp [Nat.sub_sub], hbel3⟩
                          case measure => simp [intOf]; omega
                · obtain rfl : out.length = nc := by omega
                  have HY : Hid (Pu.chunksGo s.data.toList E out.length a1 [] = some (out, b)) := by rw [Hid, HC.out, Nat.sub_self]; rfl
                  have HG3 : Hid (Pu.grpsGo s.data.toList E out.length N a0 [] = Pu.grpsGo s.data.toList E out.length (N - gs.length - 1) b (gs ++ [(r, out)])) := by
                    rw [Hid, HG.out]; exact grpsGo_yes (by omega) (grp1_yes Hz.out Hr.out HY.out)
                  have hK := HG2.out.2.2.1
                  obtain ⟨ak, ck, rfl⟩ := slen_of hK
                  have c2 := HG2.out.1.c2
                  have hszw2 : w.heap.size ≤ wr.heap.size := HFr.out.size
                  have hwm : w.heap.size ≤ wm.heap.size := HP.out.2.2.2.2.1.size
                  have hol2 : wr.ownsRow w.heap.size 138 2 (.slice ao2 out.length cap2) out.length (chV out) := hown.mono hwm
                  have Hol : Hid (wr.ownsRow w.heap.size 138 2 (.slice ao2 out.length cap2) out.length (chV out)) := hol2
                  rw [List.length_map] at hK c2
                  clear hown hol2 HC HP hbel
                  obtain ⟨i2, hi2, hy0, hy1, hy2⟩ := info_parts Try.info136
                  go_wp2_with (first
                    | (at_builtin; refine wpList_append_own _ rfl _ _ 71 rfl w.heap.size 136 i2 (.slice none 0 0) 1 24 Try.underlying71 hi2 hy0 hy1 hy2 rfl (by decide) _ _ _ rfl (hK.alloc _) ⟨_, 0, none⟩ 1 1 [.slice ao2 out.length cap2] rfl rfl ?d1 ?d2 ?d3 ?d4 ?d5 ?_)
                    | go_in)
                  case d1 => exact one_new rfl
                  case d2 => intro u hu; simp at hu; subst hu; rfl
                  case d3 => unfold maxLen; omega
                  case d4 => omega
                  case d5 => rw [size_alloc']; omega
                  intro v' w2 ho3 hg hnn
                  clear hnn
                  obtain ⟨ao6, cap6, hv6⟩ := slen_of ho3
                  rw [hv6] at ho3 ⊢
                  clear hv6 v'
                  have hp : FBlk w2 F (.slice av out.length cv) (.slice ao5 (gs.length + 1) cap5) (.slice ak (gs.map Prod.snd).length ck) E ∧ GS w (w2.setCell ⟨F, 2, none⟩ (.slice ao6 (gs.length + 1) cap6)) F (.slice av out.length cv) E (gs.map Prod.fst ++ [r]) (gs.map Prod.snd ++ [out]) (.slice ao5 (gs.length + 1) cap5) (.slice ao6 (gs.length + 1) cap6) (vs ++ [.slice ao2 out.length cap2]) := by
                    refine GS.pushL (o := Obj.cells #[.slice ao2 out.length cap2] 136) HG2.out Hol.out ?_ ?_
                    · rw [List.length_map]; exact hg
                    · rw [List.length_map]; exact ho3
                  have c2' := hp.1.c2
                  have f2' := hp.1.fz 2
                  rw [List.length_map] at c2'
                  have HP2 : Hid (∃ vr vk vs, GS w (w2.setCell ⟨F, 2, none⟩ (.slice ao6 (gs.length + 1) cap6)) F (.slice av out.length cv) E ((gs ++ [(r, out)]).map Prod.fst) ((gs ++ [(r, out)]).map Prod.snd) vr vk vs) := ⟨_, _, _, by rw [List.map_append, List.map_append]; exact hp.2⟩
                  clear hp hg ho3 hK c2 HG2
                  go_wp2
                  go_roundw
                  case rel => exact ⟨b, gs ++ [(r, out)], hb, by simp; omega, rfl, by simp, HP2, by rw [Hid, HG3.out]; simp [Nat.sub_sub]⟩
                  case measure => simp [intOf]; omega
        · obtain rfl : gs.length = N := by omega
          have HX : Hid (Pu.grps s.data.toList E nc a = if a' = s.size then some gs else none) := by rw [Hid, HR.out, HG.out, Nat.sub_self, Hlen.out]; rfl
          by_cases hend : a' = s.size
          · subst hend
            go_wp2
            go_ret
            rw [HX.out]
            simp only [if_true]
            exact ⟨rfl, HGS.out⟩
          · have hed : ((a' : Int) == (s.size : Int)) = false := by simp; omega
            go_wp2
            go_ret
            rw [HX.out, if_neg hend]
            obtain ⟨vr, vk, vs, h⟩ := HGS.out
            exact ⟨rfl, h.2.2.2.2.1⟩

end Go.Proofs.Ytjobhlncllfdmaa
