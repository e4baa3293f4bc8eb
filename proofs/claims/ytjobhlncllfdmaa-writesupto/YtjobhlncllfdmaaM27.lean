/- The program's reader of a footer: contracts of groups, whole. -/
import Derived.Test.YtjobhlncllfdmaaM25
import Derived.Test.YtjobhlncllfdmaaM26
namespace Go.Proofs.Ytjobhlncllfdmaa
open Go.RowKit

/-- the groups' places -/
def GL (w : World) (B : Nat) (ws : List (Nat × Value)) (gs : List (Nat × List (Nat × Nat))) : Prop :=
  ws.length = gs.length ∧ ∀ (i : Nat) p g, ws[i]? = some p → gs[i]? = some g → p.1 = g.1 ∧ w.ownsRow B 158 2 p.2 g.2.length (plsV g.2)
theorem GL.nil {w : World} {B : Nat} : GL w B [] [] := ⟨rfl, fun i p g h _ => by simp at h⟩
theorem GL.kept {w w' : World} {B : Nat} {ws : List (Nat × Value)} {gs : List (Nat × List (Nat × Nat))} (h : GL w B ws gs) (hw : KeepT w w') : GL w' B ws gs :=
  ⟨h.1, fun i p g h1 h2 => ⟨(h.2 i p g h1 h2).1, own_agreeS (h.2 i p g h1 h2).2 (fun k hk => hw k (own_tyS (h.2 i p g h1 h2).2 hk))⟩⟩
theorem GL.mono {w : World} {B B' : Nat} {ws : List (Nat × Value)} {gs : List (Nat × List (Nat × Nat))} (h : GL w B ws gs) (hB : B' ≤ B) : GL w B' ws gs :=
  ⟨h.1, fun i p g h1 h2 => ⟨(h.2 i p g h1 h2).1, (h.2 i p g h1 h2).2.mono hB⟩⟩
theorem GL.snoc {w w' : World} {B : Nat} {ws : List (Nat × Value)} {gs : List (Nat × List (Nat × Nat))} {p : Nat × Value} {g : Nat × List (Nat × Nat)} (h : GL w B ws gs) (hw : KeepT w w') (h1 : p.1 = g.1) (h2 : w'.ownsRow B 158 2 p.2 g.2.length (plsV g.2)) : GL w' B (ws ++ [p]) (gs ++ [g]) := by
  have hk := h.kept hw
  refine ⟨by simp [h.1], fun i q f hq hf => ?_⟩
  have hl := h.1
  rcases Nat.lt_trichotomy i ws.length with hi | hi | hi
  · rw [List.getElem?_append_left hi] at hq
    rw [List.getElem?_append_left (by omega)] at hf
    exact hk.2 i q f hq hf
  · rw [List.getElem?_append_right (by omega), show i - ws.length = 0 by omega] at hq
    rw [List.getElem?_append_right (by omega), show i - gs.length = 0 by omega] at hf
    simp only [List.getElem?_cons_zero, Option.some.injEq] at hq hf
    subst hq hf
    exact ⟨h1, h2⟩
  · rw [List.getElem?_append_right (by omega), List.getElem?_eq_none (by simp; omega)] at hq
    cases hq

/-- groups, up to a place -/
def Pu.grpsUp (D : List UInt8) (E nc a : Nat) : Option (List (Nat × List (Nat × Nat)) × Nat) :=
  match Pu.num D a 0 50 with
  | none => none
  | some (n, a1) => Pu.grpsGo D E nc n a1 []

theorem grps_up (D : List UInt8) (E nc a : Nat) : Pu.grps D E nc a = match Pu.grpsUp D E nc a with | none => none | some (gs, a2) => if a2 = D.length then some gs else none := by
  unfold Pu.grps Pu.grpsUp Pu.num
  cases Pu.vi D a with
  | none => rfl
  | some q =>
    obtain ⟨n, a1⟩ := q
    simp only
    by_cases h : 50 < n
    · rw [if_pos h, if_pos (.inr h)]
    · rw [if_neg h, if_neg (by omega)]
      rfl

def GrsAns (R lb B : Nat) (D : List UInt8) (E : Nat) (cs : List Pu.Col) (r : Option (List (Nat × List (Nat × Nat)) × Nat)) (e : Ending) (w' : World) : Prop :=
  match r with
  | none => e = .returned (.bool false)
  | some (gs, a') => e = .returned (.bool true) ∧ ∃ ws vr, FSt w' R lb B D E a' cs ws vr ∧ GL w' B ws gs

set_option maxHeartbeats 2000000 in
set_option maxRecDepth 100000 in
theorem fgroups (R lb B : Nat) (D : List UInt8) (E a : Nat) (cs : List Pu.Col) (w : World) (h : FSt w R lb B D E a cs [] (.slice none 0 0)) (hE : E ≤ 140737488355328) (hcs : cs.length ≤ 20) :
    Calls Try.prog 86 #[.pointer (some ⟨R, 0, none⟩)] w fun e w' => GrsAns R lb B D E cs (Pu.grpsUp D E cs.length a) e w' ∧ Below B w w' := by
  have V : Hid (Calls Try.prog 96 #[.pointer (some ⟨R, 0, none⟩), .int .i64 0, .int .i64 50] w fun e w' => NumAns R lb B D E cs [] (.slice none 0 0) (Pu.num D a 0 50) e w' ∧ Below B w w') := fnumber R lb B D E a 0 50 cs [] (.slice none 0 0) w h (by omega) (by omega)
  clear h
  cases hn : Pu.num D a 0 50 with
  | none =>
    have HX : Hid (Pu.grpsUp D E cs.length a = none) := by simp [Hid, Pu.grpsUp, hn]
    rw [hn] at V
    clear hn
    go_enter Try.func86, Try.ntmps86
    go_wp2_with fail
    refine V.out.mono ?_
    rintro e w' ⟨rfl, hbel⟩
    go_wp2
    go_ret
    exact ⟨by rw [HX.out]; rfl, hbel⟩
  | some pr =>
    obtain ⟨N, a0⟩ := pr
    have HX : Hid (Pu.grpsUp D E cs.length a = Pu.grpsGo D E cs.length N a0 []) := by simp [Hid, Pu.grpsUp, hn]
    obtain ⟨_, hN1, hN2, _, _⟩ := num_some hn
    rw [hn] at V
    clear hn
    go_enter Try.func86, Try.ntmps86
    go_wp2_with fail
    refine V.out.mono ?_
    rintro e w1 ⟨⟨rfl, hS⟩, hbel⟩
    have HS : Hid (FSt w1 R lb B D E a0 cs [] (.slice none 0 0)) := hS
    clear hS
    go_wp2
    go_loopw [13] (fun i wr => ∃ (a : Nat) (gs : List (Nat × List (Nat × Nat))) (ws : List (Nat × Value)) (vr : Value), gs.length ≤ N ∧ i = .int .i64 gs.length ∧ Hid (Pu.grpsGo D E cs.length N a0 [] = Pu.grpsGo D E cs.length (N - gs.length) a gs) ∧ Hid (FSt wr R lb B D E a cs ws vr) ∧ Hid (GL wr B ws gs) ∧ Hid (Below B w wr)) (fun i _ => N - (intOf i).toNat)
    case atStart => exact ⟨a0, [], [], _, by simp, rfl, rfl, HS, GL.nil, hbel⟩
    case round =>
      obtain ⟨b, gs, ws, vr, hcl, rfl, HG, HF, HGL, HB⟩ := hrel
      by_cases hk : gs.length < N
      · have CO : Hid (Calls Try.prog 98 #[.pointer (some ⟨R, 0, none⟩)] wr fun e w' => GrAns R lb B D E cs ws wr (Pu.grp1 D E cs.length b) e w' ∧ Below B wr w') := fgroup R lb B D E b cs ws vr wr HF.out hE hcs (by rw [HGL.out.1]; omega)
        cases hc : Pu.grp1 D E cs.length b with
        | none =>
          have HY : Hid (Pu.grpsUp D E cs.length a = none) := by rw [Hid, HX.out, HG.out]; exact grpsGo_no (by omega) hc
          rw [hc] at CO
          clear hc
          go_wp2_with fail
          refine CO.out.mono ?_
          rintro e w2 ⟨rfl, hb2⟩
          have hb3 := HB.out.trans hb2
          clear hb2
          go_wp2
          go_ret
          exact ⟨by rw [HY.out]; rfl, hb3⟩
        | some p =>
          obtain ⟨g, b'⟩ := p
          have HY : Hid (Pu.grpsGo D E cs.length N a0 [] = Pu.grpsGo D E cs.length (N - (gs ++ [g]).length) b' (gs ++ [g])) := by rw [Hid, HG.out, grpsGo_yes (by omega) hc]; simp [Nat.sub_sub]
          rw [hc] at CO
          clear hc
          go_wp2_with fail
          refine CO.out.mono ?_
          rintro e w2 ⟨⟨rfl, vr2, vp, hS2, hP2, hT2⟩, hb2⟩
          have HS2 : Hid (FSt w2 R lb B D E b' cs (ws ++ [(g.1, vp)]) vr2) := hS2
          have HGL2 : Hid (GL w2 B (ws ++ [(g.1, vp)]) (gs ++ [g])) := HGL.out.snoc hT2 rfl hP2
          have HB2 : Hid (Below B w w2) := HB.out.trans hb2
          clear hb2 hS2 hP2 hT2
          go_wp2
          go_roundw
          case rel => exact ⟨b', gs ++ [g], _, _, by simp; omega, by simp, HY, HS2, HGL2, HB2⟩
          case measure => simp [intOf]; omega
      · obtain rfl : gs.length = N := by omega
        have HY : Hid (Pu.grpsUp D E cs.length a = some (gs, b)) := by rw [Hid, HX.out, HG.out, Nat.sub_self]; rfl
        go_wp2
        go_ret
        rw [HY.out]
        exact ⟨⟨rfl, _, _, HF.out, HGL.out⟩, HB.out⟩

def WhAns (R lb B : Nat) (D : List UInt8) (E : Nat) (r : Option (List Pu.Col × List (Nat × List (Nat × Nat)))) (e : Ending) (w' : World) : Prop :=
  match r with
  | none => e = .returned (.bool false)
  | some (cs, gs) => e = .returned (.bool true) ∧ ∃ ws vr, FSt w' R lb B D E D.length cs ws vr ∧ GL w' B ws gs

set_option maxHeartbeats 2000000 in
set_option maxRecDepth 100000 in
theorem fwhole (R lb B : Nat) (D : List UInt8) (E : Nat) (w : World) (h : FSt w R lb B D E 0 [] [] (.slice none 0 0)) (hE : E ≤ 140737488355328) :
    Calls Try.prog 67 #[.pointer (some ⟨R, 0, none⟩)] w fun e w' => WhAns R lb B D E (Pu.foot D E) e w' ∧ Below B w w' := by
  have V : Hid (Calls Try.prog 85 #[.pointer (some ⟨R, 0, none⟩)] w fun e w' => ColsAnsP R lb B D E [] (.slice none 0 0) (Pu.cols D) e w' ∧ Below B w w') := fcolumns R lb B D E [] (.slice none 0 0) w h
  clear h
  cases hc : Pu.cols D with
  | none =>
    have HX : Hid (Pu.foot D E = none) := by simp [Hid, Pu.foot, hc]
    rw [hc] at V
    clear hc
    go_enter Try.func67, Try.ntmps67
    go_wp2_with fail
    refine V.out.mono ?_
    rintro e w' ⟨rfl, hbel⟩
    go_wp2
    go_ret
    exact ⟨by rw [HX.out]; rfl, hbel⟩
  | some pr =>
    obtain ⟨cs, a⟩ := pr
    obtain ⟨_, hcs, _⟩ := Pu.cols_spec hc
    rw [hc] at V
    have HF0 : Hid (Pu.foot D E = match Pu.grpsUp D E cs.length a with | none => none | some (gs, a2) => if a2 = D.length then some (cs, gs) else none) := by
      simp only [Hid, Pu.foot, hc, grps_up]
      cases Pu.grpsUp D E cs.length a with
      | none => rfl
      | some q =>
        obtain ⟨gs, a2⟩ := q
        simp only
        by_cases h : a2 = D.length
        · rw [if_pos h, if_pos h]
        · rw [if_neg h, if_neg h]
    clear hc
    go_enter Try.func67, Try.ntmps67
    go_wp2_with fail
    refine V.out.mono ?_
    rintro e w1 ⟨⟨rfl, hS⟩, hbel⟩
    have G : Hid (Calls Try.prog 86 #[.pointer (some ⟨R, 0, none⟩)] w1 fun e w' => GrsAns R lb B D E cs (Pu.grpsUp D E cs.length a) e w' ∧ Below B w1 w') := fgroups R lb B D E a cs w1 hS hE hcs
    clear hS
    cases hg : Pu.grpsUp D E cs.length a with
    | none =>
      have HX : Hid (Pu.foot D E = none) := by rw [Hid, HF0.out, hg]
      rw [hg] at G
      clear hg HF0
      go_wp2_with fail
      refine G.out.mono ?_
      rintro e w2 ⟨rfl, hb2⟩
      have hb3 := hbel.trans hb2
      clear hb2 hbel
      go_wp2
      go_ret
      exact ⟨by rw [HX.out]; rfl, hb3⟩
    | some q =>
      obtain ⟨gs, a2⟩ := q
      have HF1 : Hid (Pu.foot D E = if a2 = D.length then some (cs, gs) else none) := by rw [Hid, HF0.out, hg]
      rw [hg] at G
      clear hg HF0
      go_wp2_with fail
      refine G.out.mono ?_
      rintro e w2 ⟨⟨rfl, ws, vr, hS2, hL2⟩, hb2⟩
      have HL2 : Hid (GL w2 B ws gs) := hL2
      have hb3 := hbel.trans hb2
      have hle := hS2.le
      have L : Hid (Calls Try.prog 42 #[.pointer (some ⟨R, 0, none⟩)] w2 fun e w' => e = .returned (.int .i64 ((D.length - a2 : Nat) : Int)) ∧ w' = w2) := by
        obtain ⟨ao, cap, vc, hb, _⟩ := hS2
        exact left_any R 0 ao (D.length - a2) cap w2 hb.c0
      have HS2 : Hid (FSt w2 R lb B D E a2 cs ws vr) := hS2
      clear hb2 hbel hS2 hL2
      by_cases hend : a2 = D.length
      · have HX : Hid (Pu.foot D E = some (cs, gs)) := by rw [Hid, HF1.out, if_pos hend]
        have hz : D.length - a2 = 0 := by omega
        rw [hz] at L
        rw [hend] at HS2
        clear hend HF1 hz
        go_wp2_with fail
        refine L.out.mono ?_
        rintro e w' ⟨rfl, hw'⟩
        subst w'
        go_wp2
        go_ret
        rw [HX.out]
        exact ⟨⟨rfl, _, _, HS2.out, HL2.out⟩, hb3⟩
      · have HX : Hid (Pu.foot D E = none) := by rw [Hid, HF1.out, if_neg hend]
        obtain ⟨k, hk⟩ : ∃ k, k = D.length - a2 := ⟨_, rfl⟩
        have hk0 : 0 < k := by omega
        have hkd : ((k : Int) == 0) = false := by simp; omega
        rw [← hk] at L
        clear hend HF1 hk
        go_wp2_with fail
        refine L.out.mono ?_
        rintro e w' ⟨rfl, hw'⟩
        subst w'
        go_wp2
        go_ret
        exact ⟨by rw [HX.out]; rfl, hb3⟩

end Go.Proofs.Ytjobhlncllfdmaa

/- The program's table.writeGroups. -/
namespace Go.Proofs.Ytjobhlncllfdmaa
open Go.RowKit Go.Maps

/-- all groups, from a row on -/
def gsGo (cs : List Pu.Col) (ts : List (List Pu.Cl)) (rows n : Nat) : Nat → Nat → List UInt8 → List (Nat × List (Nat × Nat)) → List UInt8 × List (Nat × List (Nat × Nat))
  | 0, _, L, gs => (L, gs)
  | f + 1, fr, L, gs => if fr < n then gsGo cs ts rows n f (fr + rows) (grpW cs ts fr (min (fr + rows) n) L).1 (gs ++ [(min (fr + rows) n - fr, (grpW cs ts fr (min (fr + rows) n) L).2)]) else (L, gs)
theorem gsGo_end (cs : List Pu.Col) (ts : List (List Pu.Cl)) (rows n : Nat) (f fr : Nat) (L : List UInt8) (gs : List (Nat × List (Nat × Nat))) (h : ¬ fr < n) : gsGo cs ts rows n f fr L gs = (L, gs) := by
  cases f with
  | zero => rfl
  | succ f => unfold gsGo; rw [if_neg h]
theorem length_grpW (cs : List Pu.Col) (ts : List (List Pu.Cl)) (fr to n : Nat) (L : List UInt8) (hcs : cs.length = ts.length) (hc20 : cs.length ≤ 20) (hn : ∀ t ∈ ts, t.length = n) (hft : fr ≤ to) (htn : to ≤ n) (hn5 : n ≤ 100000) (hok : ∀ t ∈ ts, ∀ c ∈ t, c.s.length ≤ 1000) : (grpW cs ts fr to L).1.length ≤ L.length + 10000000000 := by
  have hlen : ∀ k, k ≤ cs.length → (grpN cs ts fr to L k).1.length ≤ L.length + 500000000 * k := fun k => by
    induction k with
    | zero => intro _; exact Nat.le_refl _
    | succ k ih =>
      intro hk
      have ih := ih (by omega)
      rw [grpN_succ cs ts fr to L k (by omega) (by omega)]
      have hsl := length_segL fr to (ts[k]'(by omega)) (by rw [hn _ (List.getElem_mem _)]; exact htn) hft
      have hp := length_partL (cs[k]'(by omega)).kind (cs[k]'(by omega)).opt (segL fr to (ts[k]'(by omega))) (by omega) (fun c hc => hok _ (List.getElem_mem (by omega)) c (List.mem_of_mem_drop (List.mem_of_mem_take hc)))
      show List.length (_ ++ _) ≤ _
      rw [List.length_append]
      simp only
      omega
  have := hlen cs.length (Nat.le_refl _)
  have e : grpN cs ts fr to L cs.length = grpW cs ts fr to L := by unfold grpN grpW; rw [List.take_of_length_le (by rw [List.length_zip]; omega)]
  rw [e] at this
  omega

theorem segL_sub (fr to : Nat) (l : List Pu.Cl) : ∀ c ∈ segL fr to l, c ∈ l := fun _ hc => List.mem_of_mem_drop (List.mem_of_mem_take hc)
theorem CellsOk.seg {kind : Nat} {l : List Pu.Cl} (h : CellsOk kind l) (fr to : Nat) : CellsOk kind (segL fr to l) :=
  ⟨fun c hc => h.1 c (segL_sub fr to l c hc), fun e c hc => h.2 e c (by
    have := List.mem_filter.1 hc
    exact List.mem_filter.2 ⟨segL_sub fr to l c this.1, this.2⟩)⟩

/-- what is so in the loop of writeGroups -/
structure GsS (w : World) (R B : Nat) (v : Value) (S : Nat) (ac : Option Addr) (nc cc : Nat) (at' : Option Addr) (ct : Nat) (L : List UInt8) (gs : List (Nat × List (Nat × Nat))) (vg : Value) (wr : World) : Prop where
  og : OG w R B v L wr
  t4 : wr.heap[S]? = some (.cells #[.slice ac nc cc, .slice at' nc ct] 50 (0, 0))
  grs : ∃ ws, wr.ownsRow (S + 1) 105 2 vg gs.length (grsV ws) ∧ GL wr (S + 1) ws gs
  s0 : S = w.heap.size
  size : S + 1 ≤ wr.heap.size
  rlt : R < S

theorem KeepT.of_og {w w1 : World} {R B : Nat} {v : Value} {L M : List UInt8} (h : OS w R B v L) (hg : OG w R B v M w1) : KeepT w w1 := fun k hk =>
  hg.blk hk.lt (fun e => Ty.ne hk (show Ty w k 116 from by rw [e]; exact ⟨_, h.blk⟩) (by decide) rfl) (fun e => Ty.ne hk (own_ty h.own e) (by decide) rfl)

/-- one group more -/
theorem GsS.step {w wr w2 : World} {R B : Nat} {v : Value} {S : Nat} {ac : Option Addr} {nc cc : Nat} {at' : Option Addr} {ct : Nat} {L L2 : List UInt8} {gs : List (Nat × List (Nat × Nat))} {vg vp v1 : Value} {q : Nat} {ps : List (Nat × Nat)} (h : GsS w R B v S ac nc cc at' ct L gs vg wr) (o1 : OS wr R B v1 L) (hg : OG wr R B v1 L2 w2) (hp : w2.ownsRow wr.heap.size 158 2 vp ps.length (plsV ps)) :
    (w2.heap[S]? = some (.cells #[.slice ac nc cc, .slice at' nc ct] 50 (0, 0))) ∧ S + 1 ≤ w2.heap.size ∧ ∃ ws, w2.ownsRow (S + 1) 105 2 vg gs.length (grsV ws) ∧ ∀ (a1 : Option Addr) (c1 : Nat) (w3 : World), w3.ownsRow (S + 1) 105 2 (.slice a1 (gs.length + 1) c1) (gs.length + 1) (grsV ws ++ [.int .i64 (q : Int), vp]) → w2.grownBy w3 vg.ownBlock → GsS w R B v S ac nc cc at' ct L2 (gs ++ [(q, ps)]) (.slice a1 (gs.length + 1) c1) w3 := by
  obtain ⟨ws, ow, gl⟩ := h.grs
  have hsz := h.size
  have hR := h.rlt
  have hgs := hg.size
  have kp : ∀ k (e : TypeId), Ty wr k e → k ≠ R → e ≠ 5 → w2.heap[k]? = wr.heap[k]? := fun k e hk hR he => hg.blk hk.lt hR (fun e' => Ty.ne hk (own_ty o1.own e') he rfl)
  have t42 : w2.heap[S]? = some (.cells #[.slice ac nc cc, .slice at' nc ct] 50 (0, 0)) := by rw [kp S 50 ⟨_, h.t4⟩ (by omega) (by decide)]; exact h.t4
  have ow2 : w2.ownsRow (S + 1) 105 2 vg gs.length (grsV ws) := own_agreeS ow (fun k hk => kp k 105 (own_tyS ow hk) (by have := (ow.lt k hk).1; omega) (by decide))
  refine ⟨t42, by omega, ws, ow2, fun a1 c1 w3 own3 gr3 => ?_⟩
  have low : ∀ k, k < w2.heap.size → vg.ownBlock ≠ some k → w3.heap[k]? = w2.heap[k]? := fun k hk hn => gr3.block k hk (fun e => hn e.symm)
  obtain ⟨v0, o0, f0, g0⟩ := h.og
  have hv : v0 = v1 := Option.some.inj (o0.c0.symm.trans o1.c0)
  subst hv
  have hog2 : OG w R B v L2 w2 := OG.step o0 f0 g0 hg
  obtain ⟨v2, o2, f2, g2⟩ := hog2
  have hvg : ∀ k, vg.ownBlock = some k → S + 1 ≤ k := fun k hk => (ow2.lt k hk).1
  have k158 : KeepT w2 w3 := fun k hk => low k hk.lt (fun e => Ty.ne hk (own_tyS ow2 e) (by decide) rfl)
  refine ⟨⟨v2, ⟨?_, ?_⟩, ?_, g2⟩, ?_, ⟨ws ++ [(q, vp)], ?_, ?_⟩, h.s0, by have := gr3.size; omega, hR⟩
  · rw [low R o2.lt (fun e => by have := hvg R e; omega)]; exact o2.blk
  · exact own_agree o2.own (fun k hk => low k (o2.own.lt k hk).2 (fun e => Ty.ne (own_ty o2.own hk) (own_tyS ow2 e) (by decide) rfl))
  · refine ⟨gr3.os.trans f2.os, gr3.tape.trans f2.tape, gr3.output.trans f2.output, Nat.le_trans f2.size gr3.size, fun k hk hn => ?_⟩
    have := h.s0
    have := f2.size
    rw [low k (by omega) (fun e => by have := hvg k e; omega)]
    exact f2.block k hk hn
  · rw [low S (by omega) (fun e => by have := hvg S e; omega)]; exact t42
  · rw [List.length_append, grsV_snoc]; exact own3
  · have gl2 : GL w2 (S + 1) ws gs := gl.kept (KeepT.of_og o1 hg)
    exact gl2.snoc k158 rfl (own_agreeS (hp.mono (by omega)) (fun k hk => k158 k (own_tyS hp hk)))

set_option maxHeartbeats 8000000 in
set_option maxRecDepth 100000 in
theorem writeGroups_any (R B Bt rows n : Nat) (v : Value) (L : List UInt8) (ac : Option Addr) (cc : Nat) (at' : Option Addr) (ct : Nat) (cs : List Pu.Col) (ts : List (List Pu.Cl)) (lbc lbt : Nat) (vs : List Value) (w : World) (h : OS w R B v L) (hB : B ≤ w.heap.size) (hT : TB w Bt ac cc at' ct cs ts lbc lbt vs) (hBR : Bt ≤ R) (hBB : Bt ≤ B)
    (hcs : cs.length = ts.length) (hc1 : 0 < cs.length) (hc20 : cs.length ≤ 20) (hn : ∀ t ∈ ts, t.length = n) (hn5 : n ≤ 5000) (hrows : 1 ≤ rows) (hrows2 : rows ≤ 1000) (hkind : ∀ c ∈ cs, c.kind ≤ 2) (hok : ∀ i, (h1 : i < cs.length) → (h2 : i < ts.length) → CellsOk cs[i].kind ts[i]) (hL : L.length ≤ 1000) :
    Calls Try.prog 58 #[.pointer (some ⟨R, 0, none⟩), .agg #[.slice ac cs.length cc, .slice at' ts.length ct], .int .i64 rows] w fun e w' => ∃ vg ws, e = .returned vg ∧ OG w R B v (gsGo cs ts rows n n 0 L []).1 w' ∧ w'.ownsRow w.heap.size 105 2 vg (gsGo cs ts rows n n 0 L []).2.length (grsV ws) ∧ GL w' w.heap.size ws (gsGo cs ts rows n n 0 L []).2 := by
  obtain ⟨S, hS⟩ : ∃ S, S = w.heap.size := ⟨_, rfl⟩
  obtain ⟨N, hN⟩ : ∃ N, N = cs.length := ⟨_, rfl⟩
  have hNt : ts.length = N := by omega
  obtain ⟨W1, hW1⟩ : ∃ W1, W1 = w.alloc (.cells #[.slice ac N cc, .slice at' N ct] 50) := ⟨_, rfl⟩
  have s1 : W1.heap.size = S + 1 := by rw [hW1, size_alloc', hS]
  have b1 : Below w.heap.size w W1 := by rw [hW1]; exact bbox w _
  have hRlt := h.lt
  have G0 : GsS w R B v S ac N cc at' ct L [] (.slice none 0 0) W1 := ⟨(OG.refl h).later b1, by rw [hW1, hS]; exact heap_alloc_new w _, ⟨[], World.ownsRow_nil _ _ _ _, GL.nil⟩, hS, by omega, by omega⟩
  obtain ⟨FIN, hFIN⟩ : ∃ FIN, FIN = gsGo cs ts rows n n 0 L [] := ⟨_, rfl⟩
  have H0 : Hid (∃ f L1 gs, GsS w R B v S ac N cc at' ct L1 gs (.slice none 0 0) W1 ∧ n ≤ 0 + f ∧ gsGo cs ts rows n f 0 L1 gs = FIN ∧ L1.length ≤ 10000000000 * 0 + 1000 ∧ gs.length ≤ 0) := ⟨n, L, [], G0, by omega, hFIN.symm, by omega, by simp⟩
  -- the first list: how many rows there are
  obtain ⟨ot, hat, hct⟩ := hT.lists.at (by omega)
  obtain ⟨ai, ci, lbi, e1, e2, e3⟩ := hT.each 0 (by omega)
  have hn0 : (ts[0]'(by omega)).length = n := hn _ (List.getElem_mem _)
  have hvl : 0 < vs.length := (List.getElem?_eq_some_iff.1 e1).1
  have hlst : w.cell? ⟨lbt, ot, none⟩ = some (.slice ai n ci) := by
    have := hct 0 hvl
    rw [List.getElem?_eq_getElem hvl, hn0] at e1
    rw [Nat.add_zero] at this
    rw [this]; exact e1
  have hltt := hT.lbt
  have hlst1 : W1.cell? ⟨lbt, ot, none⟩ = some (.slice ai n ci) := by rw [World.cell?_of_block (w := w) (a := ⟨lbt, ot, none⟩) (b1.block lbt (by omega))]; exact hlst
  have q1 : W1.cell? ⟨S, 1, none⟩ = some (.slice at' N ct) := by rw [cell_of_row _ _ 1 _ _ _ G0.t4]; rfl
  -- a round
  have HR : Hid (∀ (wr : World) (L1 : List UInt8) (gs : List (Nat × List (Nat × Nat))) (vg : Value) (fr to : Nat), GsS w R B v S ac N cc at' ct L1 gs vg wr → fr < to → to ≤ n → L1.length ≤ 10000000000 * fr + 1000 →
      Calls Try.prog 72 #[.pointer (some ⟨R, 0, none⟩), .agg #[.slice ac N cc, .slice at' N ct], .int .i64 fr, .int .i64 to] wr fun e w2 => ∃ vp, e = .returned (.agg #[.int .i64 ((to - fr : Nat) : Int), vp]) ∧ (∃ av nv cv, vp = .slice av nv cv) ∧ (w2.heap[S]? = some (.cells #[.slice ac N cc, .slice at' N ct] 50 (0, 0))) ∧ S + 1 ≤ w2.heap.size ∧ ∃ ws, w2.ownsRow (S + 1) 105 2 vg gs.length (grsV ws) ∧ ∀ (a1 : Option Addr) (c1 : Nat) (w3 : World), w3.ownsRow (S + 1) 105 2 (.slice a1 (gs.length + 1) c1) (gs.length + 1) (grsV ws ++ [.int .i64 ((to - fr : Nat) : Int), vp]) → w2.grownBy w3 vg.ownBlock → GsS w R B v S ac N cc at' ct (grpW cs ts fr to L1).1 (gs ++ [(to - fr, (grpW cs ts fr to L1).2)]) (.slice a1 (gs.length + 1) c1) w3) := fun wr L1 gs vg fr to hG hft htn hL1 => by
    obtain ⟨v1, o1, f1, g1⟩ := hG.og
    have hlow : ∀ j, j < Bt → wr.heap[j]? = w.heap[j]? := OG.low h hG.og hBR hBB
    have hf1 := f1.size
    have key := writeGroup_any R B Bt fr to n v1 L1 ac cc at' ct cs ts lbc lbt vs wr o1 (by omega) (hT.kept hlow) hBR hBB hcs hc20 hn hft htn (by omega) hkind (fun i h1 h2 => (hok i h1 h2).seg fr to) (by omega)
    rw [hNt, ← hN] at key
    refine key.mono ?_
    rintro e w2 ⟨vp, rfl, hg, hp⟩
    obtain ⟨r1, r2, ws, r3, r4⟩ := hG.step (q := to - fr) o1 hg hp
    exact ⟨vp, rfl, by obtain ⟨a, c, e⟩ := slen_of hp; exact ⟨a, _, c, e⟩, r1, r2, ws, r3, r4⟩
  have HT : Hid (∀ t ∈ ts, ∀ c ∈ t, c.s.length ≤ 1000) := fun t ht c hc => by
    obtain ⟨i, hi, rfl⟩ := List.getElem_of_mem ht
    exact (hok i (by omega) hi).1 c hc
  have HLn : Hid (∀ (fr to : Nat) (L1 : List UInt8), fr ≤ to → to ≤ n → (grpW cs ts fr to L1).1.length ≤ L1.length + 10000000000) := fun fr to L1 h1 h2 => length_grpW cs ts fr to n L1 hcs hc20 hn h1 h2 (by omega) HT.out
  rw [hNt, ← hN, ← hFIN, ← hS]
  have e1' : w.alloc (.cells #[.slice ac N cc, .slice at' N ct] 50) = W1 := hW1.symm
  have hsz : w.heap.size = S := hS.symm
  subst hat
  have hNpos : 0 < N := by omega
  clear h hT hn hkind hok hW1 hS hN hNt hcs hc20 hc1 b1 G0 hB hBR hBB hct e1 e2 e3 hn0 hvl hlst hFIN hRlt hltt hL HT s1
  go_enter Try.func58, Try.ntmps58
  go_wp2
  obtain ⟨i105, hi5, hz5, hz5', hz5''⟩ := info_parts Try.info105
  go_loopw [7, 9] (fun g i wr => ∃ (fr : Nat) (vg : Value), fr ≤ 6000 ∧ g = vg ∧ i = .int .i64 fr ∧ (∃ ag ng cg, vg = .slice ag ng cg) ∧ Hid (∃ f L1 gs, GsS w R B v S ac N cc (some ⟨lbt, ot, none⟩) ct L1 gs vg wr ∧ n ≤ fr + f ∧ gsGo cs ts rows n f fr L1 gs = FIN ∧ L1.length ≤ 10000000000 * fr + 1000 ∧ gs.length ≤ fr))
    (fun _ i _ => n - (intOf i).toNat)
  case atStart => exact ⟨0, _, Nat.zero_le _, rfl, rfl, ⟨_, _, _, rfl⟩, H0⟩
  case round =>
    obtain ⟨fr, vg, hfr, rfl, rfl, ⟨ag, ng0, cg, rfl⟩, HG⟩ := hrel
    by_cases hk2 : fr < n
    · obtain ⟨f, L1, gs, hG, hf, hgo, hL1, hgl⟩ := HG.out
      obtain ⟨f', rfl⟩ : ∃ f', f = f' + 1 := ⟨f - 1, by omega⟩
      have hng : ng0 = gs.length := by
        obtain ⟨ws0, ow0, _⟩ := hG.grs
        obtain ⟨a0, c0, e0⟩ := slen_of ow0
        simp only [Value.slice.injEq] at e0
        exact e0.2.1
      by_cases hto : fr + rows ≤ n
      · skip
        obtain ⟨nq, hnq⟩ : ∃ nq, nq = (fr + rows) - fr := ⟨_, rfl⟩
        have C1 := hid (HR.out wr L1 gs (.slice ag ng0 cg) fr (fr + rows) hG (by omega) (by omega) hL1)
        have hst : gsGo cs ts rows n f' (fr + rows) (grpW cs ts fr (fr + rows) L1).1 (gs ++ [((fr + rows) - fr, (grpW cs ts fr (fr + rows) L1).2)]) = FIN := by
          rw [← hgo]
          show _ = gsGo cs ts rows n (f' + 1) fr L1 gs
          conv => rhs; unfold gsGo
          rw [if_pos hk2, show min (fr + rows) n = (fr + rows) by omega]
        have hlen := HLn.out fr (fr + rows) L1 (by omega) (by omega)
        rw [← hnq] at C1 hst
        have HST := hid hst
        have hq4 : wr.cell? ⟨S, 0, none⟩ = some (.slice ac N cc) := by rw [cell_of_row _ _ 0 _ _ _ hG.t4]; rfl
        have hq5 : wr.cell? ⟨S, 1, none⟩ = some (.slice (some ⟨lbt, ot, none⟩) N ct) := by rw [cell_of_row _ _ 1 _ _ _ hG.t4]; rfl
        have hng2 : ng0 ≤ 5000 := by omega
        rw [← hng] at C1
        have HNX : Hid (∀ (a1 : Option Addr) (c1 : Nat) (w3 : World), GsS w R B v S ac N cc (some ⟨lbt, ot, none⟩) ct (grpW cs ts fr (fr + rows) L1).1 (gs ++ [(nq, (grpW cs ts fr (fr + rows) L1).2)]) (.slice a1 (ng0 + 1) c1) w3 → ∃ f L1 gs, GsS w R B v S ac N cc (some ⟨lbt, ot, none⟩) ct L1 gs (.slice a1 (ng0 + 1) c1) w3 ∧ n ≤ (fr + rows) + f ∧ gsGo cs ts rows n f (fr + rows) L1 gs = FIN ∧ L1.length ≤ 10000000000 * (fr + rows) + 1000 ∧ gs.length ≤ fr + rows) := fun a1 c1 w3 g3 => ⟨f', _, _, g3, by omega, HST.out, by omega, by rw [List.length_append]; simp; omega⟩
        have hmin1 : min ((fr : Int) + (rows : Int)) (n : Int) = ((fr + rows) : Int) := by omega
        clear hG hst hlen HG hgo hL1 hgl hnq hng hf
        go_wp2_with fail
        refine C1.out.mono ?_
        rintro e w2 ⟨vp, rfl, ⟨avp, nvp, cvp, rfl⟩, x1, x2, ws, ow, hn3⟩
        have OW := hid ow
        have HN3 := hid hn3
        clear ow hn3 C1 x1
        go_wp2_with (first
          | (at_builtin; refine wpList_push rfl (.tmp 27) (.tmp 33) 98 rfl rfl Try.underlying98 hi5 hz5 hz5' hz5'' rfl OW.out #[.int .i64 (nq : Int), .slice avp nvp cvp] rfl (by intro u hu; simp at hu; rcases hu with rfl | rfl <;> rfl) (by unfold maxLen; omega) (by omega) x2 rfl rfl ?_; intro a1 c1' w3 own3 gr3 lies3; have HR3 := hid (HNX.out a1 c1' w3 (HN3.out a1 c1' w3 own3 gr3)); clear own3 gr3 lies3)
          | go_in)
        go_roundw
        case rel => exact ⟨fr + rows, .slice a1 (ng0 + 1) c1', by omega, rfl, by go_num, ⟨_, _, _, rfl⟩, HR3⟩
        case measure => simp [intOf]; omega
      · skip
        obtain ⟨nq, hnq⟩ : ∃ nq, nq = n - fr := ⟨_, rfl⟩
        have C1 := hid (HR.out wr L1 gs (.slice ag ng0 cg) fr n hG (by omega) (by omega) hL1)
        have hst : gsGo cs ts rows n f' (fr + rows) (grpW cs ts fr n L1).1 (gs ++ [(n - fr, (grpW cs ts fr n L1).2)]) = FIN := by
          rw [← hgo]
          show _ = gsGo cs ts rows n (f' + 1) fr L1 gs
          conv => rhs; unfold gsGo
          rw [if_pos hk2, show min (fr + rows) n = n by omega]
        have hlen := HLn.out fr n L1 (by omega) (by omega)
        rw [← hnq] at C1 hst
        have HST := hid hst
        have hq4 : wr.cell? ⟨S, 0, none⟩ = some (.slice ac N cc) := by rw [cell_of_row _ _ 0 _ _ _ hG.t4]; rfl
        have hq5 : wr.cell? ⟨S, 1, none⟩ = some (.slice (some ⟨lbt, ot, none⟩) N ct) := by rw [cell_of_row _ _ 1 _ _ _ hG.t4]; rfl
        have hng2 : ng0 ≤ 5000 := by omega
        rw [← hng] at C1
        have HNX : Hid (∀ (a1 : Option Addr) (c1 : Nat) (w3 : World), GsS w R B v S ac N cc (some ⟨lbt, ot, none⟩) ct (grpW cs ts fr n L1).1 (gs ++ [(nq, (grpW cs ts fr n L1).2)]) (.slice a1 (ng0 + 1) c1) w3 → ∃ f L1 gs, GsS w R B v S ac N cc (some ⟨lbt, ot, none⟩) ct L1 gs (.slice a1 (ng0 + 1) c1) w3 ∧ n ≤ (fr + rows) + f ∧ gsGo cs ts rows n f (fr + rows) L1 gs = FIN ∧ L1.length ≤ 10000000000 * (fr + rows) + 1000 ∧ gs.length ≤ fr + rows) := fun a1 c1 w3 g3 => ⟨f', _, _, g3, by omega, HST.out, by omega, by rw [List.length_append]; simp; omega⟩
        have hmin1 : min ((fr : Int) + (rows : Int)) (n : Int) = (n : Int) := by omega
        clear hG hst hlen HG hgo hL1 hgl hnq hng hf
        go_wp2_with fail
        refine C1.out.mono ?_
        rintro e w2 ⟨vp, rfl, ⟨avp, nvp, cvp, rfl⟩, x1, x2, ws, ow, hn3⟩
        have OW := hid ow
        have HN3 := hid hn3
        clear ow hn3 C1 x1
        go_wp2_with (first
          | (at_builtin; refine wpList_push rfl (.tmp 27) (.tmp 33) 98 rfl rfl Try.underlying98 hi5 hz5 hz5' hz5'' rfl OW.out #[.int .i64 (nq : Int), .slice avp nvp cvp] rfl (by intro u hu; simp at hu; rcases hu with rfl | rfl <;> rfl) (by unfold maxLen; omega) (by omega) x2 rfl rfl ?_; intro a1 c1' w3 own3 gr3 lies3; have HR3 := hid (HNX.out a1 c1' w3 (HN3.out a1 c1' w3 own3 gr3)); clear own3 gr3 lies3)
          | go_in)
        go_roundw
        case rel => exact ⟨fr + rows, .slice a1 (ng0 + 1) c1', by omega, rfl, by go_num, ⟨_, _, _, rfl⟩, HR3⟩
        case measure => simp [intOf]; omega
    · obtain ⟨f, L1, gs, hG, hf, hgo, hL1, hgl⟩ := HG.out
      rw [gsGo_end cs ts rows n f fr L1 gs hk2] at hgo
      obtain ⟨ws, ow, gl⟩ := hG.grs
      have HF := hid (show ∃ vg ws, Ending.returned (Value.slice ag ng0 cg) = Ending.returned vg ∧ OG w R B v FIN.1 wr ∧ wr.ownsRow S 105 2 vg FIN.2.length (grsV ws) ∧ GL wr S ws FIN.2 from by
        rw [← hgo]
        exact ⟨_, ws, rfl, hG.og, ow.mono (by omega), gl.mono (by omega)⟩)
      clear hG hgo ow gl HG
      go_wp2
      go_ret
      exact HF.out
end Go.Proofs.Ytjobhlncllfdmaa
