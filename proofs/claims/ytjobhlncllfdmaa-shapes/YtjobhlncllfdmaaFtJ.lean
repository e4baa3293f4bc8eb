/- The program's reader of a footer: contracts of groups, whole. -/
import Derived.Test.YtjobhlncllfdmaaFtI
namespace Go.Proofs.Ytjobhlncllfdmaa
open Go.RowKit

/-- the groups' places -/
def GL (w : World) (B : Nat) (ws : List (Nat × Value)) (gs : List (Nat × List (Nat × Nat))) : Prop :=
  ws.length = gs.length ∧ ∀ (i : Nat) p g, ws[i]? = some p → gs[i]? = some g → p.1 = g.1 ∧ w.ownsRow B 158 2 p.2 g.2.length (plsV g.2)
theorem GL.nil {w : World} {B : Nat} : GL w B [] [] := ⟨rfl, fun i p g h _ => by simp at h⟩
theorem GL.kept {w w' : World} {B : Nat} {ws : List (Nat × Value)} {gs : List (Nat × List (Nat × Nat))} (h : GL w B ws gs) (hw : KeepT w w') : GL w' B ws gs :=
  ⟨h.1, fun i p g h1 h2 => ⟨(h.2 i p g h1 h2).1, own_agreeS (h.2 i p g h1 h2).2 (fun k hk => hw k (own_tyS (h.2 i p g h1 h2).2 hk))⟩⟩
theorem GL.mono {w : World} {B B' : Nat} {ws : List (Nat × Value)} {gs : List (Nat × List (Nat × Nat))} (h : GL w B ws gs) (hB : B' ≤ B) : GL w B' ws gs :=
  ⟨h.1, fun i p g h1 h2 => ⟨(h.2 i p g h1 h2).1, (h.2 i p g h1 h2).2.mono hB⟩⟩
theorem GL.snoc {w w' : World} {B : Nat} {ws : List (Nat × Value)} {gs : List (Nat × List (Nat × Nat))} {p : Nat × Value} {g : Nat × List (Nat × Nat)} (h : GL w B ws gs) (hw : KeepT w w') (h1 : p.1 = g.1) (h2 : w'.ownsRow B 158 2 p.2 g.2.length (plsV g.2)) : GL w' B (ws ++ [p]) (gs ++ [g]) := by
  have hk := h.kept hw
  refine ⟨by simp [h.1], fun i q f hq hf => ?_⟩
  have hl := h.1
  rcases Nat.lt_trichotomy i ws.length with hi | hi | hi
  · rw [List.getElem?_append_left hi] at hq
    rw [List.getElem?_append_left (by omega)] at hf
    exact hk.2 i q f hq hf
  · rw [List.getElem?_append_right (by omega), show i - ws.length = 0 by omega] at hq
    rw [List.getElem?_append_right (by omega), show i - gs.length = 0 by omega] at hf
    simp only [List.getElem?_cons_zero, Option.some.injEq] at hq hf
    subst hq hf
    exact ⟨h1, h2⟩
  · rw [List.getElem?_append_right (by omega), List.getElem?_eq_none (by simp; omega)] at hq
    cases hq

/-- groups, up to a place -/
def Pu.grpsUp (D : List UInt8) (E nc a : Nat) : Option (List (Nat × List (Nat × Nat)) × Nat) :=
  match Pu.num D a 0 50 with
  | none => none
  | some (n, a1) => Pu.grpsGo D E nc n a1 []

theorem grps_up (D : List UInt8) (E nc a : Nat) : Pu.grps D E nc a = match Pu.grpsUp D E nc a with | none => none | some (gs, a2) => if a2 = D.length then some gs else none := by
  unfold Pu.grps Pu.grpsUp Pu.num
  cases Pu.vi D a with
  | none => rfl
  | some q =>
    obtain ⟨n, a1⟩ := q
    simp only
    by_cases h : 50 < n
    · rw [if_pos h, if_pos (.inr h)]
    · rw [if_neg h, if_neg (by omega)]
      rfl

def GrsAns (R lb B : Nat) (D : List UInt8) (E : Nat) (cs : List Pu.Col) (r : Option (List (Nat × List (Nat × Nat)) × Nat)) (e : Ending) (w' : World) : Prop :=
  match r with
  | none => e = .returned (.bool false)
  | some (gs, a') => e = .returned (.bool true) ∧ ∃ ws vr, FSt w' R lb B D E a' cs ws vr ∧ GL w' B ws gs

set_option maxHeartbeats 2000000 in
set_option maxRecDepth 100000 in
theorem fgroups (R lb B : Nat) (D : List UInt8) (E a : Nat) (cs : List Pu.Col) (w : World) (h : FSt w R lb B D E a cs [] (.slice none 0 0)) (hE : E ≤ 140737488355328) (hcs : cs.length ≤ 20) :
    Calls Try.prog 86 #[.pointer (some ⟨R, 0, none⟩)] w fun e w' => GrsAns R lb B D E cs (Pu.grpsUp D E cs.length a) e w' ∧ Below B w w' := by
  have V : Hid (Calls Try.prog 96 #[.pointer (some ⟨R, 0, none⟩), .int .i64 0, .int .i64 50] w fun e w' => NumAns R lb B D E cs [] (.slice none 0 0) (Pu.num D a 0 50) e w' ∧ Below B w w') := fnumber R lb B D E a 0 50 cs [] (.slice none 0 0) w h (by omega) (by omega)
  clear h
  cases hn : Pu.num D a 0 50 with
  | none =>
    have HX : Hid (Pu.grpsUp D E cs.length a = none) := by simp [Hid, Pu.grpsUp, hn]
    rw [hn] at V
    clear hn
    go_enter Try.func86, Try.ntmps86
    go_wp2_with fail
    refine V.out.mono ?_
    rintro e w' ⟨rfl, hbel⟩
    go_wp2
    go_ret
    exact ⟨by rw [HX.out]; rfl, hbel⟩
  | some pr =>
    obtain ⟨N, a0⟩ := pr
    have HX : Hid (Pu.grpsUp D E cs.length a = Pu.grpsGo D E cs.length N a0 []) := by simp [Hid, Pu.grpsUp, hn]
    obtain ⟨_, hN1, hN2, _, _⟩ := num_some hn
    rw [hn] at V
    clear hn
    go_enter Try.func86, Try.ntmps86
    go_wp2_with fail
    refine V.out.mono ?_
    rintro e w1 ⟨⟨rfl, hS⟩, hbel⟩
    have HS : Hid (FSt w1 R lb B D E a0 cs [] (.slice none 0 0)) := hS
    clear hS
    go_wp2
    go_loopw [13] (fun i wr => ∃ (a : Nat) (gs : List (Nat × List (Nat × Nat))) (ws : List (Nat × Value)) (vr : Value), gs.length ≤ N ∧ i = .int .i64 gs.length ∧ Hid (Pu.grpsGo D E cs.length N a0 [] = Pu.grpsGo D E cs.length (N - gs.length) a gs) ∧ Hid (FSt wr R lb B D E a cs ws vr) ∧ Hid (GL wr B ws gs) ∧ Hid (Below B w wr)) (fun i _ => N - (intOf i).toNat)
    case atStart => exact ⟨a0, [], [], _, by simp, rfl, rfl, HS, GL.nil, hbel⟩
    case round =>
      obtain ⟨b, gs, ws, vr, hcl, rfl, HG, HF, HGL, HB⟩ := hrel
      by_cases hk : gs.length < N
      · have CO : Hid (Calls Try.prog 98 #[.pointer (some ⟨R, 0, none⟩)] wr fun e w' => GrAns R lb B D E cs ws wr (Pu.grp1 D E cs.length b) e w' ∧ Below B wr w') := fgroup R lb B D E b cs ws vr wr HF.out hE hcs (by rw [HGL.out.1]; omega)
        cases hc : Pu.grp1 D E cs.length b with
        | none =>
          have HY : Hid (Pu.grpsUp D E cs.length a = none) := by rw [Hid, HX.out, HG.out]; exact grpsGo_no (by omega) hc
          rw [hc] at CO
          clear hc
          go_wp2_with fail
          refine CO.out.mono ?_
          rintro e w2 ⟨rfl, hb2⟩
          have hb3 := HB.out.trans hb2
          clear hb2
          go_wp2
          go_ret
          exact ⟨by rw [HY.out]; rfl, hb3⟩
        | some p =>
          obtain ⟨g, b'⟩ := p
          have HY : Hid (Pu.grpsGo D E cs.length N a0 [] = Pu.grpsGo D E cs.length (N - (gs ++ [g]).length) b' (gs ++ [g])) := by rw [Hid, HG.out, grpsGo_yes (by omega) hc]; simp [Nat.sub_sub]
          rw [hc] at CO
          clear hc
          go_wp2_with fail
          refine CO.out.mono ?_
          rintro e w2 ⟨⟨rfl, vr2, vp, hS2, hP2, hT2⟩, hb2⟩
          have HS2 : Hid (FSt w2 R lb B D E b' cs (ws ++ [(g.1, vp)]) vr2) := hS2
          have HGL2 : Hid (GL w2 B (ws ++ [(g.1, vp)]) (gs ++ [g])) := HGL.out.snoc hT2 rfl hP2
          have HB2 : Hid (Below B w w2) := HB.out.trans hb2
          clear hb2 hS2 hP2 hT2
          go_wp2
          go_roundw
          case rel => exact ⟨b', gs ++ [g], _, _, by simp; omega, by simp, HY, HS2, HGL2, HB2⟩
          case measure => simp [intOf]; omega
      · obtain rfl : gs.length = N := by omega
        have HY : Hid (Pu.grpsUp D E cs.length a = some (gs, b)) := by rw [Hid, HX.out, HG.out, Nat.sub_self]; rfl
        go_wp2
        go_ret
        rw [HY.out]
        exact ⟨⟨rfl, _, _, HF.out, HGL.out⟩, HB.out⟩

def WhAns (R lb B : Nat) (D : List UInt8) (E : Nat) (r : Option (List Pu.Col × List (Nat × List (Nat × Nat)))) (e : Ending) (w' : World) : Prop :=
  match r with
  | none => e = .returned (.bool false)
  | some (cs, gs) => e = .returned (.bool true) ∧ ∃ ws vr, FSt w' R lb B D E D.length cs ws vr ∧ GL w' B ws gs

set_option maxHeartbeats 2000000 in
set_option maxRecDepth 100000 in
theorem fwhole (R lb B : Nat) (D : List UInt8) (E : Nat) (w : World) (h : FSt w R lb B D E 0 [] [] (.slice none 0 0)) (hE : E ≤ 140737488355328) :
    Calls Try.prog 67 #[.pointer (some ⟨R, 0, none⟩)] w fun e w' => WhAns R lb B D E (Pu.foot D E) e w' ∧ Below B w w' := by
  have V : Hid (Calls Try.prog 85 #[.pointer (some ⟨R, 0, none⟩)] w fun e w' => ColsAnsP R lb B D E [] (.slice none 0 0) (Pu.cols D) e w' ∧ Below B w w') := fcolumns R lb B D E [] (.slice none 0 0) w h
  clear h
  cases hc : Pu.cols D with
  | none =>
    have HX : Hid (Pu.foot D E = none) := by simp [Hid, Pu.foot, hc]
    rw [hc] at V
    clear hc
    go_enter Try.func67, Try.ntmps67
    go_wp2_with fail
    refine V.out.mono ?_
    rintro e w' ⟨rfl, hbel⟩
    go_wp2
    go_ret
    exact ⟨by rw [HX.out]; rfl, hbel⟩
  | some pr =>
    obtain ⟨cs, a⟩ := pr
    obtain ⟨_, hcs, _⟩ := Pu.cols_spec hc
    rw [hc] at V
    have HF0 : Hid (Pu.foot D E = match Pu.grpsUp D E cs.length a with | none => none | some (gs, a2) => if a2 = D.length then some (cs, gs) else none) := by
      simp only [Hid, Pu.foot, hc, grps_up]
      cases Pu.grpsUp D E cs.length a with
      | none => rfl
      | some q =>
        obtain ⟨gs, a2⟩ := q
        simp only
        by_cases h : a2 = D.length
        · rw [if_pos h, if_pos h]
        · rw [if_neg h, if_neg h]
    clear hc
    go_enter Try.func67, Try.ntmps67
    go_wp2_with fail
    refine V.out.mono ?_
    rintro e w1 ⟨⟨rfl, hS⟩, hbel⟩
    have G : Hid (Calls Try.prog 86 #[.pointer (some ⟨R, 0, none⟩)] w1 fun e w' => GrsAns R lb B D E cs (Pu.grpsUp D E cs.length a) e w' ∧ Below B w1 w') := fgroups R lb B D E a cs w1 hS hE hcs
    clear hS
    cases hg : Pu.grpsUp D E cs.length a with
    | none =>
      have HX : Hid (Pu.foot D E = none) := by rw [Hid, HF0.out, hg]
      rw [hg] at G
      clear hg HF0
      go_wp2_with fail
      refine G.out.mono ?_
      rintro e w2 ⟨rfl, hb2⟩
      have hb3 := hbel.trans hb2
      clear hb2 hbel
      go_wp2
      go_ret
      exact ⟨by rw [HX.out]; rfl, hb3⟩
    | some q =>
      obtain ⟨gs, a2⟩ := q
      have HF1 : Hid (Pu.foot D E = if a2 = D.length then some (cs, gs) else none) := by rw [Hid, HF0.out, hg]
      rw [hg] at G
      clear hg HF0
      go_wp2_with fail
      refine G.out.mono ?_
      rintro e w2 ⟨⟨rfl, ws, vr, hS2, hL2⟩, hb2⟩
      have HL2 : Hid (GL w2 B ws gs) := hL2
      have hb3 := hbel.trans hb2
      have hle := hS2.le
      have L : Hid (Calls Try.prog 42 #[.pointer (some ⟨R, 0, none⟩)] w2 fun e w' => e = .returned (.int .i64 ((D.length - a2 : Nat) : Int)) ∧ w' = w2) := by
        obtain ⟨ao, cap, vc, hb, _⟩ := hS2
        exact left_any R 0 ao (D.length - a2) cap w2 hb.c0
      have HS2 : Hid (FSt w2 R lb B D E a2 cs ws vr) := hS2
      clear hb2 hbel hS2 hL2
      by_cases hend : a2 = D.length
      · have HX : Hid (Pu.foot D E = some (cs, gs)) := by rw [Hid, HF1.out, if_pos hend]
        have hz : D.length - a2 = 0 := by omega
        rw [hz] at L
        rw [hend] at HS2
        clear hend HF1 hz
        go_wp2_with fail
        refine L.out.mono ?_
        rintro e w' ⟨rfl, hw'⟩
        subst w'
        go_wp2
        go_ret
        rw [HX.out]
        exact ⟨⟨rfl, _, _, HS2.out, HL2.out⟩, hb3⟩
      · have HX : Hid (Pu.foot D E = none) := by rw [Hid, HF1.out, if_neg hend]
        obtain ⟨k, hk⟩ : ∃ k, k = D.length - a2 := ⟨_, rfl⟩
        have hk0 : 0 < k := by omega
        have hkd : ((k : Int) == 0) = false := by simp; omega
        rw [← hk] at L
        clear hend HF1 hk
        go_wp2_with fail
        refine L.out.mono ?_
        rintro e w' ⟨rfl, hw'⟩
        subst w'
        go_wp2
        go_ret
        exact ⟨by rw [HX.out]; rfl, hb3⟩

end Go.Proofs.Ytjobhlncllfdmaa
