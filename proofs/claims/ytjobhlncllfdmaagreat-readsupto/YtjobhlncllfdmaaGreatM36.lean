/- package table: the next page (its contract). -/
import Derived.Test.YtjobhlncllfdmaaGreatM35
import Derived.Test.YtjobhlncllfdmaaGreatM23
import Derived.Test.YtjobhlncllfdmaaGreatM33
namespace Go.Proofs.YtjobhlncllfdmaaGreat
open Go.RowKit

set_option maxHeartbeats 4000000 in
set_option maxRecDepth 100000 in
theorem next_none (P K B : Nat) (lb : Nat) (F : List UInt8) (C : Array Value) (w : World) (hBP : B ≤ P) (NX : Hid (Calls Tryz.prog 64 #[.pointer (some ⟨P, 4, none⟩)] w fun e w' => NxAns w P 4 C 90 lb F none e w')) :
    Calls Tryz.prog 50 #[.pointer (some ⟨P, 0, none⟩), .pointer (some ⟨K, 0, none⟩)] w fun e w' => e = .returned (.int .i64 9) ∧ Fr (fun j => j = K ∨ B ≤ j) w w' := by
  go_enter Tryz.func50, Tryz.ntmps50
  go_wp2_with fail
  refine NX.out.mono ?_
  rintro e w1 ⟨⟨so, c, z, pk, y, rfl⟩, hf⟩
  have HF : Hid (Fr (fun j => j = K ∨ B ≤ j) w w1) := hf.mono (fun k e => .inr (by omega))
  clear hf
  unfold pgRow
  go_wp2
  go_ret
  exact ⟨rfl, HF.out.trans Fr.alloc' (fun _ _ h => h)⟩

theorem next_spec {F : List UInt8} {opt : Bool} {kind budget pages a used : Nat} {st st' : Pu.Sta} {u nx : Nat} (h : Pu.nextR F opt kind budget pages a used st = .ok (u, st', nx)) (hF : F.length ≤ 1073741824) (hl : st.left ≤ 100000) (hdl : st.dict.length ≤ 100000) (hds : ∀ c ∈ st.dict, c.s.length ≤ 1073741824) :
    used ≤ u ∧ u ≤ budget ∧ st'.left ≤ st.left ∧ st'.dict.length ≤ 100000 ∧ (∀ c ∈ st'.dict, c.s.length ≤ 1073741824) := by
  unfold Pu.nextR at h
  cases hh : Pu.headT F a with
  | none => simp [hh] at h
  | some q =>
    obtain ⟨p, nx'⟩ := q
    obtain ⟨b1, b2, b3, b4, b5, b6, b7⟩ := headT_bounds hh
    simp only [hh] at h
    by_cases hm : Pu.may p kind st.left st.known (decide (pages = 0)) = true
    · rw [if_pos hm] at h
      obtain ⟨m1, m2⟩ := may_cells hm hl
      cases hp : Pu.page opt kind st p used budget with
      | error k => simp [hp] at h
      | ok q =>
        obtain ⟨u', st''⟩ := q
        simp only [hp, Except.ok.injEq, Prod.mk.injEq] at h
        obtain ⟨rfl, rfl, rfl⟩ := h
        unfold Pu.page at hp
        by_cases c1 : budget < used + p.size
        · rw [if_pos c1] at hp; cases hp
        · rw [if_neg c1] at hp
          by_cases c2 : Pu.sum p.body ≠ p.sum
          · rw [if_pos c2] at hp; cases hp
          · rw [if_neg c2] at hp
            cases hu : Pu.unp p with
            | none => simp [hu] at hp
            | some L =>
              simp only [hu] at hp
              have hL := unp_len hu (M := 1073741824) (by omega) (fun e => by have := b5 e; omega)
              cases hd : Pu.dec opt kind st.dict { p with body := L } with
              | error k => simp [hd] at hp
              | ok l =>
                simp only [hd] at hp
                obtain ⟨s1, s2⟩ := Pu.dec_spec (p := { p with body := L }) hL hds hd
                by_cases c3 : budget < used + p.size + Pu.cost l
                · rw [if_pos c3] at hp; cases hp
                · rw [if_neg c3] at hp
                  simp only [Except.ok.injEq, Prod.mk.injEq] at hp
                  obtain ⟨rfl, rfl⟩ := hp
                  refine ⟨by omega, by omega, ?_⟩
                  unfold Pu.Sta.with
                  by_cases h1 : p.sort = 1
                  · rw [if_pos h1]
                    exact ⟨Nat.le_refl _, by simp only at s1; simp only [s1]; exact m1, s2⟩
                  · rw [if_neg h1]
                    exact ⟨Nat.sub_le _ _, hdl, hds⟩
    · rw [if_neg hm] at h; cases h

theorem partNext_any (P K B : Nat) (nm : ByteArray) (kind : Nat) (opt : Bool) (rows lb : Nat) (F : List UInt8) (a pages left budget used : Nat) (st : Pu.Sta) (w : World) (HP : PSta w P B nm kind opt rows lb F a pages st) (pu : w.heap[K]? = some (.cells #[.int .i64 (left : Int)] 81 (0, 0))) (hKB : K < B) (hKl : K ≠ lb) (hu : used + left = budget) (hb : budget ≤ 1073741824) (hr : rows ≤ 100000) (hk : kind ≤ 2) (hpg : pages ≤ 1000) (hF : F.length ≤ 1073741824) (hdl : st.dict.length ≤ 100000) (hds : ∀ c ∈ st.dict, c.s.length ≤ 1073741824) :
    Calls Tryz.prog 50 #[.pointer (some ⟨P, 0, none⟩), .pointer (some ⟨K, 0, none⟩)] w fun e w' => NtAns w P B K nm kind opt rows lb F budget pages (Pu.nextR F opt kind budget pages a used st) e w' := by
  have hPl := HP.lt
  obtain ⟨C, hC, hI, hBP, hlb, hleft⟩ : ∃ C, w.heap[P]? = some (.cells C 90 (0, 0)) ∧ InSt w P 4 C 90 lb F a ∧ B ≤ P ∧ lb < B ∧ st.left ≤ rows := by
    obtain ⟨ao, cap, vd, vc, h1, h2, h3, h4, h5, h6, h7, h8, h9, h10⟩ := HP
    exact ⟨_, h1, ⟨h1, h3, h4, ao, cap, rfl, h2⟩, h8, h9, by omega⟩
  have NX := next_page P 4 C 90 lb F a w hI (by omega)
  unfold Pu.nextR
  cases hh : Pu.headT F a with
  | none =>
    rw [hh] at NX
    refine (next_none P K B lb F C w hBP NX).mono ?_
    intro e w' he
    exact he
  | some q =>
    obtain ⟨p, nx⟩ := q
    obtain ⟨b1, b2, b3, b4, b5, b6, b7⟩ := headT_bounds hh
    rw [hh] at NX
    clear hh
    obtain ⟨so, ce, pa, si, su, bo⟩ := p
    simp only at b1 b2 b3 b4 b5 b6
    simp only
    cases hm : Pu.may ⟨so, ce, pa, si, su, bo⟩ kind st.left st.known (decide (pages = 0)) with
    | false =>
      rw [if_neg (by decide)]
      exact next_may P K B nm kind opt rows lb F a nx pages left budget used st C so ce pa si su bo _ w HP hC pu hKB hKl NX rfl (by omega) hr hk hpg b1 b2 b3 b4 b5 hm
    | true =>
      rw [if_pos rfl]
      obtain ⟨m1, m2⟩ := may_cells hm (show st.left ≤ 100000 by omega)
      simp only at m1 m2
      unfold Pu.page
      by_cases c1 : budget < used + si
      · simp only [if_pos c1]
        exact next_pay P K B nm kind opt rows lb F a nx pages left budget used st C so ce pa si su bo _ w HP hC pu hKB hKl NX rfl (by omega) hr hk hpg b1 b2 b3 b4 b5 hm (by omega)
      · simp only [if_neg c1]
        by_cases c2 : Pu.sum bo ≠ su
        · simp only [if_pos c2]
          exact next_by P K B nm kind opt rows lb F a nx pages left budget used st C so ce pa si su bo _ w HP hC pu hKB hKl NX rfl (by omega) hr hk hpg b1 b2 b3 b4 b5 7 hm (by omega) (fun w e w' => by unfold ByAns; simp only [if_pos c2]; rfl) (by decide)
        · simp only [if_neg c2]
          cases hun : Pu.unp ⟨so, ce, pa, si, su, bo⟩ with
          | none =>
            exact next_by P K B nm kind opt rows lb F a nx pages left budget used st C so ce pa si su bo _ w HP hC pu hKB hKl NX rfl (by omega) hr hk hpg b1 b2 b3 b4 b5 4 hm (by omega) (fun w e w' => by unfold ByAns; simp only [if_neg c2, hun]; rfl) (by decide)
          | some L =>
            have hL := unp_len hun (M := 1073741824) (by simp only; omega) (fun e => by have := b5 e; simp only; omega)
            have HBY : ∀ w e w', ByAns w lb ⟨so, ce, pa, si, su, bo⟩ e w' = ∃ ap cap lb', e = .returned (.tuple #[.slice ap L.length cap, .int .i64 0]) ∧ Rest w' lb' ap cap L ∧ lb' < w'.heap.size ∧ (lb' = lb ∨ w.heap.size ≤ lb') := fun w e w' => by unfold ByAns; simp only [if_neg c2, hun]
            simp only
            have hdT := dec_T opt kind st.dict ⟨so, ce, pa, si, su, L⟩
            simp only at hdT
            cases hd : Pu.dec opt kind st.dict ⟨so, ce, pa, si, su, L⟩ with
            | error k =>
              have k0 : ((k : Int) != 0) = true := by rcases dec_err hd with rfl | rfl <;> decide
              exact next_dec P K B nm kind opt rows lb F a nx pages left budget used st C so ce pa si su bo _ w HP hC pu hKB hKl NX rfl (by omega) hr hk hpg b1 b2 b3 b4 b5 k L _ _ _ rfl rfl rfl hm (by omega) HBY m1 hdl (hdT.symm.trans hd) k0
            | ok l =>
              obtain ⟨s1, s2⟩ := Pu.dec_spec (p := ⟨so, ce, pa, si, su, L⟩) hL hds hd
              simp only at s1
              by_cases c3 : budget < used + si + Pu.cost l
              · simp only [if_pos c3]
                exact next_cost P K B nm kind opt rows lb F a nx pages left budget used st C so ce pa si su bo _ w HP hC pu hKB hKl NX rfl (by omega) hr hk hpg b1 b2 b3 b4 b5 L l _ _ _ rfl rfl rfl hm (by omega) HBY m1 hdl (hdT.symm.trans hd) (by show l.length ≤ 100000; omega) s2 (by omega)
              · simp only [if_neg c3]
                refine (next_ok P K B nm kind opt rows lb F a nx pages left budget used st C so ce pa si su bo _ w HP hC pu hKB hKl NX rfl (by omega) hr hk hpg b1 b2 b3 b4 b5 L l _ _ _ rfl rfl rfl hm (by omega) HBY m1 hdl (hdT.symm.trans hd) (by show l.length ≤ 100000; omega) s2 (by omega) (fun e => by have := m2 e; omega)).mono ?_
                rintro e w' ⟨h1, h2, h3, h4⟩
                refine ⟨h1, h3, h2, ?_⟩
                rw [h4, show left - si - Pu.cost l = budget - (used + si + Pu.cost l) by omega]
end Go.Proofs.YtjobhlncllfdmaaGreat

/- package table: a part: so many pages. -/
namespace Go.Proofs.YtjobhlncllfdmaaGreat
open Go.RowKit

theorem nums4_three (F : List UInt8) (x : Nat) : Pu.nums4 F x = match Pu.three F x with
    | none => none
    | some (c, st, z, b) => match Pu.lo F b 4 with
      | none => none
      | some y => some (c, st, z, y, b + 4) := by
  unfold Pu.nums4 Pu.three
  cases h1 : Pu.vi F x with
  | none => rfl
  | some q1 =>
    obtain ⟨c, b1⟩ := q1
    simp only
    cases h2 : Pu.vi F b1 with
    | none => rfl
    | some q2 =>
      obtain ⟨st, b2⟩ := q2
      simp only
      cases h3 : Pu.vi F b2 with
      | none => rfl
      | some q3 => rfl

theorem piece_take (D : List UInt8) (E b n : Nat) (h : b + n ≤ E) : Pu.piece (D.take E) b n = Pu.piece D b n := by
  unfold Pu.piece
  rw [List.drop_take, List.take_take, Nat.min_eq_left (by omega)]

/-- a page's head, as package page and as the reference read it -/
theorem headT_head (D : List UInt8) (E a : Nat) (hE : E ≤ D.length) :
    (∃ q, Pu.headT (D.take E) a = some q ∧ Pu.head D a E = some q) ∨ (Pu.headT (D.take E) a = none ∧ (Pu.head D a E = none ∨ ∃ p nx, Pu.head D a E = some (p, nx) ∧ 2 < p.sort)) := by
  have hlen : (D.take E).length = E := by rw [List.length_take]; omega
  unfold Pu.headT Pu.head
  rw [hlen, nums4_three]
  by_cases h0 : E < a + 2
  · rw [if_pos h0, if_pos h0]; exact .inr ⟨rfl, .inl rfl⟩
  · rw [if_neg h0, if_neg h0]
    cases h3 : Pu.three (D.take E) (a + 2) with
    | none => exact .inr ⟨rfl, .inl rfl⟩
    | some q =>
      obtain ⟨c, st, z, b⟩ := q
      simp only
      unfold Pu.lo
      rw [hlen, byteAt_take' D E a (by omega), byteAt_take' D E (a + 1) (by omega)]
      by_cases h4 : b + 4 ≤ E
      · rw [if_pos h4]
        simp only
        by_cases hfit : E < b + 4 + st
        · have hq : E - (b + 4) < st := by omega
          rw [if_pos hfit, if_pos hq]; exact .inr ⟨rfl, .inl rfl⟩
        · have hq : ¬ E - (b + 4) < st := by omega
          rw [if_neg hfit, if_neg hq, piece_take D E (b + 4) st (by omega)]
          by_cases hok : Pu.byteAt D (a + 1) < 2 ∧ (if Pu.byteAt D (a + 1) = 1 then z ≤ 1048576 else z = st)
          · rw [if_pos hok]
            by_cases hs : 2 < Pu.byteAt D a
            · have ht : (2 < Pu.byteAt D a ∨ 1 < Pu.byteAt D (a + 1) ∨ ¬ (if Pu.byteAt D (a + 1) = 1 then z ≤ 1048576 else z = st)) := .inl hs
              rw [if_pos ht]
              exact .inr ⟨rfl, .inr ⟨_, _, rfl, hs⟩⟩
            · have ht : ¬ (2 < Pu.byteAt D a ∨ 1 < Pu.byteAt D (a + 1) ∨ ¬ (if Pu.byteAt D (a + 1) = 1 then z ≤ 1048576 else z = st)) := by
                rintro (h | h | h)
                · exact hs h
                · have := hok.1; omega
                · exact h hok.2
              rw [if_neg ht]
              exact .inl ⟨_, rfl, rfl⟩
          · have ht : (2 < Pu.byteAt D a ∨ 1 < Pu.byteAt D (a + 1) ∨ ¬ (if Pu.byteAt D (a + 1) = 1 then z ≤ 1048576 else z = st)) := by
              by_cases h1 : 1 < Pu.byteAt D (a + 1)
              · exact .inr (.inl h1)
              · exact .inr (.inr (fun h => hok ⟨by omega, h⟩))
            rw [if_neg hok, if_pos ht]
            exact .inr ⟨rfl, .inl rfl⟩
      · have hq : E < b + 4 + st := by omega
        rw [if_neg h4, if_pos hq]
        exact .inr ⟨rfl, .inl rfl⟩

theorem may_sort {p : Pu.Pg} {kind left : Nat} {known first : Bool} (h : 2 < p.sort) : Pu.may p kind left known first = false := by
  unfold Pu.may
  rw [if_neg (by omega), if_neg (by omega), if_neg (by omega)]

theorem pages_next (D : List UInt8) (E : Nat) (opt : Bool) (kind budget n pages a used : Nat) (st : Pu.Sta) (hE : E ≤ D.length) :
    Pu.pages D E opt kind budget (n + 1) (decide (pages = 0)) a used st = match Pu.nextR (D.take E) opt kind budget pages a used st with
      | .error e => .error e
      | .ok (u, st', nx) => Pu.pages D E opt kind budget n false nx u st' := by
  conv => lhs; unfold Pu.pages
  unfold Pu.nextR
  rcases headT_head D E a hE with ⟨⟨p, nx⟩, h1, h2⟩ | ⟨h1, h2 | ⟨p, nx, h2, hs⟩⟩
  · rw [h1, h2]
    simp only
    by_cases hm : Pu.may p kind st.left st.known (decide (pages = 0)) = true
    · rw [if_pos hm, if_pos hm]
      cases Pu.page opt kind st p used budget with
      | error e => rfl
      | ok q => rfl
    · rw [if_neg hm, if_neg hm]
  · rw [h1, h2]
  · rw [h1, h2]
    simp only
    rw [if_neg (by rw [may_sort hs]; decide)]

theorem next_err {F : List UInt8} {opt : Bool} {kind budget pages a used k : Nat} {st : Pu.Sta} (h : Pu.nextR F opt kind budget pages a used st = .error k) : k ≠ 0 ∧ k ≤ 12 := by
  unfold Pu.nextR at h
  cases hh : Pu.headT F a with
  | none => simp only [hh, Except.error.injEq] at h; omega
  | some q =>
    obtain ⟨p, nx⟩ := q
    simp only [hh] at h
    by_cases hm : Pu.may p kind st.left st.known (decide (pages = 0)) = true
    · rw [if_pos hm] at h
      cases hp : Pu.page opt kind st p used budget with
      | ok q => simp [hp] at h
      | error k' =>
        simp only [hp, Except.error.injEq] at h
        subst h
        unfold Pu.page at hp
        by_cases c1 : budget < used + p.size
        · rw [if_pos c1] at hp; simp only [Except.error.injEq] at hp; omega
        · rw [if_neg c1] at hp
          by_cases c2 : Pu.sum p.body ≠ p.sum
          · rw [if_pos c2] at hp; simp only [Except.error.injEq] at hp; omega
          · rw [if_neg c2] at hp
            cases hu : Pu.unp p with
            | none => simp only [hu, Except.error.injEq] at hp; omega
            | some L =>
              simp only [hu] at hp
              cases hd : Pu.dec opt kind st.dict { p with body := L } with
              | error k2 =>
                simp only [hd, Except.error.injEq] at hp
                have := dec_err hd
                omega
              | ok l =>
                simp only [hd] at hp
                by_cases c3 : budget < used + p.size + Pu.cost l
                · rw [if_pos c3] at hp; simp only [Except.error.injEq] at hp; omega
                · rw [if_neg c3] at hp; cases hp
    · rw [if_neg hm] at h; simp only [Except.error.injEq] at h; omega

def PrAns (w : World) (P B K : Nat) (nm : ByteArray) (kind : Nat) (opt : Bool) (rows lb : Nat) (F : List UInt8) (budget : Nat) (r : Except Nat (Nat × Pu.Sta)) (e : Ending) (w' : World) : Prop :=
  Fr (fun j => j = K ∨ B ≤ j) w w' ∧
  match r with
  | .error k => e = .returned (.int .i64 (k : Int))
  | .ok (u, st) => if 0 < st.left then e = .returned (.int .i64 13) else e = .returned (.int .i64 0) ∧ u ≤ budget ∧ w'.heap[K]? = some (.cells #[.int .i64 ((budget - u : Nat) : Int)] 81 (0, 0)) ∧ ∃ a pages, PSta w' P B nm kind opt rows lb F a pages st

set_option maxHeartbeats 4000000 in
set_option maxRecDepth 100000 in
theorem partRead_any (P K B : Nat) (nm : ByteArray) (kind : Nat) (opt : Bool) (rows lb : Nat) (D : List UInt8) (E a N budget used : Nat) (st : Pu.Sta) (w : World) (hE : E ≤ D.length) (HP : PSta w P B nm kind opt rows lb (D.take E) a 0 st) (pu : w.heap[K]? = some (.cells #[.int .i64 ((budget - used : Nat) : Int)] 81 (0, 0))) (hKB : K < B) (hKl : K ≠ lb) (hu : used ≤ budget) (hb : budget ≤ 1073741824) (hr : rows ≤ 100000) (hk : kind ≤ 2) (hN : N ≤ 1000) (hD : D.length ≤ 1073741824) (hdl : st.dict.length ≤ 100000) (hds : ∀ c ∈ st.dict, c.s.length ≤ 1073741824) :
    Calls Tryz.prog 36 #[.pointer (some ⟨P, 0, none⟩), .int .i64 (N : Int), .pointer (some ⟨K, 0, none⟩)] w fun e w' => PrAns w P B K nm kind opt rows lb (D.take E) budget (Pu.pages D E opt kind budget N true a used st) e w' := by
  obtain ⟨R, hR⟩ : ∃ R, R = Pu.pages D E opt kind budget N true a used st := ⟨_, rfl⟩
  have HF0 : Hid ((D.take E).length ≤ 1073741824) := by unfold Hid; rw [List.length_take]; omega
  have HI : Hid (PSta w P B nm kind opt rows lb (D.take E) a 0 st ∧ w.heap[K]? = some (.cells #[.int .i64 ((budget - used : Nat) : Int)] 81 (0, 0)) ∧ used ≤ budget ∧ st.dict.length ≤ 100000 ∧ (∀ c ∈ st.dict, c.s.length ≤ 1073741824) ∧ R = Pu.pages D E opt kind budget (N - 0) (decide (0 = 0)) a used st ∧ Fr (fun j => j = K ∨ B ≤ j) w w) := ⟨HP, pu, hu, hdl, hds, by rw [hR]; rfl, Fr.refl _ _⟩
  rw [← hR]
  clear HP pu hu hdl hds hR hD
  have HE : Hid (E ≤ D.length) := hE
  clear hE
  go_enter Tryz.func36, Tryz.ntmps36
  go_wp2
  go_loopw [9] (fun i wr => ∃ k a u : Nat, ∃ st : Pu.Sta, k ≤ N ∧ i = .int .i64 k ∧ Hid (PSta wr P B nm kind opt rows lb (D.take E) a k st ∧ wr.heap[K]? = some (.cells #[.int .i64 ((budget - u : Nat) : Int)] 81 (0, 0)) ∧ u ≤ budget ∧ st.dict.length ≤ 100000 ∧ (∀ c ∈ st.dict, c.s.length ≤ 1073741824) ∧ R = Pu.pages D E opt kind budget (N - k) (decide (k = 0)) a u st ∧ Fr (fun j => j = K ∨ B ≤ j) w wr)) (fun i _ => N - (intOf i).toNat)
  case atStart => exact ⟨0, a, used, st, Nat.zero_le _, rfl, HI⟩
  case round =>
    clear HI
    clear a used st
    obtain ⟨k, a, u, st, hkN, rfl, HI⟩ := hrel
    by_cases hk2 : k < N
    · have hkd : decide ((k : Int) < (N : Int)) = true := by simp; omega
      have NXT : Hid (Calls Tryz.prog 50 #[.pointer (some ⟨P, 0, none⟩), .pointer (some ⟨K, 0, none⟩)] wr fun e w' => NtAns wr P B K nm kind opt rows lb (D.take E) budget k (Pu.nextR (D.take E) opt kind budget k a u st) e w') := by
        obtain ⟨h1, h2, h3, h4, h5, h6, h7⟩ := HI.out
        exact partNext_any P K B nm kind opt rows lb (D.take E) a k (budget - u) budget u st wr h1 h2 hKB hKl (by omega) hb hr hk (by omega) HF0.out h4 h5
      have HRR : Hid (R = match Pu.nextR (D.take E) opt kind budget k a u st with
        | .error e => .error e
        | .ok (u, st', nx) => Pu.pages D E opt kind budget (N - (k + 1)) false nx u st') := by
        obtain ⟨h1, h2, h3, h4, h5, h6, h7⟩ := HI.out
        unfold Hid
        rw [h6, show N - k = (N - (k + 1)) + 1 by omega]
        exact pages_next D E opt kind budget (N - (k + 1)) k a u st HE.out
      cases hn : Pu.nextR (D.take E) opt kind budget k a u st with
      | error ke =>
        rw [hn] at NXT HRR
        have hk0 : ((ke : Int) != 0) = true := by have := (next_err hn).1; simp; omega
        have hkl : ke ≤ 12 := (next_err hn).2
        clear hn
        go_wp2_with fail
        refine NXT.out.mono ?_
        rintro e w2 ⟨rfl, hf⟩
        have HF : Hid (Fr (fun j => j = K ∨ B ≤ j) w w2) := HI.out.2.2.2.2.2.2.trans hf (fun _ _ h => h)
        clear hf NXT HI
        go_wp2
        go_ret
        rw [HRR.out]
        exact ⟨HF.out, rfl⟩
      | ok q =>
        obtain ⟨u', st', nx⟩ := q
        have HSP : Hid (u ≤ u' ∧ u' ≤ budget ∧ st'.left ≤ st.left ∧ st'.dict.length ≤ 100000 ∧ (∀ c ∈ st'.dict, c.s.length ≤ 1073741824)) := by
          obtain ⟨h1, h2, h3, h4, h5, h6, h7⟩ := HI.out
          have hle : st.left ≤ 100000 := by
            obtain ⟨ao, cap, vd, vc, g1, g2, g3, g4, g5, g6, g7, g8, g9, g10⟩ := h1
            omega
          exact next_spec hn HF0.out hle h4 h5
        rw [hn] at NXT HRR
        clear hn
        go_wp2_with fail
        refine NXT.out.mono ?_
        rintro e w2 ⟨rfl, hf, hp, hku⟩
        have HI2 : Hid (PSta w2 P B nm kind opt rows lb (D.take E) nx (k + 1) st' ∧ w2.heap[K]? = some (.cells #[.int .i64 ((budget - u' : Nat) : Int)] 81 (0, 0)) ∧ u' ≤ budget ∧ st'.dict.length ≤ 100000 ∧ (∀ c ∈ st'.dict, c.s.length ≤ 1073741824) ∧ R = Pu.pages D E opt kind budget (N - (k + 1)) (decide (k + 1 = 0)) nx u' st' ∧ Fr (fun j => j = K ∨ B ≤ j) w w2) :=
          ⟨hp, hku, HSP.out.2.1, HSP.out.2.2.2.1, HSP.out.2.2.2.2, by rw [HRR.out]; rfl, HI.out.2.2.2.2.2.2.trans hf (fun _ _ h => h)⟩
        clear hf hp hku NXT HI HSP HRR
        go_wp2
        go_roundw
        case rel => exact ⟨k + 1, nx, u', st', by omega, by go_num, HI2⟩
        case measure => simp [intOf]; omega
    · have hkd : decide ((k : Int) < (N : Int)) = false := by simp; omega
      obtain ⟨h1, h2, h3, h4, h5, h6, h7⟩ := HI.out
      rw [show N - k = 0 by omega] at h6
      have HR0 : Hid (R = .ok (u, st)) := by unfold Hid; rw [h6]; rfl
      have HI' : Hid (PSta wr P B nm kind opt rows lb (D.take E) a k st ∧ wr.heap[K]? = some (.cells #[.int .i64 ((budget - u : Nat) : Int)] 81 (0, 0)) ∧ u ≤ budget ∧ Fr (fun j => j = K ∨ B ≤ j) w wr) := ⟨h1, h2, h3, h7⟩
      obtain ⟨ao, cap, vd, vc, g1, g2, g3, g4, g5, g6, g7, g8, g9, g10⟩ := h1
      obtain ⟨ac, cc, rfl⟩ := slen_of g6
      have c3 := g1.c3
      have c8 := g1.c8
      obtain ⟨m, hm⟩ : ∃ m, m = st.cells.length := ⟨_, rfl⟩
      rw [← hm] at c8 g10
      clear h2 h3 h4 h5 h6 h7 g1 g2 g3 g4 g5 g6 g7 g8 g9 hm HI
      by_cases hle : 0 < st.left
      · have hd : decide ((m : Int) < (rows : Int)) = true := by simp; omega
        have hd2 : decide (m < rows) = true := by simp; omega
        have HX : Hid (0 < st.left) := hle
        clear g10 hle
        go_wp2
        go_region
        all_goals
          go_wp2
          go_ret
          rw [HR0.out]
          refine ⟨by exact HI'.out.2.2.2.drewN' _, ?_⟩
          simp only [if_pos HX.out]
          rfl
      · have hd : decide ((m : Int) < (rows : Int)) = false := by simp; omega
        have hd2 : decide (m < rows) = false := by simp; omega
        have HX : Hid (¬ 0 < st.left) := hle
        clear g10 hle
        go_wp2
        go_region
        all_goals
          go_wp2
          go_ret
          rw [HR0.out]
          refine ⟨by exact HI'.out.2.2.2.drewN' _, ?_⟩
          simp only [if_neg HX.out]
          exact ⟨rfl, HI'.out.2.2.1, HI'.out.2.1, a, k, HI'.out.1⟩
end Go.Proofs.YtjobhlncllfdmaaGreat

/- bytes.Equal, HasPrefix, HasSuffix as find calls them; pieceOf. -/
namespace Go.Proofs.YtjobhlncllfdmaaGreat
open Go.RowKit

set_option maxHeartbeats 1000000 in
set_option maxRecDepth 100000 in
theorem equalB (v1 v2 : Value) (L1 L2 : List UInt8) (w : World) (h1 : (convert 25 9 v1).run Tryz.prog w = .ok (.string ⟨L1.toArray⟩) w) (h2 : (convert 25 9 v2).run Tryz.prog w = .ok (.string ⟨L2.toArray⟩) w) :
    Calls Tryz.prog 74 #[v1, v2] w fun e w' => e = .returned (.bool (L1 == L2)) ∧ w' = w := by
  go_enter Tryz.func74, Tryz.ntmps74
  go_wp2
  go_ret
  exact ⟨rfl, rfl⟩

/-- bytes in a row of cells -/
def Row (w : World) (b o : Nat) (L : List UInt8) : Prop := ∀ j, j < L.length → w.cell? ⟨b, o + j, none⟩ = some (.int .u8 (Pu.byteAt L j : Int))

theorem Row.text {w : World} {b o cap : Nat} {L : List UInt8} (h : Row w b o L) : (convert 25 9 (.slice (some ⟨b, o, none⟩) L.length cap)).run Tryz.prog w = .ok (.string ⟨L.toArray⟩) w :=
  run_convert_bytes_back (P := Tryz.prog) w 25 9 5 ⟨b, o, none⟩ cap L Tryz.underlying25 Tryz.underlying5 Tryz.underlying9 (fun j hj => by
    rw [show (⟨b, o, none⟩ : Addr).add j = ⟨b, o + j, none⟩ from by unfold Addr.add; split <;> simp_all, h j hj]
    simp only [Pu.byteAt, List.getD_eq_getElem?_getD, List.getElem?_eq_getElem hj, Option.getD_some])
theorem Row.take {w : World} {b o : Nat} {L : List UInt8} (h : Row w b o L) (n : Nat) : Row w b o (L.take n) := fun j hj => by
  rw [List.length_take] at hj
  rw [byteAt_take _ _ _ (by omega)]
  exact h j (by omega)
theorem Row.drop {w : World} {b o : Nat} {L : List UInt8} (h : Row w b o L) (n : Nat) : Row w b (o + n) (L.drop n) := fun j hj => by
  rw [List.length_drop] at hj
  rw [byteAt_drop, Nat.add_assoc]
  exact h (n + j) (by omega)

set_option maxHeartbeats 1000000 in
set_option maxRecDepth 100000 in
theorem hasPrefix4 (lb o n c p d : Nat) (D M : List UInt8) (w : World) (hn : D.length = n) (hM : M.length = 4) (h4 : 4 ≤ n) (hnc : n ≤ c) (hcm : c ≤ maxLen) (hD : Row w lb o D) (hP : Row w p 0 M) :
    Calls Tryz.prog 57 #[.slice (some ⟨lb, o, none⟩) n c, .slice (some ⟨p, 0, none⟩) 4 d] w fun e w' => e = .returned (.bool (D.take 4 == M)) ∧ w' = w := by
  have t1 := (hD.take 4).text (cap := c)
  have t2 := hP.text (cap := d)
  rw [hM] at t2
  rw [show (D.take 4).length = 4 by rw [List.length_take]; omega] at t1
  have EQ : Hid (Calls Tryz.prog 74 #[.slice (some ⟨lb, o, none⟩) 4 c, .slice (some ⟨p, 0, none⟩) 4 d] w fun e w' => e = .returned (.bool (D.take 4 == M)) ∧ w' = w) := equalB _ _ _ _ w t1 t2
  unfold maxLen at hcm
  clear t1 t2 hD hP hn hM
  go_enter Tryz.func57, Tryz.ntmps57
  go_wp2_with fail
  refine EQ.out.mono ?_
  rintro e w' ⟨rfl, hw'⟩
  subst w'
  go_wp2
  go_ret
  exact ⟨rfl, rfl⟩

set_option maxHeartbeats 1000000 in
set_option maxRecDepth 100000 in
theorem hasSuffix4 (lb o n c p d : Nat) (D M : List UInt8) (w : World) (hn : D.length = n) (hM : M.length = 4) (h4 : 4 ≤ n) (hnc : n ≤ c) (hcm : c ≤ maxLen) (hD : Row w lb o D) (hP : Row w p 0 M) :
    Calls Tryz.prog 58 #[.slice (some ⟨lb, o, none⟩) n c, .slice (some ⟨p, 0, none⟩) 4 d] w fun e w' => e = .returned (.bool (D.drop (n - 4) == M)) ∧ w' = w := by
  have t1 := (hD.drop (n - 4)).text (cap := c - (n - 4))
  have t2 := hP.text (cap := d)
  rw [hM] at t2
  rw [show (D.drop (n - 4)).length = n - (n - 4) by rw [List.length_drop]; omega] at t1
  have EQ : Hid (Calls Tryz.prog 74 #[.slice (some ⟨lb, o + (n - 4), none⟩) (n - (n - 4)) (c - (n - 4)), .slice (some ⟨p, 0, none⟩) 4 d] w fun e w' => e = .returned (.bool (D.drop (n - 4) == M)) ∧ w' = w) := equalB _ _ _ _ w t1 t2
  unfold maxLen at hcm
  have hne : ¬ c = n - 4 := by omega
  clear t1 t2 hD hP hn hM
  go_enter Tryz.func58, Tryz.ntmps58
  go_wp2_with fail
  refine EQ.out.mono ?_
  rintro e w' ⟨rfl, hw'⟩
  subst w'
  go_wp2
  go_ret
  exact ⟨rfl, rfl⟩

def pieceA (ao : Option Addr) (a b : Nat) : Option Addr := if b = a then ao else ao.map (·.add a)

set_option maxHeartbeats 1000000 in
set_option maxRecDepth 100000 in
theorem pieceOf_any (ao : Option Addr) (n cap a b : Nat) (w : World) (hab : a ≤ b) (hbn : b ≤ n) (hnc : n ≤ cap) (_hcm : cap ≤ maxLen) :
    Calls Tryz.prog 49 #[.slice ao n cap, .int .i64 (a : Int), .int .i64 (b : Int)] w fun e w' => e = .returned (.slice (pieceA ao a b) (b - a) (b - a)) ∧ w' = w := by
  unfold maxLen at _hcm
  by_cases h : b = a
  · have HP : Hid (pieceA ao a b = ao) := by rw [Hid, pieceA, if_pos h]
    have hz : b - a = 0 := by omega
    go_enter Tryz.func49, Tryz.ntmps49
    go_wp2
    go_ret
    exact ⟨by rw [HP.out, hz]; rfl, rfl⟩
  · have HP : Hid (pieceA ao a b = ao.map (·.add a)) := by rw [Hid, pieceA, if_neg h]
    go_enter Tryz.func49, Tryz.ntmps49
    go_wp2
    go_ret
    exact ⟨by rw [HP.out]; rfl, rfl⟩

theorem Rest.piece {w : World} {lb : Nat} {ao : Option Addr} {cap : Nat} {D : List UInt8} (h : Rest w lb ao cap D) (a b : Nat) (hab : a ≤ b) (hb : b ≤ D.length) : Rest w lb (pieceA ao a b) (b - a) (Pu.piece D a (b - a)) := by
  have hm := h.2.1
  have hl := h.1
  refine ⟨by rw [Pu.length_piece _ _ _ (by omega)]; exact Nat.le_refl _, by omega, ?_⟩
  by_cases hz : b = a
  · left
    subst hz
    simp [Pu.piece]
  · rcases h.2.2 with rfl | ⟨o, rfl, hc⟩
    · simp at hb; omega
    · refine .inr ⟨o + a, ?_, fun j hj => ?_⟩
      · unfold pieceA
        rw [if_neg hz]
        simp only [Option.map, Addr.add]
        split
        · simp_all
        · rfl
      · rw [Pu.length_piece _ _ _ (by omega)] at hj
        rw [Pu.byteAt_piece _ _ _ _ hj, Nat.add_assoc]
        exact hc (a + j) (by omega)

end Go.Proofs.YtjobhlncllfdmaaGreat
