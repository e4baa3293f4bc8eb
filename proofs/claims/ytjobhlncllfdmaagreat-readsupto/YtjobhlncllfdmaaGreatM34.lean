/- package page: Bytes. -/
import Derived.Test.YtjobhlncllfdmaaGreatM24
import Derived.Test.YtjobhlncllfdmaaGreatM28
import Derived.Test.YtjobhlncllfdmaaGreatM33
import Derived.Test.YtjobhlncllfdmaaGreatM29
namespace Go.Proofs.YtjobhlncllfdmaaGreat
open Go.RowKit

/-- what Bytes answers: the bytes lie in the block lb (the file) or in a new one -/
def ByAns (w : World) (lb : Nat) (p : Pu.Pg) (e : Ending) (w' : World) : Prop :=
  if Pu.sum p.body ≠ p.sum then e = .returned (.tuple #[.slice none 0 0, .int .i64 7]) else
  match Pu.unp p with
  | none => e = .returned (.tuple #[.slice none 0 0, .int .i64 4])
  | some L => ∃ ap cap lb', e = .returned (.tuple #[.slice ap L.length cap, .int .i64 0]) ∧ Rest w' lb' ap cap L ∧ lb' < w'.heap.size ∧ (lb' = lb ∨ w.heap.size ≤ lb')

theorem rest_of_own {w : World} {B : Nat} {ao : Option Addr} {cap : Nat} {L : List UInt8} (h : w.ownsRow B 5 1 (.slice ao L.length cap) L.length (bytesV L)) :
    ∃ lb, Rest w lb ao cap L ∧ (L = [] ∨ (B ≤ lb ∧ lb < w.heap.size)) := by
  rcases h.2 with ⟨hv, hn⟩ | ⟨g, cap', cur, hv, hB, hg, hnc, hcm, _, _⟩
  · simp only [Value.slice.injEq] at hv
    have hL : L = [] := List.eq_nil_of_length_eq_zero hn
    subst hL
    exact ⟨0, ⟨by simp, by have := hv.2.2; unfold maxLen; omega, .inl rfl⟩, .inl rfl⟩
  · simp only [Value.slice.injEq, true_and] at hv
    obtain ⟨rfl, rfl⟩ := hv
    refine ⟨g, ⟨hnc, hcm, .inr ⟨0, rfl, fun j hj => ?_⟩⟩, .inr ⟨hB, (own_tyS h rfl).lt⟩⟩
    rw [Nat.zero_add, h.cellAt j (by omega)]
    simp only [bytesV, List.getElem?_map, List.getElem?_eq_getElem hj, Option.map_some, Pu.byteAt, List.getD_eq_getElem?_getD, Option.getD_some]

theorem rest_any_block {w : World} {lb lb' : Nat} {ao : Option Addr} {cap : Nat} (h : Rest w lb ao cap []) : Rest w lb' ao cap [] := ⟨h.1, h.2.1, .inl rfl⟩

set_option maxHeartbeats 4000000 in
set_option maxRecDepth 100000 in
theorem bytes_any (p : Pu.Pg) (ap : Option Addr) (lb : Nat) (w : World) (hr : Rest w lb ap p.body.length p.body) (hlb : lb < w.heap.size) (hsum : p.sum < 4294967296) (hsz : p.packed = true → p.size ≤ 1048576) (_hz : p.size ≤ 4294967295) :
    Calls Tryz.prog 67 #[.agg (pgRow p.sort p.cells p.size p.packed p.sum (.slice ap p.body.length p.body.length))] w fun e w' => ByAns w lb p e w' ∧ Below w.heap.size w w' := by
  have HA : Hid (∀ e w', ByAns w lb p e w' = if Pu.sum p.body ≠ p.sum then e = .returned (.tuple #[.slice none 0 0, .int .i64 7]) else
    match Pu.unp p with
    | none => e = .returned (.tuple #[.slice none 0 0, .int .i64 4])
    | some L => ∃ ap cap lb', e = .returned (.tuple #[.slice ap L.length cap, .int .i64 0]) ∧ Rest w' lb' ap cap L ∧ lb' < w'.heap.size ∧ (lb' = lb ∨ w.heap.size ≤ lb')) := fun e w' => rfl
  obtain ⟨so, ce, pa, si, su, L⟩ := p
  simp only at hr hsum hsz _hz HA ⊢
  unfold pgRow
  obtain ⟨n, hn⟩ : ∃ n, n = L.length := ⟨_, rfl⟩
  have hnl : n ≤ 9223372036854775807 := by have := hr.2.1; unfold maxLen at this; omega
  obtain ⟨s, hs⟩ : ∃ s, s = Pu.sum L := ⟨_, rfl⟩
  have hsl : s < 4294967296 := by rw [hs]; exact Pu.sum_lt _
  have OF : Hid (∀ (o : Obj) (q : Nat), Calls Tryz.prog 46 #[.slice ap n n] ((w.alloc o).drewN q) fun e w' => e = .returned (.int .u32 (s : Int)) ∧ w' = (w.alloc o).drewN q) := fun o q => by
    have := of_any lb ap L.length L ((w.alloc o).drewN q) (hr.kept (Below.heap_alloc _ _ _ hlb))
    rw [← hn, ← hs] at this
    exact this
  rw [← hs] at HA
  rw [← hn]
  have Hr : Hid (Rest w lb ap n L) := by rw [Hid, hn]; exact hr
  have Hn : Hid (n = L.length) := hn
  clear hr hs hn
  by_cases hss : s = su
  · have hsd : ((s : Int) != (su : Int)) = false := by simp; omega
    cases pa with
    | false =>
      have HX : Hid (∀ e w', ByAns w lb ⟨so, ce, false, si, su, L⟩ e w' = ∃ ap cap lb', e = .returned (.tuple #[.slice ap L.length cap, .int .i64 0]) ∧ Rest w' lb' ap cap L ∧ lb' < w'.heap.size ∧ (lb' = lb ∨ w.heap.size ≤ lb')) := fun e w' => by
        rw [HA.out, if_neg (by simpa using hss)]; rfl
      clear hss HA
      go_enter Tryz.func67, Tryz.ntmps67
      go_wp2
      go_quiet ((go_at_call 46; exact Calls.quiet_of_same (OF.out _ _)))
      go_wp2
      go_ret2
      rw [HX.out, ← Hn.out]
      exact ⟨⟨ap, n, lb, rfl, Hr.out.kept (Below.heap_alloc _ _ _ hlb), by show lb < (w.alloc _).heap.size; rw [size_alloc']; omega, .inl rfl⟩, bboxN w _ _⟩
    | true =>
      have hsi := hsz rfl
      have UP : Hid (∀ (o : Obj) (q : Nat), Calls Tryz.prog 82 #[.slice ap n n, .int .i64 (si : Int)] ((w.alloc o).drewN q) fun e w' => UpAns ((w.alloc o).drewN q).heap.size (Pu.unpack L (si : Int)) e w' ∧ Below ((w.alloc o).drewN q).heap.size ((w.alloc o).drewN q) w') := fun o q => by
        have := unpack_any ap n lb si L ((w.alloc o).drewN q) (Hr.out.kept (Below.heap_alloc _ _ _ hlb)) (by show lb < (w.alloc _).heap.size; rw [size_alloc']; omega) hsi
        rw [← Hn.out] at this
        exact this
      obtain ⟨O, k, hup⟩ : ∃ O k, Pu.unpack L (si : Int) = (O, k) := ⟨_, _, rfl⟩
      rw [hup] at UP
      have hunp : Pu.unp ⟨so, ce, true, si, su, L⟩ = if k = 0 ∧ O.length = si then some O else none := by
        unfold Pu.unp; simp only [if_true, hup]
      by_cases hk : k = 0
      · by_cases hO : O.length = si
        · have HX : Hid (∀ e w', ByAns w lb ⟨so, ce, true, si, su, L⟩ e w' = ∃ ap cap lb', e = .returned (.tuple #[.slice ap O.length cap, .int .i64 0]) ∧ Rest w' lb' ap cap O ∧ lb' < w'.heap.size ∧ (lb' = lb ∨ w.heap.size ≤ lb')) := fun e w' => by
            rw [HA.out, if_neg (by simpa using hss), hunp, if_pos ⟨hk, hO⟩]
          subst hk
          have UP2 : Hid (∀ (o : Obj) (q : Nat), Calls Tryz.prog 82 #[.slice ap n n, .int .i64 (si : Int)] ((w.alloc o).drewN q) fun e w' => ∃ av cv, e = .returned (.tuple #[.slice av si cv, .int .i64 0]) ∧ Hid (w'.ownsRow ((w.alloc o).drewN q).heap.size 5 1 (.slice av O.length cv) O.length (bytesV O)) ∧ Below ((w.alloc o).drewN q).heap.size ((w.alloc o).drewN q) w') := fun o q => by
            refine (UP.out o q).mono ?_
            rintro e w' ⟨h1, h2⟩
            unfold UpAns at h1
            rw [if_pos rfl] at h1
            obtain ⟨v, he, hv⟩ := h1
            obtain ⟨av, cv, rfl⟩ := slen_of hv
            exact ⟨av, cv, by rw [← hO]; exact he, hv, h2⟩
          have HO : Hid (O.length = si) := hO
          clear hss HA UP hup hunp hO
          go_enter Tryz.func67, Tryz.ntmps67
          go_wp2
          go_quiet ((go_at_call 46; exact Calls.quiet_of_same (OF.out _ _)))
          go_wp2_with fail
          refine (UP2.out _ _).mono ?_
          rintro e w3 ⟨av, cv, rfl, Hown, hb3⟩
          have d2 : w3.cell? ⟨w.heap.size, 2, none⟩ = some (.int .i64 (si : Int)) := by
            rw [hb3.cell (p := ⟨w.heap.size, 2, none⟩) (by show w.heap.size < (w.alloc _).heap.size; rw [size_alloc']; exact Nat.lt_succ_self _)]
            exact cell_of_row (w.alloc _) _ 2 _ _ _ (heap_alloc_new w _)
          have hb : Below w.heap.size w w3 := bself (bboxN w _ _) hb3
          have Hs3 : Hid (w.heap.size < w3.heap.size) := by
            have h1 := hb3.size
            have h2 : ((w.alloc (.cells #[.int .u32 (so : Int), .int .i64 (ce : Int), .int .i64 (si : Int), .bool true, .int .u32 (su : Int), .slice ap n n] 146)).drewN nq).heap.size = w.heap.size + 1 := size_alloc' _ _
            unfold Hid; omega
          have HR : Hid (∃ lb', Rest w3 lb' av cv O ∧ lb' < w3.heap.size ∧ (lb' = lb ∨ w.heap.size ≤ lb')) := by
            obtain ⟨l, h1, h2⟩ := rest_of_own Hown.out
            rcases h2 with h2 | ⟨h2, h3⟩
            · subst h2
              exact ⟨lb, rest_any_block h1, by have := Hs3.out; omega, .inl rfl⟩
            · exact ⟨l, h1, h3, .inr (Nat.le_trans (bboxN w _ _).size h2)⟩
          clear hb3
          go_wp2
          go_ret2
          rw [HX.out, HO.out]
          obtain ⟨lb', g1, g2, g3⟩ := HR.out
          exact ⟨⟨av, cv, lb', rfl, g1, g2, g3⟩, hb⟩
        · have HX : Hid (∀ e w', ByAns w lb ⟨so, ce, true, si, su, L⟩ e w' = (e = .returned (.tuple #[.slice none 0 0, .int .i64 4]))) := fun e w' => by
            rw [HA.out, if_neg (by simpa using hss), hunp, if_neg (fun h => hO h.2)]
          subst hk
          have UP2 : Hid (∀ (o : Obj) (q : Nat), Calls Tryz.prog 82 #[.slice ap n n, .int .i64 (si : Int)] ((w.alloc o).drewN q) fun e w' => ∃ av cv, e = .returned (.tuple #[.slice av O.length cv, .int .i64 0]) ∧ Below ((w.alloc o).drewN q).heap.size ((w.alloc o).drewN q) w') := fun o q => by
            refine (UP.out o q).mono ?_
            rintro e w' ⟨h1, h2⟩
            unfold UpAns at h1
            rw [if_pos rfl] at h1
            obtain ⟨v, he, hv⟩ := h1
            obtain ⟨av, cv, rfl⟩ := slen_of hv
            exact ⟨av, cv, he, h2⟩
          obtain ⟨m, hm⟩ : ∃ m, m = O.length := ⟨_, rfl⟩
          rw [← hm] at UP2 hO
          have hOd : ((m : Int) != (si : Int)) = true := by simp; omega
          clear hss HA UP hup hunp hO hm
          go_enter Tryz.func67, Tryz.ntmps67
          go_wp2
          go_quiet ((go_at_call 46; exact Calls.quiet_of_same (OF.out _ _)))
          go_wp2_with fail
          refine (UP2.out _ _).mono ?_
          rintro e w3 ⟨av, cv, rfl, hb3⟩
          have d2 : w3.cell? ⟨w.heap.size, 2, none⟩ = some (.int .i64 (si : Int)) := by
            rw [hb3.cell (p := ⟨w.heap.size, 2, none⟩) (by show w.heap.size < (w.alloc _).heap.size; rw [size_alloc']; exact Nat.lt_succ_self _)]
            exact cell_of_row (w.alloc _) _ 2 _ _ _ (heap_alloc_new w _)
          have hb : Below w.heap.size w w3 := bself (bboxN w _ _) hb3
          clear hb3
          go_wp2
          go_ret2
          rw [HX.out]
          exact ⟨rfl, hb⟩
      · have HX : Hid (∀ e w', ByAns w lb ⟨so, ce, true, si, su, L⟩ e w' = (e = .returned (.tuple #[.slice none 0 0, .int .i64 4]))) := fun e w' => by
          rw [HA.out, if_neg (by simpa using hss), hunp, if_neg (fun h => hk h.1)]
        have hkd : ((k : Int) != 0) = true := by simp; omega
        have UP2 : Hid (∀ (o : Obj) (q : Nat), Calls Tryz.prog 82 #[.slice ap n n, .int .i64 (si : Int)] ((w.alloc o).drewN q) fun e w' => e = .returned (.tuple #[.slice none 0 0, .int .i64 (k : Int)]) ∧ Below ((w.alloc o).drewN q).heap.size ((w.alloc o).drewN q) w') := fun o q => by
          refine (UP.out o q).mono ?_
          rintro e w' ⟨h1, h2⟩
          unfold UpAns at h1
          rw [if_neg hk] at h1
          exact ⟨h1, h2⟩
        clear hss HA UP hup hunp hk
        go_enter Tryz.func67, Tryz.ntmps67
        go_wp2
        go_quiet ((go_at_call 46; exact Calls.quiet_of_same (OF.out _ _)))
        go_wp2_with fail
        refine (UP2.out _ _).mono ?_
        rintro e w3 ⟨rfl, hb3⟩
        have hb : Below w.heap.size w w3 := bself (bboxN w _ _) hb3
        clear hb3
        go_wp2
        go_ret2
        rw [HX.out]
        exact ⟨rfl, hb⟩
  · have HX : Hid (∀ e w', ByAns w lb ⟨so, ce, pa, si, su, L⟩ e w' = (e = .returned (.tuple #[.slice none 0 0, .int .i64 7]))) := fun e w' => by
      rw [HA.out, if_pos hss]
    have hsd : ((s : Int) != (su : Int)) = true := by simp; omega
    clear hss HA
    go_enter Tryz.func67, Tryz.ntmps67
    go_wp2
    go_quiet ((go_at_call 46; exact Calls.quiet_of_same (OF.out _ _)))
    go_wp2
    go_ret2
    rw [HX.out]
    exact ⟨rfl, bboxN w _ _⟩
end Go.Proofs.YtjobhlncllfdmaaGreat

/- package table: the next page: what holds on the way. -/
namespace Go.Proofs.YtjobhlncllfdmaaGreat
open Go.RowKit

def Pu.nextR (F : List UInt8) (opt : Bool) (kind budget pages a used : Nat) (st : Pu.Sta) : Except Nat (Nat × Pu.Sta × Nat) :=
  match Pu.headT F a with
  | none => .error 9
  | some (p, nx) => if Pu.may p kind st.left st.known (decide (pages = 0)) = true then
      (match Pu.page opt kind st p used budget with
      | .error e => .error e
      | .ok (u, st') => .ok (u, st', nx))
    else .error 9

def NtAns (w : World) (P B K : Nat) (nm : ByteArray) (kind : Nat) (opt : Bool) (rows lb : Nat) (F : List UInt8) (budget pages : Nat) (r : Except Nat (Nat × Pu.Sta × Nat)) (e : Ending) (w' : World) : Prop :=
  match r with
  | .error k => e = .returned (.int .i64 (k : Int)) ∧ Fr (fun j => j = K ∨ B ≤ j) w w'
  | .ok (u, st, nx) => e = .returned (.int .i64 0) ∧ Fr (fun j => j = K ∨ B ≤ j) w w' ∧ PSta w' P B nm kind opt rows lb F nx (pages + 1) st ∧ w'.heap[K]? = some (.cells #[.int .i64 ((budget - u : Nat) : Int)] 81 (0, 0))

/-- what holds on the way -/
structure NS (w : World) (P B K : Nat) (nm : ByteArray) (kind : Nat) (opt : Bool) (rows lb : Nat) (F : List UInt8) (nx pages left : Nat) (st : Pu.Sta) (Bx : Nat) (p : Pu.Pg) (ap : Option Addr) (W : World) : Prop where
  st : PSta W P B nm kind opt rows lb F nx pages st
  pu : W.heap[K]? = some (.cells #[.int .i64 (left : Int)] 81 (0, 0))
  bx : W.heap[Bx]? = some (.cells (pgRow p.sort p.cells p.size p.packed p.sum (.slice ap p.body.length p.body.length)) 146 (0, 0))
  rs : Rest W lb ap p.body.length p.body
  fr : Fr (fun j => j = K ∨ B ≤ j) w W
  hKP : K ≠ P
  hKl : K ≠ lb
  hKx : K ≠ Bx
  hlb : lb < B
  hBP : B ≤ P
  hKB : K < B

section
variable {w : World} {P B K : Nat} {nm : ByteArray} {kind : Nat} {opt : Bool} {rows lb : Nat} {F : List UInt8} {nx pages left : Nat} {st : Pu.Sta} {Bx : Nat} {p : Pu.Pg} {ap : Option Addr} {W W' : World}
theorem PSta.lt (h : PSta W P B nm kind opt rows lb F nx pages st) : P < W.heap.size := by
  obtain ⟨ao, cap, vd, vc, h1, _⟩ := h; exact h1.lt
theorem NS.lbl (h : NS w P B K nm kind opt rows lb F nx pages left st Bx p ap W) : lb < W.heap.size := by have := h.st.lt; have := h.hlb; have := h.hBP; omega
theorem NS.below (h : NS w P B K nm kind opt rows lb F nx pages left st Bx p ap W) (hb : Below W.heap.size W W') : NS w P B K nm kind opt rows lb F nx pages left st Bx p ap W' :=
  ⟨h.st.below hb, by rw [hb.block K (Array.getElem?_eq_some_iff.1 h.pu).1]; exact h.pu, by rw [hb.block Bx (Array.getElem?_eq_some_iff.1 h.bx).1]; exact h.bx, h.rs.kept (hb.block lb h.lbl), h.fr.trans (Fr.of_below (fun j => j = K ∨ B ≤ j) hb) (fun _ _ h => h), h.hKP, h.hKl, h.hKx, h.hlb, h.hBP, h.hKB⟩

/-- only the purse has turned -/
theorem NS.purse {left' : Nat} (h : NS w P B K nm kind opt rows lb F nx pages left st Bx p ap W) (hf : Fr (fun j => j = K) W W') (hp : W'.heap[K]? = some (.cells #[.int .i64 (left' : Int)] 81 (0, 0))) : NS w P B K nm kind opt rows lb F nx pages left' st Bx p ap W' := by
  have hty : Ty W K 81 := ⟨_, h.pu⟩
  refine ⟨?_, hp, by rw [hf.block Bx (Array.getElem?_eq_some_iff.1 h.bx).1 (fun e => h.hKx e.symm)]; exact h.bx, h.rs.kept (hf.block lb h.lbl (fun e => h.hKl e.symm)), h.fr.trans hf (fun k _ e => .inl e), h.hKP, h.hKl, h.hKx, h.hlb, h.hBP, h.hKB⟩
  obtain ⟨ao, cap, vd, vc, h1, h2, h3, h4, h5, h6, h7, h8, h9, h10⟩ := h.st
  exact ⟨ao, cap, vd, vc, h1.kept (hf.block P h1.lt (fun e => h.hKP e.symm)), h2.kept (hf.block lb h.lbl (fun e => h.hKl e.symm)), h3, h4, own_agreeS h5 (fun k hk => hf.block k (own_tyS h5 hk).lt (Ty.ne (own_tyS h5 hk) hty (by decide))), own_agreeS h6 (fun k hk => hf.block k (own_tyS h6 hk).lt (Ty.ne (own_tyS h6 hk) hty (by decide))), h7, h8, h9, h10⟩
end

theorem headT_bounds {F : List UInt8} {a nx : Nat} {p : Pu.Pg} (h : Pu.headT F a = some (p, nx)) : p.sort ≤ 2 ∧ p.cells ≤ 4294967295 ∧ p.size ≤ 4294967295 ∧ p.sum < 4294967296 ∧ (p.packed = true → p.size ≤ 1048576) ∧ p.body.length ≤ F.length ∧ nx ≤ F.length := by
  unfold Pu.headT at h
  by_cases h0 : F.length < a + 2
  · rw [if_pos h0] at h; cases h
  · rw [if_neg h0] at h
    cases h3 : Pu.three F (a + 2) with
    | none => simp [h3] at h
    | some q =>
      obtain ⟨c, st, z, b⟩ := q
      have hb := three_le h3
      simp only [h3] at h
      by_cases hfit : F.length < b + 4 + st
      · rw [if_pos hfit] at h; cases h
      · rw [if_neg hfit] at h
        by_cases hok : 2 < Pu.byteAt F a ∨ 1 < Pu.byteAt F (a + 1) ∨ ¬ (if Pu.byteAt F (a + 1) = 1 then z ≤ 1048576 else z = st)
        · rw [if_pos hok] at h; cases h
        · rw [if_neg hok] at h
          simp only [Option.some.injEq, Prod.mk.injEq] at h
          obtain ⟨rfl, rfl⟩ := h
          simp only [not_or, Decidable.not_not] at hok
          have hle : Pu.le (Pu.piece F b 4) < 4294967296 := by
            have := Pu.le_lt (Pu.piece F b 4)
            rw [Pu.length_piece _ _ _ (by omega)] at this
            exact this
          refine ⟨Nat.le_of_not_lt hok.1, hb.2.1, hb.2.2.2, hle, fun hp => ?_, ?_, by omega⟩
          · simp only [decide_eq_true_eq] at hp
            have := hok.2.2
            rw [if_pos hp] at this
            exact this
          · simp only [Pu.length_piece _ _ _ (show b + 4 + st ≤ F.length by omega)]
            omega
end Go.Proofs.YtjobhlncllfdmaaGreat

/- package table: the next page: each step's contract over what holds on the way. -/
namespace Go.Proofs.YtjobhlncllfdmaaGreat
open Go.RowKit

theorem may_cells {p : Pu.Pg} {kind left : Nat} {known first : Bool} (h : Pu.may p kind left known first = true) (hl : left ≤ 100000) : p.cells ≤ 100000 ∧ (p.sort ≠ 1 → p.cells ≤ left) := by
  unfold Pu.may at h
  by_cases h0 : p.sort = 0
  · rw [if_pos h0, decide_eq_true_eq] at h; exact ⟨by omega, fun _ => h⟩
  · rw [if_neg h0] at h
    by_cases h1 : p.sort = 1
    · rw [if_pos h1] at h; simp only [Bool.and_eq_true, decide_eq_true_eq] at h; exact ⟨by omega, fun c => absurd h1 c⟩
    · rw [if_neg h1] at h
      by_cases h2 : p.sort = 2
      · rw [if_pos h2] at h; simp only [Bool.and_eq_true, decide_eq_true_eq] at h; exact ⟨by omega, fun _ => h.2⟩
      · rw [if_neg h2] at h; cases h

theorem unp_len {p : Pu.Pg} {L : List UInt8} {M : Nat} (h : Pu.unp p = some L) (hb : p.body.length ≤ M) (hs : p.packed = true → p.size ≤ M) : L.length ≤ M := by
  unfold Pu.unp at h
  by_cases hp : p.packed = true
  · rw [if_pos hp] at h
    by_cases hc : (Pu.unpack p.body (p.size : Int)).2 = 0 ∧ (Pu.unpack p.body (p.size : Int)).1.length = p.size
    · rw [if_pos hc] at h
      simp only [Option.some.injEq] at h
      rw [← h, hc.2]; exact hs hp
    · rw [if_neg hc] at h; cases h
  · rw [if_neg hp] at h
    simp only [Option.some.injEq] at h
    rw [← h]; exact hb

/-- the part's cells lie below -/
def NV (W : World) (P B2 : Nat) : Prop := ∀ vc, W.cell? ⟨P, 8, none⟩ = some vc → ∀ k, vc.ownBlock = some k → k < B2
theorem NV.kept {W W' : World} {P B2 : Nat} (h : NV W P B2) (hb : W'.heap[P]? = W.heap[P]?) : NV W' P B2 := by
  intro vc hc
  exact h vc (by rw [← hc]; unfold World.cell?; rw [hb])

section
variable {w : World} {P B K : Nat} {nm : ByteArray} {kind : Nat} {opt : Bool} {rows lb : Nat} {F : List UInt8} {nx pages left : Nat} {st : Pu.Sta} {Bx : Nat} {p : Pu.Pg} {ap : Option Addr} {W W' : World}
theorem PSta.nv (h : PSta W P B nm kind opt rows lb F nx pages st) : NV W P W.heap.size := by
  obtain ⟨ao, cap, vd, vc, h1, h2, h3, h4, h5, h6, h7, h8, h9, h10⟩ := h
  intro v hv k hk
  rw [h1.c8] at hv
  simp only [Option.some.injEq] at hv
  subst hv
  exact (own_tyS h6 hk).lt

theorem NS.start {a : Nat} {C : Array Value} {w1 : World} (h : PSta w P B nm kind opt rows lb F a pages st) (hC : w.heap[P]? = some (.cells C 90 (0, 0))) (pu : w.heap[K]? = some (.cells #[.int .i64 (left : Int)] 81 (0, 0))) (hKB : K < B) (hKl : K ≠ lb) (hr : Rest w1 lb ap p.body.length p.body) (hf : Fr (fun k => k = P) w w1) (hi : ∃ C', InSt w1 P 4 C' 90 lb F nx ∧ SameBut 4 C C') :
    NS w P B K nm kind opt rows lb F nx pages left st w1.heap.size p ap (w1.alloc (.cells (pgRow p.sort p.cells p.size p.packed p.sum (.slice ap p.body.length p.body.length)) 146)) := by
  have hPl := h.lt
  obtain ⟨ao, cap, vd, vc, h1, h2, h3, h4, h5, h6, h7, h8, h9, h10⟩ := h
  obtain ⟨C', ⟨i1, i2, i3, ao', cap', i4, i5⟩, hs, hsb⟩ := hi
  have hKw : K < w.heap.size := (Array.getElem?_eq_some_iff.1 pu).1
  have hbl : ∀ k, k < w.heap.size → k ≠ P → w1.heap[k]? = w.heap[k]? := fun k hk hne => hf.block k hk hne
  have hsz := hf.size
  unfold PtR at h1
  rw [h1] at hC
  simp only [Option.some.injEq, Obj.cells.injEq, and_true] at hC
  subst hC
  have e : C' = ptRow nm kind opt rows (.slice ao' (F.length - nx) cap') pages st.known vd vc := by
    apply Array.ext_getElem?
    intro j
    by_cases hj : j = 4
    · subst hj; rw [i4]; rfl
    · rw [hsb j hj]
      unfold ptRow
      rcases j with _ | _ | _ | _ | _ | _ | _ | _ | _ | j
      all_goals first | rfl | omega
  subst e
  have hty : Ty w P 90 := ⟨_, h1⟩
  have hb := bbox w1 (.cells (pgRow p.sort p.cells p.size p.packed p.sum (.slice ap p.body.length p.body.length)) 146)
  have S1 : PSta w1 P B nm kind opt rows lb F nx pages st := ⟨ao', cap', vd, vc, i1, i5, i2, i3, own_agreeS h5 (fun k hk => hbl k (own_tyS h5 hk).lt (Ty.ne (own_tyS h5 hk) hty (by decide))), own_agreeS h6 (fun k hk => hbl k (own_tyS h6 hk).lt (Ty.ne (own_tyS h6 hk) hty (by decide))), h7, h8, h9, h10⟩
  have hKP : K ≠ P := by omega
  refine ⟨S1.below hb, ?_, heap_alloc_new w1 _, hr.kept (hb.block lb (by omega)), (hf.mono (fun k e => .inr (by omega))).trans (Fr.of_below _ hb) (fun _ _ h => h), hKP, hKl, by omega, h9, h8, hKB⟩
  · rw [hb.block K (by omega), hbl K hKw hKP]; exact pu

theorem NS.may (h : NS w P B K nm kind opt rows lb F nx pages left st Bx p ap W) (hr : rows ≤ 100000) (hp : p.sort ≤ 2) (hc : p.cells ≤ 4294967295) (hk : kind ≤ 2) (hpg : pages ≤ 1000) :
    Calls Tryz.prog 65 #[.pointer (some ⟨P, 0, none⟩), .agg (pgRow p.sort p.cells p.size p.packed p.sum (.slice ap p.body.length p.body.length))] W fun e w' => e = .returned (.bool (Pu.may p kind st.left st.known (decide (pages = 0)))) ∧ NS w P B K nm kind opt rows lb F nx pages left st Bx p ap w' := by
  obtain ⟨ao, cap, vd, vc, h1, h2, h3, h4, h5, h6, h7, h8, h9, h10⟩ := h.st
  obtain ⟨ac, cc, rfl⟩ := slen_of h6
  refine (mayHave_any P nm kind rows pages st.cells.length st.left opt st.known _ vd ac cc p p.sum _ W h1 hr h10 hp hc hk (by omega)).mono ?_
  rintro e w' ⟨he, hb⟩
  exact ⟨he, h.below hb⟩

theorem NS.payN (h : NS w P B K nm kind opt rows lb F nx pages left st Bx p ap W) (hl : left ≤ 1073741824) (hz : p.size ≤ 4294967295) (hx : left < p.size) :
    Calls Tryz.prog 66 #[.pointer (some ⟨K, 0, none⟩), .int .i64 (p.size : Int)] W fun e w' => e = .returned (.bool false) ∧ NS w P B K nm kind opt rows lb F nx pages left st Bx p ap w' := by
  refine (pay_no K left p.size W h.pu hl (by omega) hx).mono ?_
  rintro e w' ⟨he, rfl⟩
  exact ⟨he, h⟩

theorem NS.payY (h : NS w P B K nm kind opt rows lb F nx pages left st Bx p ap W) (hl : left ≤ 1073741824) (hx : p.size ≤ left) :
    Calls Tryz.prog 66 #[.pointer (some ⟨K, 0, none⟩), .int .i64 (p.size : Int)] W fun e w' => e = .returned (.bool true) ∧ NS w P B K nm kind opt rows lb F nx pages (left - p.size) st Bx p ap w' := by
  refine (pay_yes K left p.size W h.pu hl hx).mono ?_
  rintro e w' ⟨he, rfl⟩
  exact ⟨he, h.purse Fr.set (by rw [row_set h.pu]; rfl)⟩

theorem NS.bytes (h : NS w P B K nm kind opt rows lb F nx pages left st Bx p ap W) (hsum : p.sum < 4294967296) (hsz : p.packed = true → p.size ≤ 1048576) (hz : p.size ≤ 4294967295) :
    Calls Tryz.prog 67 #[.agg (pgRow p.sort p.cells p.size p.packed p.sum (.slice ap p.body.length p.body.length))] W fun e w' => ByAns W lb p e w' ∧ NS w P B K nm kind opt rows lb F nx pages left st Bx p ap w' := by
  refine (bytes_any p ap lb W h.rs h.lbl hsum hsz hz).mono ?_
  rintro e w' ⟨he, hb⟩
  exact ⟨he, h.below hb⟩

def LaAns (w : World) (P B K : Nat) (nm : ByteArray) (kind : Nat) (opt : Bool) (rows lb : Nat) (F : List UInt8) (nx pages left : Nat) (st : Pu.Sta) (Bx : Nat) (p : Pu.Pg) (ap : Option Addr) (ap' : Option Addr) (cap lb' : Nat) (L : List UInt8) (e : Ending) (w' : World) : Prop :=
  ∃ ad cd, e = .returned (.agg #[.int .i64 (kind : Int), .bool (opt && decide (p.sort ≠ 1)), .int .i64 (p.cells : Int), .bool (decide (p.sort = 2)), .slice ad st.dict.length cd]) ∧ NS w P B K nm kind opt rows lb F nx pages left st Bx p ap w' ∧ w'.ownsRow B 57 3 (.slice ad st.dict.length cd) st.dict.length (clsV st.dict) ∧ Rest w' lb' ap' cap L ∧ lb' < w'.heap.size

theorem NS.layout {ap' : Option Addr} {cap lb' : Nat} {L : List UInt8} (h : NS w P B K nm kind opt rows lb F nx pages left st Bx p ap W) (hp : p.sort ≤ 2) (hr : Rest W lb' ap' cap L) (hlb' : lb' < W.heap.size) :
    Calls Tryz.prog 69 #[.pointer (some ⟨P, 0, none⟩), .agg (pgRow p.sort p.cells p.size p.packed p.sum (.slice ap p.body.length p.body.length))] W fun e w' => LaAns w P B K nm kind opt rows lb F nx pages left st Bx p ap ap' cap lb' L e w' := by
  obtain ⟨ao, cap0, vd, vc, h1, h2, h3, h4, h5, h6, h7, h8, h9, h10⟩ := h.st
  obtain ⟨ad, cd, rfl⟩ := slen_of h5
  refine (layout_any P nm kind rows pages opt st.known _ vc ad st.dict.length cd p p.sum _ W h1 hp).mono ?_
  rintro e w' ⟨he, hb⟩
  exact ⟨ad, cd, he, h.below hb, own_below h5 hb, hr.kept (hb.block lb' hlb'), Nat.lt_of_lt_of_le hlb' hb.size⟩

def RdAns (w : World) (P B K : Nat) (nm : ByteArray) (kind : Nat) (opt : Bool) (rows lb : Nat) (F : List UInt8) (nx pages left : Nat) (st : Pu.Sta) (Bx : Nat) (p : Pu.Pg) (ap : Option Addr) (r : Except Nat (List Pu.Cl)) (e : Ending) (w' : World) : Prop :=
  NS w P B K nm kind opt rows lb F nx pages left st Bx p ap w' ∧
  match r with
  | .error k => e = .returned (.tuple #[.slice none 0 0, .int .i64 (k : Int)])
  | .ok l => ∃ av cv B2, e = .returned (.tuple #[.slice av l.length cv, .int .i64 0]) ∧ w'.ownsRow B2 57 3 (.slice av l.length cv) l.length (clsV l) ∧ B ≤ B2 ∧ NV w' P B2

theorem NS.cells {ap' ad : Option Addr} {cap cd lb' : Nat} {L : List UInt8} (h : NS w P B K nm kind opt rows lb F nx pages left st Bx p ap W) (hd : W.ownsRow B 57 3 (.slice ad st.dict.length cd) st.dict.length (clsV st.dict)) (hr : Rest W lb' ap' cap L) (hlb' : lb' < W.heap.size) (hn : p.cells ≤ 100000) (hk : kind ≤ 2) (hdl : st.dict.length ≤ 100000) :
    Calls Tryz.prog 68 #[.slice ap' L.length cap, .agg #[.int .i64 (kind : Int), .bool (opt && decide (p.sort ≠ 1)), .int .i64 (p.cells : Int), .bool (decide (p.sort = 2)), .slice ad st.dict.length cd]] W fun e w' => RdAns w P B K nm kind opt rows lb F nx pages left st Bx p ap (Pu.decT (opt && decide (p.sort ≠ 1)) kind (decide (p.sort = 2)) st.dict L p.cells) e w' := by
  refine (cellsRead_any ap' cap lb' L kind p.cells (opt && decide (p.sort ≠ 1)) (decide (p.sort = 2)) ad cd B st.dict W hr hlb' hn hk hd hdl).mono ?_
  rintro e w' ⟨he, hb⟩
  refine ⟨h.below hb, ?_⟩
  generalize Pu.decT (opt && decide (p.sort ≠ 1)) kind (decide (p.sort = 2)) st.dict L p.cells = r at he ⊢
  cases r with
  | error k => exact he
  | ok l =>
    obtain ⟨v, rfl, ho⟩ := he
    obtain ⟨av, cv, rfl⟩ := slen_of ho
    have := h.st.lt
    have := h.hBP
    exact ⟨av, cv, W.heap.size, rfl, ho, by omega, h.st.nv.kept (hb.block P h.st.lt)⟩

def PaAns (w : World) (P B K : Nat) (nm : ByteArray) (kind : Nat) (opt : Bool) (rows lb : Nat) (F : List UInt8) (nx pages left : Nat) (st : Pu.Sta) (Bx : Nat) (p : Pu.Pg) (ap : Option Addr) (B2 : Nat) (v : Value) (l : List Pu.Cl) (e : Ending) (w' : World) : Prop :=
  if left < Pu.cost l then e = .returned (.bool false) ∧ Fr (fun j => j = K ∨ B ≤ j) w w' else e = .returned (.bool true) ∧ NS w P B K nm kind opt rows lb F nx pages (left - Pu.cost l) st Bx p ap w' ∧ w'.ownsRow B2 57 3 v l.length (clsV l) ∧ NV w' P B2

theorem NS.payCells {av : Option Addr} {cv B2 : Nat} {l : List Pu.Cl} (h : NS w P B K nm kind opt rows lb F nx pages left st Bx p ap W) (hl : left ≤ 1073741824) (ho : W.ownsRow B2 57 3 (.slice av l.length cv) l.length (clsV l)) (hnv : NV W P B2) (hlm : l.length ≤ 100000) (hlt : ∀ c ∈ l, c.s.length ≤ 1073741824) :
    Calls Tryz.prog 70 #[.pointer (some ⟨K, 0, none⟩), .slice av l.length cv] W fun e w' => PaAns w P B K nm kind opt rows lb F nx pages left st Bx p ap B2 (.slice av l.length cv) l e w' := by
  refine (payCells_any K left B2 av cv l W h.pu hl ho hlm hlt).mono ?_
  intro e w' he
  unfold PcAns at he
  unfold PaAns
  by_cases hx : left < Pu.cost l
  · rw [if_pos hx] at he ⊢
    exact ⟨he.1, h.fr.trans he.2 (fun k _ e => .inl e)⟩
  · rw [if_neg hx] at he ⊢
    obtain ⟨h1, h2, h3⟩ := he
    exact ⟨h1, h.purse h3 h2, own_agreeS ho (fun k hk => h3.block k (own_tyS ho hk).lt (Ty.ne (own_tyS ho hk) ⟨_, h.pu⟩ (by decide))), hnv.kept (h3.block P h.st.lt (fun e => h.hKP e.symm))⟩

theorem NS.keep {av : Option Addr} {cv B2 : Nat} {l : List Pu.Cl} (h : NS w P B K nm kind opt rows lb F nx pages left st Bx p ap W) (ho : W.ownsRow B2 57 3 (.slice av l.length cv) l.length (clsV l)) (hB2 : B ≤ B2) (hnv : NV W P B2) (hpg : pages ≤ 1000) (hr : rows ≤ 100000) (hlm : l.length ≤ 100000) (hso : p.sort ≤ 2) (hle : p.sort ≠ 1 → l.length ≤ st.left) :
    Calls Tryz.prog 71 #[.pointer (some ⟨P, 0, none⟩), .int .u32 (p.sort : Int), .slice av l.length cv] W fun e w' => e = .returned (.tuple #[]) ∧ PSta w' P B nm kind opt rows lb F nx (pages + 1) (st.with p.sort l) ∧ Fr (fun j => j = K ∨ B ≤ j) w w' ∧ w'.heap[K]? = some (.cells #[.int .i64 (left : Int)] 81 (0, 0)) := by
  refine (keep_any P B nm kind opt rows lb F nx pages p.sort st l av cv B2 W h.st ho hB2 hnv (by omega) hr hlm hso hle).mono ?_
  rintro e w' ⟨he, h1, h2⟩
  refine ⟨he, h1, h.fr.trans h2 (fun k _ e => .inr e), ?_⟩
  rw [h2.block K (Array.getElem?_eq_some_iff.1 h.pu).1 (by have := h.hKB; omega)]
  exact h.pu
end
end Go.Proofs.YtjobhlncllfdmaaGreat
