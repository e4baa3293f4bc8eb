/- (*Reader).levels, where there are none to be read. -/
import Derived.Test.YtjobhlncllfdmaaGreatM11
import Derived.Test.YtjobhlncllfdmaaGreatM12
import Derived.Test.YtjobhlncllfdmaaGreatM13
import Derived.Test.YtjobhlncllfdmaaGreatM17
import Derived.Deep.RegionWith
import Derived.Deep.DeepCutAuto
namespace Go.Proofs.YtjobhlncllfdmaaGreat
open Go.RowKit

theorem rep_one (k : Nat) : ints (List.replicate k 1) ++ [.int .i64 1] = ints (List.replicate (k + 1) 1) := by
  rw [show (Value.int .i64 1) = .int .i64 ((1 : Nat) : Int) from rfl, ints_snoc, List.replicate_succ']

set_option maxHeartbeats 4000000 in
set_option maxRecDepth 100000 in
theorem levels_all (p : Pu.Pg) (r : Nat) (nm : ByteArray) (kind left : Nat) (opt known : Bool) (vd vc : Value) (w : World) (h : RB w r nm kind opt left vd known vc) (hc : p.cells ≤ 100000) (hs : p.sort < 256) (ho : opt = false ∨ p.sort = 1) :
    Calls Tryz.prog 72 #[.pointer (some ⟨r, 0, none⟩), pgV p] w fun e w' => (∃ v, e = .returned (.tuple #[v, .int .i64 0, .bool true]) ∧ w'.ownsRow w.heap.size 3 1 v p.cells (ints (List.replicate p.cells 1))) ∧ Below w.heap.size w w' := by
  have c2 := h.c2
  have hrl := h.lt
  obtain ⟨so, ce, pa, si, su, bo⟩ := p
  simp only at hc hs ho ⊢
  unfold pgV
  simp only
  generalize (⟨bo.toArray⟩ : ByteArray) = t
  clear h
  have hguard : (opt = false) ∨ (opt = true ∧ so = 1) := by
    cases opt with
    | false => exact .inl rfl
    | true => rcases ho with h | h; cases h; exact .inr ⟨rfl, h⟩
  clear ho
  have key : ∀ (hx : opt = false ∨ opt = true ∧ so = 1), Calls Tryz.prog 72 #[.pointer (some ⟨r, 0, none⟩), .agg #[.int .i64 (so : Int), .int .i64 (ce : Int), .bool pa, .int .i64 (si : Int), .int .i64 (su : Int), .string t]] w fun e w' => (∃ v, e = .returned (.tuple #[v, .int .i64 0, .bool true]) ∧ w'.ownsRow w.heap.size 3 1 v ce (ints (List.replicate ce 1))) ∧ Below w.heap.size w w' := by
    intro hx
    rcases hx with rfl | ⟨rfl, rfl⟩
    all_goals
      go_enter Tryz.func72, Tryz.ntmps72
      go_wp2
      go_loopw [7, 8] (fun v i wr => ∃ k : Nat, k ≤ ce ∧ i = .int .i64 k ∧ wr.ownsRow (w.heap.size + 1) 3 1 v k (ints (List.replicate k 1)) ∧ wr.cell? ⟨w.heap.size, 1, none⟩ = some (.int .i64 (ce : Int)) ∧ Hid (w.heap.size < wr.heap.size) ∧ Hid (Below w.heap.size w wr)) (fun _ i _ => ce - (intOf i).toNat)
      case atStart => exact ⟨0, Nat.zero_le _, rfl, World.ownsRow_nil _ _ _ _, by rw [cell_of_row _ _ 1 _ _ _ (heap_alloc_new w _)]; rfl, by rw [Hid, size_alloc']; omega, (Below.refl _ _).alloc (Nat.le_refl _) _⟩
      case round =>
        obtain ⟨k, hk, rfl, hown, hce, Hlt, Hb⟩ := hrel
        obtain ⟨av, cv, rfl⟩ := slen_of hown
        by_cases hk2 : k < ce
        · obtain ⟨i0, hi, hz0, hz1, hz2⟩ := info_parts Tryz.info3
          go_wp2_with (first
            | (at_builtin; refine wpList_append_own _ rfl _ _ 27 rfl (w.heap.size + 1) 3 i0 (.int .i64 0) 1 8 Tryz.underlying27 hi hz0 hz1 hz2 rfl (by decide) _ _ _ rfl (hown.alloc _) ⟨_, 0, none⟩ 1 1 [.int .i64 1] rfl rfl ?d1 ?d2 ?d3 ?d4 ?d5 ?_)
            | go_in)
          case d1 => exact one_new rfl
          case d2 => exact one_cell
          case d3 => unfold maxLen; omega
          case d4 => omega
          case d5 => rw [size_alloc']; have := Hlt.out; omega
          intro v' w1 hown3 hg _
          have hbk : w1.heap[w.heap.size]? = wr.heap[w.heap.size]? := agree_step hg Hlt.out (fun e' => by have := (hown.lt _ e').1; omega)
          have hce' : w1.cell? ⟨w.heap.size, 1, none⟩ = some (.int .i64 (ce : Int)) := by rw [World.cell?_of_block (w := wr) hbk]; exact hce
          have Hlt' : Hid (w.heap.size < w1.heap.size) := by have := hg.size; rw [size_alloc'] at this; have := Hlt.out; unfold Hid; omega
          have Hb' : Hid (Below w.heap.size w w1) := below_append Hb.out (Nat.le_refl _) hg (fun x e' => by have := (hown.lt x e').1; omega)
          rw [rep_one] at hown3
          clear hg hown hce hbk
          go_wp2
          go_roundw
          case rel => exact ⟨k + 1, by omega, by go_num, hown3, hce', Hlt', Hb'⟩
          case measure => simp [intOf]; omega
        · obtain rfl : k = ce := by omega
          go_wp2
          go_ret3
          exact ⟨⟨_, rfl, hown.mono (by omega)⟩, Hb.out⟩
  exact key hguard
end Go.Proofs.YtjobhlncllfdmaaGreat

/- (*Reader).levels: its contract. -/
namespace Go.Proofs.YtjobhlncllfdmaaGreat
open Go.RowKit

def LvAns (B : Nat) (r : Option (List Nat × Nat)) (e : Ending) (w' : World) : Prop :=
  match r with
  | none => ∃ v x, e = .returned (.tuple #[v, x, .bool false])
  | some (l, a) => ∃ v, e = .returned (.tuple #[v, .int .i64 (a : Int), .bool true]) ∧ w'.ownsRow B 3 1 v l.length (ints l)

theorem ret3_last {u v : Value} {x y : Bool} (h : x = y) : Ending.returned (.tuple #[u, v, .bool x]) = .returned (.tuple #[u, v, .bool y]) := by rw [h]

set_option maxHeartbeats 4000000 in
set_option maxRecDepth 100000 in
theorem levels_some (p : Pu.Pg) (r : Nat) (nm : ByteArray) (kind left : Nat) (known : Bool) (vd vc : Value) (w : World) (h : RB w r nm kind true left vd known vc) (hc : p.cells ≤ 100000) (hs : p.sort < 256) (hb : p.body.length ≤ 1073741824) (ho : p.sort ≠ 1) :
    Calls Tryz.prog 72 #[.pointer (some ⟨r, 0, none⟩), pgV p] w fun e w' => LvAns w.heap.size (Pu.lv true p) e w' ∧ Below w.heap.size w w' := by
  have c2 := h.c2
  have hrl := h.lt
  obtain ⟨so, ce, pa, si, su, bo⟩ := p
  simp only at hc hs ho hb ⊢
  unfold pgV
  simp only
  obtain ⟨t, ht⟩ : ∃ t : ByteArray, t = ⟨bo.toArray⟩ := ⟨_, rfl⟩
  rw [← ht]
  have hbo : t.data.toList = bo := by rw [ht]
  have hts : t.size = bo.length := by rw [← len_dataB, hbo]
  have hod : ((so : Int) == 1) = false := by simp; omega
  have HL : Hid (Pu.lv true ⟨so, ce, pa, si, su, bo⟩ = match Pu.vi t.data.toList 0 with
    | none => none
    | some (n, a) => if bo.length < a + n then none else
      match Pu.rs (t.data.toList.take (a + n)) 1 ce ce a [] with
      | none => none
      | some (l, e) => if e = a + n then some (l, a + n) else none) := by
    unfold Hid Pu.lv
    rw [if_neg (by simp; exact ho), hbo]
    rfl
  clear h ht
  have htl : t.size ≤ 1073741824 := by omega
  cases hv : Pu.vi t.data.toList 0 with
  | none =>
    have HX : Hid (Pu.lv true ⟨so, ce, pa, si, su, bo⟩ = none) := by rw [Hid, HL.out, hv]
    have V : Hid (∀ W : World, Calls Tryz.prog 54 #[.string t, .int .i64 0] W fun e w' => ∃ h nx : Int, e = .returned (.tuple #[.int .i64 h, .int .i64 nx, .bool false]) ∧ w' = W) := fun W => varint_no t 0 W (by omega) (Nat.zero_le _) hv
    clear hv hbo hts HL
    go_enter Tryz.func72, Tryz.ntmps72
    go_wp2_with fail
    refine (V.out _).mono ?_
    rintro e w' ⟨h, nx, rfl, hw'⟩
    subst w'
    go_wp2
    go_ret3
    exact ⟨by rw [HX.out]; exact ⟨_, _, rfl⟩, (Below.refl _ _).alloc (Nat.le_refl _) _⟩
  | some q =>
    obtain ⟨n, a⟩ := q
    have hvl := Pu.vi_lt hv
    rw [hbo] at hvl
    obtain ⟨hv1, hv2, hv3⟩ := hvl
    have V : Hid (∀ W : World, Calls Tryz.prog 54 #[.string t, .int .i64 0] W fun e w' => e = .returned (.tuple #[.int .i64 n, .int .i64 a, .bool true]) ∧ w' = W) := fun W => varint_yes t 0 n a W (by omega) (Nat.zero_le _) hv
    have ha : a ≤ t.size := by omega
    by_cases hn : t.size < a + n
    · have HX : Hid (Pu.lv true ⟨so, ce, pa, si, su, bo⟩ = none) := by rw [Hid, HL.out, hv]; simp only []; rw [if_pos (by omega)]
      clear hv hbo HL hts hb hv2
      go_enter Tryz.func72, Tryz.ntmps72
      go_wp2_with fail
      refine (V.out _).mono ?_
      rintro e w' ⟨rfl, hw'⟩
      subst w'
      go_wp2
      go_ret3
      exact ⟨by rw [HX.out]; exact ⟨_, _, rfl⟩, (Below.refl _ _).alloc (Nat.le_refl _) _⟩
    · obtain ⟨m, hm⟩ : ∃ m, m = a + n := ⟨_, rfl⟩
      rw [← hm] at hn
      have Hm : Hid (m = a + n) := hm
      have hx := ext_take' t m (by omega)
      have hxs := ext_size t m (by omega)
      have RN : Hid (∀ W : World, Calls Tryz.prog 87 #[.string (t.extract 0 m), .int .i64 (a : Int), .int .i64 1, .int .i64 (ce : Int)] W fun e w' => RunsAns W.heap.size (Pu.rs (t.data.toList.take m) 1 ce ce a []) e w' ∧ Below W.heap.size W w') := fun W => by
        rw [← hx]
        exact refRuns_any (t.extract 0 m) a 1 ce W (by rw [hxs]; omega) (by rw [hxs]; omega) (by omega) hc
      have HL2 : Hid (Pu.lv true ⟨so, ce, pa, si, su, bo⟩ = match Pu.rs (t.data.toList.take m) 1 ce ce a [] with
        | none => none
        | some (l, e) => if e = m then some (l, m) else none) := by rw [Hid, HL.out, hv]; simp only []; rw [if_neg (by omega), ← hm]
      clear hx hxs hv HL
      have hi0 : (a : Int) + (n : Int) = (m : Int) := by omega
      have hi1 : (m : Int) ≤ (t.size : Int) := by omega
      have hil : (m : Int) ≤ 9000000000 := by omega
      have hwr : IntKind.i64.wrap (m : Int) = (m : Int) := IntWalk.i64_in _ ⟨by omega, by omega⟩
      have hmt : m ≤ t.size := by omega
      have hm0 : (0 : Int) ≤ (m : Int) := by omega
      clear hm
      cases hr : Pu.rs (t.data.toList.take m) 1 ce ce a [] with
      | none =>
        have HX : Hid (Pu.lv true ⟨so, ce, pa, si, su, bo⟩ = none) := by rw [Hid, HL2.out, hr]
        rw [hr] at RN
        clear hr HL2 hbo hts hb hv2
        go_enter Tryz.func72, Tryz.ntmps72
        go_wp2_with fail
        refine (V.out _).mono ?_
        rintro e w' ⟨rfl, hw'⟩
        subst w'
        go_upto_region 11 with fail
        go_region_with (go_at_call 87; refine (RN.out _).mono ?_; rintro e w3 ⟨rfl, hb3⟩)
        all_goals
          go_wp2
          go_ret3
          exact ⟨by rw [HX.out]; exact ⟨_, _, rfl⟩, bself (bboxd w _) hb3⟩
      | some q =>
        obtain ⟨xs, en⟩ := q
        rw [hr] at RN
        have hrl := Pu.rs_length ce a [] xs en (Nat.zero_le _) (by rw [List.length_take, hbo]; omega) hr
        have hen : en ≤ 2147483648 := by have := hrl.2; rw [List.length_take, hbo] at this; omega
        by_cases he : en = m
        · have HX : Hid (Pu.lv true ⟨so, ce, pa, si, su, bo⟩ = some (xs, m)) := by rw [Hid, HL2.out, hr]; simp only []; rw [if_pos he]
          have hed : ((en : Int) == (m : Int)) = true := by simp; omega
          clear hr HL2 hbo hts hb hv2
          go_enter Tryz.func72, Tryz.ntmps72
          go_wp2_with fail
          refine (V.out _).mono ?_
          rintro e w' ⟨rfl, hw'⟩
          subst w'
          go_upto_region 11 with fail
          go_region_with (go_at_call 87; refine (RN.out _).mono ?_; rintro e w3 ⟨⟨v, rfl, hown⟩, hb3⟩)
          all_goals
            go_wp2
            go_ret3
            exact ⟨by rw [HX.out]; exact ⟨_, rfl, hown.mono (bboxd w _).size⟩, bself (bboxd w _) hb3⟩
        · have HX : Hid (Pu.lv true ⟨so, ce, pa, si, su, bo⟩ = none) := by rw [Hid, HL2.out, hr]; simp only []; rw [if_neg he]
          have hed : ((en : Int) == (m : Int)) = false := by simp; omega
          have hnot : ¬ (ce = 0 ∧ n = 0) := by
            rintro ⟨rfl, rfl⟩
            rw [rs_done (by simp)] at hr
            simp only [Option.some.injEq, Prod.mk.injEq] at hr
            have := Hm.out
            omega
          by_cases hce : ce = 0
          · have hn0 : ((n : Int) == 0) = false := by simp; omega
            subst hce
            clear hr HL2 hbo hts hb hv2 hnot
            go_enter Tryz.func72, Tryz.ntmps72
            go_wp2_with fail
            refine (V.out _).mono ?_
            rintro e w' ⟨rfl, hw'⟩
            subst w'
            go_upto_region 11 with fail
            go_region_with (go_at_call 87; refine (RN.out _).mono ?_; rintro e w3 ⟨⟨v, rfl, hown⟩, hb3⟩)
            all_goals
              have hcell : w3.cell? ⟨w.heap.size, 1, none⟩ = some (.int .i64 0) := by
                exact box_celld (j := 1) hb3
              go_wp2
              go_ret3
              exact ⟨by rw [HX.out]; exact ⟨_, _, rfl⟩, bself (bboxd w _) hb3⟩
          · have hc0 : ((ce : Int) == 0) = false := by simp; omega
            clear hr HL2 hbo hts hb hv2 hnot
            go_enter Tryz.func72, Tryz.ntmps72
            go_wp2_with fail
            refine (V.out _).mono ?_
            rintro e w' ⟨rfl, hw'⟩
            subst w'
            go_upto_region 11 with fail
            go_region_with (go_at_call 87; refine (RN.out _).mono ?_; rintro e w3 ⟨⟨v, rfl, hown⟩, hb3⟩)
            all_goals
              have hcell : w3.cell? ⟨w.heap.size, 1, none⟩ = some (.int .i64 (ce : Int)) := by
                exact box_celld (j := 1) hb3
              go_wp2
              go_ret3
              exact ⟨by rw [HX.out]; exact ⟨_, _, rfl⟩, bself (bboxd w _) hb3⟩

theorem levels_any (p : Pu.Pg) (r : Nat) (nm : ByteArray) (kind left : Nat) (opt known : Bool) (vd vc : Value) (w : World) (h : RB w r nm kind opt left vd known vc) (hc : p.cells ≤ 100000) (hs : p.sort < 256) (hb : p.body.length ≤ 1073741824) :
    Calls Tryz.prog 72 #[.pointer (some ⟨r, 0, none⟩), pgV p] w fun e w' => LvAns w.heap.size (Pu.lv opt p) e w' ∧ Below w.heap.size w w' := by
  by_cases ho : opt = false ∨ p.sort = 1
  · have hx : Pu.lv opt p = some (List.replicate p.cells 1, 0) := by unfold Pu.lv; rw [if_pos ho]
    rw [hx]
    refine (levels_all p r nm kind left opt known vd vc w h hc hs ho).mono ?_
    rintro e w' ⟨⟨v, he, hv⟩, hb⟩
    exact ⟨⟨v, he, by rw [List.length_replicate]; exact hv⟩, hb⟩
  · cases opt with
    | false => exact absurd (.inl rfl) ho
    | true => exact levels_some p r nm kind left known vd vc w h hc hs hb (fun e => ho (.inr e))
end Go.Proofs.YtjobhlncllfdmaaGreat

/- (*Reader).decode: its contract. -/
namespace Go.Proofs.YtjobhlncllfdmaaGreat
open Go.RowKit

theorem values_any (p : Pu.Pg) (a n r kind : Nat) (nm : ByteArray) (left : Nat) (opt known : Bool) (vd vc : Value) (dict : List Pu.Cl) (Bd : Nat) (w : World) (h : RB w r nm kind opt left vd known vc) (hd : w.ownsRow Bd 57 3 vd dict.length (clsV dict)) (hk : kind ≤ 2) (hb : p.body.length ≤ 1073741824) (ha : a ≤ p.body.length) (hn : n ≤ 100000) (hdl : dict.length ≤ 100000) :
    Calls Tryz.prog 73 #[.pointer (some ⟨r, 0, none⟩), pgV p, .int .i64 (a : Int), .int .i64 (n : Int)] w fun e w' => VaAns w.heap.size (Pu.vals p.sort kind dict p.body a n) e w' ∧ Below w.heap.size w w' := by
  by_cases hs : p.sort = 2
  · exact values_index p a n r kind nm left opt known vd vc dict Bd w h hd hb ha hn hs hdl
  · exact values_plain p a n r kind nm left opt known vd vc dict w h hk hb ha hn hs

def DcAns (B : Nat) (r : Except Nat (List Pu.Cl)) (e : Ending) (w' : World) : Prop :=
  match r with
  | .error k => e = .returned (.tuple #[.slice none 0 0, .int .i64 (k : Int)])
  | .ok l => ∃ v, e = .returned (.tuple #[v, .int .i64 0]) ∧ w'.ownsRow B 57 3 v l.length (clsV l)

theorem RB.below {w w' : World} {r kind left : Nat} {nm : ByteArray} {opt known : Bool} {vd vc : Value} (h : RB w r nm kind opt left vd known vc) (hb : Below w.heap.size w w') : RB w' r nm kind opt left vd known vc := by
  unfold RB; rw [hb.block r h.lt]; exact h
theorem own_below {w w' : World} {B : Nat} {e : TypeId} {sz : Nat} {v : Value} {n : Nat} {xs : List Value} (h : w.ownsRow B e sz v n xs) (hb : Below w.heap.size w w') : w'.ownsRow B e sz v n xs :=
  own_agreeS h (fun k hk => hb.block k (own_tyS h hk).lt)

theorem bound_cls : ∀ dict : List Pu.Cl, ∃ M, ∀ c ∈ dict, c.s.length ≤ M := by
  intro dict
  induction dict with
  | nil => exact ⟨0, by simp⟩
  | cons c r ih =>
    obtain ⟨M, hM⟩ := ih
    refine ⟨M + c.s.length, fun x hx => ?_⟩
    rw [List.mem_cons] at hx
    rcases hx with rfl | hx
    · omega
    · have := hM x hx; omega

theorem nullV : [Value.bool true, .int .i64 0, .string ByteArray.empty] = clV Pu.nullC := rfl

theorem spr_null {ls : List Nat} {vs : List Pu.Cl} {k : Nat} (hk : k < ls.length) (h : ls[k] = 0) : clsV (Pu.sprTo ls vs (k + 1)) = clsV (Pu.sprTo ls vs k) ++ clV Pu.nullC := by
  rw [Pu.sprTo_succ, if_pos (by rw [List.getD_eq_getElem?_getD, List.getElem?_eq_getElem hk]; exact h), ← clsV_snoc]
theorem spr_val {ls : List Nat} {vs : List Pu.Cl} {k : Nat} (hk : k < ls.length) (h : ls[k] ≠ 0) (hv : Pu.nz (ls.take k) < vs.length) : clsV (Pu.sprTo ls vs (k + 1)) = clsV (Pu.sprTo ls vs k) ++ clV vs[Pu.nz (ls.take k)] := by
  rw [Pu.sprTo_succ, if_neg (by rw [List.getD_eq_getElem?_getD, List.getElem?_eq_getElem hk]; exact h), ← clsV_snoc, List.getD_eq_getElem?_getD, List.getElem?_eq_getElem hv]
  rfl

set_option maxHeartbeats 8000000 in
set_option maxRecDepth 100000 in
theorem decode_any (p : Pu.Pg) (r kind : Nat) (nm : ByteArray) (left : Nat) (opt known : Bool) (vd vc : Value) (dict : List Pu.Cl) (Bd : Nat) (w : World) (h : RB w r nm kind opt left vd known vc) (hd : w.ownsRow Bd 57 3 vd dict.length (clsV dict)) (hk : kind ≤ 2) (hc : p.cells ≤ 100000) (hs : p.sort < 256) (hb : p.body.length ≤ 1073741824) (hdl : dict.length ≤ 100000) :
    Calls Tryz.prog 56 #[.pointer (some ⟨r, 0, none⟩), pgV p] w fun e w' => DcAns w.heap.size (Pu.dec opt kind dict p) e w' ∧ Below w.heap.size w w' := by
  have LV : Hid (∀ o : Obj, Calls Tryz.prog 72 #[.pointer (some ⟨r, 0, none⟩), pgV p] (w.alloc o) fun e w' => LvAns (w.alloc o).heap.size (Pu.lv opt p) e w' ∧ Below (w.alloc o).heap.size (w.alloc o) w') := fun o =>
    levels_any p r nm kind left opt known vd vc (w.alloc o) (h.below (bbox w o)) hc hs hb
  have VA : Hid (∀ (W : World) (a n : Nat), Below w.heap.size w W → a ≤ p.body.length → n ≤ 100000 → Calls Tryz.prog 73 #[.pointer (some ⟨r, 0, none⟩), pgV p, .int .i64 (a : Int), .int .i64 (n : Int)] W fun e w' => VaAns W.heap.size (Pu.vals p.sort kind dict p.body a n) e w' ∧ Below W.heap.size W w') := fun W a n hW ha hn =>
    values_any p a n r kind nm left opt known vd vc dict Bd W (h.below hW) (own_below hd hW) hk hb ha hn hdl
  have HDec : Hid (Pu.dec opt kind dict p = match Pu.lv opt p with
    | none => .error 11
    | some (ls, a) => match Pu.vals p.sort kind dict p.body a (Pu.total ls) with
      | none => .error 12
      | some vs => .ok (Pu.spr ls vs)) := rfl
  obtain ⟨P, hP⟩ : ∃ P, P = p := ⟨_, rfl⟩
  rw [← hP] at HDec
  have HPd : Hid (P = p) := hP
  clear hP h hd
  obtain ⟨so, ce, pa, si, su, bo⟩ := p
  have hlv : P.cells = ce := by rw [HPd.out]
  unfold pgV at LV VA ⊢
  simp only at LV VA ⊢
  rw [← HPd.out] at LV
  generalize (⟨bo.toArray⟩ : ByteArray) = t at *
  cases hl : Pu.lv opt P with
  | none =>
    have HX : Hid (Pu.dec opt kind dict P = .error 11) := by rw [Hid, HDec.out, hl]
    rw [hl] at LV
    rw [← HPd.out]
    clear hl HDec VA HPd
    go_enter Tryz.func56, Tryz.ntmps56
    go_wp2_with fail
    refine (LV.out _).mono ?_
    rintro e w1 ⟨⟨v, x, rfl⟩, hb1⟩
    go_wp2
    go_ret2
    exact ⟨by rw [HX.out]; rfl, bself (bbox w _) hb1⟩
  | some pr =>
    obtain ⟨ls, a⟩ := pr
    obtain ⟨hll, hal, hl2⟩ := Pu.lv_spec hl
    rw [hlv] at hll
    have hab : a ≤ bo.length := by rw [HPd.out] at hal; exact hal
    have HT : Hid (∀ k, Pu.total (ls.take k) ≤ k ∧ Pu.total (ls.take k) = Pu.nz (ls.take k)) := Pu.total_le hl2
    have Hl2 : Hid (∀ x ∈ ls, x < 2) := hl2
    rw [hl] at LV
    obtain ⟨n, hn⟩ : ∃ n, n = Pu.total ls := ⟨_, rfl⟩
    have hn2 : n ≤ 100000 := by have := (HT.out ls.length).1; rw [List.take_length] at this; simp only at hc; omega
    have Hn : Hid (n = Pu.total ls) := hn
    have HVd : Hid (Pu.dec opt kind dict P = match Pu.vals P.sort kind dict P.body a n with
      | none => .error 12
      | some vs => .ok (Pu.spr ls vs)) := by rw [Hid, HDec.out, hl, hn]
    have HVL : Hid (∀ vs, Pu.vals P.sort kind dict P.body a n = some vs → vs.length = n) := fun vs hv => by
      obtain ⟨M, hM⟩ := bound_cls dict
      exact (Pu.vals_spec (M := P.body.length + M) hal (by omega) (fun c hc => by have := hM c hc; omega) hv).1
    have hsz : ls.length ≤ 100000 := by simp only at hc; omega
    have VB : Hid (∀ W : World, Below w.heap.size w W → Calls Tryz.prog 73 #[.pointer (some ⟨r, 0, none⟩), .agg #[.int .i64 (so : Int), .int .i64 (ce : Int), .bool pa, .int .i64 (si : Int), .int .i64 (su : Int), .string t], .int .i64 (a : Int), .int .i64 (n : Int)] W fun e w' => VaAns W.heap.size (Pu.vals P.sort kind dict P.body a n) e w' ∧ Below W.heap.size W w') := fun W hW => by
      rw [HPd.out]; exact VA.out W a n hW hab hn2
    rw [← HPd.out]
    clear hl HDec VA HPd hll hal hlv hl2 hn
    go_enter Tryz.func56, Tryz.ntmps56
    go_wp2_with fail
    refine (LV.out _).mono ?_
    rintro e w1 ⟨⟨vl, rfl, hlo⟩, hb1⟩
    obtain ⟨al, cl, rfl⟩ := slen_of hlo
    have HL1 : Hid (∀ k, (hk : k < ls.length) → ∃ g, al = some ⟨g, 0, none⟩ ∧ w1.cell? ⟨g, k, none⟩ = some (.int .i64 ((ls[k] : Nat) : Int)) ∧ g < w1.heap.size) := ints_cell hlo
    have d0 : w1.cell? ⟨w.heap.size, 0, none⟩ = some (.int .i64 (so : Int)) := box_cell (j := 0) hb1
    have d1 : w1.cell? ⟨w.heap.size, 1, none⟩ = some (.int .i64 (ce : Int)) := box_cell (j := 1) hb1
    have d2 : w1.cell? ⟨w.heap.size, 2, none⟩ = some (.bool pa) := box_cell (j := 2) hb1
    have d3 : w1.cell? ⟨w.heap.size, 3, none⟩ = some (.int .i64 (si : Int)) := box_cell (j := 3) hb1
    have d4 : w1.cell? ⟨w.heap.size, 4, none⟩ = some (.int .i64 (su : Int)) := box_cell (j := 4) hb1
    have d5 : w1.cell? ⟨w.heap.size, 5, none⟩ = some (.string t) := box_cell (j := 5) hb1
    have hb1' : Below w.heap.size w w1 := bself (bbox w _) hb1
    have VC : Hid (Calls Tryz.prog 73 #[.pointer (some ⟨r, 0, none⟩), .agg #[.int .i64 (so : Int), .int .i64 (ce : Int), .bool pa, .int .i64 (si : Int), .int .i64 (su : Int), .string t], .int .i64 (a : Int), .int .i64 (n : Int)] w1 fun e w' => VaAns w1.heap.size (Pu.vals P.sort kind dict P.body a n) e w' ∧ Below w1.heap.size w1 w') := VB.out w1 hb1'
    have Hb1 : Hid (Below w.heap.size w w1) := hb1'
    clear VB LV hb1 hb1' hlo
    go_wp2
    go_loop [9, 10] (fun m i => ∃ k : Nat, k ≤ ls.length ∧ i = .int .i64 k ∧ m = .int .i64 (Pu.total (ls.take k) : Nat)) (fun _ i => ls.length - (intOf i).toNat)
    case atStart => exact ⟨0, Nat.zero_le _, rfl, rfl⟩
    case round =>
      obtain ⟨k, hk, rfl, rfl⟩ := hrel
      by_cases hk2 : k < ls.length
      · obtain ⟨gl, hgl, hlc, hglt⟩ := HL1.out k hk2
        subst hgl
        have hlk := Hl2.out ls[k] (List.getElem_mem hk2)
        have hts : Hid (Pu.total (ls.take (k + 1)) = Pu.total (ls.take k) + ls[k]) := by rw [Hid, List.take_succ_eq_append_getElem hk2, Pu.total_snoc]
        have htk := (HT.out k).1
        generalize ls[k] = x at *
        generalize Pu.total (ls.take k) = y at *
        have hkd : decide ((k : Int) < (ls.length : Int)) = true := by simp; omega
        go_wp2
        go_round
        case rel => exact ⟨k + 1, by omega, by go_num, by rw [hts.out]; go_num⟩
        case measure => simp [intOf]; omega
      · obtain rfl : k = ls.length := by omega
        have hnn : Pu.total (ls.take ls.length) = n := by rw [List.take_length, Hn.out]
        rw [hnn]
        clear hnn
        cases hv : Pu.vals P.sort kind dict P.body a n with
        | none =>
          have HX : Hid (Pu.dec opt kind dict P = .error 12) := by rw [Hid, HVd.out, hv]
          rw [hv] at VC
          clear hv HVd HVL
          go_wp2_with fail
          refine VC.out.mono ?_
          rintro e w2 ⟨⟨v, rfl⟩, hb2⟩
          go_wp2
          go_ret2
          exact ⟨by rw [HX.out]; rfl, bself Hb1.out hb2⟩
        | some vs =>
          have HX : Hid (Pu.dec opt kind dict P = .ok (Pu.spr ls vs)) := by rw [Hid, HVd.out, hv]
          have hvl := HVL.out vs hv
          rw [hv] at VC
          have HNZ : Hid (Pu.nz ls = vs.length) := by have := (HT.out ls.length).2; rw [List.take_length] at this; rw [Hid, hvl, Hn.out, this]
          clear hv HVd HVL
          go_wp2_with fail
          refine VC.out.mono ?_
          rintro e w2 ⟨⟨vv, rfl, hvo⟩, hb2⟩
          obtain ⟨av, cv, rfl⟩ := slen_of hvo
          have HV2 : Hid (∀ k, (hk : k < vs.length) → ∃ g, av = some ⟨g, 0, none⟩ ∧ w2.cell? ⟨g, k * 3, none⟩ = some (.bool vs[k].null) ∧ w2.cell? ⟨g, k * 3 + 1, none⟩ = some (.int .i64 vs[k].n) ∧ w2.cell? ⟨g, k * 3 + 2, none⟩ = some (strV vs[k].s) ∧ g < w2.heap.size) := cls_cell' hvo
          have HL2 : Hid (∀ k, (hk : k < ls.length) → ∃ g, al = some ⟨g, 0, none⟩ ∧ w2.cell? ⟨g, k, none⟩ = some (.int .i64 ((ls[k] : Nat) : Int)) ∧ g < w2.heap.size) := fun k hk => by
            obtain ⟨g, h1, h2, h3⟩ := HL1.out k hk
            exact ⟨g, h1, by rw [hb2.cell (p := ⟨g, k, none⟩) h3]; exact h2, Nat.lt_of_lt_of_le h3 hb2.size⟩
          have Hb2 : Hid (Below w.heap.size w w2) := bself Hb1.out hb2
          have hvl2 : vs.length ≤ 100000 := by omega
          clear hb2 VC hvo HL1 d0 d1 d2 d3 d4 d5
          go_wp2
          go_loopw [12, 13, 14] (fun o m i wr => ∃ k : Nat, k ≤ ls.length ∧ i = .int .i64 k ∧ m = .int .i64 (Pu.nz (ls.take k) : Nat) ∧ wr.ownsRow w2.heap.size 57 3 o k (clsV (Pu.sprTo ls vs k)) ∧ Below w2.heap.size w2 wr) (fun _ _ i _ => ls.length - (intOf i).toNat)
          case atStart => exact ⟨0, Nat.zero_le _, rfl, rfl, World.ownsRow_nil _ _ _ _, Below.refl _ _⟩
          case round =>
            obtain ⟨k, hk, rfl, rfl, hown, hbel⟩ := hrel
            obtain ⟨ao, cap, rfl⟩ := slen_of hown
            have hnzk : Pu.nz (ls.take k) ≤ k := by have := HT.out k; omega
            by_cases hk2 : k < ls.length
            · obtain ⟨gl, hgl, hlc, hglt⟩ := HL2.out k hk2
              subst hgl
              have hlc' : wr.cell? ⟨gl, k, none⟩ = some (.int .i64 ((ls[k] : Nat) : Int)) := by rw [hbel.cell (p := ⟨gl, k, none⟩) hglt]; exact hlc
              have hlk := Hl2.out ls[k] (List.getElem_mem hk2)
              have hkd : decide ((k : Int) < (ls.length : Int)) = true := by simp; omega
              have HNS : Hid (Pu.nz (ls.take (k + 1)) = Pu.nz (ls.take k) + if ls[k] = 0 then 0 else 1) := by rw [Hid, List.take_succ_eq_append_getElem hk2, Pu.nz_snoc]
              clear hlc
              by_cases h0 : ls[k] = 0
              · have HS := spr_null (vs := vs) hk2 h0
                have HS2 : Hid (clsV (Pu.sprTo ls vs (k + 1)) = clsV (Pu.sprTo ls vs k) ++ clV Pu.nullC) := HS
                rw [h0, if_pos rfl] at HNS
                rw [h0] at hlc'
                clear HS h0 hlk
                obtain ⟨i0, hi, hz0, hz1, hz2⟩ := info_parts Tryz.info57
                go_wp2_with (first
                  | (at_builtin; refine wpList_append_own _ rfl _ _ 47 rfl w2.heap.size 57 i0 (.agg #[.bool false, .int .i64 0, .string ByteArray.empty]) 3 32 Tryz.underlying47 hi hz0 hz1 hz2 rfl (by decide) _ _ _ rfl (hown.alloc _) ⟨_, 0, none⟩ 1 1 [.bool true, .int .i64 0, .string ByteArray.empty] rfl rfl ?c1 ?c2 ?c3 ?c4 ?c5 ?_)
                  | go_in)
                case c1 => exact three_new rfl
                case c2 => exact cl_cells
                case c3 => unfold maxLen; omega
                case c4 => omega
                case c5 => rw [size_alloc']; have := hbel.size; omega
                intro v' w3 hown3 hg _
                have hbel3 := below_append hbel (Nat.le_refl _) hg (fun k e => (hown.lt k e).1)
                have hown4 : w3.ownsRow w2.heap.size 57 3 v' (k + 1) (clsV (Pu.sprTo ls vs (k + 1))) := by rw [HS2.out]; exact hown3
                clear hg hown hbel hown3
                go_wp2
                go_roundw
                case rel => exact ⟨k + 1, by omega, by go_num, by rw [HNS.out]; rfl, hown4, hbel3⟩
                case measure => simp [intOf]; omega
              · have hnv : Pu.nz (ls.take k) < vs.length := by have := Pu.nz_lt ls k hk2 h0; rw [HNZ.out] at this; exact this
                have HS2 : Hid (clsV (Pu.sprTo ls vs (k + 1)) = clsV (Pu.sprTo ls vs k) ++ clV vs[Pu.nz (ls.take k)]) := spr_val hk2 h0 hnv
                obtain ⟨gv, hgv, e0, e1, e2, hgvl⟩ := HV2.out _ hnv
                subst hgv
                rw [if_neg h0] at HNS
                have e0' : wr.cell? ⟨gv, Pu.nz (ls.take k) * 3, none⟩ = some (.bool vs[Pu.nz (ls.take k)].null) := by rw [hbel.cell (p := ⟨gv, _, none⟩) hgvl]; exact e0
                have e1' : wr.cell? ⟨gv, Pu.nz (ls.take k) * 3 + 1, none⟩ = some (.int .i64 vs[Pu.nz (ls.take k)].n) := by rw [hbel.cell (p := ⟨gv, _, none⟩) hgvl]; exact e1
                have e2' : wr.cell? ⟨gv, Pu.nz (ls.take k) * 3 + 2, none⟩ = some (.string ⟨vs[Pu.nz (ls.take k)].s.toArray⟩) := by rw [hbel.cell (p := ⟨gv, _, none⟩) hgvl]; exact e2
                have hl0 : ((ls[k] : Int) == 0) = false := by simp; exact h0
                unfold clV strV at HS2
                clear e0 e1 e2 h0
                generalize vs[Pu.nz (ls.take k)].null = xb at *
                generalize vs[Pu.nz (ls.take k)].n = xn at *
                generalize (⟨vs[Pu.nz (ls.take k)].s.toArray⟩ : ByteArray) = xs at *
                generalize ls[k] = x at *
                generalize Pu.nz (ls.take k) = y at *
                obtain ⟨i0, hi, hz0, hz1, hz2⟩ := info_parts Tryz.info57
                go_wp2_with (first
                  | (at_builtin; refine wpList_append_own _ rfl _ _ 47 rfl w2.heap.size 57 i0 (.agg #[.bool false, .int .i64 0, .string ByteArray.empty]) 3 32 Tryz.underlying47 hi hz0 hz1 hz2 rfl (by decide) _ _ _ rfl (hown.alloc _) ⟨_, 0, none⟩ 1 1 [.bool xb, .int .i64 xn, .string xs] rfl rfl ?c1 ?c2 ?c3 ?c4 ?c5 ?_)
                  | go_in)
                case c1 => exact three_new rfl
                case c2 => exact cl_cells
                case c3 => unfold maxLen; omega
                case c4 => omega
                case c5 => rw [size_alloc']; have := hbel.size; omega
                intro v' w3 hown3 hg _
                have hbel3 := below_append hbel (Nat.le_refl _) hg (fun k e => (hown.lt k e).1)
                have hown4 : w3.ownsRow w2.heap.size 57 3 v' (k + 1) (clsV (Pu.sprTo ls vs (k + 1))) := by rw [HS2.out]; exact hown3
                clear hg hown hbel hown3
                go_wp2
                go_roundw
                case rel => exact ⟨k + 1, by omega, by go_num, by rw [HNS.out]; go_num, hown4, hbel3⟩
                case measure => simp [intOf]; omega
            · obtain rfl : k = ls.length := by omega
              have hfin : DcAns w.heap.size (Pu.dec opt kind dict P) (.returned (.tuple #[.slice ao ls.length cap, .int .i64 0])) wr := by
                rw [HX.out]
                exact ⟨_, rfl, by rw [Pu.length_spr]; exact hown.mono Hb2.out.size⟩
              have HFi : Hid (DcAns w.heap.size (Pu.dec opt kind dict P) (.returned (.tuple #[.slice ao ls.length cap, .int .i64 0])) wr) := hfin
              clear hfin
              go_wp2
              go_ret2
              exact ⟨HFi.out, bself Hb2.out hbel⟩
end Go.Proofs.YtjobhlncllfdmaaGreat
