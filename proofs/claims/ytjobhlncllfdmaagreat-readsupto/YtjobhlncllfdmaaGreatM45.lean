/- strataref.Write of the document's table. -/
import Derived.Test.YtjobhlncllfdmaaGreatM42
import Derived.Test.YtjobhlncllfdmaaGreatM44
import Derived.Test.YtjobhlncllfdmaaGreatM41
import Derived.Test.YtjobhlncllfdmaaGreatM23
namespace Go.Proofs.YtjobhlncllfdmaaGreat
open Go.RowKit

def exCol : RawC := (⟨#[97]⟩, 1, false)
def exFoot : List UInt8 := heads [exCol] ++ vb 1 ++ vb 2 ++ vb 4 ++ vb 1
/-- the file of the document's table, its page being pg -/
def docOf (pg : List UInt8) : List UInt8 := stra ++ pg ++ endL exFoot

theorem heads_ex : heads [exCol] = [1, 1, 97, 1] := by
  show vb 1 ++ ((vb 1 ++ [97] ++ [UInt8.ofNat (kb 1 false)]) ++ []) = _
  rw [vb_small (by decide)]
  rfl

theorem rawEx {W : World} {gc gt gl : Nat} (h : ExT W gc gt gl) : RawAt W gc 0 [exCol] := by
  refine ⟨(Array.getElem?_eq_some_iff.1 h.1).1, fun i hi => ?_⟩
  obtain rfl : i = 0 := by simp at hi; exact hi
  obtain ⟨a1, a2, a3, _⟩ := h.cells
  exact ⟨a1, a2, a3⟩

set_option maxHeartbeats 8000000 in
set_option maxRecDepth 100000 in
theorem write_ex (gc gt gl : Nat) (tp : ByteArray) (w : World) (h : ExT w gc gt gl) (htp : tp.size ≤ 1000) (PG : Hid (∀ W : World, Calls Tryz.prog 28 #[.int .i64 0, .int .i64 2, .string ⟨exVals.toArray⟩] W fun e w' => e = .returned (.string tp) ∧ Below W.heap.size W w')) :
    Calls Tryz.prog 4 #[.agg #[.slice (some ⟨gc, 0, none⟩) 1 1, .slice (some ⟨gt, 0, none⟩) 1 1], .int .i64 10] w fun e w' => e = .returned (.tuple #[.string ⟨(docOf tp.data.toList).toArray⟩, .int .i64 0]) ∧ Below w.heap.size w w' := by
  have HX0 : Hid (BoxT w w.heap.size gc gt gl (w.alloc (.cells #[.slice (some ⟨gc, 0, none⟩) 1 1, .slice (some ⟨gt, 0, none⟩) 1 1] 36))) := ⟨heap_alloc_new w _, h.below (bbox w _), bbox w _⟩
  have HIT : Hid (∀ W : World, ExT W gc gt gl → Calls Tryz.prog 11 #[.agg #[.slice (some ⟨gc, 0, none⟩) 1 1, .slice (some ⟨gt, 0, none⟩) 1 1], .int .i64 10] W fun e w' => e = .returned (.bool true) ∧ Below W.heap.size W w') := fun W hW => isTable_ex gc gt gl W hW
  obtain ⟨th, hth⟩ : ∃ th : ByteArray, th = ⟨(heads [exCol]).toArray⟩ := ⟨_, rfl⟩
  obtain ⟨t1, ht1⟩ : ∃ t1 : ByteArray, t1 = ⟨(vb 1).toArray⟩ := ⟨_, rfl⟩
  obtain ⟨t2, ht2⟩ : ∃ t2 : ByteArray, t2 = ⟨(vb 2).toArray⟩ := ⟨_, rfl⟩
  obtain ⟨t4, ht4⟩ : ∃ t4 : ByteArray, t4 = ⟨(vb 4).toArray⟩ := ⟨_, rfl⟩
  have HHD : Hid (∀ W : World, ExT W gc gt gl → Calls Tryz.prog 12 #[.slice (some ⟨gc, 0, none⟩) 1 1] W fun e w' => e = .returned (.string th) ∧ Below W.heap.size W w') := fun W hW => by rw [hth]; exact heads_any gc 0 1 [exCol] W (rawEx hW) (by decide) (by rw [heads_ex]; decide)
  have V1 : Hid (∀ W : World, Calls Tryz.prog 13 #[.int .i64 1] W fun e w' => e = .returned (.string t1) ∧ Below W.heap.size W w') := fun W => by rw [ht1]; exact varintB_any 1 W (by omega)
  have V2 : Hid (∀ W : World, Calls Tryz.prog 13 #[.int .i64 2] W fun e w' => e = .returned (.string t2) ∧ Below W.heap.size W w') := fun W => by rw [ht2]; exact varintB_any 2 W (by omega)
  have V4 : Hid (∀ W : World, Calls Tryz.prog 13 #[.int .i64 4] W fun e w' => e = .returned (.string t4) ∧ Below W.heap.size W w') := fun W => by rw [ht4]; exact varintB_any 4 W (by omega)
  have zh : th.size ≤ 100 := by rw [hth, ← len_data, heads_ex]; decide
  have z1 : t1.size = 1 := by rw [ht1, ← len_data]; simp [vb_small]
  have z2 : t2.size = 1 := by rw [ht2, ← len_data]; simp [vb_small]
  have z4 : t4.size = 1 := by rw [ht4, ← len_data]; simp [vb_small]
  obtain ⟨s0, hs0⟩ : ∃ s0 : ByteArray, s0 = ⟨#[83, 84, 82, 65]⟩ := ⟨_, rfl⟩
  have zs : s0.size = 4 := by rw [hs0]; rfl
  have HF : Hid ((th ++ t1 ++ t2 ++ t4 ++ t1).data.toList = exFoot) := by rw [Hid, hth, ht1, ht2, ht4]; simp only [ByteArray.data_append, Array.toList_append]; rfl
  have HD : Hid (s0.data.toList ++ tp.data.toList ++ endL exFoot = docOf tp.data.toList) := by rw [Hid, hs0]; rfl
  obtain ⟨te, hte⟩ : ∃ te : ByteArray, te = ⟨(endL exFoot).toArray⟩ := ⟨_, rfl⟩
  have EN : Hid (∀ W : World, Calls Tryz.prog 16 #[.string (th ++ t1 ++ t2 ++ t4 ++ t1)] W fun e w' => e = .returned (.string te) ∧ Below W.heap.size W w') := fun W => by
    have := ending_any (th ++ t1 ++ t2 ++ t4 ++ t1) W (by simp only [ByteArray.size_append]; omega)
    rw [HF.out, ← hte] at this
    exact this
  have HTE : Hid (te.data.toList = endL exFoot) := by rw [Hid, hte]
  have ze : te.size ≤ 1000 := by
    rw [← len_data, HTE.out, size_endL, ← HF.out, len_data]
    simp only [ByteArray.size_append]
    omega
  have PGS : Hid (∀ W : World, ExT W gc gt gl → Calls Tryz.prog 15 #[.agg #[.string ⟨#[97]⟩, .int .i64 1, .bool false], .slice (some ⟨gl, 0, none⟩) 2 2] W fun e w' => e = .returned (.tuple #[.string tp, .int .i64 1]) ∧ Below W.heap.size W w') := fun W hW => pages_ex gl 2 tp W hW.2.2 PG (by decide) (by decide)
  obtain ⟨q1, q2⟩ := HX0.out.cells
  clear h hth ht1 ht2 ht4 PG hte
  go_enter Tryz.func4, Tryz.ntmps4
  go_wp2_with fail
  refine (HIT.out _ HX0.out.2.1).mono ?_
  rintro e w1 ⟨rfl, hb1⟩
  have HX1 : Hid (BoxT w w.heap.size gc gt gl w1) := HX0.out.below hb1
  obtain ⟨p1, p2⟩ := HX1.out.cells
  obtain ⟨_, _, _, p3, _⟩ := HX1.out.2.1.cells
  clear hb1 HX0 q1 q2
  go_wp2_with fail
  refine (HHD.out _ HX1.out.2.1).mono ?_
  rintro e w2 ⟨rfl, hb2⟩
  have HX2 : Hid (BoxT w w.heap.size gc gt gl w2) := HX1.out.below hb2
  clear hb2 HX1 p1 p2 p3
  go_wp2_with fail
  refine (groups_ex _).mono ?_
  rintro e w' ⟨rfl, hw'⟩
  subst w'
  go_wp2_with fail
  refine (V1.out _).mono ?_
  rintro e w3 ⟨rfl, hb3⟩
  have HX3 : Hid (BoxT w w.heap.size gc gt gl w3) := HX2.out.below hb3
  clear hb3 HX2
  have HS0 : Hid (s0 = ⟨#[83, 84, 82, 65]⟩) := hs0
  clear hs0
  go_wp2
  go_loopw [8, 9, 10] (fun s8 s9 i wr => ((i = .int .i64 0 ∧ s8 = .string s0 ∧ s9 = .string (th ++ t1)) ∨ (i = .int .i64 10 ∧ s8 = .string (s0 ++ tp) ∧ s9 = .string (th ++ t1 ++ t2 ++ t4 ++ t1))) ∧ Hid (BoxT w w.heap.size gc gt gl wr)) (fun _ _ i _ => 10 - (intOf i).toNat)
  case atStart => exact ⟨.inl ⟨rfl, by rw [HS0.out], rfl⟩, HX3⟩
  case round =>
    clear HX3
    obtain ⟨hc, HX⟩ := hrel
    obtain ⟨wo, hwo⟩ : ∃ wo : World, wo = wr := ⟨_, rfl⟩
    subst hwo
    rcases hc with ⟨rfl, rfl, rfl⟩ | ⟨rfl, rfl, rfl⟩
    · go_wp2_with fail
      refine (V2.out _).mono ?_
      rintro e w4 ⟨rfl, hb4⟩
      have HX4 : Hid (BoxT w w.heap.size gc gt gl w4) := HX.out.below hb4
      clear hb4 HX
      go_wp2
      go_loopw [8, 9, 12] (fun s8 s9 i wr => ((i = .int .i64 0 ∧ s8 = .string s0 ∧ s9 = .string (th ++ t1 ++ t2)) ∨ (i = .int .i64 1 ∧ s8 = .string (s0 ++ tp) ∧ s9 = .string (th ++ t1 ++ t2 ++ t4 ++ t1))) ∧ Hid (BoxT w w.heap.size gc gt gl wr)) (fun _ _ i _ => 1 - (intOf i).toNat)
      case atStart => exact ⟨.inl ⟨rfl, rfl, rfl⟩, HX4⟩
      case round =>
        clear HX4
        obtain ⟨hc, HX⟩ := hrel
        obtain ⟨wm, hwm⟩ : ∃ wm : World, wm = wr := ⟨_, rfl⟩
        subst hwm
        obtain ⟨p1, p2⟩ := HX.out.cells
        rcases hc with ⟨rfl, rfl, rfl⟩ | ⟨rfl, rfl, rfl⟩
        · have SS : Hid (∀ W : World, Below wm.heap.size wm W → Below wm.heap.size wm W ∧ W.cell? ⟨w.heap.size, 0, none⟩ = some (.slice (some ⟨gc, 0, none⟩) 1 1) ∧ W.cell? ⟨w.heap.size, 1, none⟩ = some (.slice (some ⟨gt, 0, none⟩) 1 1) ∧ W.cell? ⟨gc, 0, none⟩ = some (.string ⟨#[97]⟩) ∧ W.cell? ⟨gc, 1, none⟩ = some (.int .i64 1) ∧ W.cell? ⟨gc, 2, none⟩ = some (.bool false) ∧ W.cell? ⟨gt, 0, none⟩ = some (.slice (some ⟨gl, 0, none⟩) 2 2)) := fun W hW => by
            obtain ⟨p1, p2⟩ := (HX.out.below hW).cells
            obtain ⟨a1, a2, a3, a4, _⟩ := (HX.out.below hW).2.1.cells
            exact ⟨hW, p1, p2, a1, a2, a3, a4⟩
          have PG2 : Hid (∀ W : World, Below wm.heap.size wm W → Calls Tryz.prog 15 #[.agg #[.string ⟨#[97]⟩, .int .i64 1, .bool false], .slice (some ⟨gl, 0, none⟩) 2 2] W fun e w' => e = .returned (.tuple #[.string tp, .int .i64 1]) ∧ Below W.heap.size W w') := fun W hW => PGS.out W (HX.out.below hW).2.1
          go_upto_region 19 with fail
          go_cut [13, 14] from 58 to 92 (fun s13 s14 wx => s13 = .string tp ∧ s14 = .int .i64 1 ∧ Hid (Below wm.heap.size wm wx))
          case first =>
            go_region_held3 (fun W => Below wm.heap.size wm W ∧ W.cell? ⟨w.heap.size, 0, none⟩ = some (.slice (some ⟨gc, 0, none⟩) 1 1) ∧ W.cell? ⟨w.heap.size, 1, none⟩ = some (.slice (some ⟨gt, 0, none⟩) 1 1) ∧ W.cell? ⟨gc, 0, none⟩ = some (.string ⟨#[97]⟩) ∧ W.cell? ⟨gc, 1, none⟩ = some (.int .i64 1) ∧ W.cell? ⟨gc, 2, none⟩ = some (.bool false) ∧ W.cell? ⟨gt, 0, none⟩ = some (.slice (some ⟨gl, 0, none⟩) 2 2))
              ((with_reducible refine SS.out _ ?_; repeat (first | with_reducible exact Below.refl _ _ | with_reducible refine bself ?_ hbc | with_reducible refine Below.drew ?_)))
              ((go_at_call 15; refine (PG2.out _ ?_).mono ?_; exact (Below.refl _ _).drew; rintro e w' ⟨rfl, hbc⟩))
            all_goals (go_wp2_with fail; go_meet; exact ⟨rfl, rfl, bself (Below.refl _ _).drew hbc⟩)
          case rest =>
            obtain ⟨rfl, rfl, HBC⟩ := hcut
            have HX5 : Hid (BoxT w w.heap.size gc gt gl wc) := HX.out.below HBC.out
            clear HX SS PG2 HBC p1 p2
            go_wp2_with fail
            refine (V4.out _).mono ?_
            rintro e w6 ⟨rfl, hb6⟩
            have HX6 : Hid (BoxT w w.heap.size gc gt gl w6) := HX5.out.below hb6
            clear hb6 HX5
            go_wp2_with fail
            refine (V1.out _).mono ?_
            rintro e w7 ⟨rfl, hb7⟩
            have HX7 : Hid (BoxT w w.heap.size gc gt gl w7) := HX6.out.below hb7
            clear hb7 HX6
            go_wp2
            go_roundw
            case rel => exact ⟨.inr ⟨by go_num, rfl, rfl⟩, HX7⟩
            case measure => simp [intOf]
        · go_wp2
          go_roundw
          case rel => exact ⟨.inr ⟨by go_num, rfl, rfl⟩, HX⟩
          case measure => simp [intOf]
    · go_wp2_with fail
      refine (EN.out _).mono ?_
      rintro e w5 ⟨rfl, hb5⟩
      go_wp2
      go_ret2
      refine ⟨congrArg (fun t => Ending.returned (.tuple #[.string t, .int .i64 0])) (bytes_ext ?_), HX.out.2.2.trans (hb5.mono HX.out.2.2.size)⟩
      simp only [ByteArray.data_append, Array.toList_append]
      rw [HTE.out]
      exact HD.out
end Go.Proofs.YtjobhlncllfdmaaGreat

/- strataref.Read: what holds on the way. -/
namespace Go.Proofs.YtjobhlncllfdmaaGreat
open Go.RowKit

structure RT (w : World) (T4 N7 F T10 : Nat) (vc vr vk vt : Value) (E : Nat) (cs : List Pu.Col) (gs : List (Nat × List (Nat × Nat))) (vs : List Value) (ts : List (List Pu.Cl)) (W : World) : Prop where
  r4 : W.heap[T4]? = some (.cells #[.slice none 0 0, .slice none 0 0] 36 (0, 0))
  r7 : W.heap[N7]? = some (.cells #[.slice none 0 0, .slice none 0 0] 36 (0, 0))
  fb : FBlk W F vc vr vk E
  r10 : W.heap[T10]? = some (.cells #[vc, vt] 36 (0, 0))
  oc : W.ownsRow w.heap.size 54 3 vc cs.length (colsV cs)
  or : W.ownsRow w.heap.size 3 1 vr gs.length (ints (gs.map Prod.fst))
  ok : W.ownsRow w.heap.size 107 1 vk gs.length vs
  ch : ∀ i, (h : i < gs.length) → ∃ v, vs[i]? = some v ∧ W.ownsRow w.heap.size 106 2 v gs[i].2.length (chV gs[i].2)
  tb : TabD W w.heap.size vt ts
  bl : Below w.heap.size w W
  n4 : w.heap.size ≤ T4

section
variable {w : World} {T4 N7 F T10 : Nat} {vc vr vk vt : Value} {E : Nat} {cs : List Pu.Col} {gs : List (Nat × List (Nat × Nat))} {vs : List Value} {ts : List (List Pu.Cl)} {W W' : World}
theorem RT.below (h : RT w T4 N7 F T10 vc vr vk vt E cs gs vs ts W) (hb : Below W.heap.size W W') : RT w T4 N7 F T10 vc vr vk vt E cs gs vs ts W' := by
  have kt : ∀ k e, Ty W k e → W'.heap[k]? = W.heap[k]? := fun k e hk => hb.block k hk.lt
  have hs := h.bl.size
  exact ⟨by rw [kt T4 36 ⟨_, h.r4⟩]; exact h.r4, by rw [kt N7 36 ⟨_, h.r7⟩]; exact h.r7, h.fb.kept (kt F _ h.fb.ty), by rw [kt T10 36 ⟨_, h.r10⟩]; exact h.r10, own_agreeS h.oc (fun k hk => kt k _ (own_tyS h.oc hk)), own_agreeS h.or (fun k hk => kt k _ (own_tyS h.or hk)), own_agreeS h.ok (fun k hk => kt k _ (own_tyS h.ok hk)), fun i hi => by
    obtain ⟨v, h1, h2⟩ := h.ch i hi
    exact ⟨v, h1, own_agreeS h2 (fun k hk => kt k _ (own_tyS h2 hk))⟩, h.tb.kept (fun k hk => by rcases hk with hk | hk <;> exact kt k _ hk), h.bl.trans (hb.mono hs), h.n4⟩

/-- cells are put behind a list -/
theorem RT.app {W1 : World} {g n c i : Nat} {l : List Pu.Cl} {ai a5 : Option Addr} {ci k5 : Nat} (h : RT w T4 N7 F T10 vc vr vk (.slice (some ⟨g, 0, none⟩) n c) E cs gs vs ts W) (hn : n = ts.length) (hi : i < ts.length) (hc : W.cell? ⟨g, i, none⟩ = some (.slice ai ts[i].length ci)) (hoi : W.ownsRow w.heap.size 57 3 (.slice ai ts[i].length ci) ts[i].length (clsV ts[i]))
    (hown : W1.ownsRow w.heap.size 57 3 (.slice a5 (ts[i].length + l.length) k5) (ts[i].length + l.length) (clsV ts[i] ++ clsV l)) (hg : W.grownBy W1 (Value.slice ai ts[i].length ci).ownBlock) (hat : (Value.slice a5 (ts[i].length + l.length) k5).ownBlock = (Value.slice ai ts[i].length ci).ownBlock ∨ (Value.slice a5 (ts[i].length + l.length) k5).ownBlock = some W.heap.size ∧ W.grownBy W1 none) :
    RT w T4 N7 F T10 vc vr vk (.slice (some ⟨g, 0, none⟩) n c) E cs gs vs (ts.set i (ts.getD i [] ++ l)) (W1.setCell ⟨g, i, none⟩ (.slice a5 (ts[i].length + l.length) k5)) := by
  obtain ⟨ws, q1, q2, q3⟩ := h.tb
  have tg : Ty W g 47 := own_tyS (hn ▸ q1) rfl
  have hgB : w.heap.size ≤ g := (q1.lt g rfl).1
  have hs := h.bl.size
  have kp : ∀ k, k < W.heap.size → k ≠ g → (Value.slice ai ts[i].length ci).ownBlock ≠ some k → (W1.setCell ⟨g, i, none⟩ (.slice a5 (ts[i].length + l.length) k5)).heap[k]? = W.heap[k]? := fun k hk hkg hko => by
    rw [row_off hkg, hg.block k hk (fun e => hko e.symm)]
  have kt : ∀ k e, Ty W k e → e ≠ 47 → e ≠ 57 → (W1.setCell ⟨g, i, none⟩ (.slice a5 (ts[i].length + l.length) k5)).heap[k]? = W.heap[k]? := fun k e hk h47 h57 =>
    kp k hk.lt (Ty.ne hk tg h47) (fun e' => Ty.ne hk (own_tyS hoi e') h57 rfl)
  refine ⟨by rw [kt T4 36 ⟨_, h.r4⟩ (by decide) (by decide)]; exact h.r4, by rw [kt N7 36 ⟨_, h.r7⟩ (by decide) (by decide)]; exact h.r7, h.fb.kept (kt F _ h.fb.ty (by decide) (by decide)), by rw [kt T10 36 ⟨_, h.r10⟩ (by decide) (by decide)]; exact h.r10, own_agreeS h.oc (fun k hk => kt k 54 (own_tyS h.oc hk) (by decide) (by decide)), own_agreeS h.or (fun k hk => kt k 3 (own_tyS h.or hk) (by decide) (by decide)), own_agreeS h.ok (fun k hk => kt k 107 (own_tyS h.ok hk) (by decide) (by decide)), fun j hj => by
    obtain ⟨v, h1, h2⟩ := h.ch j hj
    exact ⟨v, h1, own_agreeS h2 (fun k hk => kt k _ (own_tyS h2 hk) (by decide) (by decide))⟩, h.tb.app hn hi hc hown hg hat, ?_, h.n4⟩
  exact (Below.grown h.bl hg hs (fun k e => (hoi.lt k e).1)).setCell hgB _

/-- the table at its start -/
theorem rt_start {w w2 W : World} {F T10 M n : Nat} {vc vr vk : Value} {E : Nat} {cs : List Pu.Col} {gs : List (Nat × List (Nat × Nat))} {vs : List Value} {mc : Array Value} {o4 o7 : Obj} (ho4 : o4 = .cells #[.slice none 0 0, .slice none 0 0] 36) (ho7 : o7 = .cells #[.slice none 0 0, .slice none 0 0] 36) (hb2 : Below (w.heap.size + 1 + 1) ((w.alloc o4).alloc o7) w2) (oc : w2.ownsRow (w.heap.size + 1 + 1) 54 3 vc cs.length (colsV cs)) (fb : FBlk w2 F vc vr vk E) (or : w2.ownsRow (w.heap.size + 1 + 1) 3 1 vr gs.length (ints (gs.map Prod.fst))) (ok : w2.ownsRow (w.heap.size + 1 + 1) 107 1 vk gs.length vs)
    (ch : ∀ i, (h : i < gs.length) → ∃ v, vs[i]? = some v ∧ w2.ownsRow (w.heap.size + 1 + 1) 106 2 v gs[i].2.length (chV gs[i].2))
    (hb : Below w2.heap.size w2 W) (h3 : W.heap[T10]? = some (.cells #[vc, .slice (some ⟨M, 0, none⟩) n n] 36 (0, 0))) (h4 : W.heap[M]? = some (.cells mc 47 (0, 0))) (hM : w2.heap.size ≤ M) (hn : n ≤ 100000) (hmc : mc.size = n ∧ ∀ j, j < n → mc[j]? = some (.slice none 0 0)) :
    RT w w.heap.size (w.heap.size + 1) F T10 vc vr vk (.slice (some ⟨M, 0, none⟩) n n) E cs gs vs (List.replicate n []) W := by
  have hs1 : (w.alloc o4).heap.size = w.heap.size + 1 := size_alloc' _ _
  have b1 : Below w.heap.size w ((w.alloc o4).alloc o7) := (bbox w o4).alloc (by omega) o7
  have B2 : Below w.heap.size w w2 := b1.trans (hb2.mono (by omega))
  have s2 := B2.size
  have s3 := hb2.size
  rw [size_alloc', size_alloc'] at s3
  have r4 : w2.heap[w.heap.size]? = some (.cells #[.slice none 0 0, .slice none 0 0] 36 (0, 0)) := by
    rw [hb2.block _ (by omega), Below.heap_alloc _ _ _ (by omega), ho4]; exact heap_alloc_new w _
  have r7 : w2.heap[w.heap.size + 1]? = some (.cells #[.slice none 0 0, .slice none 0 0] 36 (0, 0)) := by
    have := heap_alloc_new (w.alloc o4) o7
    rw [hs1] at this
    rw [hb2.block _ (by omega), this, ho7]
  exact ⟨by rw [hb.block _ (by omega)]; exact r4, by rw [hb.block _ (by omega)]; exact r7, fb.kept (hb.block _ fb.ty.lt), h3, (own_below oc hb).mono (by omega), (own_below or hb).mono (by omega), (own_below ok hb).mono (by omega), fun i hi => by
    obtain ⟨v, h1, h2⟩ := ch i hi
    exact ⟨v, h1, (own_below h2 hb).mono (by omega)⟩, tabD_start h4 (by omega) hn hmc, B2.trans (hb.mono s2), Nat.le_refl _⟩

end

def ROut (w : World) (F T10 : Nat) (vc vr vk vt : Value) (D : List UInt8) (E b : Nat) (cs : List Pu.Col) (gs : List (Nat × List (Nat × Nat))) (vs : List Value) (RR : Except Nat (List Pu.Col × List (List Pu.Cl) × Nat)) (k u : Nat) (W : World) : Prop :=
  ∃ ts, RT w w.heap.size (w.heap.size + 1) F T10 vc vr vk vt E cs gs vs ts W ∧ u ≤ b ∧ ts.length = cs.length ∧ (∀ x ∈ ts, x.length ≤ 1000 * (20 * k)) ∧ RR = finR cs (Pu.grpsR D E b cs (gs.drop k) u ts)

def RIn (w : World) (F T10 : Nat) (vc vr vk vt : Value) (D : List UInt8) (E b : Nat) (cs : List Pu.Col) (gs : List (Nat × List (Nat × Nat))) (vs : List Value) (RR : Except Nat (List Pu.Col × List (List Pu.Cl) × Nat)) (k rows : Nat) (pl : List (Nat × Nat)) (i u : Nat) (W : World) : Prop :=
  ∃ ts, RT w w.heap.size (w.heap.size + 1) F T10 vc vr vk vt E cs gs vs ts W ∧ u ≤ b ∧ ts.length = cs.length ∧ (∀ x ∈ ts, x.length ≤ 1000 * (20 * k + i)) ∧ RR = restR D E b rows cs ((cs.zip pl).drop i) i u ts (gs.drop (k + 1))

section
variable {w : World} {F T10 : Nat} {vc vr vk vt : Value} {D : List UInt8} {E b : Nat} {cs : List Pu.Col} {gs : List (Nat × List (Nat × Nat))} {vs : List Value} {RR : Except Nat (List Pu.Col × List (List Pu.Cl) × Nat)} {k u : Nat} {W : World}
theorem ROut.group (h : ROut w F T10 vc vr vk vt D E b cs gs vs RR k u W) (hk : k < gs.length) (hgs : ∀ g ∈ gs, GrOk E cs.length g) :
    ∃ (rows : Nat) (pl : List (Nat × Nat)), gs[k]? = some (rows, pl) ∧ rows ≤ 1000 ∧ pl.length = cs.length ∧ (∀ c ∈ pl, ChOk E c) ∧ RIn w F T10 vc vr vk vt D E b cs gs vs RR k rows pl 0 u W := by
  obtain ⟨ts, T, hu, htl, hts, hR⟩ := h
  obtain ⟨o1, o2, o3⟩ := hgs gs[k] (List.getElem_mem hk)
  have e2 : gs[k]? = some gs[k] := List.getElem?_eq_getElem hk
  refine ⟨gs[k].1, gs[k].2, e2, o1, o2, o3, ts, T, hu, htl, fun x hx => by have := hts x hx; omega, ?_⟩
  rw [hR]
  exact fin_group D E b cs gs k u ts gs[k] e2
theorem RIn.last {rows : Nat} {pl : List (Nat × Nat)} {i : Nat} (h : RIn w F T10 vc vr vk vt D E b cs gs vs RR k rows pl i u W) (hi : i = cs.length) (hc : cs.length ≤ 20) : ROut w F T10 vc vr vk vt D E b cs gs vs RR (k + 1) u W := by
  obtain ⟨ts, T, hu, htl, hts, hR⟩ := h
  refine ⟨ts, T, hu, htl, fun x hx => by have := hts x hx; omega, ?_⟩
  rw [hR, List.drop_eq_nil_of_le (by rw [List.length_zip]; omega)]
  exact rest_end _ _ _ _ _ _ _ _ _
end

theorem chV_at (l : List (Nat × Nat)) : ∀ k (h : k < l.length), (chV l)[k * 2]? = some (.int .i64 (l[k].1 : Int)) ∧ (chV l)[k * 2 + 1]? = some (.int .i64 (l[k].2 : Int)) := by
  induction l with
  | nil => intro k h; simp at h
  | cons x xs ih =>
    intro k h
    rw [show chV (x :: xs) = [Value.int .i64 (x.1 : Int), .int .i64 (x.2 : Int)] ++ chV xs from rfl]
    match k, h with
    | 0, _ => exact ⟨rfl, rfl⟩
    | k + 1, h =>
      have := ih k (by simpa using h)
      rw [List.getElem?_append_right (by simp; omega), List.getElem?_append_right (by simp; omega)]
      rw [show (k + 1) * 2 - [Value.int .i64 (x.1 : Int), .int .i64 (x.2 : Int)].length = k * 2 by simp; omega, show (k + 1) * 2 + 1 - [Value.int .i64 (x.1 : Int), .int .i64 (x.2 : Int)].length = k * 2 + 1 by simp; omega]
      simpa using this
theorem length_chV (l : List (Nat × Nat)) : (chV l).length = l.length * 2 := by
  induction l with
  | nil => rfl
  | cons x xs ih => rw [show chV (x :: xs) = [Value.int .i64 (x.1 : Int), .int .i64 (x.2 : Int)] ++ chV xs from rfl, List.length_append, ih, List.length_cons]; simp; omega

/-- the cells that a round of the reading asks for -/
structure RCells (F : Nat) (vc vr vk : Value) (E k i gc gr gk gp : Nat) (n cc ng cr ck cp : Nat) (nm : ByteArray) (kind : Nat) (opt : Bool) (rows at' q : Nat) (W : World) : Prop where
  f0 : W.cell? ⟨F, 0, none⟩ = some (.slice (some ⟨gc, 0, none⟩) n cc)
  f1 : W.cell? ⟨F, 1, none⟩ = some (.slice (some ⟨gr, 0, none⟩) ng cr)
  f2 : W.cell? ⟨F, 2, none⟩ = some (.slice (some ⟨gk, 0, none⟩) ng ck)
  f3 : W.cell? ⟨F, 3, none⟩ = some (.int .i64 (E : Int))
  c0 : W.cell? ⟨gc, i * 3, none⟩ = some (.string nm)
  c1 : W.cell? ⟨gc, i * 3 + 1, none⟩ = some (.int .i64 (kind : Int))
  c2 : W.cell? ⟨gc, i * 3 + 2, none⟩ = some (.bool opt)
  d0 : W.cell? ⟨gr, k, none⟩ = some (.int .i64 (rows : Int))
  k0 : W.cell? ⟨gk, k, none⟩ = some (.slice (some ⟨gp, 0, none⟩) n cp)
  p0 : W.cell? ⟨gp, i * 2, none⟩ = some (.int .i64 (at' : Int))
  p1 : W.cell? ⟨gp, i * 2 + 1, none⟩ = some (.int .i64 (q : Int))
  vce : vc = .slice (some ⟨gc, 0, none⟩) n cc
  vre : vr = .slice (some ⟨gr, 0, none⟩) ng cr
  vke : vk = .slice (some ⟨gk, 0, none⟩) ng ck
  hF : F < W.heap.size
  hgc : gc < W.heap.size
  hgr : gr < W.heap.size
  hgk : gk < W.heap.size
  hgp : gp < W.heap.size

theorem RCells.below {F : Nat} {vc vr vk : Value} {E k i gc gr gk gp n cc ng cr ck cp : Nat} {nm : ByteArray} {kind : Nat} {opt : Bool} {rows at' q : Nat} {W W' : World} (h : RCells F vc vr vk E k i gc gr gk gp n cc ng cr ck cp nm kind opt rows at' q W) (hb : Below W.heap.size W W') : RCells F vc vr vk E k i gc gr gk gp n cc ng cr ck cp nm kind opt rows at' q W' := by
  have hs := hb.size
  have c : ∀ (g j : Nat), g < W.heap.size → W'.cell? ⟨g, j, none⟩ = W.cell? ⟨g, j, none⟩ := fun g j hg => World.cell?_of_block (hb.block g hg)
  obtain ⟨x1, x2, x3, x4, x5, x6, x7, x8, x9, x10, x11, x12, x13, x14, y1, y2, y3, y4, y5⟩ := h
  exact ⟨by rw [c F _ y1]; exact x1, by rw [c F _ y1]; exact x2, by rw [c F _ y1]; exact x3, by rw [c F _ y1]; exact x4, by rw [c gc _ y2]; exact x5, by rw [c gc _ y2]; exact x6, by rw [c gc _ y2]; exact x7, by rw [c gr _ y3]; exact x8, by rw [c gk _ y4]; exact x9, by rw [c gp _ y5]; exact x10, by rw [c gp _ y5]; exact x11, x12, x13, x14, by omega, by omega, by omega, by omega, by omega⟩

theorem RIn.cells {w : World} {F T10 : Nat} {vc vr vk vt : Value} {D : List UInt8} {E b : Nat} {cs : List Pu.Col} {gs : List (Nat × List (Nat × Nat))} {vs : List Value} {RR : Except Nat (List Pu.Col × List (List Pu.Cl) × Nat)} {k u : Nat} {W : World} {rows : Nat} {pl : List (Nat × Nat)} {i : Nat} (h : RIn w F T10 vc vr vk vt D E b cs gs vs RR k rows pl i u W) (hg : gs[k]? = some (rows, pl)) (hi : i < cs.length) (hpl : pl.length = cs.length) (hk2 : ∀ c ∈ cs, c.kind ≤ 2) (hch : ∀ c ∈ pl, ChOk E c) :
    ∃ (gc gr gk gp cc cr ck cp : Nat) (nm : ByteArray) (kind : Nat) (opt : Bool) (at' q : Nat), RCells F vc vr vk E k i gc gr gk gp cs.length cc gs.length cr ck cp nm kind opt rows at' q W ∧ kind ≤ 2 ∧ at' ≤ E ∧ q ≤ 50 ∧ ∃ l, cs[i]? = some ⟨l, kind, opt⟩ ∧ pl[i]? = some (at', q) := by
  obtain ⟨ts, T, hu, htl, hts, hR⟩ := h
  obtain ⟨hkl, hgk⟩ := List.getElem?_eq_some_iff.1 hg
  obtain ⟨av, cv, rfl⟩ := slen_of T.oc
  obtain ⟨ar, cr, rfl⟩ := slen_of T.or
  obtain ⟨ak, ck, rfl⟩ := slen_of T.ok
  obtain ⟨gc, e1, c0, c1, c2⟩ := cols_cell T.oc i hi
  subst e1
  obtain ⟨gr, cap', he, _, _⟩ := T.or.form (by omega)
  simp only [Value.slice.injEq] at he
  obtain ⟨rfl, _, rfl⟩ := he
  obtain ⟨gk', cap', he, _, _⟩ := T.ok.form (by omega)
  simp only [Value.slice.injEq] at he
  obtain ⟨rfl, _, rfl⟩ := he
  obtain ⟨v, hv, ho⟩ := T.ch k hkl
  rw [hgk] at ho
  obtain ⟨ap, cp, rfl⟩ := slen_of ho
  obtain ⟨gp, cap', he, _, _⟩ := ho.form (by show 0 < pl.length; omega)
  simp only [Value.slice.injEq] at he
  obtain ⟨rfl, _, rfl⟩ := he
  have hil : i < pl.length := by omega
  obtain ⟨q1, q2⟩ := hch pl[i] (List.getElem_mem hil)
  have hcl := length_chV pl
  refine ⟨gc, gr, gk', gp, cv, cr, ck, cp, _, cs[i].kind, cs[i].opt, pl[i].1, pl[i].2, ⟨T.fb.c0, T.fb.c1, T.fb.c2, T.fb.c3, c0, c1, c2, ?_, ?_, ?_, ?_, rfl, rfl, rfl, T.fb.ty.lt, (own_tyS T.oc rfl).lt, (own_tyS T.or rfl).lt, (own_tyS T.ok rfl).lt, (own_tyS ho rfl).lt⟩, hk2 _ (List.getElem_mem hi), q1, q2, cs[i].name, List.getElem?_eq_getElem hi, List.getElem?_eq_getElem hil⟩
  · rw [T.or.cellAt _ (by simp; omega)]
    simp [ints, hg]
  · rw [T.ok.cellAt _ (by have := T.ok.1; omega), hv]
    show some (Value.slice (some ⟨gp, 0, none⟩) pl.length cp) = _
    rw [hpl]
  · rw [ho.cellAt _ (by show _ < pl.length * 2; omega)]; exact (chV_at pl i hil).1
  · rw [ho.cellAt _ (by show _ < pl.length * 2; omega)]; exact (chV_at pl i hil).2

/-- the pages of a part: what holds between two -/
def RPg (W0 : World) (r : Nat) (nm : ByteArray) (D : List UInt8) (E b : Nat) (opt : Bool) (kind q : Nat) (PP : Except Nat (Nat × Pu.Sta)) (j u a : Nat) (W : World) : Prop :=
  ∃ st, RSta W r W0.heap.size nm kind opt st ∧ Below W0.heap.size W0 W ∧ u ≤ b ∧ a ≤ E ∧ st.dict.length ≤ 100000 ∧ (∀ c ∈ st.dict, c.s.length ≤ 1073741824) ∧ st.cells.length + st.left ≤ 1000 ∧ PP = Pu.pages D E opt kind b (q - j) (decide (j = 0)) a u st

theorem pageSum {opt : Bool} {kind : Nat} {st st' : Pu.Sta} {p : Pu.Pg} {used budget u : Nat} (h : Pu.page opt kind st p used budget = .ok (u, st')) (hp : p.sort ≠ 1 → p.cells ≤ st.left) (hbl : p.body.length ≤ 1073741824) (hpk : p.packed = true → p.size ≤ 1048576) (hds : ∀ c ∈ st.dict, c.s.length ≤ 1073741824) : st'.cells.length + st'.left = st.cells.length + st.left := by
  unfold Pu.page at h
  by_cases c1 : budget < used + p.size
  · rw [if_pos c1] at h; cases h
  · rw [if_neg c1] at h
    by_cases c2 : Pu.sum p.body ≠ p.sum
    · rw [if_pos c2] at h; cases h
    · rw [if_neg c2] at h
      cases hu : Pu.unp p with
      | none => simp [hu] at h
      | some L =>
        simp only [hu] at h
        cases hd : Pu.dec opt kind st.dict { p with body := L } with
        | error k2 => simp [hd] at h
        | ok l =>
          simp only [hd] at h
          by_cases c3 : budget < used + p.size + Pu.cost l
          · rw [if_pos c3] at h; cases h
          · rw [if_neg c3] at h
            simp only [Except.ok.injEq, Prod.mk.injEq] at h
            have hL : L.length ≤ 1073741824 := by
              unfold Pu.unp at hu
              split at hu
              · rename_i hpk2
                split at hu
                · rename_i hh
                  simp only [Option.some.injEq] at hu
                  rw [← hu, hh.2]
                  have := hpk hpk2
                  omega
                · cases hu
              · simp only [Option.some.injEq] at hu
                rw [← hu]; exact hbl
            have hl := (Pu.dec_spec (M := 1073741824) (p := { p with body := L }) hL hds hd).1
            simp only at hl
            rw [← h.2]
            unfold Pu.Sta.with
            by_cases h1 : p.sort = 1
            · rw [if_pos h1]
            · rw [if_neg h1]
              have := hp h1
              simp only [List.length_append]
              omega
end Go.Proofs.YtjobhlncllfdmaaGreat
