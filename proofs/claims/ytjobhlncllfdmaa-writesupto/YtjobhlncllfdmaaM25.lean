/- The program's table.writePart: the walk. -/
import Derived.Test.YtjobhlncllfdmaaM24
import Derived.Test.YtjobhlncllfdmaaM21
import Derived.Deep.RegionHeld3
namespace Go.Proofs.Ytjobhlncllfdmaa
open Go.RowKit Go.Maps

theorem dic_pos (l : List Pu.Cl) (h : 0 < l.length) : 0 < (dic l).1.length := by
  obtain ⟨k, hk⟩ : ∃ k, l.length = k + 1 := ⟨l.length - 1, by omega⟩
  have e := dic_take l k (by omega)
  rw [← hk, List.take_length] at e
  rw [e]
  show 0 < (if _ then _ else _ : List Pu.Cl).length
  split
  · omega
  · rw [List.length_append]; simp
theorem Rs.drew {w : World} {sz lb : Nat} {ao : Option Addr} {n cap : Nat} {xs : List Value} (h : Rs w sz lb ao n cap xs) : Rs w.drew sz lb ao n cap xs := h.kept rfl

set_option maxHeartbeats 8000000 in
set_option maxRecDepth 100000 in
theorem writePart_any (R B lb cap kind : Nat) (opt : Bool) (nm : ByteArray) (v : Value) (L : List UInt8) (l : List Pu.Cl) (ao : Option Addr) (w : World) (h : OS w R B v L) (hB : B ≤ w.heap.size) (hr : Rs w 3 lb ao l.length cap (clsV l)) (hlb : lb < w.heap.size) (hlR : lb ≠ R) (hlv : v.ownBlock ≠ some lb) (hl : l.length ≤ 100000) (hkind : kind ≤ 2) (hok : CellsOk kind l) (hs : L.length + 4000000000 ≤ 140737488355328) :
    Calls Try.prog 90 #[.pointer (some ⟨R, 0, none⟩), .agg #[.string nm, .int .i64 kind, .bool opt], .slice ao l.length cap] w fun e w' => e = .returned (.int .i64 ((partL kind opt l).2 : Int)) ∧ OG w R B v (L ++ (partL kind opt l).1) w' := by
  obtain ⟨S, hS⟩ : ∃ S, S = w.heap.size := ⟨_, rfl⟩
  obtain ⟨W1, hW1⟩ : ∃ W1, W1 = w.alloc (.cells #[.string nm, .int .i64 kind, .bool opt] 45) := ⟨_, rfl⟩
  have s1 : W1.heap.size = S + 1 := by rw [hW1, size_alloc', hS]
  have b1 : Below w.heap.size w W1 := by rw [hW1]; exact bbox w _
  have r4 : W1.heap[S]? = some (.cells #[.string nm, .int .i64 kind, .bool opt] 45 (0, 0)) := by rw [hW1, hS]; exact heap_alloc_new w _
  have q1 : W1.cell? ⟨S, 1, none⟩ = some (.int .i64 kind) := by rw [cell_of_row _ _ 1 _ _ _ r4]; rfl
  have q2 : W1.cell? ⟨S, 2, none⟩ = some (.bool opt) := by rw [cell_of_row _ _ 2 _ _ _ r4]; rfl
  obtain ⟨N, hN⟩ : ∃ N, N = l.length := ⟨_, rfl⟩
  obtain ⟨vl, hvl⟩ : ∃ vl, vl = valsL l := ⟨_, rfl⟩
  have hvll : vl.length ≤ l.length := by rw [hvl]; exact length_valsL l
  obtain ⟨dl1, dl2⟩ := dic_len' vl
  by_cases hk2 : kind = 2
  · have CD : Hid (Calls Try.prog 99 #[.slice ao l.length cap] W1 fun e w2 => ∃ aw cw ai ci, e = .returned (.agg #[.slice aw (dic vl).1.length cw, .slice ai (dic vl).2.length ci]) ∧ w2.ownsRow (S + 1) 66 3 (.slice aw (dic vl).1.length cw) (dic vl).1.length (clsV (dic vl).1) ∧ w2.ownsRow (S + 1) 3 1 (.slice ai (dic vl).2.length ci) (dic vl).2.length (ints (dic vl).2) ∧ Below (S + 1) W1 w2) := by
      refine (dictOf_any lb cap l ao W1 (hr.kept (b1.block _ hlb)) (by omega) hl hok.1).mono ?_
      rintro e w2 ⟨vw, vi, rfl, ow, oi, hb⟩
      rw [s1, ← hvl] at ow oi
      rw [s1] at hb
      obtain ⟨aw, cw, rfl⟩ := slen_of ow
      obtain ⟨ai, ci, rfl⟩ := slen_of oi
      exact ⟨aw, cw, ai, ci, rfl, ow, oi, hb⟩
    have HONE : Hid (∀ W, Below w.heap.size w W → OnePg w R B v kind opt l.length cap ao (L ++ pageL 0 l.length (plainL kind opt l)) W) := fun W hb => onePg_any h hB hr hlb hl hkind hok hs hb
    have HTWO : Hid (∀ (W : World) (aw : Option Addr) (cw : Nat) (ai : Option Addr) (ci T7 : Nat), Below w.heap.size w W → S < W.heap.size → (S ≤ T7 ∧ T7 < W.heap.size) → W.ownsRow S 66 3 (.slice aw (dic vl).1.length cw) (dic vl).1.length (clsV (dic vl).1) → W.ownsRow S 3 1 (.slice ai (dic vl).2.length ci) (dic vl).2.length (ints (dic vl).2) → 0 < (dic vl).1.length →
        TwoPg w R B v opt l.length cap ao S T7 aw ai (dic vl).1.length cw (dic vl).2.length ci (L ++ (pageL 1 (dic vl).1.length (plainL 2 false (dic vl).1) ++ pageL 2 l.length (indicesL opt l (dic vl).1 (dic vl).2))) W) := fun W aw cw ai ci T7 hb hS1 hT7 ow oi hw0 => by
      rw [hS] at hS1 hT7 ow oi ⊢
      exact twoPg_any h hB hr hlb hlR hlv hl (fun c hc => hok.1 c (by have := dic_sub' vl c hc; rw [hvl] at this; exact (List.mem_filter.1 this).1)) hs hb ⟨Nat.le_refl _, hS1⟩ hT7 ow oi hw0 (by omega) (by omega) (fun x hx => by have := dic_lt' vl x hx; omega)
    have q1' : W1.cell? ⟨S, 1, none⟩ = some (.int .i64 2) := by rw [q1, hk2]; rfl
    have r4' : W1.heap[S]? = some (.cells #[.string nm, .int .i64 2, .bool opt] 45 (0, 0)) := by rw [r4, hk2]; rfl
    obtain ⟨nw, hnw⟩ : ∃ nw, nw = (dic vl).1.length := ⟨_, rfl⟩
    obtain ⟨ni, hni⟩ : ∃ ni, ni = (dic vl).2.length := ⟨_, rfl⟩
    -- behind the dictionary
    have HW4 : Hid (∀ (w2 : World) (aw : Option Addr) (cw : Nat) (ai : Option Addr) (ci : Nat), w2.ownsRow (S + 1) 66 3 (.slice aw nw cw) nw (clsV (dic vl).1) → w2.ownsRow (S + 1) 3 1 (.slice ai ni ci) ni (ints (dic vl).2) → Below (S + 1) W1 w2 →
        Calls Try.prog 100 #[.agg #[.slice aw nw cw, .slice ai ni ci]] (w2.alloc (.cells #[.slice aw nw cw, .slice ai ni ci] 164)) fun e w4 => e = .returned (.bool (decide (nw < ni))) ∧ w4.cell? ⟨w2.heap.size, 0, none⟩ = some (.slice aw nw cw) ∧ w4.cell? ⟨w2.heap.size, 1, none⟩ = some (.slice ai ni ci) ∧ w4.cell? ⟨S, 1, none⟩ = some (.int .i64 2) ∧ w4.cell? ⟨S, 2, none⟩ = some (.bool opt) ∧
          ((decide (nw < ni) = false ∧ (partL kind opt l).2 = 1 ∧ OnePg w R B v 2 opt N cap ao (L ++ (partL kind opt l).1) w4) ∨
           (decide (nw < ni) = true ∧ (partL kind opt l).2 = 2 ∧ TwoPg w R B v opt N cap ao S w2.heap.size aw ai nw cw ni ci (L ++ (partL kind opt l).1) w4.drew ∧
             ∀ W : World, (W.heap[S]? = w4.drew.heap[S]? ∧ W.heap[w2.heap.size]? = w4.drew.heap[w2.heap.size]?) → W.cell? ⟨w2.heap.size, 0, none⟩ = some (.slice aw nw cw) ∧ W.cell? ⟨w2.heap.size, 1, none⟩ = some (.slice ai ni ci) ∧ W.cell? ⟨S, 1, none⟩ = some (.int .i64 2) ∧ W.cell? ⟨S, 2, none⟩ = some (.bool opt)))) := fun w2 aw cw ai ci ow oi hb => by
      have hbs := hb.size
      obtain ⟨W3, hW3⟩ : ∃ W3, W3 = w2.alloc (.cells #[.slice aw nw cw, .slice ai ni ci] 164) := ⟨_, rfl⟩
      have s3 : W3.heap.size = w2.heap.size + 1 := by rw [hW3, size_alloc']
      have b3 : Below (S + 1) W1 W3 := by rw [hW3]; exact hb.alloc (by omega) _
      rw [← hW3]
      refine (repeats_any aw ai nw cw ni ci W3).mono ?_
      rintro e w4 ⟨rfl, hb4⟩
      have hb4s := hb4.size
      have r7 : w4.heap[w2.heap.size]? = some (.cells #[.slice aw nw cw, .slice ai ni ci] 164 (0, 0)) := by rw [hb4.block _ (by omega), hW3]; exact heap_alloc_new w2 _
      have r44 : w4.heap[S]? = some (.cells #[.string nm, .int .i64 2, .bool opt] 45 (0, 0)) := by rw [hb4.block _ (by omega), b3.block _ (by omega)]; exact r4'
      have bw4 : Below w.heap.size w w4 := b1.trans ((b3.trans (hb4.mono (by omega))).mono (by omega))
      have cells : ∀ W : World, W.heap[S]? = w4.heap[S]? ∧ W.heap[w2.heap.size]? = w4.heap[w2.heap.size]? → W.cell? ⟨w2.heap.size, 0, none⟩ = some (.slice aw nw cw) ∧ W.cell? ⟨w2.heap.size, 1, none⟩ = some (.slice ai ni ci) ∧ W.cell? ⟨S, 1, none⟩ = some (.int .i64 2) ∧ W.cell? ⟨S, 2, none⟩ = some (.bool opt) := fun W hW => by
        have a7 : W.heap[w2.heap.size]? = some (.cells #[.slice aw nw cw, .slice ai ni ci] 164 (0, 0)) := by rw [hW.2]; exact r7
        have a4 : W.heap[S]? = some (.cells #[.string nm, .int .i64 2, .bool opt] 45 (0, 0)) := by rw [hW.1]; exact r44
        exact ⟨by rw [cell_of_row _ _ 0 _ _ _ a7]; rfl, by rw [cell_of_row _ _ 1 _ _ _ a7]; rfl, by rw [cell_of_row _ _ 1 _ _ _ a4]; rfl, by rw [cell_of_row _ _ 2 _ _ _ a4]; rfl⟩
      obtain ⟨y0, y1, y2, y3⟩ := cells w4 ⟨rfl, rfl⟩
      refine ⟨rfl, y0, y1, y2, y3, ?_⟩
      have hpart : partL kind opt l = if kind = 2 ∧ nw < ni then (pageL 1 nw (plainL 2 false (dic vl).1) ++ pageL 2 l.length (indicesL opt l (dic vl).1 (dic vl).2), 2) else (pageL 0 l.length (plainL kind opt l), 1) := by unfold partL; rw [← hvl, ← hnw, ← hni]
      by_cases hlt : nw < ni
      · right
        rw [hpart, if_pos ⟨hk2, hlt⟩]
        refine ⟨decide_eq_true hlt, rfl, ?_, fun W hW => cells W hW⟩
        have keep : ∀ k, S + 1 ≤ k → k < w2.heap.size → w4.heap[k]? = w2.heap[k]? := fun k hk hk2 => by rw [hb4.block k (by omega), hW3, Below.heap_alloc w2 _ k hk2]
        have ow4 : w4.drew.ownsRow S 66 3 (.slice aw nw cw) nw (clsV (dic vl).1) := own_agreeS (w := w2) (ow.mono (by omega)) (fun k hk => by have := ow.lt k hk; exact keep k this.1 this.2)
        have oi4 : w4.drew.ownsRow S 3 1 (.slice ai ni ci) ni (ints (dic vl).2) := own_agreeS (w := w2) (oi.mono (by omega)) (fun k hk => by have := oi.lt k hk; exact keep k this.1 this.2)
        have hw0 : 0 < nw := by rw [hnw]; exact dic_pos vl (by omega)
        have := HTWO.out w4.drew aw cw ai ci w2.heap.size bw4.drew (by show S < w4.heap.size; omega) ⟨by omega, by show _ < w4.heap.size; omega⟩ (by rw [← hnw]; exact ow4) (by rw [← hni]; exact oi4) (by rw [← hnw]; exact hw0)
        rw [← hnw, ← hni, ← hN] at this
        rw [← hN]
        exact this
      · left
        rw [hpart, if_neg (fun e => hlt e.2)]
        refine ⟨decide_eq_false hlt, rfl, ?_⟩
        have := HONE.out w4 bw4
        rw [hk2, ← hN] at this
        rw [hk2, ← hN]
        exact this
    rw [← hnw, ← hni] at CD
    rw [← hN] at CD ⊢
    have hW1' : w.alloc (.cells #[.string nm, .int .i64 kind, .bool opt] 45) = W1 := hW1.symm
    have hsz : w.heap.size = S := hS.symm
    clear h hr hok hW1 hS b1 r4 r4' hN hvl hvll dl1 dl2 s1 HONE HTWO q1 hnw hni hk2
    go_enter Try.func90, Try.ntmps90
    go_wp2_with fail
    refine CD.out.mono ?_
    rintro e w2 ⟨aw, cw, ai, ci, rfl, ow, oi, hb⟩
    have CR := hid (HW4.out w2 aw cw ai ci ow oi hb)
    clear CD HW4 ow oi hb
    go_wp2_with fail
    refine CR.out.mono ?_
    rintro e w4 ⟨rfl, y0, y1, y2, y3, hcase⟩
    rcases hcase with ⟨hd, hp, CO⟩ | ⟨hd, hp, CT, HC⟩
    · have CO' := hid CO
      have HP := hid hp
      rw [hd]
      clear CO CR hd hp
      go_wp2_with fail
      refine CO'.out.mono ?_
      rintro e w5 ⟨a2, n2, c2, rfl, C2⟩
      have C2' := hid C2
      clear C2 CO'
      go_wp2_with fail
      refine C2'.out.mono ?_
      rintro e w6 ⟨rfl, hg⟩
      go_wp2
      go_ret
      exact ⟨by rw [HP.out]; rfl, hg⟩
    · have CT' := hid CT
      have HC' := hid HC
      have HP := hid hp
      rw [hd]
      clear CT CR hd hp HC
      go_wp2
      go_region_held3 (fun W => W.cell? ⟨w2.heap.size, 0, none⟩ = some (.slice aw nw cw) ∧ W.cell? ⟨S, 1, none⟩ = some (.int .i64 2)) (first | exact ⟨y0, y2⟩ | exact ⟨z0, z2⟩ | exact ⟨x0, x2⟩)
        (first
          | (go_at_call 102; refine CT'.out.mono ?_; rintro e w5 ⟨a2, n2, c2, rfl, hk5, C2⟩; obtain ⟨z0, z1, z2, z3⟩ := HC'.out w5 hk5; have C2' := hid C2; clear C2)
          | (go_at_call 101; refine C2'.out.mono ?_; rintro e w6 ⟨rfl, hk6, C3⟩; obtain ⟨x0, x1, x2, x3⟩ := HC'.out w6 hk6; have C3' := hid C3; clear C3))
      go_wp2_with fail
      refine C3'.out.mono ?_
      rintro e w7 ⟨a4, n4, c4, rfl, C4⟩
      have C4' := hid C4
      clear C4
      go_wp2_with fail
      refine C4'.out.mono ?_
      rintro e w8 ⟨rfl, hg⟩
      go_wp2
      go_ret
      exact ⟨by rw [HP.out]; rfl, hg⟩
  · have CO : Hid (OnePg w R B v kind opt N cap ao (L ++ (partL kind opt l).1) W1) := by
      have := onePg_any (opt := opt) h hB hr hlb hl hkind hok hs b1
      unfold partL
      rw [if_neg (fun e => hk2 e.1), hN]
      exact this
    have HP : Hid ((partL kind opt l).2 = 1) := by unfold Hid partL; rw [if_neg (fun e => hk2 e.1)]
    rw [HP.out, ← hN]
    have hd : ((kind : Int) == 2) = false := by simp; omega
    have hW1' : w.alloc (.cells #[.string nm, .int .i64 kind, .bool opt] 45) = W1 := hW1.symm
    have hsz : w.heap.size = S := hS.symm
    clear h hr hok hW1 hS b1 r4 hN hvl hvll dl1 dl2 HP s1
    go_enter Try.func90, Try.ntmps90
    go_wp2_with fail
    refine CO.out.mono ?_
    rintro e w2 ⟨a2, n2, c2, rfl, C2⟩
    have C2' := hid C2
    clear C2 CO
    go_wp2_with fail
    refine C2'.out.mono ?_
    rintro e w3 ⟨rfl, hg⟩
    go_wp2
    go_ret
    exact ⟨rfl, hg⟩
end Go.Proofs.Ytjobhlncllfdmaa

/- The program's reader of a footer: contract of group. -/
namespace Go.Proofs.Ytjobhlncllfdmaa
open Go.RowKit

theorem grp_num (D : List UInt8) (E nc a : Nat) : Pu.grp1 D E nc a = match Pu.num D a 1 1000 with | none => none | some (r, a1) => (match Pu.chunksGo D E nc a1 [] with | none => none | some (l, a2) => some ((r, l), a2)) := by
  unfold Pu.grp1 Pu.num
  cases Pu.vi D a with
  | none => rfl
  | some q =>
    obtain ⟨n, a1⟩ := q
    simp only
    split <;> rfl

theorem Try.info158 : (Try.prog.info? 158).map (fun i => (i.zero, i.size, i.bytes)) = some (some (.agg #[.int .i64 0, .int .i64 0]), 2, 16) := by kernel_rfl
theorem Try.info105 : (Try.prog.info? 105).map (fun i => (i.zero, i.size, i.bytes)) = some (some (.agg #[.int .i64 0, .slice none 0 0]), 2, 32) := by kernel_rfl

/-- old blocks of places stay -/
def KeepT (w w' : World) : Prop := ∀ k, Ty w k 158 → w'.heap[k]? = w.heap[k]?

def GrAns (R lb B : Nat) (D : List UInt8) (E : Nat) (cs : List Pu.Col) (ws : List (Nat × Value)) (w : World) (r : Option ((Nat × List (Nat × Nat)) × Nat)) (e : Ending) (w' : World) : Prop :=
  match r with
  | none => e = .returned (.bool false)
  | some (g, a') => e = .returned (.bool true) ∧ ∃ vr' vp, FSt w' R lb B D E a' cs (ws ++ [(g.1, vp)]) vr' ∧ w'.ownsRow B 158 2 vp g.2.length (plsV g.2) ∧ KeepT w w'

/-- a place more in the group's own list -/
theorem pl_push {wa w4 : World} {o : Obj} {R lb B G n n' : Nat} {D : List UInt8} {E b : Nat} {cs : List Pu.Col} {ws : List (Nat × Value)} {vr vp v' x : Value} {xs ys : List Value} (hF : FSt wa R lb B D E b cs ws vr) (hG : wa.heap[G]? = some (.cells #[x, vp] 105 (0, 0))) (hvr : ∀ k, vr.ownBlock = some k → k < G) (hBG : B ≤ G)
    (hp : wa.ownsRow G 158 2 vp n xs) (hg : (wa.alloc o).grownBy w4 vp.ownBlock) (ho' : w4.ownsRow G 158 2 v' n' ys) :
    w4.heap[G]? = some (.cells #[x, vp] 105 (0, 0)) ∧ FSt (w4.setCell ⟨G, 1, none⟩ v') R lb B D E b cs ws vr ∧ (w4.setCell ⟨G, 1, none⟩ v').heap[G]? = some (.cells #[x, v'] 105 (0, 0)) ∧ (w4.setCell ⟨G, 1, none⟩ v').ownsRow G 158 2 v' n' ys ∧
      (∀ k, k < G → (w4.setCell ⟨G, 1, none⟩ v').heap[k]? = wa.heap[k]?) ∧ Below B wa (w4.setCell ⟨G, 1, none⟩ v') := by
  have hGl : G < wa.heap.size := (Array.getElem?_eq_some_iff.1 hG).1
  have hGt : Ty wa G 105 := ⟨_, hG⟩
  have hG4 : w4.heap[G]? = some (.cells #[x, vp] 105 (0, 0)) := by rw [agree_step hg hGl (fun e' => Ty.ne (own_tyS hp e') hGt (by decide) rfl)]; exact hG
  have hset : (w4.setCell ⟨G, 1, none⟩ v').heap[G]? = some (.cells #[x, v'] 105 (0, 0)) := by rw [heap_setCell_same w4 G 1 _ _ _ hG4]; rfl
  have hag : ∀ k, k < wa.heap.size → vp.ownBlock ≠ some k → k ≠ G → (w4.setCell ⟨G, 1, none⟩ v').heap[k]? = wa.heap[k]? := fun k h1 h2 h3 => agree_set hg h1 h2 h3
  have hlow : ∀ k, k < G → (w4.setCell ⟨G, 1, none⟩ v').heap[k]? = wa.heap[k]? := fun k hk => hag k (by omega) (fun e' => by have := (hp.lt k e').1; omega) (by omega)
  refine ⟨hG4, ?_, hset, ownsRow_set_other' ho' (fun e' => Ty.ne (own_tyS ho' e') ⟨_, hG4⟩ (by decide) rfl), hlow, ?_⟩
  · obtain ⟨ao, cap, vc, h1, h2, h3, h4, h5, h6, h7⟩ := hF
    have e1 : ∀ t, t ≠ 158 → ∀ k, Ty wa k t → vp.ownBlock ≠ some k := fun t ht k hk e' => Ty.ne (own_tyS hp e') hk (fun e => ht e.symm) rfl
    exact ⟨ao, cap, vc, h1.kept (hag R h1.ty.lt (e1 135 (by decide) R h1.ty) (Ty.ne h1.ty hGt (by decide))), h2, h3.kept (hlow lb (by omega)), own_agreeS h4 (fun k hk => hag k (own_tyS h4 hk).lt (e1 45 (by decide) k (own_tyS h4 hk)) (Ty.ne (own_tyS h4 hk) hGt (by decide))),
      own_agreeS h5 (fun k hk => hlow k (hvr k hk)), h6, h7⟩
  · have hBs : B ≤ wa.heap.size := by omega
    exact (((Below.refl B wa).alloc hBs o).grown hg (by rw [size_alloc']; omega) (fun k e => by have := (hp.lt k e).1; omega)).setCell hBG v'

set_option maxHeartbeats 4000000 in
set_option maxRecDepth 100000 in
theorem fgroup (R lb B : Nat) (D : List UInt8) (E a : Nat) (cs : List Pu.Col) (ws : List (Nat × Value)) (vr : Value) (w : World) (h : FSt w R lb B D E a cs ws vr) (hE : E ≤ 140737488355328) (hcs : cs.length ≤ 20) (hws : ws.length < 50) :
    Calls Try.prog 98 #[.pointer (some ⟨R, 0, none⟩)] w fun e w' => GrAns R lb B D E cs ws w (Pu.grp1 D E cs.length a) e w' ∧ Below B w w' := by
  have V : Hid (Calls Try.prog 96 #[.pointer (some ⟨R, 0, none⟩), .int .i64 1, .int .i64 1000] w fun e w' => NumAns R lb B D E cs ws vr (Pu.num D a 1 1000) e w' ∧ Below B w w' ∧ KeepR R w w') := fnumberK R lb B D E a 1 1000 cs ws vr w h (by omega) (by omega)
  have HC : Hid (Pu.grp1 D E cs.length a = match Pu.num D a 1 1000 with | none => none | some (r, a1) => (match Pu.chunksGo D E cs.length a1 [] with | none => none | some (l, a2) => some ((r, l), a2))) := grp_num D E cs.length a
  have hBR := h.base
  have hRw := h.lt
  have HRt : Hid (Ty w R 135) := by obtain ⟨_, _, _, hb, _⟩ := h; exact hb.ty
  clear h
  cases hn : Pu.num D a 1 1000 with
  | none =>
    have HX : Hid (Pu.grp1 D E cs.length a = none) := by rw [Hid, HC.out, hn]
    rw [hn] at V
    clear hn HC
    go_enter Try.func98, Try.ntmps98
    go_wp2_with fail
    refine V.out.mono ?_
    rintro e w' ⟨rfl, hbel, _⟩
    go_wp2
    go_ret
    exact ⟨by rw [HX.out]; rfl, hbel⟩
  | some pr =>
    obtain ⟨r, a1⟩ := pr
    obtain ⟨_, hr1, hr2, _, _⟩ := num_some hn
    rw [hn] at V
    have HC2 : Hid (Pu.grp1 D E cs.length a = match Pu.chunksGo D E cs.length a1 [] with | none => none | some (l, a2) => some ((r, l), a2)) := by rw [Hid, HC.out, hn]
    clear hn HC
    go_enter Try.func98, Try.ntmps98
    go_wp2_with fail
    refine V.out.mono ?_
    rintro e w1 ⟨⟨rfl, hS⟩, hbel, hkp⟩
    have HS : Hid (FSt w1 R lb B D E a1 cs ws vr) := hS
    have HKp : Hid (KeepR R w w1) := hkp
    obtain ⟨ao, cap, vc, hb, ha, hr, hc, ho, hlb, hB⟩ := hS
    obtain ⟨av, cv, rfl⟩ := slen_of hc
    have HVr : Hid (∀ k, vr.ownBlock = some k → k < w1.heap.size) := fun k hk => (own_tyS ho hk).lt
    have hB1 : B ≤ w1.heap.size := Nat.le_trans (Nat.le_trans hBR (Nat.le_of_lt hRw)) hbel.size
    have c1 : (w1.alloc (.cells #[.int .i64 (r : Int), .slice none 0 0] 105)).cell? ⟨R, 1, none⟩ = some (.slice av cs.length cv) := (hb.kept (w' := w1.alloc (.cells #[.int .i64 (r : Int), .slice none 0 0] 105)) (Below.heap_alloc _ _ _ hb.ty.lt)).c1
    have HS0 : Hid (FSt (w1.alloc (.cells #[.int .i64 (r : Int), .slice none 0 0] 105)) R lb B D E a1 cs ws vr) := HS.out.below ((Below.refl _ _).alloc (Nat.le_refl _) _)
    have HB0 : Hid (Below B w (w1.alloc (.cells #[.int .i64 (r : Int), .slice none 0 0] 105))) := hbel.alloc hB1 _
    have HK0 : Hid (KeepR R w1 (w1.alloc (.cells #[.int .i64 (r : Int), .slice none 0 0] 105))) := fun k hk _ => Below.heap_alloc _ _ _ hk
    have HG0 : Hid ((w1.alloc (.cells #[.int .i64 (r : Int), .slice none 0 0] 105)).heap[w1.heap.size]? = some (.cells #[.int .i64 (r : Int), .slice none 0 0] 105 (0, 0))) := heap_alloc_new w1 _
    have hRw1 : R < w1.heap.size := hb.ty.lt
    have hsz : w.heap.size ≤ w1.heap.size := hbel.size
    clear hb hr hc ho hkp hbel HS V
    go_wp2
    go_loopw [23] (fun i wr => ∃ (b : Nat) (l : List (Nat × Nat)) (ap : Option Addr) (cp : Nat), l.length ≤ cs.length ∧ i = .int .i64 l.length ∧ Hid (Pu.chunksGo D E cs.length a1 [] = Pu.chunksGo D E (cs.length - l.length) b l) ∧ Hid (FSt wr R lb B D E b cs ws vr) ∧ Hid (Below B w wr) ∧ Hid (KeepR R w1 wr) ∧ Hid (wr.heap[w1.heap.size]? = some (.cells #[.int .i64 (r : Int), .slice ap l.length cp] 105 (0, 0))) ∧ Hid (wr.ownsRow w1.heap.size 158 2 (.slice ap l.length cp) l.length (plsV l))) (fun i _ => cs.length - (intOf i).toNat)
    case atStart => exact ⟨a1, [], none, 0, by simp, rfl, rfl, HS0, HB0, HK0, HG0, World.ownsRow_nil _ _ _ _⟩
    case round =>
      obtain ⟨b, l, ap, cp, hll, rfl, HG, HF, HB, HK, HGr, HP⟩ := hrel
      by_cases hk : l.length < cs.length
      · have PG : Hid (Calls Try.prog 106 #[.pointer (some ⟨R, 0, none⟩)] wr fun e w' => PlAns R lb B D E cs ws vr (Pu.chunk1 D E b) e w' ∧ Below B wr w' ∧ KeepR R wr w') := fplace R lb B D E b cs ws vr wr HF.out hE
        cases hc : Pu.chunk1 D E b with
        | none =>
          have HY : Hid (Pu.grp1 D E cs.length a = none) := by rw [Hid, HC2.out, HG.out, chunksGo_no (by omega) hc]
          rw [hc] at PG
          clear hc
          go_wp2_with fail
          refine PG.out.mono ?_
          rintro e w2 ⟨⟨x, y, rfl⟩, hb2, _⟩
          have hb3 := HB.out.trans hb2
          have hB3 : B ≤ w2.heap.size := Nat.le_trans (Nat.le_trans hBR (Nat.le_of_lt hRw)) hb3.size
          clear hb2
          go_wp2
          go_ret
          exact ⟨by rw [HY.out]; rfl, hb3.alloc hB3 _⟩
        | some p =>
          obtain ⟨⟨p, q⟩, b'⟩ := p
          have HY : Hid (Pu.chunksGo D E cs.length a1 [] = Pu.chunksGo D E (cs.length - (l ++ [(p, q)]).length) b' (l ++ [(p, q)])) := by rw [Hid, HG.out, chunksGo_yes (by omega) hc]; simp [Nat.sub_sub]
          rw [hc] at PG
          clear hc
          go_wp2_with fail
          refine PG.out.mono ?_
          rintro e w2 ⟨⟨rfl, hS2⟩, hb2, hk2⟩
          have hs1 : w1.heap.size < wr.heap.size := (Array.getElem?_eq_some_iff.1 HGr.out).1
          have hs2 : wr.heap.size ≤ w2.heap.size := hb2.size
          obtain ⟨wa, hwa⟩ : ∃ wa, wa = w2.alloc (.cells #[.int .i64 (p : Int), .int .i64 (q : Int)] 158) := ⟨_, rfl⟩
          have hbw : Below w2.heap.size w2 wa := by rw [hwa]; exact (Below.refl _ _).alloc (Nat.le_refl _) _
          have hFa : FSt wa R lb B D E b' cs ws vr := hS2.below hbw
          have hGa : wa.heap[w1.heap.size]? = some (.cells #[.int .i64 (r : Int), .slice ap l.length cp] 105 (0, 0)) := by
            rw [hbw.block _ (by omega), hk2 _ hs1 (by omega)]; exact HGr.out
          have hPa : wa.ownsRow w1.heap.size 158 2 (.slice ap l.length cp) l.length (plsV l) := own_agreeS HP.out (fun k hk => by
            have := (own_tyS HP.out hk).lt
            rw [hbw.block k (by omega), hk2 k this (by have := (HP.out.lt k hk).1; omega)])
          have hsa : wa.heap.size = w2.heap.size + 1 := by rw [hwa, size_alloc']
          obtain ⟨i0, hi, hz0, hz1, hz2⟩ := info_parts Try.info158
          have d1 := cell_of_row _ _ 1 _ _ _ hGa
          rw [hwa] at d1
          simp only [List.getElem?_toArray, List.getElem?_cons_zero, List.getElem?_cons_succ] at d1
          have HFa : Hid (FSt wa R lb B D E b' cs ws vr) := hFa
          have HGa : Hid (wa.heap[w1.heap.size]? = some (.cells #[.int .i64 (r : Int), .slice ap l.length cp] 105 (0, 0))) := hGa
          have HKa : Hid (KeepR R w1 wa ∧ Below B w wa) := ⟨fun k h1 h2 => by rw [hbw.block k (by omega), hk2 k (by omega) h2]; exact HK.out k h1 h2, HB.out.trans (hb2.trans (hbw.mono (by omega)))⟩
          clear hbw hFa hGa hS2 hb2 hk2 PG
          rw [hwa] at hPa HFa HGa HKa hsa
          clear hwa wa
          go_wp2_with (first
            | (at_builtin; refine wpList_append_own _ rfl _ _ 103 rfl w1.heap.size 158 i0 (.agg #[.int .i64 0, .int .i64 0]) 2 16 Try.underlying103 hi hz0 hz1 hz2 rfl (by decide) _ _ _ rfl (hPa.alloc _) ⟨_, 0, none⟩ 1 1 [.int .i64 (p : Int), .int .i64 (q : Int)] rfl rfl ?d1 ?d2 ?d3 ?d4 ?d5 ?_)
            | go_in)
          case d1 => exact two_new (by simp)
          case d2 => intro u hu; simp at hu; rcases hu with rfl | rfl <;> rfl
          case d3 => unfold maxLen; omega
          case d4 => omega
          case d5 => rw [size_alloc', hsa]; omega
          intro v' w4 own4 gr4 hnn
          clear hnn
          obtain ⟨ap5, cp5, hv5⟩ := slen_of own4
          rw [hv5] at own4 ⊢
          clear hv5 v'
          obtain ⟨q1, q2, q3, q4, q5, q6⟩ := pl_push HFa.out HGa.out HVr.out hB1 hPa gr4 own4
          have d2 := cell_of_row _ _ 1 _ _ _ q1
          have f2 := frozen_of_row _ _ 1 _ _ q1
          simp only [List.getElem?_toArray, List.getElem?_cons_zero, List.getElem?_cons_succ] at d2
          have HF4 : Hid (FSt (w4.setCell ⟨w1.heap.size, 1, none⟩ (.slice ap5 (l.length + 1) cp5)) R lb B D E b' cs ws vr) := q2
          have HG4 : Hid ((w4.setCell ⟨w1.heap.size, 1, none⟩ (.slice ap5 (l.length + 1) cp5)).heap[w1.heap.size]? = some (.cells #[.int .i64 (r : Int), .slice ap5 (l ++ [(p, q)]).length cp5] 105 (0, 0))) := by rw [Hid, List.length_append]; exact q3
          have HP4 : Hid ((w4.setCell ⟨w1.heap.size, 1, none⟩ (.slice ap5 (l.length + 1) cp5)).ownsRow w1.heap.size 158 2 (.slice ap5 (l ++ [(p, q)]).length cp5) (l ++ [(p, q)]).length (plsV (l ++ [(p, q)]))) := by rw [Hid, List.length_append, plsV_snoc]; exact q4
          have HK4 : Hid (KeepR R w1 (w4.setCell ⟨w1.heap.size, 1, none⟩ (.slice ap5 (l.length + 1) cp5))) := fun k h1 h2 => by rw [q5 k h1]; exact HKa.out.1 k h1 h2
          have HB4 : Hid (Below B w (w4.setCell ⟨w1.heap.size, 1, none⟩ (.slice ap5 (l.length + 1) cp5))) := HKa.out.2.trans q6
          clear own4 gr4 q1 q2 q3 q4 q5 q6 hPa hsa HFa HGa HKa
          go_wp2
          go_roundw
          case rel => exact ⟨b', l ++ [(p, q)], _, _, by simp; omega, by simp, HY, HF4, HB4, HK4, HG4, HP4⟩
          case measure => simp [intOf]; omega
      · have hle : l.length = cs.length := by omega
        have HY : Hid (Pu.grp1 D E cs.length a = some ((r, l), b)) := by rw [Hid, HC2.out, HG.out, hle, Nat.sub_self]; rfl
        clear hle
        have hs1 : w1.heap.size < wr.heap.size := (Array.getElem?_eq_some_iff.1 HGr.out).1
        have hBw : B ≤ wr.heap.size := by omega
        obtain ⟨ao, cap, vc, hb, ha, hr, hc, ho, hlb, hB⟩ := HF.out
        obtain ⟨ar, cr, hvr⟩ := slen_of ho
        rw [hvr] at hb ho
        have c2 := hb.c2
        have e0 := cell_of_row _ _ 0 _ _ _ HGr.out
        have e1 := cell_of_row _ _ 1 _ _ _ HGr.out
        simp only [List.getElem?_toArray, List.getElem?_cons_zero, List.getElem?_cons_succ] at e0 e1
        obtain ⟨i0, hi, hz0, hz1, hz2⟩ := info_parts Try.info105
        obtain ⟨g, cp', w4, run4, own4, gr4, at4⟩ := appendS (wr.drew.alloc (.cells #[.int .i64 (r : Int), .slice ap l.length cp] 105)) 98 98 105 i0 (.agg #[.int .i64 0, .slice none 0 0]) 2 32 B Try.underlying98 hi hz0 hz1 hz2 rfl (by decide) _ _ _ (World.ownsRow.alloc (w := wr.drew) ho _) ⟨wr.heap.size, 0, none⟩ [.int .i64 (r : Int), .slice ap l.length cp] rfl (two_new rfl) (by intro u hu; simp at hu; rcases hu with rfl | rfl <;> rfl) 1 (by unfold maxLen; omega) (by omega) (by rw [size_alloc']; show B ≤ wr.heap.size + 1; omega)
        have HR4 : Hid ((Builtin.append_ #[98, 98] 98 #[.slice ar ws.length cr, .slice (some ⟨wr.heap.size, 0, none⟩) 1 1]).run Try.prog (wr.alloc (.cells #[.int .i64 (r : Int), .slice ap l.length cp] 105)).drew = .ok (.slice (some ⟨g, 0, none⟩) (ws.length + 1) cp') w4) := run4
        have hbd : Rd wr.drew R (.slice ao (D.length - b) cap) E vc (.slice ar ws.length cr) := hb
        have hP := FSt.pushR (w := wr.drew) (r := (r, .slice ap l.length cp)) hbd ha hr hc ho hlb hB gr4 own4
        have c2' := hP.1.c2
        have f2' := hP.1.fz 2
        have c2b : (wr.alloc (.cells #[.int .i64 (r : Int), .slice ap l.length cp] 105)).drew.cell? ⟨R, 2, none⟩ = some (.slice ar ws.length cr) := (hb.kept (w' := wr.alloc (.cells #[.int .i64 (r : Int), .slice ap l.length cp] 105)) (Below.heap_alloc _ _ R hb.ty.lt)).c2
        have HFn : Hid (FSt (w4.setCell ⟨R, 2, none⟩ (.slice (some ⟨g, 0, none⟩) (ws.length + 1) cp')) R lb B D E b cs (ws ++ [(r, .slice ap l.length cp)]) (.slice (some ⟨g, 0, none⟩) (ws.length + 1) cp')) := hP.2.1
        have HBn : Hid (Below B w (w4.setCell ⟨R, 2, none⟩ (.slice (some ⟨g, 0, none⟩) (ws.length + 1) cp'))) := HB.out.drew.trans hP.2.2
        have hag : ∀ k, Ty wr k 158 → (w4.setCell ⟨R, 2, none⟩ (.slice (some ⟨g, 0, none⟩) (ws.length + 1) cp')).heap[k]? = wr.heap[k]? := fun k hk =>
          agree_set (w := wr.drew) gr4 hk.lt (fun e' => Ty.ne (own_tyS ho e') hk (by decide) rfl) (Ty.ne hk hb.ty (by decide))
        have HPn : Hid ((w4.setCell ⟨R, 2, none⟩ (.slice (some ⟨g, 0, none⟩) (ws.length + 1) cp')).ownsRow B 158 2 (.slice ap l.length cp) l.length (plsV l)) := (own_agreeS HP.out (fun k hk => hag k (own_tyS HP.out hk))).mono hB1
        have HTn : Hid (KeepT w (w4.setCell ⟨R, 2, none⟩ (.slice (some ⟨g, 0, none⟩) (ws.length + 1) cp'))) := fun k hk => by
          have hkR : k ≠ R := Ty.ne hk HRt.out (by decide)
          have h1 : w1.heap[k]? = w.heap[k]? := HKp.out k hk.lt hkR
          have h2 : wr.heap[k]? = w.heap[k]? := by rw [HK.out k (Nat.lt_of_lt_of_le hk.lt hsz) hkR]; exact h1
          rw [hag k (by obtain ⟨c, hc⟩ := hk; exact ⟨c, by rw [h2]; exact hc⟩)]; exact h2
        clear run4 own4 gr4 at4 hP hb hr hc ho hbd hag HF HGr HP HK
        go_wp2
        go_region_law (refine step_append_run rfl (.tmp 44) (.tmp 46) 98 98 rfl _ _ _ _ rfl rfl HR4.out ?_)
        all_goals
          go_wp2
          go_ret
          rw [HY.out]
          exact ⟨⟨rfl, _, _, HFn.out, HPn.out, HTn.out⟩, HBn.out⟩

end Go.Proofs.Ytjobhlncllfdmaa
