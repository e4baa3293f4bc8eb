/- keepBytes5: its contract. -/
import Derived.Test.YtjobhlncllfdmaaM08
import Derived.Test.YtjobhlncllfdmaaM09
namespace Go.Proofs.Ytjobhlncllfdmaa
open Go.RowKit

theorem KS.round0 {w0 wr : World} {B b : Nat} {C : Array Value} {U0 U : Nat → Prop} {l0 : Option Nat} {N : Nat} {m : Int} {ps : List (Value × Int)} {ao : Option Addr} {cap : Nat}
    (hC : C.size = 11) (h : KS (LN 0) 1 2 w0 B b C U0 l0 N m ps (lists ps) (marks .u8 ps) U wr (.slice ao N cap)) (hps : ps.length ≤ 100000000) (hN : (N + 1) * 1 ≤ 140737488355328) :
    ∃ a1 c1 a2 c2 g1 p1 w1 g2 p2 w2 g3 p3 w3 U',
      wr.cell? ⟨b, 1, none⟩ = some (.slice a1 ps.length c1) ∧
      (Builtin.append_ #[23, 23] 23 #[.slice a1 ps.length c1, .slice (some ⟨wr.heap.size, 0, none⟩) 1 1]).run Try.prog (wr.alloc (.cells #[.slice ao N cap] 24)) = .ok (.slice (some ⟨g1, 0, none⟩) (ps.length + 1) p1) w1 ∧
      w1.cell? ⟨b, 1, none⟩ = some (.slice a1 ps.length c1) ∧ w1.frozen? ⟨b, 1, none⟩ = false ∧
      (w1.setCell ⟨b, 1, none⟩ (.slice (some ⟨g1, 0, none⟩) (ps.length + 1) p1)).cell? ⟨b, 2, none⟩ = some (.slice a2 ps.length c2) ∧
      (Builtin.append_ #[24, 24] 24 #[.slice a2 ps.length c2, .slice (some ⟨w1.heap.size, 0, none⟩) 1 1]).run Try.prog ((w1.setCell ⟨b, 1, none⟩ (.slice (some ⟨g1, 0, none⟩) (ps.length + 1) p1)).alloc (.cells #[.int .u8 m] 5)) = .ok (.slice (some ⟨g2, 0, none⟩) (ps.length + 1) p2) w2 ∧
      w2.cell? ⟨b, 2, none⟩ = some (.slice a2 ps.length c2) ∧ w2.frozen? ⟨b, 2, none⟩ = false ∧
      (Builtin.append_ #[24, 24] 24 #[.slice ao N cap, .slice (some ⟨w2.heap.size, 0, none⟩) 1 1]).run Try.prog ((w2.setCell ⟨b, 2, none⟩ (.slice (some ⟨g2, 0, none⟩) (ps.length + 1) p2)).alloc (.cells #[.int .u8 m] 5)) = .ok (.slice (some ⟨g3, 0, none⟩) (N + 1) p3) w3 ∧
      KS (LN 0) 1 2 w0 B b C U0 l0 (N + 1) m (ps ++ [(.slice ao N cap, m)]) (lists (ps ++ [(.slice ao N cap, m)])) (marks .u8 (ps ++ [(.slice ao N cap, m)])) U' w3 (.slice (some ⟨g3, 0, none⟩) (N + 1) p3) := by
  have hN2 : N + 1 ≤ maxLen := by unfold maxLen; omega
  have r := KS.round (jr := 1) (jm := 2) (news := [.int .u8 m]) (LN_ok 0) LN0_run (by decide) (by omega) (by omega) (fun _ _ => rfl) one_cell h hps hN hN2
  exact r

set_option maxHeartbeats 2000000 in
set_option maxRecDepth 100000 in
theorem keepBytes5 (B b n : Nat) (A : Nat → Prop) (nb : Nat) (ao : Option Addr) (cap : Nat) (xs : List Value) (w : World) (hBk : Book5 w B b A nb) (hl : w.ownsRow B 5 1 (.slice ao n cap) n xs) (hlA : ∀ k, (Value.slice ao n cap).ownBlock = some k → ¬ A k)
    (hn : (n + 4) * 1 ≤ 140737488355328) (hnb : nb ≤ 90000000) :
    Calls Try.prog 38 #[.pointer (some ⟨b, 0, none⟩), .slice ao n cap] w fun e w' => e = .returned (.tuple #[]) ∧ Kept w B b A nb (Value.slice ao n cap).ownBlock w' := by
  obtain ⟨C, U0, ps, vr, vm, hBB, hCs, ⟨mk, hC0⟩, hvr, hvm, hL, hps, hUA, hUr, hBb, hclose⟩ := hBk.openL 0 (by omega)
  have N1 : Hid (Calls Try.prog 47 #[.pointer (some ⟨b, 0, none⟩)] w fun e w' => ∃ k k' : Int, e = .returned (.int .i64 k) ∧ w' = w.setCell ⟨b, 0, none⟩ (.int .i64 k')) := next_any b mk w (by rw [hBB.cell 0]; exact hC0) (hBB.fz 0)
  have hlb : (Value.slice ao n cap).ownBlock ≠ some b := fun e' => hlA b e' hBk.hasB
  have Hlb : Hid ((Value.slice ao n cap).ownBlock ≠ some b) := hlb
  have hln : xs.length = n := (by have := hl.1; omega)
  have HST : Hid (∀ (k1 m : Int) (wr : World) (ys : List Value), Fr (fun k => (Value.slice ao n cap).ownBlock = some k) (w.setCell ⟨b, 0, none⟩ (.int .i64 k1)) wr → wr.ownsRow B 5 1 (.slice ao n cap) n ys → AllEl (LN 0) wr U0 m n ys →
      KS (LN 0) 1 2 w B b (C.setIfInBounds 0 (.int .i64 k1)) U0 (Value.slice ao n cap).ownBlock n m ps (lists ps) (marks .u8 ps) U0 wr (.slice ao n cap)) := fun k1 m wr ys hf ho he =>
    KS.start (LN_ok 0) hL hBB hvr hvm (by decide) (by decide) hUr hBb _ rfl hf (fun k hk hu => hlA k hk (hUA k hu)) hlb ho (fun _ h => h) (fun _ h => .inl h) (fun k hk => (hl.lt k hk).2) he
  have HFI : Hid (∀ (k1 m : Int) (ps' : List (Value × Int)) (U' : Nat → Prop) (N : Nat) (wr : World) (vl : Value), KS (LN 0) 1 2 w B b (C.setIfInBounds 0 (.int .i64 k1)) U0 (Value.slice ao n cap).ownBlock N m ps' (lists ps') (marks .u8 ps') U' wr vl → ps'.length = ps.length + 4 → Kept w B b A nb (Value.slice ao n cap).ownBlock wr) := fun k1 m ps' U' N wr vl hK hp => by
    obtain ⟨vr', vm', f1, f2, f3, f4, f5⟩ := hK.finish
    exact hclose wr _ U' ps' vr' vm' k1 f1 f2 (by omega) f3 f4 hlA f5
  clear hBB hL hclose hUr hlA hBk hvr hvm hUA hlb
  go_enter Try.func38, Try.ntmps38
  go_wp2_with fail
  refine N1.out.mono ?_
  rintro e w1 ⟨k0, k1, rfl, hw1⟩
  have hl1 : w1.ownsRow B 5 1 (.slice ao n cap) n xs := by rw [hw1]; exact ownsRow_set_other' hl Hlb.out
  have Hw1 : Hid (w1 = w.setCell ⟨b, 0, none⟩ (.int .i64 k1)) := hw1
  clear hw1
  go_wp2
  generalize k0 % 256 = m
  go_loopw [5] (fun i wr => ∃ (k : Nat) (ys : List Value), k ≤ n ∧ i = .int .i64 k ∧ wr.ownsRow B 5 1 (.slice ao n cap) n ys ∧ Hid (AllEl (LN 0) wr U0 m k ys) ∧ Hid (Fr (fun k => (Value.slice ao n cap).ownBlock = some k) w1 wr)) (fun i _ => n - (intOf i).toNat)
  case atStart => exact ⟨0, xs, Nat.zero_le _, rfl, hl1, fun j hj => by omega, Fr.refl _ _⟩
  case round =>
    obtain ⟨k, ys, hk, rfl, ho, Hy, Hf⟩ := hrel
    have hyl : ys.length = n := by have := ho.1; omega
    by_cases hk2 : k < n
    · obtain ⟨g, cp, hform, _, _⟩ := ho.form (by omega)
      simp only [Value.slice.injEq, true_and] at hform
      obtain ⟨rfl, rfl⟩ := hform
      have hst := ho.stored k (.int .u8 m)
      have hc : wr.cell? ⟨g, k, none⟩ = some ys[k] := by rw [ho.cellAt k (by omega), List.getElem?_eq_getElem (by omega)]
      have hf := ho.frozenAt k
      have Hy2 : Hid (∀ W, AllEl (LN 0) W U0 m (k + 1) (ys.set k (.int .u8 m))) := fun W => el_set1 rfl (fun _ _ => rfl) (by omega) Hy.out (fun _ h => h)
      have Hf2 : Hid (Fr (fun k => (Value.slice (some ⟨g, 0, none⟩) n cap).ownBlock = some k) w1 (wr.setCell ⟨g, k, none⟩ (.int .u8 m))) := Hf.out.trans Fr.set (fun j _ e' => by rw [e']; rfl)
      have Ho2 : Hid ((wr.setCell ⟨g, k, none⟩ (.int .u8 m)).ownsRow B 5 1 (.slice (some ⟨g, 0, none⟩) n cap) n (ys.set k (.int .u8 m))) := hst.1
      generalize ys[k] = y at hc
      clear hst Hy ho hyl
      go_wp2
      go_roundw
      case rel => exact ⟨k + 1, _, by omega, by go_num, Ho2.out, Hy2.out _, Hf2⟩
      case measure => simp [intOf]; omega
    · obtain rfl : k = n := by omega
      have HS : Hid (KS (LN 0) 1 2 w B b (C.setIfInBounds 0 (.int .i64 k1)) U0 (Value.slice ao k cap).ownBlock k m ps (lists ps) (marks .u8 ps) U0 wr (.slice ao k cap)) := HST.out k1 m wr ys (by rw [← Hw1.out]; exact Hf.out) ho Hy.out
      clear ho hyl Hy Hf hl1 hl N1
      have hcz : (C.setIfInBounds 0 (Value.int .i64 k1)).size = 11 := by simp [hCs]
      go_wp2
      go_loopw [1, 6] (fun l i wr => ∃ (j : Nat) (ao' : Option Addr) (cap' : Nat), j ≤ 4 ∧ i = .int .i64 j ∧ l = .slice ao' (k + j) cap' ∧ Hid (∃ ps' U', ps'.length = ps.length + j ∧ KS (LN 0) 1 2 w B b (C.setIfInBounds 0 (.int .i64 k1)) U0 (Value.slice ao k cap).ownBlock (k + j) m ps' (lists ps') (marks .u8 ps') U' wr (.slice ao' (k + j) cap'))) (fun _ i _ => 4 - (intOf i).toNat)
      case atStart => exact ⟨0, ao, cap, by omega, rfl, rfl, ps, U0, rfl, HS.out⟩
      case round =>
        obtain ⟨j, ao', cap', hj, rfl, rfl, HK⟩ := hrel
        by_cases hj4 : j < 4
        · obtain ⟨ps', U', hp', hK⟩ := HK.out
          obtain ⟨a1, c1, a2, c2, g1, p1, w1', g2, p2, w2, g3, p3, w3, U'', hc1, run1, hc1', hf1', hc2, run2, hc2', hf2', run3, hK⟩ := hK.round0 hcz (len_step hp' hps hnb hj4) (bound_step hn hj4)
          have HK3 : Hid (∃ ps' U', ps'.length = ps.length + (j + 1) ∧ KS (LN 0) 1 2 w B b (C.setIfInBounds 0 (.int .i64 k1)) U0 (Value.slice ao k cap).ownBlock (k + (j + 1)) m ps' (lists ps') (marks .u8 ps') U' w3 (.slice (some ⟨g3, 0, none⟩) (k + (j + 1)) p3)) := ⟨_, _, len_snoc hp', hK⟩
          have R1 : Hid ((Builtin.append_ #[23, 23] 23 #[.slice a1 ps'.length c1, .slice (some ⟨wr.heap.size, 0, none⟩) 1 1]).run Try.prog (wr.alloc (.cells #[.slice ao' (k + j) cap'] 24)) = .ok (.slice (some ⟨g1, 0, none⟩) (ps'.length + 1) p1) w1') := run1
          have R2 : Hid ((Builtin.append_ #[24, 24] 24 #[.slice a2 ps'.length c2, .slice (some ⟨w1'.heap.size, 0, none⟩) 1 1]).run Try.prog ((w1'.setCell ⟨b, 1, none⟩ (.slice (some ⟨g1, 0, none⟩) (ps'.length + 1) p1)).alloc (.cells #[.int .u8 m] 5)) = .ok (.slice (some ⟨g2, 0, none⟩) (ps'.length + 1) p2) w2) := run2
          have R3 : Hid ((Builtin.append_ #[24, 24] 24 #[.slice ao' (k + j) cap', .slice (some ⟨w2.heap.size, 0, none⟩) 1 1]).run Try.prog ((w2.setCell ⟨b, 2, none⟩ (.slice (some ⟨g2, 0, none⟩) (ps'.length + 1) p2)).alloc (.cells #[.int .u8 m] 5)) = .ok (.slice (some ⟨g3, 0, none⟩) (k + j + 1) p3) w3) := run3
          clear hK run1 run2 run3 HK HS hp'
          go_wp2_with (first | (at_builtin; refine wpList_append_run rfl (.tmp 29) (.tmp 31) 23 23 rfl _ _ _ rfl rfl R1.out ?_) | (at_builtin; refine wpList_append_run rfl (.tmp 39) (.tmp 41) 24 24 rfl _ _ _ rfl rfl R2.out ?_) | (at_builtin; refine wpList_append_run rfl (.tmp 45) (.tmp 47) 24 24 rfl _ _ _ rfl rfl R3.out ?_) | go_in)
          go_roundw
          case rel => exact ⟨j + 1, some ⟨g3, 0, none⟩, p3, by omega, by go_num, rfl, HK3⟩
          case measure => simp [intOf]; omega
        · obtain rfl : j = 4 := by omega
          have HF : Kept w B b A nb (Value.slice ao k cap).ownBlock wr := by
            obtain ⟨ps', U', hp', hK⟩ := HK.out
            exact HFI.out k1 m ps' U' _ wr _ hK hp'
          go_wp2
          go_end0
          exact ⟨rfl, HF⟩
end Go.Proofs.Ytjobhlncllfdmaa

/- What holds through the keeping of other lists (the part that Writes takes). -/
namespace Go.Proofs.Ytjobhlncllfdmaa
open Go.RowKit

/-- the book, on the way from w0 -/
def Chain (w0 : World) (B b n : Nat) (A : Nat → Prop) (W : World) : Prop := Book5 W B b A n ∧ Below B w0 W

/-- a row that is not the book's -/
def Mine (W : World) (A : Nat → Prop) (B : Nat) (e : TypeId) (sz : Nat) (v : Value) (n : Nat) (xs : List Value) : Prop := W.ownsRow B e sz v n xs ∧ ∀ k, v.ownBlock = some k → ¬ A k

/-- a block that is not the book's -/
def Apart (W : World) (A : Nat → Prop) (k : Nat) (o : Obj) : Prop := W.heap[k]? = some o ∧ ¬ A k

section
variable {w0 W W' : World} {B b n : Nat} {A A' : Nat → Prop} {l0 : Option Nat} {e : TypeId} {sz : Nat} {v : Value} {m : Nat} {xs : List Value} {k : Nat} {o : Obj}

theorem Chain.below (h : Chain w0 B b n A W) (hb : Below W.heap.size W W') : Chain w0 B b n A W' :=
  ⟨h.1.below hb (Nat.le_refl _), h.2.trans (hb.mono h.1.bsize)⟩

/-- what a keeping leaves -/
def After (W : World) (A : Nat → Prop) (l0 : Option Nat) (A' : Nat → Prop) (W' : World) : Prop :=
  (∀ k, A' k → A k ∨ l0 = some k ∨ W.heap.size ≤ k) ∧ (∀ k, k < W.heap.size → ¬ A k → l0 ≠ some k → W'.heap[k]? = W.heap[k]?) ∧ W.heap.size ≤ W'.heap.size

theorem Chain.kept (h : Chain w0 B b n A W) (hk : Kept W B b A n l0 W') (hl : ∀ k, l0 = some k → B ≤ k) : ∃ A', Chain w0 B b (n + 4) A' W' ∧ After W A l0 A' W' := by
  obtain ⟨A', h1, h2, h3⟩ := hk
  have hlt := h.1.lt
  refine ⟨A', ⟨h1, h.2.trans (h3.below h.1.bsize (fun k hk => ?_))⟩, h2, fun k hk ha hl => h3.block k hk (fun t => by rcases t with t | t; exact ha t; exact hl t), h3.size⟩
  rcases hk with hk | hk
  · exact (hlt k hk).1
  · exact hl k hk

theorem Mine.below (h : Mine W A B e sz v m xs) (hb : Below W.heap.size W W') : Mine W' A B e sz v m xs :=
  ⟨own_agreeS h.1 (fun k hk => hb.block k (own_tyS h.1 hk).lt), h.2⟩
theorem Mine.after (h : Mine W A B e sz v m xs) (ha : After W A l0 A' W') (hne : ∀ k, v.ownBlock = some k → l0 ≠ some k) : Mine W' A' B e sz v m xs := by
  refine ⟨own_agreeS h.1 (fun k hk => ha.2.1 k (own_tyS h.1 hk).lt (h.2 k hk) (hne k hk)), fun k hk hA => ?_⟩
  rcases ha.1 k hA with t | t | t
  · exact h.2 k hk t
  · exact hne k hk t
  · have := (own_tyS h.1 hk).lt; omega
theorem Apart.below (h : Apart W A k o) (hb : Below W.heap.size W W') : Apart W' A k o :=
  ⟨by rw [hb.block k (Array.getElem?_eq_some_iff.1 h.1).1]; exact h.1, h.2⟩
theorem Apart.after (h : Apart W A k o) (ha : After W A l0 A' W') (hne : l0 ≠ some k) : Apart W' A' k o := by
  have hlt := (Array.getElem?_eq_some_iff.1 h.1).1
  refine ⟨by rw [ha.2.1 k hlt h.2 hne]; exact h.1, fun hA => ?_⟩
  rcases ha.1 k hA with t | t | t
  · exact h.2 t
  · exact hne t
  · omega
end

end Go.Proofs.Ytjobhlncllfdmaa

/- keepLists: its walk. -/
namespace Go.Proofs.Ytjobhlncllfdmaa
open Go.RowKit

theorem nb_step {nb k n : Nat} (h : nb + 4 * n ≤ 80000000) (hk : k ≤ n) : nb + 4 * k ≤ 90000000 := by omega
theorem lists_step {n : Nat} (h : n ≤ 10000000) : (n + 4) * 24 ≤ 140737488355328 := by omega
theorem cells_step {n : Nat} (h : n ≤ 100000000) : (n + 4) * 32 ≤ 140737488355328 := by omega

set_option maxHeartbeats 4000000 in
set_option maxRecDepth 100000 in
theorem keepLists5 (B b n : Nat) (A0 : Nat → Prop) (nb : Nat) (ao : Option Addr) (cap : Nat) (vs : List Value) (w : World) (hBk : Book5 w B b A0 nb) (hl : w.ownsRow B 64 1 (.slice ao n cap) n vs) (hlA : ∀ k, (Value.slice ao n cap).ownBlock = some k → ¬ A0 k)
    (hls : ∀ i, i < n → ∃ ai ni ci xs, vs[i]? = some (.slice ai ni ci) ∧ w.ownsRow B 66 3 (.slice ai ni ci) ni xs ∧ ni ≤ 100000000 ∧ ∀ k, (Value.slice ai ni ci).ownBlock = some k → ¬ A0 k)
    (hdis : ∀ i j v v' k, i < n → j < n → i ≠ j → vs[i]? = some v → vs[j]? = some v' → v.ownBlock = some k → v'.ownBlock ≠ some k) (hn : n ≤ 10000000) (hnb : nb + 4 * n ≤ 80000000) :
    Calls Try.prog 61 #[.pointer (some ⟨b, 0, none⟩), .slice ao n cap] w fun e w' => e = .returned (.tuple #[]) ∧ ∃ A', Book5 w' B b A' (nb + 4 * n + 4) ∧ (∀ x, A' x → A0 x ∨ Of vs n x ∨ (Value.slice ao n cap).ownBlock = some x ∨ w.heap.size ≤ x) ∧ Fr (fun x => A0 x ∨ Of vs n x ∨ (Value.slice ao n cap).ownBlock = some x) w w' := by
  have Hl : Hid (w.ownsRow B 64 1 (.slice ao n cap) n vs) := hl
  have hvl : vs.length = n := by have := hl.1; omega
  have HLL : Hid (∀ x, (Value.slice ao n cap).ownBlock = some x → x < w.heap.size ∧ ∀ k, ¬ Of vs k x) := fun x hx => ⟨(own_tyS hl hx).lt, fun k ⟨i, v, hi, hv, hvx⟩ => by
    have hin : i < n := by have := (List.getElem?_eq_some_iff.1 hv).1; omega
    obtain ⟨ai, ni, ci, xs, e1, e2, _⟩ := hls i hin
    rw [hv] at e1
    simp only [Option.some.injEq] at e1
    subst e1
    exact Ty.ne (own_tyS e2 hvx) (own_tyS hl hx) (by decide) rfl⟩
  have HlA : Hid (∀ k, (Value.slice ao n cap).ownBlock = some k → ¬ A0 k) := hlA
  have Hls : Hid (∀ i, i < n → ∃ ai ni ci xs, vs[i]? = some (.slice ai ni ci) ∧ w.ownsRow B 66 3 (.slice ai ni ci) ni xs ∧ ni ≤ 100000000 ∧ ∀ k, (Value.slice ai ni ci).ownBlock = some k → ¬ A0 k) := hls
  have Hdis : Hid (∀ i j v v' k, i < n → j < n → i ≠ j → vs[i]? = some v → vs[j]? = some v' → v.ownBlock = some k → v'.ownBlock ≠ some k) := hdis
  have HS0 : Hid (LSt w B b A0 nb (Value.slice ao n cap).ownBlock vs 0 w) := ⟨A0, hBk, fun x h => .inl h, Fr.refl _ _, hlA⟩
  -- the row of lists, later
  have HLat : Hid (∀ (k : Nat) (W : World), LSt w B b A0 nb (Value.slice ao n cap).ownBlock vs k W → W.ownsRow B 64 1 (.slice ao n cap) n vs) := fun k W h => by
    obtain ⟨A, _, _, hfr, _⟩ := h
    exact own_agreeS hl (fun x hx => hfr.block x (own_tyS hl hx).lt (fun t => by rcases t with t | t; exact hlA x hx t; exact (HLL.out x hx).2 k t))
  -- one list is kept
  have HRnd : Hid (∀ (k : Nat) (W : World), k < n → LSt w B b A0 nb (Value.slice ao n cap).ownBlock vs k W → ∃ ai ni ci g, ao = some ⟨g, 0, none⟩ ∧ W.cell? ⟨g, k, none⟩ = some (.slice ai ni ci) ∧ Calls Try.prog 76 #[.pointer (some ⟨b, 0, none⟩), .slice ai ni ci] W fun e w' => e = .returned (.tuple #[]) ∧ LSt w B b A0 nb (Value.slice ao n cap).ownBlock vs (k + 1) w') := fun k W hk h => by
    have hrow := HLat.out k W h
    obtain ⟨A, g1, g2, g3, g4⟩ := h
    obtain ⟨ai, ni, ci, xs, e1, e2, e3, e4⟩ := hls k hk
    obtain ⟨g, cp, hform, _, _⟩ := hrow.form (by omega)
    simp only [Value.slice.injEq, true_and] at hform
    obtain ⟨rfl, rfl⟩ := hform
    have hk1 : ∀ x, (Value.slice ai ni ci).ownBlock = some x → ¬ Of vs k x := fun x hx ⟨i, v, hi, hv, hvx⟩ => hdis i k v _ x (by omega) hk (by omega) hv e1 hvx hx
    have how : W.ownsRow B 66 3 (.slice ai ni ci) ni xs := own_agreeS e2 (fun x hx => g3.block x (own_tyS e2 hx).lt (fun t => by rcases t with t | t; exact e4 x hx t; exact hk1 x hx t))
    refine ⟨ai, ni, ci, g, rfl, by rw [hrow.cellAt k (by omega)]; exact e1, ?_⟩
    refine (keepCells5 B b ni A (nb + 4 * k) ai ci xs W g1 how (fun x hx hA => ?_) (cells_step e3) (nb_step hnb (Nat.le_of_lt hk))).mono ?_
    · rcases g2 x hA with t | t | t
      · exact e4 x hx t
      · exact hk1 x hx t
      · have := (own_tyS e2 hx).lt; omega
    · rintro e w' ⟨he, hK⟩
      exact ⟨he, LSt.step g1 g2 g3 g4 e1 hK (fun x hx => ⟨(HLL.out x hx).1, fun t => Ty.ne (own_tyS e2 t) (own_tyS hl hx) (by decide) rfl⟩)⟩
  clear hl hlA hls hdis hBk
  go_enter Try.func61, Try.ntmps61
  go_wp2
  go_loopw [4] (fun i wr => ∃ k : Nat, k ≤ n ∧ i = .int .i64 k ∧ Hid (LSt w B b A0 nb (Value.slice ao n cap).ownBlock vs k wr)) (fun i _ => n - (intOf i).toNat)
  case atStart => exact ⟨0, Nat.zero_le _, rfl, HS0⟩
  case round =>
    obtain ⟨k, hk, rfl, HL⟩ := hrel
    by_cases hk2 : k < n
    · obtain ⟨ai, ni, ci, g, rfl, hc, hcall⟩ := HRnd.out k wr hk2 HL.out
      have HC : Hid (Calls Try.prog 76 #[.pointer (some ⟨b, 0, none⟩), .slice ai ni ci] wr fun e w' => e = .returned (.tuple #[]) ∧ LSt w B b A0 nb (Value.slice (some ⟨g, 0, none⟩) n cap).ownBlock vs (k + 1) w') := hcall
      clear hcall
      go_wp2_with fail
      refine HC.out.mono ?_
      rintro e w2 ⟨rfl, hL2⟩
      have HL2 : Hid (LSt w B b A0 nb (Value.slice (some ⟨g, 0, none⟩) n cap).ownBlock vs (k + 1) w2) := hL2
      clear hL2 HC
      go_wp2
      go_roundw
      case rel => exact ⟨k + 1, by omega, by go_num, HL2⟩
      case measure => simp [intOf]; omega
    · obtain rfl : k = n := by omega
      obtain ⟨V, hVV⟩ : ∃ V, V = wr := ⟨_, rfl⟩
      subst hVV
      have hrow := HLat.out k V HL.out
      obtain ⟨A1, hB1, hA1, hF1, hl1A⟩ := HL.out
      obtain ⟨C, U0, ps, vr, vm, hBB, hCs, ⟨mk, hC0⟩, hvr, hvm, hL, hps, hUA, hUr, hBb, hclose⟩ := hB1.openL 4 (by omega)
      have N1 : Hid (Calls Try.prog 47 #[.pointer (some ⟨b, 0, none⟩)] V fun e w' => ∃ k k' : Int, e = .returned (.int .i64 k) ∧ w' = V.setCell ⟨b, 0, none⟩ (.int .i64 k')) := next_any b mk V (by rw [hBB.cell 0]; exact hC0) (hBB.fz 0)
      have hlb : (Value.slice ao k cap).ownBlock ≠ some b := fun e' => hl1A b e' hB1.hasB
      have Hlb : Hid ((Value.slice ao k cap).ownBlock ≠ some b) := hlb
      have HlU : Hid (∀ x, (Value.slice ao k cap).ownBlock = some x → ¬ U0 x) := fun x hx hu => hl1A x hx (hUA x hu)
      have Hlt : Hid (∀ x, (Value.slice ao k cap).ownBlock = some x → x < V.heap.size) := fun x hx => (hrow.lt x hx).2
      have HU0 : Hid (∀ x, U0 x → x < V.heap.size ∧ x ≠ b) := fun x hx => ⟨(hUr x hx).2.1, (hUr x hx).2.2⟩
      have HST : Hid (∀ (k1 m : Int) (W : World) (ys : List Value), Fr (fun x => (Value.slice ao k cap).ownBlock = some x) (V.setCell ⟨b, 0, none⟩ (.int .i64 k1)) W → W.ownsRow B 64 1 (.slice ao k cap) k ys → AllEl (LN 4) W (fun x => U0 x ∨ (V.heap.size ≤ x ∧ x < W.heap.size)) m k ys →
          KS (LN 4) 9 10 V B b (C.setIfInBounds 0 (.int .i64 k1)) U0 (Value.slice ao k cap).ownBlock k m ps (lists ps) (marks .i64 ps) (fun x => U0 x ∨ (V.heap.size ≤ x ∧ x < W.heap.size)) W (.slice ao k cap)) := fun k1 m W ys hf ho he =>
        KS.start (LN_ok 4) hL hBB hvr hvm (by decide) (by decide) hUr hBb _ rfl hf HlU.out hlb ho (fun _ h => .inl h) (fun _ h => h) (fun x hx => (hrow.lt x hx).2) he
      have HFI : Hid (∀ (k1 m : Int) (ps' : List (Value × Int)) (U' : Nat → Prop) (N : Nat) (W : World) (vl : Value), KS (LN 4) 9 10 V B b (C.setIfInBounds 0 (.int .i64 k1)) U0 (Value.slice ao k cap).ownBlock N m ps' (lists ps') (marks .i64 ps') U' W vl → ps'.length = ps.length + 4 →
          ∃ A', Book5 W B b A' (nb + 4 * k + 4) ∧ (∀ x, A' x → A0 x ∨ Of vs k x ∨ (Value.slice ao k cap).ownBlock = some x ∨ w.heap.size ≤ x) ∧ Fr (fun x => A0 x ∨ Of vs k x ∨ (Value.slice ao k cap).ownBlock = some x) w W) := fun k1 m ps' U' N W vl hK hp => by
        obtain ⟨vr', vm', f1, f2, f3, f4, f5⟩ := hK.finish
        obtain ⟨A', q1, q2, q3⟩ := hclose W _ U' ps' vr' vm' k1 f1 f2 (by omega) f3 f4 hl1A f5
        have hsz := hF1.size
        refine ⟨A', q1, fun x hx => ?_, (hF1.mono (fun x hx => by rcases hx with t | t; exact .inl t; exact .inr (.inl t))).trans q3 (fun x hx t => ?_)⟩
        · rcases q2 x hx with t | t | t
          · rcases hA1 x t with u | u | u
            · exact .inl u
            · exact .inr (.inl u)
            · exact .inr (.inr (.inr u))
          · exact .inr (.inr (.inl t))
          · exact .inr (.inr (.inr (by omega)))
        · rcases t with t | t
          · rcases hA1 x t with u | u | u
            · exact .inl u
            · exact .inr (.inl u)
            · omega
          · exact .inr (.inr t)
      have Hps : Hid (ps.length ≤ nb + 4 * k) := hps
      clear hB1 hA1 hF1 hl1A hBB hL hclose hUr hUA hvr hvm hlb HRnd HLat HL HS0 Hls Hdis HLL HlA Hl hps
      go_wp2_with fail
      refine N1.out.mono ?_
      rintro e w1 ⟨m, k1, rfl, hw1⟩
      have hl1 : w1.ownsRow B 64 1 (.slice ao k cap) k vs := by rw [hw1]; exact ownsRow_set_other' hrow Hlb.out
      have Hw1 : Hid (w1 = V.setCell ⟨b, 0, none⟩ (.int .i64 k1)) := hw1
      have Hs1 : Hid (w1.heap.size = V.heap.size) := by rw [Hid, hw1]; exact size_set _ _ _
      clear hw1 hrow N1
      go_wp2
      go_loopw [6] (fun i wr => ∃ (j : Nat) (ys : List Value), j ≤ k ∧ i = .int .i64 j ∧ wr.ownsRow B 64 1 (.slice ao k cap) k ys ∧ Hid (AllEl (LN 4) wr (fun x => U0 x ∨ (V.heap.size ≤ x ∧ x < wr.heap.size)) m j ys) ∧ Hid (Fr (fun x => (Value.slice ao k cap).ownBlock = some x) w1 wr)) (fun i _ => k - (intOf i).toNat)
      case atStart => exact ⟨0, vs, Nat.zero_le _, rfl, hl1, fun j hj => by omega, Fr.refl _ _⟩
      case round =>
        obtain ⟨j, ys, hj, rfl, ho, Hy, Hf⟩ := hrel
        have hyl : ys.length = k := by have := ho.1; omega
        by_cases hj2 : j < k
        · obtain ⟨g, cp, hform, _, _⟩ := ho.form (by omega)
          simp only [Value.slice.injEq, true_and] at hform
          obtain ⟨rfl, rfl⟩ := hform
          have hgw : g < wr.heap.size := (own_tyS ho rfl).lt
          have hst := ho.stored j (.slice (some ⟨wr.heap.size, 0, none⟩) 1 1)
          have hc : wr.cell? ⟨g, j, none⟩ = some ys[j] := by rw [ho.cellAt j (by omega), List.getElem?_eq_getElem (by omega)]
          have hf := ho.frozenAt j
          have HO : Hid (∀ W : World, W = wr → Calls Try.prog 77 #[.int .i64 m] W fun e w' => e = .returned (.slice (some ⟨wr.heap.size, 0, none⟩) 1 1) ∧ w' = wr.alloc (.cells #[.bool false, .int .i64 m, .string ⟨#[]⟩] 66)) := fun W hW => by subst hW; exact one_any m W
          have Hnx : Hid (((wr.setCell ⟨g, j, none⟩ (.slice (some ⟨wr.heap.size, 0, none⟩) 1 1)).alloc (.cells #[.bool false, .int .i64 m, .string ⟨#[]⟩] 66)).ownsRow B 64 1 (.slice (some ⟨g, 0, none⟩) k cap) k (ys.set j (.slice (some ⟨wr.heap.size, 0, none⟩) 1 1)) ∧
              AllEl (LN 4) ((wr.setCell ⟨g, j, none⟩ (.slice (some ⟨wr.heap.size, 0, none⟩) 1 1)).alloc (.cells #[.bool false, .int .i64 m, .string ⟨#[]⟩] 66)) (fun x => U0 x ∨ (V.heap.size ≤ x ∧ x < ((wr.setCell ⟨g, j, none⟩ (.slice (some ⟨wr.heap.size, 0, none⟩) 1 1)).alloc (.cells #[.bool false, .int .i64 m, .string ⟨#[]⟩] 66)).heap.size)) m (j + 1) (ys.set j (.slice (some ⟨wr.heap.size, 0, none⟩) 1 1)) ∧
              Fr (fun x => (Value.slice (some ⟨g, 0, none⟩) k cap).ownBlock = some x) w1 ((wr.setCell ⟨g, j, none⟩ (.slice (some ⟨wr.heap.size, 0, none⟩) 1 1)).alloc (.cells #[.bool false, .int .i64 m, .string ⟨#[]⟩] 66))) := by
            have hsz : w1.heap.size ≤ wr.heap.size := Hf.out.size
            have hV : V.heap.size ≤ wr.heap.size := by have := Hs1.out; omega
            have hS : ((wr.setCell ⟨g, j, none⟩ (.slice (some ⟨wr.heap.size, 0, none⟩) 1 1)).alloc (.cells #[.bool false, .int .i64 m, .string ⟨#[]⟩] 66)).heap.size = wr.heap.size + 1 := by rw [size_alloc', size_set]
            have hnew : ((wr.setCell ⟨g, j, none⟩ (.slice (some ⟨wr.heap.size, 0, none⟩) 1 1)).alloc (.cells #[.bool false, .int .i64 m, .string ⟨#[]⟩] 66)).heap[wr.heap.size]? = some (.cells #[.bool false, .int .i64 m, .string ⟨#[]⟩] 66 (0, 0)) := by
              have := heap_alloc_new (wr.setCell ⟨g, j, none⟩ (.slice (some ⟨wr.heap.size, 0, none⟩) 1 1)) (.cells #[.bool false, .int .i64 m, .string ⟨#[]⟩] 66)
              rw [size_set] at this
              exact this
            refine ⟨hst.1.alloc _, el_set1' rfl (el4 (.inr ⟨hV, by rw [hS]; omega⟩) hnew) (by omega) Hy.out (fun xs hx => ?_), (Hf.out.trans Fr.set (fun x _ e' => by rw [e']; rfl)).trans (Fr.of_below (fun _ => False) ((Below.refl _ _).alloc (Nat.le_refl _) _)) (fun _ _ h => h.elim)⟩
            refine (LN_ok 4).stab _ _ _ _ _ _ hx (fun x hx ht => ?_) (fun x hx => ?_)
            · rw [Below.heap_alloc _ _ _ (by rw [size_set]; exact ht.lt)]
              exact heap_setCell_other _ _ _ _ (show x ≠ g from Ty.ne ht (own_tyS ho rfl) (by decide))
            · rcases hx with hx | hx
              · exact .inl hx
              · exact .inr ⟨hx.1, by rw [hS]; omega⟩
          generalize ys[j] = y at hc
          clear hst Hy ho hyl
          go_wp2_with fail
          refine (HO.out _ rfl).mono ?_
          rintro e w' ⟨rfl, hw'⟩
          subst w'
          go_wp2
          go_roundw
          case rel => exact ⟨j + 1, _, by omega, by go_num, Hnx.out.1, Hnx.out.2.1, Hnx.out.2.2⟩
          case measure => simp [intOf]; omega
        · obtain rfl : j = k := by omega
          have HS : Hid (KS (LN 4) 9 10 V B b (C.setIfInBounds 0 (.int .i64 k1)) U0 (Value.slice ao j cap).ownBlock j m ps (lists ps) (marks .i64 ps) (fun x => U0 x ∨ (V.heap.size ≤ x ∧ x < wr.heap.size)) wr (.slice ao j cap)) := HST.out k1 m wr ys (by rw [← Hw1.out]; exact Hf.out) ho Hy.out
          have Hcz : Hid ((C.setIfInBounds 0 (Value.int .i64 k1)).size = 11) := by simp [Hid, hCs]
          clear ho hyl Hy Hf hl1 hCs
          go_wp2
          go_loopw [1, 7] (fun l i wr => ∃ (q : Nat) (ao' : Option Addr) (cap' : Nat), q ≤ 4 ∧ i = .int .i64 q ∧ l = .slice ao' (j + q) cap' ∧ Hid (∃ ps' U', ps'.length = ps.length + q ∧ KS (LN 4) 9 10 V B b (C.setIfInBounds 0 (.int .i64 k1)) U0 (Value.slice ao j cap).ownBlock (j + q) m ps' (lists ps') (marks .i64 ps') U' wr (.slice ao' (j + q) cap'))) (fun _ i _ => 4 - (intOf i).toNat)
          case atStart => exact ⟨0, ao, cap, by omega, rfl, rfl, ps, _, rfl, HS.out⟩
          case round =>
            obtain ⟨q, ao', cap', hq, rfl, rfl, HK⟩ := hrel
            by_cases hq4 : q < 4
            · obtain ⟨ps', U', hp', hK⟩ := HK.out
              obtain ⟨a1, c1, a2, c2, g1, p1, w1', g2, p2, w2, g3, p3, w3, U'', hc1, run1, hc1', hf1', hc2, run2, hc2', hf2', run3, hK⟩ := hK.round4 Hcz.out (len_step hp' Hps.out (nb_step hnb (Nat.le_refl _)) hq4) (bound_step (lists_step hn) hq4)
              have HK3 : Hid (∃ ps' U', ps'.length = ps.length + (q + 1) ∧ KS (LN 4) 9 10 V B b (C.setIfInBounds 0 (.int .i64 k1)) U0 (Value.slice ao j cap).ownBlock (j + (q + 1)) m ps' (lists ps') (marks .i64 ps') U' w3 (.slice (some ⟨g3, 0, none⟩) (j + (q + 1)) p3)) := ⟨_, _, len_snoc hp', hK⟩
              have R1 : Hid ((Builtin.append_ #[29, 29] 29 #[.slice a1 ps'.length c1, .slice (some ⟨wr.heap.size, 0, none⟩) 1 1]).run Try.prog (wr.alloc (.cells #[.slice ao' (j + q) cap'] 28)) = .ok (.slice (some ⟨g1, 0, none⟩) (ps'.length + 1) p1) w1') := run1
              have R2 : Hid ((Builtin.append_ #[26, 26] 26 #[.slice a2 ps'.length c2, .slice (some ⟨w1'.heap.size, 0, none⟩) 1 1]).run Try.prog ((w1'.setCell ⟨b, 9, none⟩ (.slice (some ⟨g1, 0, none⟩) (ps'.length + 1) p1)).alloc (.cells #[.int .i64 m] 3)) = .ok (.slice (some ⟨g2, 0, none⟩) (ps'.length + 1) p2) w2) := run2
              have R3 : Hid ((Builtin.append_ #[28, 28] 28 #[.slice ao' (j + q) cap', .slice (some ⟨w2.heap.size + 1, 0, none⟩) 1 1]).run Try.prog (((w2.setCell ⟨b, 10, none⟩ (.slice (some ⟨g2, 0, none⟩) (ps'.length + 1) p2)).alloc (.cells #[.bool false, .int .i64 m, .string ⟨#[]⟩] 66)).alloc (.cells #[.slice (some ⟨w2.heap.size, 0, none⟩) 1 1] 64)) = .ok (.slice (some ⟨g3, 0, none⟩) (j + q + 1) p3) w3) := run3
              clear hK run1 run2 run3 HK HS hp'
              go_wp2_with (first | (at_builtin; refine wpList_append_run rfl (.tmp 42) (.tmp 44) 29 29 rfl _ _ _ rfl rfl R1.out ?_) | (at_builtin; refine wpList_append_run rfl (.tmp 52) (.tmp 54) 26 26 rfl _ _ _ rfl rfl R2.out ?_) | (at_builtin; refine wpList_append_run rfl (.tmp 58) (.tmp 61) 28 28 rfl _ _ _ rfl rfl R3.out ?_) | go_in)
              go_roundw
              case rel => exact ⟨q + 1, some ⟨g3, 0, none⟩, p3, by omega, by go_num, rfl, HK3⟩
              case measure => simp [intOf]; omega
            · obtain rfl : q = 4 := by omega
              have HF : ∃ A', Book5 wr B b A' (nb + 4 * j + 4) ∧ (∀ x, A' x → A0 x ∨ Of vs j x ∨ (Value.slice ao j cap).ownBlock = some x ∨ w.heap.size ≤ x) ∧ Fr (fun x => A0 x ∨ Of vs j x ∨ (Value.slice ao j cap).ownBlock = some x) w wr := by
                obtain ⟨ps', U', hp', hK⟩ := HK.out
                exact HFI.out k1 m ps' U' _ wr _ hK hp'
              go_wp2
              go_end0
              exact ⟨rfl, HF⟩
end Go.Proofs.Ytjobhlncllfdmaa
