/- Contracts of the book's small functions: lend, next, num, sameInts. -/
import Derived.Test.YtjobhlncllfdmaaGreatM01
import Derived.Deep.AppendLies
import Derived.Deep.AppendSrc
import Derived.Deep.Upon
namespace Go.Proofs.YtjobhlncllfdmaaGreat
open Go.RowKit

theorem Tryz.info5 : (Tryz.prog.info? 5).map (fun i => (i.zero, i.size, i.bytes)) = some (some (.int .u8 0), 1, 1) := by kernel_rfl

def bytesV (D : List UInt8) : List Value := D.map fun b => Value.int .u8 b.toNat

theorem length_bytesV (D : List UInt8) : (bytesV D).length = D.length := by simp [bytesV]

/-- the first append of lend: a string's bytes onto nil -/
theorem append_str (s : ByteArray) (w : World) (hs : s.size ≤ 140737488355000) (ty : TypeId) :
    ∃ v w1, (Builtin.append_ #[25, 9] ty #[.slice none 0 0, .string s]).run Tryz.prog w = .ok v w1 ∧ w1.ownsRow w.heap.size 5 1 v s.size (bytesV s.data.toList) ∧ Below w.heap.size w w1 := by
  obtain ⟨i0, hi, hz0, hz1, hz2⟩ := info_parts Tryz.info5
  have hsrc : Src Tryz.prog i0.size 9 (.string s) s.size (byteCells s) w := by rw [hz1]; exact Src.ofString w Tryz.underlying9 s
  by_cases h0 : s.size = 0
  · have hb : byteCells s = [] := List.eq_nil_of_length_eq_zero (by rw [byteCells_length]; exact h0)
    rw [h0, hb] at hsrc
    refine ⟨_, _, run_append_nothing w 25 9 ty 5 i0 Tryz.underlying25 hi none 0 0 (Nat.le_refl _) (.string s) hsrc, ?_, Below.refl _ _⟩
    rw [h0, show bytesV s.data.toList = [] from hb]
    exact World.ownsRow_nil _ _ _ _
  · have hr := run_append_grow_src w 25 9 ty 5 i0 (.int .u8 0) Tryz.underlying25 hi hz0 none 0 0 [] (by simpa using run_firstCells_none (P := Tryz.prog) w.drew i0.size 0 0 0) (.string s) s.size (byteCells s) hsrc (by omega) (by omega)
      (by rw [hz2]; exact growslice_fits (by omega) (by omega))
    simp only [Nat.zero_add, List.nil_append] at hr
    refine ⟨_, _, hr, ?_, ((Below.refl _ _).drew).alloc (Nat.le_refl _) _⟩
    have hge := grownCap_ge w s.size 0 5
    have hcm : grownCap w s.size 0 5 ≤ maxLen := grownCap_le_maxLen w s.size 0 5 (by unfold maxLen; omega)
    refine ⟨by rw [length_bytesV]; simp, .inr ⟨w.heap.size, _, _, rfl, Nat.le_refl _, heap_alloc_new w.drew _, hge, hcm, ?_, ?_⟩⟩
    · simp only [Array.size_append, List.size_toArray, byteCells_length, size_zeroCells]
      rw [show (Value.int .u8 0).cells.size = 1 from rfl]; omega
    · rw [Array.toList_append]
      rw [List.take_append_of_le_length (by simp [byteCells_length])]
      rw [List.take_of_length_le (by simp [byteCells_length])]
      rfl

/-- an append whose run is known, in the walk -/
theorem wpList_append_run {P : Program} {ops : Array Oper} {rest : List Oper} {o : Oper} {a : Act} {Q : Exit → Act → World → Prop} {w w' : World} (hgd : o.guard = none) (s x : Operand) (t tx : TypeId)
    (ho : o.op = .call { callee := .builtin .append, args := #[s, x], argTypes := #[t, tx] }) (vs vx v' : Value) (hs : a.eval s = vs) (hx : a.eval x = vx)
    (hr : (Builtin.append_ #[t, tx] o.type #[vs, vx]).run P w = .ok v' w') (h : wpList P ops Q rest (a.put o.dst v') w') : wpList P ops Q (o :: rest) a w := by
  refine wpList_plain hgd fun K hK => ?_
  unfold Oper.wp execOp
  simp only [ho, resolve, invoke, builtin, Sem.run_bind, Sem.run_pure, Result.andThen_ok, List.map_toArray, List.map_cons, List.map_nil, hs, hx, hr]
  exact hK _ _ h

set_option maxHeartbeats 1000000 in
set_option maxRecDepth 100000 in
theorem lend_any (s : ByteArray) (w : World) (hs : s.size ≤ 140737488355000) :
    Calls Tryz.prog 18 #[.string s] w fun e w' => ∃ g cap, e = .returned (.slice (some ⟨g, 0, none⟩) (s.size + 3) cap) ∧ w'.ownsRow w.heap.size 5 1 (.slice (some ⟨g, 0, none⟩) (s.size + 3) cap) (s.size + 3) (bytesV s.data.toList ++ [.int .u8 200, .int .u8 201, .int .u8 202]) ∧ Below w.heap.size w w' := by
  obtain ⟨v, w1, hrun, hown, hbel⟩ := append_str s w hs 25
  obtain ⟨i0, hi, hz0, hz1, hz2⟩ := info_parts Tryz.info5
  obtain ⟨ao, cap, rfl⟩ := slen_of hown
  go_enter Tryz.func18, Tryz.ntmps18
  go_wp2_with (first | (at_builtin; refine wpList_append_run rfl (.tmp 4) (.tmp 5) 25 9 rfl _ _ _ rfl rfl hrun ?_) | (at_builtin; refine wpList_append_lies _ rfl (.tmp 7) (.tmp 8) 25 rfl w.heap.size 5 i0 (.int .u8 0) 1 1 Tryz.underlying25 hi hz0 hz1 hz2 rfl (by decide) _ _ _ rfl (hown.alloc _) ⟨_, 0, none⟩ 3 3 [.int .u8 200, .int .u8 201, .int .u8 202] rfl rfl ?c1 ?c2 (by decide) ?c3 ?c4 ?c5 _ rfl ?_) | go_in)
  case c1 => exact World.news_of_block (cs := #[.int .u8 200, .int .u8 201, .int .u8 202]) (heap_alloc_new w1 _)
  case c2 => intro u hu; simp at hu; rcases hu with rfl | rfl | rfl <;> rfl
  case c3 => unfold maxLen; omega
  case c4 => omega
  case c5 => rw [size_alloc']; have := hbel.size; omega
  intro g cap2 w2 hown2 hg hat hlt2
  have hbel2 : Below w.heap.size w w2 := below_append hbel (Nat.le_refl _) hg (fun k e => (hown.lt k e).1)
  clear hg hat hown
  go_wp2
  go_ret
  exact ⟨g, cap2, rfl, hown2, hbel2⟩

set_option maxHeartbeats 1000000 in
theorem num_any (n : Int) (w : World) (hn : -9223372036854775808 ≤ n ∧ n ≤ 9223372036854775807) : Calls Tryz.prog 24 #[.int .i64 n] w fun e w' => e = .returned (.int .i64 n) ∧ w' = w := by
  obtain ⟨h1, h2⟩ := hn
  go_enter Tryz.func24, Tryz.ntmps24
  go_wp2
  go_ret
  exact ⟨rfl, rfl⟩

set_option maxHeartbeats 1000000 in
theorem next_any (b : Nat) (m : Int) (w : World) (hc : w.cell? ⟨b, 0, none⟩ = some (.int .i64 m)) (hf : w.frozen? ⟨b, 0, none⟩ = false) :
    Calls Tryz.prog 42 #[.pointer (some ⟨b, 0, none⟩)] w fun e w' => ∃ k k' : Int, e = .returned (.int .i64 k) ∧ w' = w.setCell ⟨b, 0, none⟩ (.int .i64 k') := by
  go_enter Tryz.func42, Tryz.ntmps42
  go_wp2
  go_ret
  exact ⟨_, _, rfl, rfl⟩

end Go.Proofs.YtjobhlncllfdmaaGreat

/- One more element behind a row of one's own: in place, or in a new block and nothing old turned; the book's lanes. -/
namespace Go.Proofs.YtjobhlncllfdmaaGreat
open Go.RowKit

theorem append1 {P : Program} (w : World) (t ty e : TypeId) (i : TypeInfo) (z : Value) (bytes B : Nat) (ht : P.underlying t = some (.slice e)) (hi : P.info? e = some i) (hz : i.zero = some z) (hsize : i.size = 1) (hby : i.bytes = bytes) (hzs : z.cells.size = 1)
    (v : Value) (n : Nat) (xs : List Value) (hown : w.ownsRow B e 1 v n xs) (a : Addr) (x : Value) (hx : w.cell? a = some x) (h1 : x.oneCell' = true) (c : Nat) (h63 : n + 1 ≤ maxLen) (hbytes : (n + 1) * bytes ≤ 140737488355328) (hB : B ≤ w.heap.size) :
    ∃ g cap w', (Builtin.append_ #[t, t] ty #[v, .slice (some a) 1 c]).run P w = .ok (.slice (some ⟨g, 0, none⟩) (n + 1) cap) w' ∧
      w'.ownsRow B e 1 (.slice (some ⟨g, 0, none⟩) (n + 1) cap) (n + 1) (xs ++ [x]) ∧ w.grownBy w' v.ownBlock ∧ (v.ownBlock = some g ∨ g = w.heap.size ∧ w.grownBy w' none) := by
  have hnews : ∀ j u, [x][j]? = some u → w.cell? (a.add j) = some u := by
    intro j u hj
    match j, hj with
    | 0, hj => simp at hj; subst hj; simpa [Addr.add] using hx
  have h1' : ∀ u ∈ [x], u.oneCell' = true := by intro u hu; simp at hu; subst hu; exact h1
  have hlx : xs.length = n := by have := hown.1; omega
  have hsrc : Src P i.size t (.slice (some a) 1 c) 1 [x] w := Src.ofSlice w ht a 1 c [x] (by rw [hsize]; rfl) hnews h1'
  have grow : ∀ (base : Option Addr) (sc : Nat), (Builtin.firstCells i.size n (.slice base n sc)).run P w.drew = .ok xs.toArray w.drew → sc < n + 1 →
      ∃ g cap w', (Builtin.append_ #[t, t] ty #[.slice base n sc, .slice (some a) 1 c]).run P w = .ok (.slice (some ⟨g, 0, none⟩) (n + 1) cap) w' ∧
      w'.ownsRow B e 1 (.slice (some ⟨g, 0, none⟩) (n + 1) cap) (n + 1) (xs ++ [x]) ∧ g = w.heap.size ∧ w.grownBy w' none := by
    intro base sc hold hsc
    have hr := run_append_grow_src w t t ty e i z ht hi hz base n sc xs hold (.slice (some a) 1 c) 1 [x] hsrc hsc (by unfold maxLen at h63; omega) (by rw [hby]; exact growslice_fits (by omega) hbytes)
    have hge := grownCap_ge w (n + 1) sc e
    have hcm : grownCap w (n + 1) sc e ≤ maxLen := grownCap_le_maxLen w (n + 1) sc e h63
    refine ⟨_, _, _, hr, ⟨by simp [hlx], .inr ⟨w.heap.size, _, _, rfl, hB, heap_alloc_new w.drew _, hge, hcm, ?_, ?_⟩⟩, rfl, ⟨rfl, rfl, rfl, by simp, fun k hk _ => Below.heap_alloc w.drew _ k hk⟩⟩
    · simp only [Array.size_append, List.size_toArray, size_zeroCells, hzs, List.length_append, List.length_cons, List.length_nil, hlx]
      omega
    · rw [Array.toList_append, List.take_append_of_le_length (by simp [hlx]), List.take_of_length_le (by simp [hlx])]
  rcases hown.2 with ⟨rfl, rfl⟩ | ⟨g, cap, cur, rfl, hbg, hg, hnc, hcm, hcs, htake⟩
  · have hx0 : xs = [] := List.eq_nil_of_length_eq_zero hlx
    subst hx0
    obtain ⟨g, cap, w', h2, h3, h4, h5⟩ := grow none 0 (by simpa using run_firstCells_none (P := P) w.drew i.size 0 0 0) (by omega)
    exact ⟨g, cap, w', h2, h3, h5, .inr ⟨h4, h5⟩⟩
  · by_cases hroom : n + 1 ≤ cap
    · obtain ⟨w', h2, h3, h4⟩ := run_append_fits w B t ty e i 1 ht hi hsize g n cap xs hown a 1 c [x] rfl hnews h1' hroom
      exact ⟨g, cap, w', h2, h3, h4, .inl rfl⟩
    · have holds : ∀ j u, xs[j]? = some u → w.cell? ((⟨g, 0, none⟩ : Addr).add j) = some u := hown.cells (g := g) rfl
      obtain ⟨g', cap', w', h2, h3, h4, h5⟩ := grow (some ⟨g, 0, none⟩) cap (run_firstCells_some w.drew i.size n ⟨g, 0, none⟩ n cap xs (by rw [hsize]; omega) (by simpa using holds)) (by omega)
      refine ⟨g', cap', w', h2, h3, ⟨h5.os, h5.tape, h5.output, h5.size, fun k hk _ => h5.block k hk (by simp)⟩, .inr ⟨h4, h5⟩⟩

/-- the block k holds cells of type e -/
def Ty (w : World) (k : Nat) (e : TypeId) : Prop := ∃ cur, w.heap[k]? = some (.cells cur e (0, 0))

theorem Ty.lt {w : World} {k : Nat} {e : TypeId} (h : Ty w k e) : k < w.heap.size := by
  obtain ⟨cur, h⟩ := h; exact (Array.getElem?_eq_some_iff.1 h).1
theorem Ty.ne {w : World} {k k' : Nat} {e e' : TypeId} (h : Ty w k e) (h' : Ty w k' e') (hne : e ≠ e') : k ≠ k' := by
  rintro rfl
  obtain ⟨cur, h⟩ := h
  obtain ⟨cur', h'⟩ := h'
  rw [h] at h'
  simp only [Option.some.injEq, Obj.cells.injEq] at h'
  exact hne h'.2.1
theorem own_ty {w : World} {B : Nat} {e : TypeId} {v : Value} {n : Nat} {xs : List Value} (h : w.ownsRow B e 1 v n xs) {k : Nat} (hk : v.ownBlock = some k) : Ty w k e := by
  rcases h.2 with ⟨rfl, _⟩ | ⟨g, cap, cur, rfl, _, hg, _⟩
  · simp [Value.ownBlock] at hk
  · simp only [Value.ownBlock, Option.some.injEq] at hk
    subst hk
    exact ⟨cur, hg⟩
theorem own_agree {w w' : World} {B : Nat} {e : TypeId} {v : Value} {n : Nat} {xs : List Value} (h : w.ownsRow B e 1 v n xs) (hw : ∀ k, v.ownBlock = some k → w'.heap[k]? = w.heap[k]?) : w'.ownsRow B e 1 v n xs := by
  refine ⟨h.1, ?_⟩
  rcases h.2 with h2 | ⟨g, cap, cur, rfl, hb, hg, r⟩
  · exact .inl h2
  · exact .inr ⟨g, cap, cur, rfl, hb, by rw [hw g rfl]; exact hg, r⟩

theorem own_le {w : World} {B : Nat} {e : TypeId} {v : Value} {n : Nat} {xs : List Value} (h : w.ownsRow B e 1 v n xs) : n ≤ maxLen := by
  rcases h.2 with ⟨_, h0⟩ | ⟨g, cap, cur, _, _, _, h1, h2, _⟩
  · omega
  · omega

/-- a kept list: it reads m in every place; its block is one of U, and not the one to be avoided -/
def Full (w : World) (U : Nat → Prop) (av : Option Nat) (e : TypeId) (v m : Value) : Prop :=
  ∃ ao n cap, v = .slice ao n cap ∧ n ≤ maxLen ∧ (n = 0 ∨ ∃ g cur, ao = some ⟨g, 0, none⟩ ∧ U g ∧ av ≠ some g ∧ w.heap[g]? = some (.cells cur e (0, 0)) ∧ ∀ j, j < n → cur[j]? = some m)

theorem Full.agree {w w' : World} {U U' : Nat → Prop} {av av' : Option Nat} {e : TypeId} {v m : Value} (h : Full w U av e v m) (hk : ∀ k, Ty w k e → U k → av ≠ some k → U' k ∧ av' ≠ some k ∧ w'.heap[k]? = w.heap[k]?) : Full w' U' av' e v m := by
  obtain ⟨ao, n, cap, rfl, hm, h⟩ := h
  refine ⟨ao, n, cap, rfl, hm, ?_⟩
  rcases h with h | ⟨g, cur, rfl, h1, h2, h3, h4⟩
  · exact .inl h
  · obtain ⟨k1, k2, k3⟩ := hk g ⟨cur, h3⟩ h1 h2
    exact .inr ⟨g, cur, rfl, k1, k2, by rw [k3]; exact h3, h4⟩

/-- a lane of the book: the row of lists, the row of marks, what was kept -/
def Lane (w : World) (B : Nat) (U : Nat → Prop) (E e : TypeId) (kd : IntKind) (vr vm : Value) (X Y : List Value) (ps : List (Value × Int)) : Prop :=
  w.ownsRow B E 1 vr X.length X ∧ w.ownsRow B e 1 vm Y.length Y ∧ (∀ p ∈ ps, Full w U vm.ownBlock e p.1 (.int kd p.2)) ∧ (∀ k, vr.ownBlock = some k → U k) ∧ (∀ k, vm.ownBlock = some k → U k)

theorem Lane.agree {w w' : World} {B : Nat} {U U' : Nat → Prop} {E e : TypeId} {kd : IntKind} {vr vm : Value} {X Y : List Value} {ps : List (Value × Int)} (h : Lane w B U E e kd vr vm X Y ps) (hw : ∀ k, U k → (Ty w k E ∨ Ty w k e) → w'.heap[k]? = w.heap[k]?) (hU : ∀ k, U k → U' k) :
    Lane w' B U' E e kd vr vm X Y ps := by
  obtain ⟨h1, h2, h3, h4, h5⟩ := h
  exact ⟨own_agree h1 (fun k hk => hw k (h4 k hk) (.inl (own_ty h1 hk))), own_agree h2 (fun k hk => hw k (h5 k hk) (.inr (own_ty h2 hk))),
    fun p hp => (h3 p hp).agree (fun k ht hu ha => ⟨hU k hu, ha, hw k hu (.inr ht)⟩), fun k hk => hU k (h4 k hk), fun k hk => hU k (h5 k hk)⟩

end Go.Proofs.YtjobhlncllfdmaaGreat

/- The three steps by which a list is kept. -/
namespace Go.Proofs.YtjobhlncllfdmaaGreat
open Go.RowKit

theorem agree_step {w w1 : World} {o : Obj} {row : Option Nat} (hg : (w.alloc o).grownBy w1 row) {k : Nat} (hk : k < w.heap.size) (hr : row ≠ some k) : w1.heap[k]? = w.heap[k]? := by
  rw [hg.block k (by rw [size_alloc']; omega) (fun e => hr e.symm)]
  exact Below.heap_alloc w o k hk
theorem agree_set {w w1 : World} {o : Obj} {row : Option Nat} (hg : (w.alloc o).grownBy w1 row) {b j k : Nat} {u : Value} (hk : k < w.heap.size) (hr : row ≠ some k) (hb : k ≠ b) : (w1.setCell ⟨b, j, none⟩ u).heap[k]? = w.heap[k]? := by
  rw [heap_setCell_other w1 _ k u hb]; exact agree_step hg hk hr
theorem size_set (w : World) (a : Addr) (u : Value) : (w.setCell a u).heap.size = w.heap.size := by simp

theorem ownsRow_set_other' {w : World} {base : Nat} {e : TypeId} {size : Nat} {v : Value} {n : Nat} {xs : List Value} (h : w.ownsRow base e size v n xs) {R j : Nat} (hv : v.ownBlock ≠ some R) {u : Value} :
    (w.setCell ⟨R, j, none⟩ u).ownsRow base e size v n xs := by
  refine h.kept (row := some R) ⟨rfl, rfl, rfl, by simp, fun k _ hk => heap_setCell_other w _ k u (fun e => hk (by rw [e]))⟩ (Or.inr hv)

/-- the set of blocks, with those that came since -/
def more (U : Nat → Prop) (w w' : World) : Nat → Prop := fun k => U k ∨ (w.heap.size ≤ k ∧ k < w'.heap.size)

/-- a lane, and the list that is being kept in it -/
def Keep (w : World) (B : Nat) (U : Nat → Prop) (E e : TypeId) (kd : IntKind) (vr vm : Value) (X Y : List Value) (ps : List (Value × Int)) (vl : Value) (n : Nat) (m : Int) : Prop :=
  Lane w B U E e kd vr vm X Y ps ∧ w.ownsRow B e 1 vl n (List.replicate n (.int kd m)) ∧ (∀ k, vl.ownBlock = some k → vm.ownBlock ≠ some k) ∧
    (∀ p ∈ ps, ∀ g j cap, p.1 = .slice (some ⟨g, 0, none⟩) j cap → 0 < j → vl.ownBlock = some g → p.2 = m ∧ j ≤ n)

section
variable {w w1 : World} {o : Obj} {B b j g cap : Nat} {U : Nat → Prop} {E e : TypeId} {kd : IntKind} {vr vm vl x u : Value} {X Y : List Value} {ps : List (Value × Int)} {n : Nat} {m : Int}

/-- the row of lists grows -/
theorem Keep.stepA (h : Keep w B U E e kd vr vm X Y ps vl n m) (hb : Ty w b 32) (hE : E ≠ e) (hE2 : E ≠ 32) (he : e ≠ 32) (hg : (w.alloc o).grownBy w1 vr.ownBlock)
    (hown : w1.ownsRow B E 1 (.slice (some ⟨g, 0, none⟩) (X.length + 1) cap) (X.length + 1) (X ++ [x])) (hat : vr.ownBlock = some g ∨ g = w.heap.size + 1 ∧ (w.alloc o).grownBy w1 none) :
    Keep (w1.setCell ⟨b, j, none⟩ u) B (more U w (w1.setCell ⟨b, j, none⟩ u)) E e kd (.slice (some ⟨g, 0, none⟩) (X.length + 1) cap) vm (X ++ [x]) Y ps vl n m := by
  obtain ⟨⟨h1, h2, h3, h4, h5⟩, h6, h7, h8⟩ := h
  have hgb : g ≠ b := by
    have hb1 : Ty w1 b 32 := by
      obtain ⟨cur, hb⟩ := hb
      exact ⟨cur, by rw [agree_step hg (Ty.lt ⟨cur, hb⟩) (fun e' => Ty.ne (own_ty h1 e') ⟨cur, hb⟩ hE2 rfl)]; exact hb⟩
    exact Ty.ne (own_ty hown rfl) hb1 hE2
  have ag : ∀ k, Ty w k e → (w1.setCell ⟨b, j, none⟩ u).heap[k]? = w.heap[k]? := fun k ht =>
    agree_set hg ht.lt (fun e' => Ty.ne (own_ty h1 e') ht hE rfl) (Ty.ne ht hb he)
  refine ⟨⟨?_, own_agree h2 (fun k hk => ag k (own_ty h2 hk)), fun p hp => (h3 p hp).agree (fun k ht hu ha => ⟨.inl hu, ha, ag k ht⟩), ?_, fun k hk => .inl (h5 k hk)⟩, own_agree h6 (fun k hk => ag k (own_ty h6 hk)), h7, h8⟩
  · rw [show (X ++ [x]).length = X.length + 1 by simp]
    exact ownsRow_set_other' hown (by simp [Value.ownBlock]; exact hgb)
  · intro k hk
    simp only [Value.ownBlock, Option.some.injEq] at hk
    subst hk
    rcases hat with hat | ⟨hat, _⟩
    · exact .inl (h4 _ hat)
    · refine .inr ⟨by omega, ?_⟩
      rw [size_set]; exact (own_ty hown rfl).lt

/-- the row of marks grows -/
theorem Keep.stepB (h : Keep w B U E e kd vr vm X Y ps vl n m) (hb : Ty w b 32) (hE : E ≠ e) (hE2 : E ≠ 32) (he : e ≠ 32) (hg : (w.alloc o).grownBy w1 vm.ownBlock)
    (hown : w1.ownsRow B e 1 (.slice (some ⟨g, 0, none⟩) (Y.length + 1) cap) (Y.length + 1) (Y ++ [x])) (hat : vm.ownBlock = some g ∨ g = w.heap.size + 1 ∧ (w.alloc o).grownBy w1 none) :
    Keep (w1.setCell ⟨b, j, none⟩ u) B (more U w (w1.setCell ⟨b, j, none⟩ u)) E e kd vr (.slice (some ⟨g, 0, none⟩) (Y.length + 1) cap) X (Y ++ [x]) ps vl n m := by
  obtain ⟨⟨h1, h2, h3, h4, h5⟩, h6, h7, h8⟩ := h
  have hgb : g ≠ b := by
    have hb1 : Ty w1 b 32 := by
      obtain ⟨cur, hb⟩ := hb
      exact ⟨cur, by rw [agree_step hg (Ty.lt ⟨cur, hb⟩) (fun e' => Ty.ne (own_ty h2 e') ⟨cur, hb⟩ he rfl)]; exact hb⟩
    exact Ty.ne (own_ty hown rfl) hb1 he
  have ag : ∀ k, Ty w k e → vm.ownBlock ≠ some k → (w1.setCell ⟨b, j, none⟩ u).heap[k]? = w.heap[k]? := fun k ht hn =>
    agree_set hg ht.lt hn (Ty.ne ht hb he)
  have av : ∀ k, Ty w k e → vm.ownBlock ≠ some k → (Value.slice (some ⟨g, 0, none⟩) (Y.length + 1) cap).ownBlock ≠ some k := by
    intro k ht hn e'
    simp only [Value.ownBlock, Option.some.injEq] at e'
    subst e'
    rcases hat with hat | ⟨hat, _⟩
    · exact hn hat
    · have := ht.lt; omega
  refine ⟨⟨own_agree h1 (fun k hk => agree_set hg (own_ty h1 hk).lt (fun e' => Ty.ne (own_ty h1 hk) (own_ty h2 e') hE rfl) (Ty.ne (own_ty h1 hk) hb hE2)), ?_, fun p hp => (h3 p hp).agree (fun k ht hu ha => ⟨.inl hu, av k ht ha, ag k ht ha⟩), fun k hk => .inl (h4 k hk), ?_⟩,
    own_agree h6 (fun k hk => ag k (own_ty h6 hk) (h7 k hk)), fun k hk => av k (own_ty h6 hk) (h7 k hk), h8⟩
  · rw [show (Y ++ [x]).length = Y.length + 1 by simp]
    exact ownsRow_set_other' hown (by simp [Value.ownBlock]; exact hgb)
  · intro k hk
    simp only [Value.ownBlock, Option.some.injEq] at hk
    subst hk
    rcases hat with hat | ⟨hat, _⟩
    · exact .inl (h5 _ hat)
    · refine .inr ⟨by omega, ?_⟩
      rw [size_set]; exact (own_ty hown rfl).lt

theorem own_cells {w : World} {B : Nat} {e : TypeId} {v : Value} {n : Nat} {x : Value} (h : w.ownsRow B e 1 v n (List.replicate n x)) (hn : 0 < n) :
    ∃ g cap cur, v = .slice (some ⟨g, 0, none⟩) n cap ∧ w.heap[g]? = some (.cells cur e (0, 0)) ∧ ∀ j, j < n → cur[j]? = some x := by
  rcases h.2 with ⟨_, h0⟩ | ⟨g, cap, cur, rfl, _, hg, _, _, hcs, ht⟩
  · omega
  · refine ⟨g, cap, cur, rfl, hg, fun j hj => ?_⟩
    have e1 : (cur.toList.take (n * 1))[j]? = some x := by rw [ht]; simp [hj]
    rw [List.getElem?_take, if_pos (by omega)] at e1
    simpa using e1

/-- the list itself grows: as it was it is kept -/
theorem Keep.stepC (h : Keep w B U E e kd vr vm X Y ps vl n m) (hE : E ≠ e) (hg : (w.alloc o).grownBy w1 vl.ownBlock)
    (hown : w1.ownsRow B e 1 (.slice (some ⟨g, 0, none⟩) (n + 1) cap) (n + 1) (List.replicate n (.int kd m) ++ [.int kd m])) (hat : vl.ownBlock = some g ∨ g = w.heap.size + 1 ∧ (w.alloc o).grownBy w1 none) :
    Keep w1 B (fun k => more U w w1 k ∨ vl.ownBlock = some k) E e kd vr vm X Y (ps ++ [(vl, m)]) (.slice (some ⟨g, 0, none⟩) (n + 1) cap) (n + 1) m := by
  obtain ⟨⟨h1, h2, h3, h4, h5⟩, h6, h7, h8⟩ := h
  rw [← List.replicate_succ'] at hown
  obtain ⟨g', cap', cur', he', hgg, hcur⟩ := own_cells hown (by omega)
  simp only [Value.slice.injEq, Option.some.injEq, Addr.mk.injEq, and_true, true_and] at he'
  obtain ⟨rfl, rfl⟩ := he'
  have old : ∀ k, k < w.heap.size → vl.ownBlock ≠ some k ∨ g = w.heap.size + 1 ∧ (w.alloc o).grownBy w1 none → w1.heap[k]? = w.heap[k]? := by
    intro k hk hc
    rcases hc with hc | ⟨_, hc⟩
    · exact agree_step hg hk hc
    · exact agree_step hc hk (by simp)
  refine ⟨⟨own_agree h1 (fun k hk => old k (own_ty h1 hk).lt (.inl (fun e' => Ty.ne (own_ty h1 hk) (own_ty h6 e') hE rfl))), own_agree h2 (fun k hk => old k (own_ty h2 hk).lt (.inl (fun e' => h7 k e' hk))), ?_, fun k hk => .inl (.inl (h4 k hk)), fun k hk => .inl (.inl (h5 k hk))⟩, hown, ?_, ?_⟩
  · intro p hp
    rw [List.mem_append, List.mem_singleton] at hp
    rcases hp with hp | rfl
    · obtain ⟨ao, j, cp, hv, hm, hf⟩ := h3 p hp
      refine ⟨ao, j, cp, hv, hm, ?_⟩
      rcases hf with hf | ⟨gp, cur, rfl, k1, k2, k3, k4⟩
      · exact .inl hf
      · by_cases hj : j = 0
        · exact .inl hj
        · by_cases hgp : vl.ownBlock = some gp
          · rcases hat with hat | hat
            · rw [hgp] at hat
              simp only [Option.some.injEq] at hat
              subst hat
              obtain ⟨e1, e2⟩ := h8 p hp gp j cp hv (by omega) hgp
              exact .inr ⟨gp, cur', rfl, .inr hgp, k2, hgg, fun i hi => by rw [e1]; exact hcur i (by omega)⟩
            · exact .inr ⟨gp, cur, rfl, .inr hgp, k2, by rw [old gp (Ty.lt ⟨cur, k3⟩) (.inr hat)]; exact k3, k4⟩
          · exact .inr ⟨gp, cur, rfl, .inl (.inl k1), k2, by rw [old gp (Ty.lt ⟨cur, k3⟩) (.inl hgp)]; exact k3, k4⟩
    · by_cases hn : n = 0
      · obtain ⟨ao, cp, hv⟩ := slen_of h6
        exact ⟨ao, n, cp, hv, own_le h6, .inl hn⟩
      · obtain ⟨gl, cpl, cur, hv, hgl, hc⟩ := own_cells h6 (by omega)
        have hob : vl.ownBlock = some gl := by rw [hv]; rfl
        refine ⟨some ⟨gl, 0, none⟩, n, cpl, hv, own_le h6, ?_⟩
        rcases hat with hat | hat
        · rw [hob] at hat
          simp only [Option.some.injEq] at hat
          subst hat
          exact .inr ⟨gl, cur', rfl, .inr hob, h7 gl hob, hgg, fun i hi => hcur i (by omega)⟩
        · exact .inr ⟨gl, cur, rfl, .inr hob, h7 gl hob, by rw [old gl (Ty.lt ⟨cur, hgl⟩) (.inr hat)]; exact hgl, hc⟩
  · intro k hk e'
    simp only [Value.ownBlock, Option.some.injEq] at hk
    subst hk
    rcases hat with hat | ⟨hat, _⟩
    · exact h7 _ hat e'
    · have := (own_ty h2 e').lt; omega
  · intro p hp gp j cp hv hj hgp
    simp only [Value.ownBlock, Option.some.injEq] at hgp
    subst hgp
    rw [List.mem_append, List.mem_singleton] at hp
    rcases hp with hp | rfl
    · rcases hat with hat | ⟨hat, _⟩
      · obtain ⟨e1, e2⟩ := h8 p hp _ j cp hv hj hat
        exact ⟨e1, by omega⟩
      · obtain ⟨ao, j', cp', hv', hm, hf⟩ := h3 p hp
        rw [hv] at hv'
        simp only [Value.slice.injEq] at hv'
        obtain ⟨rfl, rfl, rfl⟩ := hv'
        rcases hf with hf | ⟨gp, cur, ha, _, _, k3, _⟩
        · omega
        · simp only [Option.some.injEq, Addr.mk.injEq, and_true] at ha
          subst ha
          have := Ty.lt ⟨cur, k3⟩; omega
    · obtain ⟨ao, cp', hv'⟩ := slen_of h6
      simp only at hv
      rw [hv'] at hv
      simp only [Value.slice.injEq] at hv
      exact ⟨rfl, by omega⟩

end
end Go.Proofs.YtjobhlncllfdmaaGreat
