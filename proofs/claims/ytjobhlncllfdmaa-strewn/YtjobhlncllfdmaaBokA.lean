/- Contracts of the book's small functions: lend, next, num, sameInts. -/
import Derived.Test.YtjobhlncllfdmaaRefD
import Derived.Deep.AppendLies
import Derived.Deep.AppendSrc
import Derived.Deep.Upon
namespace Go.Proofs.Ytjobhlncllfdmaa
open Go.RowKit

theorem Try.info5 : (Try.prog.info? 5).map (fun i => (i.zero, i.size, i.bytes)) = some (some (.int .u8 0), 1, 1) := by kernel_rfl

def bytesV (D : List UInt8) : List Value := D.map fun b => Value.int .u8 b.toNat

theorem length_bytesV (D : List UInt8) : (bytesV D).length = D.length := by simp [bytesV]

/-- the first append of lend: a string's bytes onto nil -/
theorem append_str (s : ByteArray) (w : World) (hs : s.size ≤ 140737488355000) (ty : TypeId) :
    ∃ v w1, (Builtin.append_ #[24, 9] ty #[.slice none 0 0, .string s]).run Try.prog w = .ok v w1 ∧ w1.ownsRow w.heap.size 5 1 v s.size (bytesV s.data.toList) ∧ Below w.heap.size w w1 := by
  obtain ⟨i0, hi, hz0, hz1, hz2⟩ := info_parts Try.info5
  have hsrc : Src Try.prog i0.size 9 (.string s) s.size (byteCells s) w := by rw [hz1]; exact Src.ofString w Try.underlying9 s
  by_cases h0 : s.size = 0
  · have hb : byteCells s = [] := List.eq_nil_of_length_eq_zero (by rw [byteCells_length]; exact h0)
    rw [h0, hb] at hsrc
    refine ⟨_, _, run_append_nothing w 24 9 ty 5 i0 Try.underlying24 hi none 0 0 (Nat.le_refl _) (.string s) hsrc, ?_, Below.refl _ _⟩
    rw [h0, show bytesV s.data.toList = [] from hb]
    exact World.ownsRow_nil _ _ _ _
  · have hr := run_append_grow_src w 24 9 ty 5 i0 (.int .u8 0) Try.underlying24 hi hz0 none 0 0 [] (by simpa using run_firstCells_none (P := Try.prog) w.drew i0.size 0 0 0) (.string s) s.size (byteCells s) hsrc (by omega) (by omega)
      (by rw [hz2]; exact growslice_fits (by omega) (by omega))
    simp only [Nat.zero_add, List.nil_append] at hr
    refine ⟨_, _, hr, ?_, ((Below.refl _ _).drew).alloc (Nat.le_refl _) _⟩
    have hge := grownCap_ge w s.size 0 5
    have hcm : grownCap w s.size 0 5 ≤ maxLen := grownCap_le_maxLen w s.size 0 5 (by unfold maxLen; omega)
    refine ⟨by rw [length_bytesV]; simp, .inr ⟨w.heap.size, _, _, rfl, Nat.le_refl _, heap_alloc_new w.drew _, hge, hcm, ?_, ?_⟩⟩
    · simp only [Array.size_append, List.size_toArray, byteCells_length, size_zeroCells]
      rw [show (Value.int .u8 0).cells.size = 1 from rfl]; omega
    · rw [Array.toList_append]
      rw [List.take_append_of_le_length (by simp [byteCells_length])]
      rw [List.take_of_length_le (by simp [byteCells_length])]
      rfl

/-- an append whose run is known, in the walk -/
theorem wpList_append_run {P : Program} {ops : Array Oper} {rest : List Oper} {o : Oper} {a : Act} {Q : Exit → Act → World → Prop} {w w' : World} (hgd : o.guard = none) (s x : Operand) (t tx : TypeId)
    (ho : o.op = .call { callee := .builtin .append, args := #[s, x], argTypes := #[t, tx] }) (vs vx v' : Value) (hs : a.eval s = vs) (hx : a.eval x = vx)
    (hr : (Builtin.append_ #[t, tx] o.type #[vs, vx]).run P w = .ok v' w') (h : wpList P ops Q rest (a.put o.dst v') w') : wpList P ops Q (o :: rest) a w := by
  refine wpList_plain hgd fun K hK => ?_
  unfold Oper.wp execOp
  simp only [ho, resolve, invoke, builtin, Sem.run_bind, Sem.run_pure, Result.andThen_ok, List.map_toArray, List.map_cons, List.map_nil, hs, hx, hr]
  exact hK _ _ h

set_option maxHeartbeats 1000000 in
set_option maxRecDepth 100000 in
theorem lend_any (s : ByteArray) (w : World) (hs : s.size ≤ 140737488355000) :
    Calls Try.prog 18 #[.string s] w fun e w' => ∃ g cap, e = .returned (.slice (some ⟨g, 0, none⟩) (s.size + 3) cap) ∧ w'.ownsRow w.heap.size 5 1 (.slice (some ⟨g, 0, none⟩) (s.size + 3) cap) (s.size + 3) (bytesV s.data.toList ++ [.int .u8 200, .int .u8 201, .int .u8 202]) ∧ Below w.heap.size w w' := by
  obtain ⟨v, w1, hrun, hown, hbel⟩ := append_str s w hs 24
  obtain ⟨i0, hi, hz0, hz1, hz2⟩ := info_parts Try.info5
  obtain ⟨ao, cap, rfl⟩ := slen_of hown
  go_enter Try.func18, Try.ntmps18
  go_wp2_with (first | (at_builtin; refine wpList_append_run rfl (.tmp 4) (.tmp 5) 24 9 rfl _ _ _ rfl rfl hrun ?_) | (at_builtin; refine wpList_append_lies _ rfl (.tmp 7) (.tmp 8) 24 rfl w.heap.size 5 i0 (.int .u8 0) 1 1 Try.underlying24 hi hz0 hz1 hz2 rfl (by decide) _ _ _ rfl (hown.alloc _) ⟨_, 0, none⟩ 3 3 [.int .u8 200, .int .u8 201, .int .u8 202] rfl rfl ?c1 ?c2 (by decide) ?c3 ?c4 ?c5 _ rfl ?_) | go_in)
  case c1 => exact World.news_of_block (cs := #[.int .u8 200, .int .u8 201, .int .u8 202]) (heap_alloc_new w1 _)
  case c2 => intro u hu; simp at hu; rcases hu with rfl | rfl | rfl <;> rfl
  case c3 => unfold maxLen; omega
  case c4 => omega
  case c5 => rw [size_alloc']; have := hbel.size; omega
  intro g cap2 w2 hown2 hg hat hlt2
  have hbel2 : Below w.heap.size w w2 := below_append hbel (Nat.le_refl _) hg (fun k e => (hown.lt k e).1)
  clear hg hat hown
  go_wp2
  go_ret
  exact ⟨g, cap2, rfl, hown2, hbel2⟩

set_option maxHeartbeats 1000000 in
theorem num_any (n : Int) (w : World) (hn : -9223372036854775808 ≤ n ∧ n ≤ 9223372036854775807) : Calls Try.prog 20 #[.int .i64 n] w fun e w' => e = .returned (.int .i64 n) ∧ w' = w := by
  obtain ⟨h1, h2⟩ := hn
  go_enter Try.func20, Try.ntmps20
  go_wp2
  go_ret
  exact ⟨rfl, rfl⟩

set_option maxHeartbeats 1000000 in
theorem next_any (b : Nat) (m : Int) (w : World) (hc : w.cell? ⟨b, 0, none⟩ = some (.int .i64 m)) (hf : w.frozen? ⟨b, 0, none⟩ = false) :
    Calls Try.prog 47 #[.pointer (some ⟨b, 0, none⟩)] w fun e w' => ∃ k k' : Int, e = .returned (.int .i64 k) ∧ w' = w.setCell ⟨b, 0, none⟩ (.int .i64 k') := by
  go_enter Try.func47, Try.ntmps47
  go_wp2
  go_ret
  exact ⟨_, _, rfl, rfl⟩

set_option maxHeartbeats 1000000 in
theorem same_any (a1 a2 : Option Addr) (c1 c2 : Nat) (xs : List Nat) (B1 B2 : Nat) (w : World) (h1 : w.ownsRow B1 3 1 (.slice a1 xs.length c1) xs.length (ints xs)) (h2 : w.ownsRow B2 3 1 (.slice a2 xs.length c2) xs.length (ints xs)) (hx : xs.length ≤ 100000) :
    Calls Try.prog 22 #[.slice a1 xs.length c1, .slice a2 xs.length c2] w fun e w' => e = .returned (.bool true) ∧ ∃ n, w' = w.drewN n := by
  have hcell : ∀ (B : Nat) (ao : Option Addr) (c : Nat), w.ownsRow B 3 1 (.slice ao xs.length c) xs.length (ints xs) → ∀ k, k < xs.length → ∃ g, ao = some ⟨g, 0, none⟩ ∧ w.cell? ⟨g, k, none⟩ = some (.int .i64 (xs.getD k 0 : Nat)) := by
    intro B ao c h k hk
    obtain ⟨g, cap, he, _, _⟩ := h.form (by omega)
    simp only [Value.slice.injEq] at he
    obtain ⟨rfl, _, rfl⟩ := he
    refine ⟨g, rfl, ?_⟩
    have := h.cells (g := g) rfl k (.int .i64 (xs.getD k 0 : Nat)) (by simp [ints, List.getElem?_eq_getElem hk])
    rw [show (⟨g, 0, none⟩ : Addr).add k = ⟨g, k, none⟩ from by unfold Addr.add; split <;> simp_all] at this
    exact this
  have HC1 : Hid _ := hcell B1 a1 c1 h1
  have HC2 : Hid _ := hcell B2 a2 c2 h2
  clear hcell h1 h2
  have hnn : ((xs.length : Int) != (xs.length : Int)) = false := by simp
  go_enter Try.func22, Try.ntmps22
  go_wp2
  go_loopw [5] (fun i wr => ∃ k q : Nat, k ≤ xs.length ∧ i = .int .i64 k ∧ wr = w.drewN q) (fun i _ => xs.length - (intOf i).toNat)
  case atStart => exact ⟨0, 0, Nat.zero_le _, rfl, rfl⟩
  case round =>
    obtain ⟨k, q, hk, rfl, rfl⟩ := hrel
    by_cases hk2 : k < xs.length
    · obtain ⟨g1, rfl, hc1⟩ := HC1.out k hk2
      obtain ⟨g2, rfl, hc2⟩ := HC2.out k hk2
      generalize xs.getD k 0 = x at *
      go_wp2
      go_quiet (fail)
      go_wp2
      go_roundw
      case rel => exact ⟨k + 1, _, by omega, by go_num, rfl⟩
      case measure => simp [intOf]; omega
    · go_wp2
      go_ret
      exact ⟨rfl, q, rfl⟩
end Go.Proofs.Ytjobhlncllfdmaa
