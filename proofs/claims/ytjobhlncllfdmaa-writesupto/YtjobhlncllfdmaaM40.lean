/- The reference: PageOf. -/
import Derived.Test.YtjobhlncllfdmaaM22
import Derived.Deep.RegionHeldLaw
namespace Go.Proofs.Ytjobhlncllfdmaa
open Go.RowKit

def o0 : Oper := { dst := some 7, op := Op.move (Operand.tmp 0), type := 3, pos := "write.go:98", after := #[], guard := none }
def o1 : Oper := { dst := some 8, op := Op.convert 3 5 (Operand.tmp 7), type := 5, pos := "write.go:98", after := #[{ on := 0, ground := Ground.data }], guard := none }
def o2 : Oper := { dst := some 9, op := Op.buildSlice 24 2 #[(0, Operand.tmp 8), (1, Operand.const (Value.int IntKind.u8 0))], type := 24, pos := "write.go:98", after := #[{ on := 1, ground := Ground.data }], guard := none }
def o3 : Oper := { dst := some 10, op := Op.convert 24 9 (Operand.tmp 9), type := 9, pos := "write.go:98", after := #[{ on := 2, ground := Ground.data }], guard := none }
def o4 : Oper := { dst := some 11, op := Op.move (Operand.tmp 1), type := 3, pos := "write.go:98", after := #[], guard := none }
def o5 : Oper := { dst := some 12, op := Op.call { callee := Callee.value (Operand.func 32), args := #[Operand.tmp 11], argTypes := #[3] }, type := 9, pos := "write.go:98", after := #[{ on := 4, ground := Ground.data }], guard := none }
def o6 : Oper := { dst := some 13, op := Op.binOp BinOp.add 9 (Operand.tmp 10) (Operand.tmp 12) 9, type := 9, pos := "write.go:98", after := #[{ on := 3, ground := Ground.data }, { on := 5, ground := Ground.data }], guard := none }
def o7 : Oper := { dst := some 14, op := Op.move (Operand.tmp 2), type := 9, pos := "write.go:98", after := #[], guard := none }
def o8 : Oper := { dst := some 15, op := Op.call { callee := Callee.builtin Builtin.len, args := #[Operand.tmp 14], argTypes := #[9] }, type := 3, pos := "write.go:98", after := #[{ on := 7, ground := Ground.data }], guard := none }
def o9 : Oper := { dst := some 16, op := Op.call { callee := Callee.value (Operand.func 32), args := #[Operand.tmp 15], argTypes := #[3] }, type := 9, pos := "write.go:98", after := #[{ on := 8, ground := Ground.data }, { on := 5, ground := Ground.chain }], guard := none }
def o10 : Oper := { dst := some 17, op := Op.binOp BinOp.add 9 (Operand.tmp 13) (Operand.tmp 16) 9, type := 9, pos := "write.go:98", after := #[{ on := 6, ground := Ground.data }, { on := 9, ground := Ground.data }], guard := none }
def o11 : Oper := { dst := some 18, op := Op.move (Operand.tmp 2), type := 9, pos := "write.go:98", after := #[], guard := none }
def o12 : Oper := { dst := some 19, op := Op.call { callee := Callee.builtin Builtin.len, args := #[Operand.tmp 18], argTypes := #[9] }, type := 3, pos := "write.go:98", after := #[{ on := 11, ground := Ground.data }], guard := none }
def o13 : Oper := { dst := some 20, op := Op.call { callee := Callee.value (Operand.func 32), args := #[Operand.tmp 19], argTypes := #[3] }, type := 9, pos := "write.go:98", after := #[{ on := 12, ground := Ground.data }, { on := 9, ground := Ground.chain }], guard := none }
def o14 : Oper := { dst := some 21, op := Op.binOp BinOp.add 9 (Operand.tmp 17) (Operand.tmp 20) 9, type := 9, pos := "write.go:98", after := #[{ on := 10, ground := Ground.data }, { on := 13, ground := Ground.data }], guard := none }
def o15 : Oper := { dst := some 22, op := Op.move (Operand.tmp 2), type := 9, pos := "write.go:98", after := #[], guard := none }
def o16 : Oper := { dst := some 23, op := Op.call { callee := Callee.value (Operand.func 29), args := #[Operand.tmp 22], argTypes := #[9] }, type := 76, pos := "write.go:98", after := #[{ on := 15, ground := Ground.data }, { on := 13, ground := Ground.chain }], guard := none }
def o17 : Oper := { dst := some 24, op := Op.convert 76 3 (Operand.tmp 23), type := 3, pos := "write.go:98", after := #[{ on := 16, ground := Ground.data }], guard := none }
def o18 : Oper := { dst := some 25, op := Op.call { callee := Callee.value (Operand.func 28), args := #[Operand.tmp 24, Operand.const (Value.int IntKind.i64 4)], argTypes := #[3, 3] }, type := 9, pos := "write.go:98", after := #[{ on := 17, ground := Ground.data }, { on := 16, ground := Ground.chain }], guard := none }
def o19 : Oper := { dst := some 26, op := Op.binOp BinOp.add 9 (Operand.tmp 21) (Operand.tmp 25) 9, type := 9, pos := "write.go:98", after := #[{ on := 14, ground := Ground.data }, { on := 18, ground := Ground.data }], guard := none }
def o20 : Oper := { dst := some 27, op := Op.move (Operand.tmp 2), type := 9, pos := "write.go:98", after := #[], guard := none }
def o21 : Oper := { dst := some 28, op := Op.binOp BinOp.add 9 (Operand.tmp 26) (Operand.tmp 27) 9, type := 9, pos := "write.go:98", after := #[{ on := 19, ground := Ground.data }, { on := 20, ground := Ground.data }], guard := none }
def o22 : Oper := { dst := some 6, op := Op.assign (Operand.tmp 28), type := 9, pos := "write.go:98", after := #[{ on := 21, ground := Ground.data }, { on := 18, ground := Ground.chain }, { on := 0, ground := Ground.phase }, { on := 1, ground := Ground.phase }, { on := 2, ground := Ground.phase }, { on := 3, ground := Ground.phase }, { on := 4, ground := Ground.phase }, { on := 5, ground := Ground.phase }, { on := 6, ground := Ground.phase }, { on := 7, ground := Ground.phase }, { on := 8, ground := Ground.phase }, { on := 9, ground := Ground.phase }, { on := 10, ground := Ground.phase }, { on := 11, ground := Ground.phase }, { on := 12, ground := Ground.phase }, { on := 13, ground := Ground.phase }, { on := 14, ground := Ground.phase }, { on := 15, ground := Ground.phase }, { on := 16, ground := Ground.phase }, { on := 17, ground := Ground.phase }, { on := 18, ground := Ground.phase }, { on := 19, ground := Ground.phase }, { on := 20, ground := Ground.phase }, { on := 21, ground := Ground.phase }], guard := none }
def opsE : Array Oper := #[o0, o1, o2, o3, o4, o5, o6, o7, o8, o9, o10, o11, o12, o13, o14, o15, o16, o17, o18, o19, o20, o21, o22]

/-- what is shown behind each step may be weakened -/
theorem held_weaken {P : Program} {ops : Array Oper} {Q : Exit → Act → World → Prop} {md : Region.Mode} {S S' : World → Prop} (hS : ∀ w, S' w → S w) : ∀ (fuel : Nat) (listed : Array Bool) (a : Act) (w : World), wpAnyH P md ops Q S' fuel listed a w → wpAnyH P md ops Q S fuel listed a w
  | 0, _, _, _, h => h
  | fuel + 1, _, _, _, h => ⟨h.1, fun i hi => wpOp_mono (fun a' w' h' => ⟨hS _ h'.1, held_weaken hS fuel _ a' w' h'.2⟩) (h.2 i hi)⟩

/-- ahead of the two bytes -/
def SU (w W : World) : Prop := Below w.heap.size w W
/-- the two bytes lie there -/
def ST (w : World) (so g : Nat) (W : World) : Prop := Below w.heap.size w W ∧ W.heap[g]? = some (.cells #[.int .u8 (so : Int), .int .u8 0] 5 (0, 0))

theorem text_two {W : World} {g x : Nat} (hx : x < 256) (h : W.heap[g]? = some (.cells #[.int .u8 (x : Int), .int .u8 0] 5 (0, 0))) : (convert 24 9 (.slice (some ⟨g, 0, none⟩) 2 2)).run Try.prog W = .ok (.string ⟨#[UInt8.ofNat x, 0]⟩) W := by
  have := run_convert_bytes_back (P := Try.prog) W 24 9 5 ⟨g, 0, none⟩ 2 [UInt8.ofNat x, 0] Try.underlying24 Try.underlying5 Try.underlying9 (fun j hj => by
    rcases (show j = 0 ∨ j = 1 by simp at hj; omega) with rfl | rfl
    · rw [show (⟨g, 0, none⟩ : Addr).add 0 = ⟨g, 0, none⟩ from rfl, cell_of_row _ _ 0 _ _ _ h]
      simp [Nat.mod_eq_of_lt hx]
    · rw [show (⟨g, 0, none⟩ : Addr).add 1 = ⟨g, 1, none⟩ from rfl, cell_of_row _ _ 1 _ _ _ h]
      simp)
  simpa using this

/-- from the two bytes on -/
theorem start_T {P : Program} {ops : Array Oper} {Q : Exit → Act → World → Prop} {md : Region.Mode} {w X : World} {so fuel : Nat} {listed : Array Bool} {a : Act} (h : SU w X)
    (k : ST w so X.heap.size (X.alloc (.cells #[.int .u8 (so : Int), .int .u8 0] 5)) → wpAnyH P md ops Q (ST w so X.heap.size) fuel listed a (X.alloc (.cells #[.int .u8 (so : Int), .int .u8 0] 5))) : wpAnyH P md ops Q (SU w) fuel listed a (X.alloc (.cells #[.int .u8 (so : Int), .int .u8 0] 5)) :=
  held_weaken (fun _ h => h.1) _ _ _ _ (k ⟨h.alloc h.size _, heap_alloc_new X _⟩)

set_option maxRecDepth 100000 in
set_option maxHeartbeats 8000000 in
theorem pageOf_any (so ce : Nat) (t : ByteArray) (w : World) (hso : so < 256) (hce : ce ≤ 1000000) (ht : t.size ≤ 1000000000) :
    Calls Try.prog 54 #[.int .i64 (so : Int), .int .i64 (ce : Int), .string t] w fun e w' => e = .returned (.string ⟨(pageL so ce t.data.toList).toArray⟩) ∧ Below w.heap.size w w' := by
  obtain ⟨q, hq⟩ : ∃ q, q = Pu.sum t.data.toList := ⟨_, rfl⟩
  have hql : q < 4294967296 := by rw [hq]; exact Pu.sum_lt _
  have SUM : Hid (∀ W : World, Calls Try.prog 29 #[.string t] W fun e w' => e = .returned (.int .u32 (q : Int)) ∧ w' = W) := fun W => by rw [hq]; exact refSum_any _ W (by omega)
  obtain ⟨t1, ht1⟩ : ∃ t1 : ByteArray, t1 = ⟨(vb ce).toArray⟩ := ⟨_, rfl⟩
  obtain ⟨t2, ht2⟩ : ∃ t2 : ByteArray, t2 = ⟨(vb t.size).toArray⟩ := ⟨_, rfl⟩
  obtain ⟨t3, ht3⟩ : ∃ t3 : ByteArray, t3 = ⟨(leB 4 q).toArray⟩ := ⟨_, rfl⟩
  obtain ⟨t0, ht0⟩ : ∃ t0 : ByteArray, t0 = ⟨#[UInt8.ofNat so, 0]⟩ := ⟨_, rfl⟩
  have V1 : Hid (∀ W : World, Calls Try.prog 32 #[.int .i64 (ce : Int)] W fun e w' => e = .returned (.string t1) ∧ Below W.heap.size W w') := fun W => by rw [ht1]; exact varintB_any ce W (by omega)
  have V2 : Hid (∀ W : World, Calls Try.prog 32 #[.int .i64 (t.size : Int)] W fun e w' => e = .returned (.string t2) ∧ Below W.heap.size W w') := fun W => by rw [ht2]; exact varintB_any t.size W (by omega)
  have L4 : Hid (∀ W : World, Calls Try.prog 28 #[.int .i64 (q : Int), .int .i64 4] W fun e w' => e = .returned (.string t3) ∧ Below W.heap.size W w') := fun W => by rw [ht3]; exact refLow_any q 4 W (by omega) (by omega) (by omega)
  have z1 : t1.size ≤ 7 := by rw [ht1, ← len_data]; simpa using length_vb8 (n := ce) (by omega)
  have z2 : t2.size ≤ 7 := by rw [ht2, ← len_data]; simpa using length_vb8 (n := t.size) (by omega)
  have z3 : t3.size = 4 := by rw [ht3, ← len_data]; simp [length_leB]
  have z0 : t0.size = 2 := by rw [ht0]; rfl
  have HP : Hid (t0.data.toList ++ t1.data.toList ++ t2.data.toList ++ t2.data.toList ++ t3.data.toList ++ t.data.toList = pageL so ce t.data.toList) := by rw [Hid, ht0, ht1, ht2, ht3]; unfold pageL; rw [← hq]; simp
  have hw8 : IntKind.u8.wrap (so : Int) = (so : Int) := by rw [IntKind.wrap_u8]; omega
  have T0 : Hid (∀ (W : World) (g : Nat), W.heap[g]? = some (.cells #[.int .u8 (so : Int), .int .u8 0] 5 (0, 0)) → (convert 24 9 (.slice (some ⟨g, 0, none⟩) 2 2)).run Try.prog W = .ok (.string t0) W) := fun W g h => by rw [ht0]; exact text_two hso h
  have hwq : IntKind.i64.wrap (q : Int) = (q : Int) := by rw [IntKind.wrap_i64]; omega
  have KU : Hid (∀ X W : World, SU w X → Below X.heap.size X W → SU w W) := fun X W h hb => bself h hb
  have KT : Hid (∀ (g : Nat) (X W : World), ST w so g X → Below X.heap.size X W → ST w so g W) := fun g X W h hb => ⟨bself h.1 hb, by rw [hb.block _ (Array.getElem?_eq_some_iff.1 h.2).1]; exact h.2⟩
  have KB : Hid (∀ X : World, SU w X → SU w (X.alloc (.cells #[.int .u8 (so : Int), .int .u8 0] 5))) := fun X h => h.alloc h.size _
  have y1 : ¬ 9223372036854775807 < t0.size + t1.size := by omega
  have y2 : ¬ 9223372036854775807 < t0.size + t1.size + t2.size := by omega
  have y3 : ¬ 9223372036854775807 < t0.size + t1.size + t2.size + t2.size := by omega
  have y4 : ¬ 9223372036854775807 < t0.size + t1.size + t2.size + t2.size + t3.size := by omega
  have y5 : ¬ 9223372036854775807 < t0.size + t1.size + t2.size + t2.size + t3.size + t.size := by omega
  clear z0 z1 z2 z3
  clear hq ht0 ht1 ht2 ht3
  go_enter Try.func54, Try.ntmps54
  go_wp2
  refine wp_region_held_drew (S := SU w) (by kernel_rfl) (show Below w.heap.size w w.drew from (Below.refl _ _).drew) (fun hs => ?_)
  change wpAnyH Try.prog Region.Mode.any opsE _ (SU w) 23 (Array.replicate 23 false) _ _
  generalize w.drew = w1 at hs ⊢
  refine wpAnyH_take (i := 0) (oi := o0) (v := ?_) rfl (by kernel_rfl) (by kernel_rfl) (by kernel_rfl) (fun _ _ _ h => h) (Or.inl ⟨by rfl, ?_⟩) (by with_reducible assumption) ?_; rotate_left 1; (focus (intro W hSw; clear hSw; simp only [o0]; go_simp; (first | done | with_reducible rfl))); (simp only [Act.put, o0, List.setIfInBounds_toArray, List.set_cons_zero, List.set_cons_succ])
  refine wpAnyH_take (i := 1) (oi := o1) (v := ?_) rfl (by kernel_rfl) (by kernel_rfl) (by kernel_rfl) (fun _ _ _ h => h) (Or.inl ⟨by rfl, ?_⟩) (by with_reducible assumption) ?_; rotate_left 1; (focus (intro W hSw; clear hSw; simp only [o1]; go_simp; (first | done | with_reducible rfl))); (simp only [Act.put, o1, List.setIfInBounds_toArray, List.set_cons_zero, List.set_cons_succ])
  refine wpAnyH_take (i := 4) (oi := o4) (v := ?_) rfl (by kernel_rfl) (by kernel_rfl) (by kernel_rfl) (fun _ _ _ h => h) (Or.inl ⟨by rfl, ?_⟩) (by with_reducible assumption) ?_; rotate_left 1; (focus (intro W hSw; clear hSw; simp only [o4]; go_simp; (first | done | with_reducible rfl))); (simp only [Act.put, o4, List.setIfInBounds_toArray, List.set_cons_zero, List.set_cons_succ])
  refine wpAnyH_take (i := 7) (oi := o7) (v := ?_) rfl (by kernel_rfl) (by kernel_rfl) (by kernel_rfl) (fun _ _ _ h => h) (Or.inl ⟨by rfl, ?_⟩) (by with_reducible assumption) ?_; rotate_left 1; (focus (intro W hSw; clear hSw; simp only [o7]; go_simp; (first | done | with_reducible rfl))); (simp only [Act.put, o7, List.setIfInBounds_toArray, List.set_cons_zero, List.set_cons_succ])
  refine wpAnyH_take (i := 8) (oi := o8) (v := ?_) rfl (by kernel_rfl) (by kernel_rfl) (by kernel_rfl) (fun _ _ _ h => h) (Or.inl ⟨by rfl, ?_⟩) (by with_reducible assumption) ?_; rotate_left 1; (focus (intro W hSw; clear hSw; simp only [o8]; go_simp; (first | done | with_reducible rfl))); (simp only [Act.put, o8, List.setIfInBounds_toArray, List.set_cons_zero, List.set_cons_succ])
  refine wpAnyH_take (i := 11) (oi := o11) (v := ?_) rfl (by kernel_rfl) (by kernel_rfl) (by kernel_rfl) (fun _ _ _ h => h) (Or.inl ⟨by rfl, ?_⟩) (by with_reducible assumption) ?_; rotate_left 1; (focus (intro W hSw; clear hSw; simp only [o11]; go_simp; (first | done | with_reducible rfl))); (simp only [Act.put, o11, List.setIfInBounds_toArray, List.set_cons_zero, List.set_cons_succ])
  refine wpAnyH_take (i := 12) (oi := o12) (v := ?_) rfl (by kernel_rfl) (by kernel_rfl) (by kernel_rfl) (fun _ _ _ h => h) (Or.inl ⟨by rfl, ?_⟩) (by with_reducible assumption) ?_; rotate_left 1; (focus (intro W hSw; clear hSw; simp only [o12]; go_simp; (first | done | with_reducible rfl))); (simp only [Act.put, o12, List.setIfInBounds_toArray, List.set_cons_zero, List.set_cons_succ])
  refine wpAnyH_take (i := 15) (oi := o15) (v := ?_) rfl (by kernel_rfl) (by kernel_rfl) (by kernel_rfl) (fun _ _ _ h => h) (Or.inl ⟨by rfl, ?_⟩) (by with_reducible assumption) ?_; rotate_left 1; (focus (intro W hSw; clear hSw; simp only [o15]; go_simp; (first | done | with_reducible rfl))); (simp only [Act.put, o15, List.setIfInBounds_toArray, List.set_cons_zero, List.set_cons_succ])
  refine wpAnyH_take (i := 20) (oi := o20) (v := ?_) rfl (by kernel_rfl) (by kernel_rfl) (by kernel_rfl) (fun _ _ _ h => h) (Or.inl ⟨by rfl, ?_⟩) (by with_reducible assumption) ?_; rotate_left 1; (focus (intro W hSw; clear hSw; simp only [o20]; go_simp; (first | done | with_reducible rfl))); (simp only [Act.put, o20, List.setIfInBounds_toArray, List.set_cons_zero, List.set_cons_succ])
  refine wpAnyH_ready (rs := [2, 5]) (by kernel_rfl) (by simp) ?_
  refine AllReadyH.cons (o := o2) rfl (fun K hK => ?_) (AllReadyH.cons (o := o5) rfl (fun K hK => ?_) AllReadyH.nil)
  · simp only [o2]; go_simp; refine hK.out _ _ (KB.out _ (by with_reducible assumption)) (fun _ => start_T (by with_reducible assumption) (fun _ => ?_)); clear hK K
    refine wpAnyH_take (i := 3) (oi := o3) (v := ?_) rfl (by kernel_rfl) (by kernel_rfl) (by kernel_rfl) (fun _ _ _ h => h) (Or.inl ⟨by rfl, ?_⟩) (by with_reducible assumption) ?_; rotate_left 1; (focus (intro W hSw; simp only [o3]; go_simp; rw [T0.out _ _ hSw.2]; exact rfl)); (simp only [Act.put, o3, List.setIfInBounds_toArray, List.set_cons_zero, List.set_cons_succ])
    refine wpAnyH_ready (rs := [5]) (by kernel_rfl) (by simp) ?_; refine AllReadyH.cons (o := o5) rfl (fun K hK => ?_) AllReadyH.nil; (simp only [o5]; go_simp; refine (V1.out _).mono ?_; rintro e wn ⟨rfl, hbn⟩; refine hK.out _ _ (by first | exact KU.out _ _ (by with_reducible assumption) hbn | exact KT.out _ _ _ (by with_reducible assumption) hbn) (fun _ => ?_); clear hK K hbn)
    refine wpAnyH_take (i := 6) (oi := o6) (v := ?_) rfl (by kernel_rfl) (by kernel_rfl) (by kernel_rfl) (fun _ _ _ h => h) (Or.inl ⟨by rfl, ?_⟩) (by with_reducible assumption) ?_; rotate_left 1; (focus (intro W hSw; clear hSw; simp only [o6]; go_simp; (first | done | with_reducible rfl))); (simp only [Act.put, o6, List.setIfInBounds_toArray, List.set_cons_zero, List.set_cons_succ])
    refine wpAnyH_ready (rs := [9]) (by kernel_rfl) (by simp) ?_; refine AllReadyH.cons (o := o9) rfl (fun K hK => ?_) AllReadyH.nil; (simp only [o9]; go_simp; refine (V2.out _).mono ?_; rintro e wn ⟨rfl, hbn⟩; refine hK.out _ _ (by first | exact KU.out _ _ (by with_reducible assumption) hbn | exact KT.out _ _ _ (by with_reducible assumption) hbn) (fun _ => ?_); clear hK K hbn)
    refine wpAnyH_take (i := 10) (oi := o10) (v := ?_) rfl (by kernel_rfl) (by kernel_rfl) (by kernel_rfl) (fun _ _ _ h => h) (Or.inl ⟨by rfl, ?_⟩) (by with_reducible assumption) ?_; rotate_left 1; (focus (intro W hSw; clear hSw; simp only [o10]; go_simp; (first | done | with_reducible rfl))); (simp only [Act.put, o10, List.setIfInBounds_toArray, List.set_cons_zero, List.set_cons_succ])
    refine wpAnyH_ready (rs := [13]) (by kernel_rfl) (by simp) ?_; refine AllReadyH.cons (o := o13) rfl (fun K hK => ?_) AllReadyH.nil; (simp only [o13]; go_simp; refine (V2.out _).mono ?_; rintro e wn ⟨rfl, hbn⟩; refine hK.out _ _ (by first | exact KU.out _ _ (by with_reducible assumption) hbn | exact KT.out _ _ _ (by with_reducible assumption) hbn) (fun _ => ?_); clear hK K hbn)
    refine wpAnyH_take (i := 14) (oi := o14) (v := ?_) rfl (by kernel_rfl) (by kernel_rfl) (by kernel_rfl) (fun _ _ _ h => h) (Or.inl ⟨by rfl, ?_⟩) (by with_reducible assumption) ?_; rotate_left 1; (focus (intro W hSw; clear hSw; simp only [o14]; go_simp; (first | done | with_reducible rfl))); (simp only [Act.put, o14, List.setIfInBounds_toArray, List.set_cons_zero, List.set_cons_succ])
    refine wpAnyH_ready (rs := [16]) (by kernel_rfl) (by simp) ?_; refine AllReadyH.cons (o := o16) rfl (fun K hK => ?_) AllReadyH.nil; (simp only [o16]; go_simp; refine (SUM.out _).mono ?_; rintro e w' ⟨rfl, hw'⟩; subst w'; refine hK.out _ _ (by with_reducible assumption) (fun _ => ?_); clear hK K)
    refine wpAnyH_take (i := 17) (oi := o17) (v := ?_) rfl (by kernel_rfl) (by kernel_rfl) (by kernel_rfl) (fun _ _ _ h => h) (Or.inl ⟨by rfl, ?_⟩) (by with_reducible assumption) ?_; rotate_left 1; (focus (intro W hSw; clear hSw; simp only [o17]; go_simp; (first | done | with_reducible rfl))); (simp only [Act.put, o17, List.setIfInBounds_toArray, List.set_cons_zero, List.set_cons_succ])
    refine wpAnyH_ready (rs := [18]) (by kernel_rfl) (by simp) ?_; refine AllReadyH.cons (o := o18) rfl (fun K hK => ?_) AllReadyH.nil; (simp only [o18]; go_simp; refine (L4.out _).mono ?_; rintro e wn ⟨rfl, hbn⟩; refine hK.out _ _ (by first | exact KU.out _ _ (by with_reducible assumption) hbn | exact KT.out _ _ _ (by with_reducible assumption) hbn) (fun _ => ?_); clear hK K hbn)
    refine wpAnyH_take (i := 19) (oi := o19) (v := ?_) rfl (by kernel_rfl) (by kernel_rfl) (by kernel_rfl) (fun _ _ _ h => h) (Or.inl ⟨by rfl, ?_⟩) (by with_reducible assumption) ?_; rotate_left 1; (focus (intro W hSw; clear hSw; simp only [o19]; go_simp; (first | done | with_reducible rfl))); (simp only [Act.put, o19, List.setIfInBounds_toArray, List.set_cons_zero, List.set_cons_succ])
    refine wpAnyH_take (i := 21) (oi := o21) (v := ?_) rfl (by kernel_rfl) (by kernel_rfl) (by kernel_rfl) (fun _ _ _ h => h) (Or.inl ⟨by rfl, ?_⟩) (by with_reducible assumption) ?_; rotate_left 1; (focus (intro W hSw; clear hSw; simp only [o21]; go_simp; (first | done | with_reducible rfl))); (simp only [Act.put, o21, List.setIfInBounds_toArray, List.set_cons_zero, List.set_cons_succ])
    refine wpAnyH_take (i := 22) (oi := o22) (v := ?_) rfl (by kernel_rfl) (by kernel_rfl) (by kernel_rfl) (fun _ _ _ h => h) (Or.inl ⟨by rfl, ?_⟩) (by with_reducible assumption) ?_; rotate_left 1; (focus (intro W hSw; clear hSw; simp only [o22]; go_simp; (first | done | with_reducible rfl))); (simp only [Act.put, o22, List.setIfInBounds_toArray, List.set_cons_zero, List.set_cons_succ])
    refine wpAnyH_done (by kernel_rfl) ?_ _
    go_wp2
    go_ret
    refine ⟨?_, ?_⟩
    · refine congrArg (fun t => Ending.returned (.string t)) (bytes_ext ?_)
      simp only [ByteArray.data_append, Array.toList_append]
      exact HP.out
    · exact (show ST w so _ _ from by with_reducible assumption).1
  · simp only [o5]; go_simp; refine (V1.out _).mono ?_; rintro e wn ⟨rfl, hbn⟩; refine hK.out _ _ (by first | exact KU.out _ _ (by with_reducible assumption) hbn | exact KT.out _ _ _ (by with_reducible assumption) hbn) (fun _ => ?_); clear hK K hbn
    refine wpAnyH_ready (rs := [2, 9]) (by kernel_rfl) (by simp) ?_
    refine AllReadyH.cons (o := o2) rfl (fun K hK => ?_) (AllReadyH.cons (o := o9) rfl (fun K hK => ?_) AllReadyH.nil)
    · simp only [o2]; go_simp; refine hK.out _ _ (KB.out _ (by with_reducible assumption)) (fun _ => start_T (by with_reducible assumption) (fun _ => ?_)); clear hK K
      refine wpAnyH_take (i := 3) (oi := o3) (v := ?_) rfl (by kernel_rfl) (by kernel_rfl) (by kernel_rfl) (fun _ _ _ h => h) (Or.inl ⟨by rfl, ?_⟩) (by with_reducible assumption) ?_; rotate_left 1; (focus (intro W hSw; simp only [o3]; go_simp; rw [T0.out _ _ hSw.2]; exact rfl)); (simp only [Act.put, o3, List.setIfInBounds_toArray, List.set_cons_zero, List.set_cons_succ])
      refine wpAnyH_take (i := 6) (oi := o6) (v := ?_) rfl (by kernel_rfl) (by kernel_rfl) (by kernel_rfl) (fun _ _ _ h => h) (Or.inl ⟨by rfl, ?_⟩) (by with_reducible assumption) ?_; rotate_left 1; (focus (intro W hSw; clear hSw; simp only [o6]; go_simp; (first | done | with_reducible rfl))); (simp only [Act.put, o6, List.setIfInBounds_toArray, List.set_cons_zero, List.set_cons_succ])
      refine wpAnyH_ready (rs := [9]) (by kernel_rfl) (by simp) ?_; refine AllReadyH.cons (o := o9) rfl (fun K hK => ?_) AllReadyH.nil; (simp only [o9]; go_simp; refine (V2.out _).mono ?_; rintro e wn ⟨rfl, hbn⟩; refine hK.out _ _ (by first | exact KU.out _ _ (by with_reducible assumption) hbn | exact KT.out _ _ _ (by with_reducible assumption) hbn) (fun _ => ?_); clear hK K hbn)
      refine wpAnyH_take (i := 10) (oi := o10) (v := ?_) rfl (by kernel_rfl) (by kernel_rfl) (by kernel_rfl) (fun _ _ _ h => h) (Or.inl ⟨by rfl, ?_⟩) (by with_reducible assumption) ?_; rotate_left 1; (focus (intro W hSw; clear hSw; simp only [o10]; go_simp; (first | done | with_reducible rfl))); (simp only [Act.put, o10, List.setIfInBounds_toArray, List.set_cons_zero, List.set_cons_succ])
      refine wpAnyH_ready (rs := [13]) (by kernel_rfl) (by simp) ?_; refine AllReadyH.cons (o := o13) rfl (fun K hK => ?_) AllReadyH.nil; (simp only [o13]; go_simp; refine (V2.out _).mono ?_; rintro e wn ⟨rfl, hbn⟩; refine hK.out _ _ (by first | exact KU.out _ _ (by with_reducible assumption) hbn | exact KT.out _ _ _ (by with_reducible assumption) hbn) (fun _ => ?_); clear hK K hbn)
      refine wpAnyH_take (i := 14) (oi := o14) (v := ?_) rfl (by kernel_rfl) (by kernel_rfl) (by kernel_rfl) (fun _ _ _ h => h) (Or.inl ⟨by rfl, ?_⟩) (by with_reducible assumption) ?_; rotate_left 1; (focus (intro W hSw; clear hSw; simp only [o14]; go_simp; (first | done | with_reducible rfl))); (simp only [Act.put, o14, List.setIfInBounds_toArray, List.set_cons_zero, List.set_cons_succ])
      refine wpAnyH_ready (rs := [16]) (by kernel_rfl) (by simp) ?_; refine AllReadyH.cons (o := o16) rfl (fun K hK => ?_) AllReadyH.nil; (simp only [o16]; go_simp; refine (SUM.out _).mono ?_; rintro e w' ⟨rfl, hw'⟩; subst w'; refine hK.out _ _ (by with_reducible assumption) (fun _ => ?_); clear hK K)
      refine wpAnyH_take (i := 17) (oi := o17) (v := ?_) rfl (by kernel_rfl) (by kernel_rfl) (by kernel_rfl) (fun _ _ _ h => h) (Or.inl ⟨by rfl, ?_⟩) (by with_reducible assumption) ?_; rotate_left 1; (focus (intro W hSw; clear hSw; simp only [o17]; go_simp; (first | done | with_reducible rfl))); (simp only [Act.put, o17, List.setIfInBounds_toArray, List.set_cons_zero, List.set_cons_succ])
      refine wpAnyH_ready (rs := [18]) (by kernel_rfl) (by simp) ?_; refine AllReadyH.cons (o := o18) rfl (fun K hK => ?_) AllReadyH.nil; (simp only [o18]; go_simp; refine (L4.out _).mono ?_; rintro e wn ⟨rfl, hbn⟩; refine hK.out _ _ (by first | exact KU.out _ _ (by with_reducible assumption) hbn | exact KT.out _ _ _ (by with_reducible assumption) hbn) (fun _ => ?_); clear hK K hbn)
      refine wpAnyH_take (i := 19) (oi := o19) (v := ?_) rfl (by kernel_rfl) (by kernel_rfl) (by kernel_rfl) (fun _ _ _ h => h) (Or.inl ⟨by rfl, ?_⟩) (by with_reducible assumption) ?_; rotate_left 1; (focus (intro W hSw; clear hSw; simp only [o19]; go_simp; (first | done | with_reducible rfl))); (simp only [Act.put, o19, List.setIfInBounds_toArray, List.set_cons_zero, List.set_cons_succ])
      refine wpAnyH_take (i := 21) (oi := o21) (v := ?_) rfl (by kernel_rfl) (by kernel_rfl) (by kernel_rfl) (fun _ _ _ h => h) (Or.inl ⟨by rfl, ?_⟩) (by with_reducible assumption) ?_; rotate_left 1; (focus (intro W hSw; clear hSw; simp only [o21]; go_simp; (first | done | with_reducible rfl))); (simp only [Act.put, o21, List.setIfInBounds_toArray, List.set_cons_zero, List.set_cons_succ])
      refine wpAnyH_take (i := 22) (oi := o22) (v := ?_) rfl (by kernel_rfl) (by kernel_rfl) (by kernel_rfl) (fun _ _ _ h => h) (Or.inl ⟨by rfl, ?_⟩) (by with_reducible assumption) ?_; rotate_left 1; (focus (intro W hSw; clear hSw; simp only [o22]; go_simp; (first | done | with_reducible rfl))); (simp only [Act.put, o22, List.setIfInBounds_toArray, List.set_cons_zero, List.set_cons_succ])
      refine wpAnyH_done (by kernel_rfl) ?_ _
      go_wp2
      go_ret
      refine ⟨?_, ?_⟩
      · refine congrArg (fun t => Ending.returned (.string t)) (bytes_ext ?_)
        simp only [ByteArray.data_append, Array.toList_append]
        exact HP.out
      · exact (show ST w so _ _ from by with_reducible assumption).1
    · simp only [o9]; go_simp; refine (V2.out _).mono ?_; rintro e wn ⟨rfl, hbn⟩; refine hK.out _ _ (by first | exact KU.out _ _ (by with_reducible assumption) hbn | exact KT.out _ _ _ (by with_reducible assumption) hbn) (fun _ => ?_); clear hK K hbn
      refine wpAnyH_ready (rs := [2, 13]) (by kernel_rfl) (by simp) ?_
      refine AllReadyH.cons (o := o2) rfl (fun K hK => ?_) (AllReadyH.cons (o := o13) rfl (fun K hK => ?_) AllReadyH.nil)
      · simp only [o2]; go_simp; refine hK.out _ _ (KB.out _ (by with_reducible assumption)) (fun _ => start_T (by with_reducible assumption) (fun _ => ?_)); clear hK K
        refine wpAnyH_take (i := 3) (oi := o3) (v := ?_) rfl (by kernel_rfl) (by kernel_rfl) (by kernel_rfl) (fun _ _ _ h => h) (Or.inl ⟨by rfl, ?_⟩) (by with_reducible assumption) ?_; rotate_left 1; (focus (intro W hSw; simp only [o3]; go_simp; rw [T0.out _ _ hSw.2]; exact rfl)); (simp only [Act.put, o3, List.setIfInBounds_toArray, List.set_cons_zero, List.set_cons_succ])
        refine wpAnyH_take (i := 6) (oi := o6) (v := ?_) rfl (by kernel_rfl) (by kernel_rfl) (by kernel_rfl) (fun _ _ _ h => h) (Or.inl ⟨by rfl, ?_⟩) (by with_reducible assumption) ?_; rotate_left 1; (focus (intro W hSw; clear hSw; simp only [o6]; go_simp; (first | done | with_reducible rfl))); (simp only [Act.put, o6, List.setIfInBounds_toArray, List.set_cons_zero, List.set_cons_succ])
        refine wpAnyH_take (i := 10) (oi := o10) (v := ?_) rfl (by kernel_rfl) (by kernel_rfl) (by kernel_rfl) (fun _ _ _ h => h) (Or.inl ⟨by rfl, ?_⟩) (by with_reducible assumption) ?_; rotate_left 1; (focus (intro W hSw; clear hSw; simp only [o10]; go_simp; (first | done | with_reducible rfl))); (simp only [Act.put, o10, List.setIfInBounds_toArray, List.set_cons_zero, List.set_cons_succ])
        refine wpAnyH_ready (rs := [13]) (by kernel_rfl) (by simp) ?_; refine AllReadyH.cons (o := o13) rfl (fun K hK => ?_) AllReadyH.nil; (simp only [o13]; go_simp; refine (V2.out _).mono ?_; rintro e wn ⟨rfl, hbn⟩; refine hK.out _ _ (by first | exact KU.out _ _ (by with_reducible assumption) hbn | exact KT.out _ _ _ (by with_reducible assumption) hbn) (fun _ => ?_); clear hK K hbn)
        refine wpAnyH_take (i := 14) (oi := o14) (v := ?_) rfl (by kernel_rfl) (by kernel_rfl) (by kernel_rfl) (fun _ _ _ h => h) (Or.inl ⟨by rfl, ?_⟩) (by with_reducible assumption) ?_; rotate_left 1; (focus (intro W hSw; clear hSw; simp only [o14]; go_simp; (first | done | with_reducible rfl))); (simp only [Act.put, o14, List.setIfInBounds_toArray, List.set_cons_zero, List.set_cons_succ])
        refine wpAnyH_ready (rs := [16]) (by kernel_rfl) (by simp) ?_; refine AllReadyH.cons (o := o16) rfl (fun K hK => ?_) AllReadyH.nil; (simp only [o16]; go_simp; refine (SUM.out _).mono ?_; rintro e w' ⟨rfl, hw'⟩; subst w'; refine hK.out _ _ (by with_reducible assumption) (fun _ => ?_); clear hK K)
        refine wpAnyH_take (i := 17) (oi := o17) (v := ?_) rfl (by kernel_rfl) (by kernel_rfl) (by kernel_rfl) (fun _ _ _ h => h) (Or.inl ⟨by rfl, ?_⟩) (by with_reducible assumption) ?_; rotate_left 1; (focus (intro W hSw; clear hSw; simp only [o17]; go_simp; (first | done | with_reducible rfl))); (simp only [Act.put, o17, List.setIfInBounds_toArray, List.set_cons_zero, List.set_cons_succ])
        refine wpAnyH_ready (rs := [18]) (by kernel_rfl) (by simp) ?_; refine AllReadyH.cons (o := o18) rfl (fun K hK => ?_) AllReadyH.nil; (simp only [o18]; go_simp; refine (L4.out _).mono ?_; rintro e wn ⟨rfl, hbn⟩; refine hK.out _ _ (by first | exact KU.out _ _ (by with_reducible assumption) hbn | exact KT.out _ _ _ (by with_reducible assumption) hbn) (fun _ => ?_); clear hK K hbn)
        refine wpAnyH_take (i := 19) (oi := o19) (v := ?_) rfl (by kernel_rfl) (by kernel_rfl) (by kernel_rfl) (fun _ _ _ h => h) (Or.inl ⟨by rfl, ?_⟩) (by with_reducible assumption) ?_; rotate_left 1; (focus (intro W hSw; clear hSw; simp only [o19]; go_simp; (first | done | with_reducible rfl))); (simp only [Act.put, o19, List.setIfInBounds_toArray, List.set_cons_zero, List.set_cons_succ])
        refine wpAnyH_take (i := 21) (oi := o21) (v := ?_) rfl (by kernel_rfl) (by kernel_rfl) (by kernel_rfl) (fun _ _ _ h => h) (Or.inl ⟨by rfl, ?_⟩) (by with_reducible assumption) ?_; rotate_left 1; (focus (intro W hSw; clear hSw; simp only [o21]; go_simp; (first | done | with_reducible rfl))); (simp only [Act.put, o21, List.setIfInBounds_toArray, List.set_cons_zero, List.set_cons_succ])
        refine wpAnyH_take (i := 22) (oi := o22) (v := ?_) rfl (by kernel_rfl) (by kernel_rfl) (by kernel_rfl) (fun _ _ _ h => h) (Or.inl ⟨by rfl, ?_⟩) (by with_reducible assumption) ?_; rotate_left 1; (focus (intro W hSw; clear hSw; simp only [o22]; go_simp; (first | done | with_reducible rfl))); (simp only [Act.put, o22, List.setIfInBounds_toArray, List.set_cons_zero, List.set_cons_succ])
        refine wpAnyH_done (by kernel_rfl) ?_ _
        go_wp2
        go_ret
        refine ⟨?_, ?_⟩
        · refine congrArg (fun t => Ending.returned (.string t)) (bytes_ext ?_)
          simp only [ByteArray.data_append, Array.toList_append]
          exact HP.out
        · exact (show ST w so _ _ from by with_reducible assumption).1
      · simp only [o13]; go_simp; refine (V2.out _).mono ?_; rintro e wn ⟨rfl, hbn⟩; refine hK.out _ _ (by first | exact KU.out _ _ (by with_reducible assumption) hbn | exact KT.out _ _ _ (by with_reducible assumption) hbn) (fun _ => ?_); clear hK K hbn
        refine wpAnyH_ready (rs := [2, 16]) (by kernel_rfl) (by simp) ?_
        refine AllReadyH.cons (o := o2) rfl (fun K hK => ?_) (AllReadyH.cons (o := o16) rfl (fun K hK => ?_) AllReadyH.nil)
        · simp only [o2]; go_simp; refine hK.out _ _ (KB.out _ (by with_reducible assumption)) (fun _ => start_T (by with_reducible assumption) (fun _ => ?_)); clear hK K
          refine wpAnyH_take (i := 3) (oi := o3) (v := ?_) rfl (by kernel_rfl) (by kernel_rfl) (by kernel_rfl) (fun _ _ _ h => h) (Or.inl ⟨by rfl, ?_⟩) (by with_reducible assumption) ?_; rotate_left 1; (focus (intro W hSw; simp only [o3]; go_simp; rw [T0.out _ _ hSw.2]; exact rfl)); (simp only [Act.put, o3, List.setIfInBounds_toArray, List.set_cons_zero, List.set_cons_succ])
          refine wpAnyH_take (i := 6) (oi := o6) (v := ?_) rfl (by kernel_rfl) (by kernel_rfl) (by kernel_rfl) (fun _ _ _ h => h) (Or.inl ⟨by rfl, ?_⟩) (by with_reducible assumption) ?_; rotate_left 1; (focus (intro W hSw; clear hSw; simp only [o6]; go_simp; (first | done | with_reducible rfl))); (simp only [Act.put, o6, List.setIfInBounds_toArray, List.set_cons_zero, List.set_cons_succ])
          refine wpAnyH_take (i := 10) (oi := o10) (v := ?_) rfl (by kernel_rfl) (by kernel_rfl) (by kernel_rfl) (fun _ _ _ h => h) (Or.inl ⟨by rfl, ?_⟩) (by with_reducible assumption) ?_; rotate_left 1; (focus (intro W hSw; clear hSw; simp only [o10]; go_simp; (first | done | with_reducible rfl))); (simp only [Act.put, o10, List.setIfInBounds_toArray, List.set_cons_zero, List.set_cons_succ])
          refine wpAnyH_take (i := 14) (oi := o14) (v := ?_) rfl (by kernel_rfl) (by kernel_rfl) (by kernel_rfl) (fun _ _ _ h => h) (Or.inl ⟨by rfl, ?_⟩) (by with_reducible assumption) ?_; rotate_left 1; (focus (intro W hSw; clear hSw; simp only [o14]; go_simp; (first | done | with_reducible rfl))); (simp only [Act.put, o14, List.setIfInBounds_toArray, List.set_cons_zero, List.set_cons_succ])
          refine wpAnyH_ready (rs := [16]) (by kernel_rfl) (by simp) ?_; refine AllReadyH.cons (o := o16) rfl (fun K hK => ?_) AllReadyH.nil; (simp only [o16]; go_simp; refine (SUM.out _).mono ?_; rintro e w' ⟨rfl, hw'⟩; subst w'; refine hK.out _ _ (by with_reducible assumption) (fun _ => ?_); clear hK K)
          refine wpAnyH_take (i := 17) (oi := o17) (v := ?_) rfl (by kernel_rfl) (by kernel_rfl) (by kernel_rfl) (fun _ _ _ h => h) (Or.inl ⟨by rfl, ?_⟩) (by with_reducible assumption) ?_; rotate_left 1; (focus (intro W hSw; clear hSw; simp only [o17]; go_simp; (first | done | with_reducible rfl))); (simp only [Act.put, o17, List.setIfInBounds_toArray, List.set_cons_zero, List.set_cons_succ])
          refine wpAnyH_ready (rs := [18]) (by kernel_rfl) (by simp) ?_; refine AllReadyH.cons (o := o18) rfl (fun K hK => ?_) AllReadyH.nil; (simp only [o18]; go_simp; refine (L4.out _).mono ?_; rintro e wn ⟨rfl, hbn⟩; refine hK.out _ _ (by first | exact KU.out _ _ (by with_reducible assumption) hbn | exact KT.out _ _ _ (by with_reducible assumption) hbn) (fun _ => ?_); clear hK K hbn)
          refine wpAnyH_take (i := 19) (oi := o19) (v := ?_) rfl (by kernel_rfl) (by kernel_rfl) (by kernel_rfl) (fun _ _ _ h => h) (Or.inl ⟨by rfl, ?_⟩) (by with_reducible assumption) ?_; rotate_left 1; (focus (intro W hSw; clear hSw; simp only [o19]; go_simp; (first | done | with_reducible rfl))); (simp only [Act.put, o19, List.setIfInBounds_toArray, List.set_cons_zero, List.set_cons_succ])
          refine wpAnyH_take (i := 21) (oi := o21) (v := ?_) rfl (by kernel_rfl) (by kernel_rfl) (by kernel_rfl) (fun _ _ _ h => h) (Or.inl ⟨by rfl, ?_⟩) (by with_reducible assumption) ?_; rotate_left 1; (focus (intro W hSw; clear hSw; simp only [o21]; go_simp; (first | done | with_reducible rfl))); (simp only [Act.put, o21, List.setIfInBounds_toArray, List.set_cons_zero, List.set_cons_succ])
          refine wpAnyH_take (i := 22) (oi := o22) (v := ?_) rfl (by kernel_rfl) (by kernel_rfl) (by kernel_rfl) (fun _ _ _ h => h) (Or.inl ⟨by rfl, ?_⟩) (by with_reducible assumption) ?_; rotate_left 1; (focus (intro W hSw; clear hSw; simp only [o22]; go_simp; (first | done | with_reducible rfl))); (simp only [Act.put, o22, List.setIfInBounds_toArray, List.set_cons_zero, List.set_cons_succ])
          refine wpAnyH_done (by kernel_rfl) ?_ _
          go_wp2
          go_ret
          refine ⟨?_, ?_⟩
          · refine congrArg (fun t => Ending.returned (.string t)) (bytes_ext ?_)
            simp only [ByteArray.data_append, Array.toList_append]
            exact HP.out
          · exact (show ST w so _ _ from by with_reducible assumption).1
        · simp only [o16]; go_simp; refine (SUM.out _).mono ?_; rintro e w' ⟨rfl, hw'⟩; subst w'; refine hK.out _ _ (by with_reducible assumption) (fun _ => ?_); clear hK K
          refine wpAnyH_take (i := 17) (oi := o17) (v := ?_) rfl (by kernel_rfl) (by kernel_rfl) (by kernel_rfl) (fun _ _ _ h => h) (Or.inl ⟨by rfl, ?_⟩) (by with_reducible assumption) ?_; rotate_left 1; (focus (intro W hSw; clear hSw; simp only [o17]; go_simp; (first | done | with_reducible rfl))); (simp only [Act.put, o17, List.setIfInBounds_toArray, List.set_cons_zero, List.set_cons_succ])
          refine wpAnyH_ready (rs := [2, 18]) (by kernel_rfl) (by simp) ?_
          refine AllReadyH.cons (o := o2) rfl (fun K hK => ?_) (AllReadyH.cons (o := o18) rfl (fun K hK => ?_) AllReadyH.nil)
          · simp only [o2]; go_simp; refine hK.out _ _ (KB.out _ (by with_reducible assumption)) (fun _ => start_T (by with_reducible assumption) (fun _ => ?_)); clear hK K
            refine wpAnyH_take (i := 3) (oi := o3) (v := ?_) rfl (by kernel_rfl) (by kernel_rfl) (by kernel_rfl) (fun _ _ _ h => h) (Or.inl ⟨by rfl, ?_⟩) (by with_reducible assumption) ?_; rotate_left 1; (focus (intro W hSw; simp only [o3]; go_simp; rw [T0.out _ _ hSw.2]; exact rfl)); (simp only [Act.put, o3, List.setIfInBounds_toArray, List.set_cons_zero, List.set_cons_succ])
            refine wpAnyH_take (i := 6) (oi := o6) (v := ?_) rfl (by kernel_rfl) (by kernel_rfl) (by kernel_rfl) (fun _ _ _ h => h) (Or.inl ⟨by rfl, ?_⟩) (by with_reducible assumption) ?_; rotate_left 1; (focus (intro W hSw; clear hSw; simp only [o6]; go_simp; (first | done | with_reducible rfl))); (simp only [Act.put, o6, List.setIfInBounds_toArray, List.set_cons_zero, List.set_cons_succ])
            refine wpAnyH_take (i := 10) (oi := o10) (v := ?_) rfl (by kernel_rfl) (by kernel_rfl) (by kernel_rfl) (fun _ _ _ h => h) (Or.inl ⟨by rfl, ?_⟩) (by with_reducible assumption) ?_; rotate_left 1; (focus (intro W hSw; clear hSw; simp only [o10]; go_simp; (first | done | with_reducible rfl))); (simp only [Act.put, o10, List.setIfInBounds_toArray, List.set_cons_zero, List.set_cons_succ])
            refine wpAnyH_take (i := 14) (oi := o14) (v := ?_) rfl (by kernel_rfl) (by kernel_rfl) (by kernel_rfl) (fun _ _ _ h => h) (Or.inl ⟨by rfl, ?_⟩) (by with_reducible assumption) ?_; rotate_left 1; (focus (intro W hSw; clear hSw; simp only [o14]; go_simp; (first | done | with_reducible rfl))); (simp only [Act.put, o14, List.setIfInBounds_toArray, List.set_cons_zero, List.set_cons_succ])
            refine wpAnyH_ready (rs := [18]) (by kernel_rfl) (by simp) ?_; refine AllReadyH.cons (o := o18) rfl (fun K hK => ?_) AllReadyH.nil; (simp only [o18]; go_simp; refine (L4.out _).mono ?_; rintro e wn ⟨rfl, hbn⟩; refine hK.out _ _ (by first | exact KU.out _ _ (by with_reducible assumption) hbn | exact KT.out _ _ _ (by with_reducible assumption) hbn) (fun _ => ?_); clear hK K hbn)
            refine wpAnyH_take (i := 19) (oi := o19) (v := ?_) rfl (by kernel_rfl) (by kernel_rfl) (by kernel_rfl) (fun _ _ _ h => h) (Or.inl ⟨by rfl, ?_⟩) (by with_reducible assumption) ?_; rotate_left 1; (focus (intro W hSw; clear hSw; simp only [o19]; go_simp; (first | done | with_reducible rfl))); (simp only [Act.put, o19, List.setIfInBounds_toArray, List.set_cons_zero, List.set_cons_succ])
            refine wpAnyH_take (i := 21) (oi := o21) (v := ?_) rfl (by kernel_rfl) (by kernel_rfl) (by kernel_rfl) (fun _ _ _ h => h) (Or.inl ⟨by rfl, ?_⟩) (by with_reducible assumption) ?_; rotate_left 1; (focus (intro W hSw; clear hSw; simp only [o21]; go_simp; (first | done | with_reducible rfl))); (simp only [Act.put, o21, List.setIfInBounds_toArray, List.set_cons_zero, List.set_cons_succ])
            refine wpAnyH_take (i := 22) (oi := o22) (v := ?_) rfl (by kernel_rfl) (by kernel_rfl) (by kernel_rfl) (fun _ _ _ h => h) (Or.inl ⟨by rfl, ?_⟩) (by with_reducible assumption) ?_; rotate_left 1; (focus (intro W hSw; clear hSw; simp only [o22]; go_simp; (first | done | with_reducible rfl))); (simp only [Act.put, o22, List.setIfInBounds_toArray, List.set_cons_zero, List.set_cons_succ])
            refine wpAnyH_done (by kernel_rfl) ?_ _
            go_wp2
            go_ret
            refine ⟨?_, ?_⟩
            · refine congrArg (fun t => Ending.returned (.string t)) (bytes_ext ?_)
              simp only [ByteArray.data_append, Array.toList_append]
              exact HP.out
            · exact (show ST w so _ _ from by with_reducible assumption).1
          · simp only [o18]; go_simp; refine (L4.out _).mono ?_; rintro e wn ⟨rfl, hbn⟩; refine hK.out _ _ (by first | exact KU.out _ _ (by with_reducible assumption) hbn | exact KT.out _ _ _ (by with_reducible assumption) hbn) (fun _ => ?_); clear hK K hbn
            refine wpAnyH_ready (rs := [2]) (by kernel_rfl) (by simp) ?_; refine AllReadyH.cons (o := o2) rfl (fun K hK => ?_) AllReadyH.nil; (simp only [o2]; go_simp; refine hK.out _ _ (KB.out _ (by with_reducible assumption)) (fun _ => start_T (by with_reducible assumption) (fun _ => ?_)); clear hK K)
            refine wpAnyH_take (i := 3) (oi := o3) (v := ?_) rfl (by kernel_rfl) (by kernel_rfl) (by kernel_rfl) (fun _ _ _ h => h) (Or.inl ⟨by rfl, ?_⟩) (by with_reducible assumption) ?_; rotate_left 1; (focus (intro W hSw; simp only [o3]; go_simp; rw [T0.out _ _ hSw.2]; exact rfl)); (simp only [Act.put, o3, List.setIfInBounds_toArray, List.set_cons_zero, List.set_cons_succ])
            refine wpAnyH_take (i := 6) (oi := o6) (v := ?_) rfl (by kernel_rfl) (by kernel_rfl) (by kernel_rfl) (fun _ _ _ h => h) (Or.inl ⟨by rfl, ?_⟩) (by with_reducible assumption) ?_; rotate_left 1; (focus (intro W hSw; clear hSw; simp only [o6]; go_simp; (first | done | with_reducible rfl))); (simp only [Act.put, o6, List.setIfInBounds_toArray, List.set_cons_zero, List.set_cons_succ])
            refine wpAnyH_take (i := 10) (oi := o10) (v := ?_) rfl (by kernel_rfl) (by kernel_rfl) (by kernel_rfl) (fun _ _ _ h => h) (Or.inl ⟨by rfl, ?_⟩) (by with_reducible assumption) ?_; rotate_left 1; (focus (intro W hSw; clear hSw; simp only [o10]; go_simp; (first | done | with_reducible rfl))); (simp only [Act.put, o10, List.setIfInBounds_toArray, List.set_cons_zero, List.set_cons_succ])
            refine wpAnyH_take (i := 14) (oi := o14) (v := ?_) rfl (by kernel_rfl) (by kernel_rfl) (by kernel_rfl) (fun _ _ _ h => h) (Or.inl ⟨by rfl, ?_⟩) (by with_reducible assumption) ?_; rotate_left 1; (focus (intro W hSw; clear hSw; simp only [o14]; go_simp; (first | done | with_reducible rfl))); (simp only [Act.put, o14, List.setIfInBounds_toArray, List.set_cons_zero, List.set_cons_succ])
            refine wpAnyH_take (i := 19) (oi := o19) (v := ?_) rfl (by kernel_rfl) (by kernel_rfl) (by kernel_rfl) (fun _ _ _ h => h) (Or.inl ⟨by rfl, ?_⟩) (by with_reducible assumption) ?_; rotate_left 1; (focus (intro W hSw; clear hSw; simp only [o19]; go_simp; (first | done | with_reducible rfl))); (simp only [Act.put, o19, List.setIfInBounds_toArray, List.set_cons_zero, List.set_cons_succ])
            refine wpAnyH_take (i := 21) (oi := o21) (v := ?_) rfl (by kernel_rfl) (by kernel_rfl) (by kernel_rfl) (fun _ _ _ h => h) (Or.inl ⟨by rfl, ?_⟩) (by with_reducible assumption) ?_; rotate_left 1; (focus (intro W hSw; clear hSw; simp only [o21]; go_simp; (first | done | with_reducible rfl))); (simp only [Act.put, o21, List.setIfInBounds_toArray, List.set_cons_zero, List.set_cons_succ])
            refine wpAnyH_take (i := 22) (oi := o22) (v := ?_) rfl (by kernel_rfl) (by kernel_rfl) (by kernel_rfl) (fun _ _ _ h => h) (Or.inl ⟨by rfl, ?_⟩) (by with_reducible assumption) ?_; rotate_left 1; (focus (intro W hSw; clear hSw; simp only [o22]; go_simp; (first | done | with_reducible rfl))); (simp only [Act.put, o22, List.setIfInBounds_toArray, List.set_cons_zero, List.set_cons_succ])
            refine wpAnyH_done (by kernel_rfl) ?_ _
            go_wp2
            go_ret
            refine ⟨?_, ?_⟩
            · refine congrArg (fun t => Ending.returned (.string t)) (bytes_ext ?_)
              simp only [ByteArray.data_append, Array.toList_append]
              exact HP.out
            · exact (show ST w so _ _ from by with_reducible assumption).1
end Go.Proofs.Ytjobhlncllfdmaa
