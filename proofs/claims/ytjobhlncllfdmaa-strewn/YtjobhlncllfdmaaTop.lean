/- Strewn: its walk. -/
import Derived.Test.YtjobhlncllfdmaaBokL
import Derived.Test.YtjobhlncllfdmaaBokJ
namespace Go.Proofs.Ytjobhlncllfdmaa
open Go.RowKit

theorem bruns_any (B b : Nat) (U : Nat → Prop) (bs is : List (Value × Int)) (s : ByteArray) (W C : Int) (w : World) (hBk : Book w B b U bs is) (hs : s.size ≤ 140737488355000) (hbs : bs.length ≤ 900000) (his : is.length ≤ 900000)
    (hW : (Lit.int .i64 W).wf = true) (hC : (Lit.int .i64 C).wf = true) :
    Calls Try.prog 7 #[.pointer (some ⟨b, 0, none⟩), .string s, .int .i64 W, .int .i64 C] w fun e w' => e = .returned (.bool true) ∧ BookOn w B b bs.length is.length w' := by
  by_cases hbad : W < 0 ∨ 24 < W ∨ C < 0 ∨ 100000 < C
  · exact bruns_bad B b U bs is s W C w hBk hs hbs hW hC hbad
  · obtain ⟨W', rfl⟩ := Int.eq_ofNat_of_zero_le (show 0 ≤ W by omega)
    obtain ⟨C', rfl⟩ := Int.eq_ofNat_of_zero_le (show 0 ≤ C by omega)
    exact bruns_good B b U bs is s W' C' w hBk hs hbs his (by omega) (by omega)

theorem first_rs : Pu.rs [16, 1] 1 8 8 0 [] = some ([1, 1, 1, 1, 1, 1, 1, 1], 2) := by decide

theorem Book.start (w : World) : Book (w.alloc (.cells #[.int .i64 0, nilS, nilS, nilS, nilS, nilS, nilS, nilS, nilS, nilS, nilS] 31)) w.heap.size w.heap.size (fun k => k = w.heap.size) [] [] := by
  have lane : ∀ (W : World) (E e : TypeId) (kd : IntKind), Lane W w.heap.size (fun k => k = w.heap.size) E e kd nilS nilS (lists []) (marks kd []) [] := by
    intro W E e kd
    refine ⟨World.ownsRow_nil _ _ _ _, World.ownsRow_nil _ _ _ _, ?_, ?_, ?_⟩
    · intro p hp; cases hp
    · intro k hk; cases hk
    · intro k hk; cases hk
  exact ⟨0, nilS, nilS, nilS, nilS, heap_alloc_new w _, lane _ _ _ _, lane _ _ _ _, rfl, fun k hk => by subst hk; exact ⟨Nat.le_refl _, by rw [size_alloc']; omega⟩⟩

set_option maxHeartbeats 2000000 in
set_option maxRecDepth 100000 in
theorem strewn_any (s : ByteArray) (W C : Int) (w : World) (hs : s.size ≤ 140737488355000) (hW : (Lit.int .i64 W).wf = true) (hC : (Lit.int .i64 C).wf = true) :
    Calls Try.prog 3 #[.string s, .int .i64 W, .int .i64 C] w fun e w' => e = .returned (.bool true) ∧ Below w.heap.size w w' := by
  have HB : Hid (Book (w.alloc (.cells #[.int .i64 0, nilS, nilS, nilS, nilS, nilS, nilS, nilS, nilS, nilS, nilS] 31)) w.heap.size w.heap.size (fun k => k = w.heap.size) [] []) := Book.start w
  have HR : Hid (∀ (w : World) (b : Nat) (U : Nat → Prop) (bs is : List (Value × Int)) (B : Nat), Book w B b U bs is → bs.length ≤ 900000 → is.length ≤ 900000 → Calls Try.prog 7 #[.pointer (some ⟨b, 0, none⟩), .string s, .int .i64 W, .int .i64 C] w fun e w' => e = .returned (.bool true) ∧ BookOn w B b bs.length is.length w') :=
    fun w b U bs is B h h1 h2 => bruns_any B b U bs is s W C w h hs h1 h2 hW hC
  obtain ⟨W0, hW0⟩ : ∃ W0, W0 = w.alloc (.cells #[.int .i64 0, nilS, nilS, nilS, nilS, nilS, nilS, nilS, nilS, nilS, nilS] 31) := ⟨_, rfl⟩
  have hsz0 : W0.heap.size = w.heap.size + 1 := by rw [hW0, size_alloc']
  have hb0 : Below w.heap.size w W0 := by rw [hW0]; exact (Below.refl _ _).alloc (Nat.le_refl _) _
  have HX : Hid (Calls Try.prog 6 #[.slice (some ⟨w.heap.size + 1, 0, none⟩) 2 2, .int .i64 1, .int .i64 8] ((w.alloc (.cells #[.int .i64 0, nilS, nilS, nilS, nilS, nilS, nilS, nilS, nilS, nilS, nilS] 31)).alloc (.cells #[.int .u8 16, .int .u8 1] 5))
      fun e w' => ∃ g cap, e = .returned (.tuple #[.slice (some ⟨g, 0, none⟩) 8 cap, .int .i64 2, .int .i64 0]) ∧ w'.cell? ⟨g, 0, none⟩ = some (.int .i64 1) ∧ w'.cell? ⟨g, 7, none⟩ = some (.int .i64 1) ∧ Book w' w.heap.size w.heap.size (fun k => k = w.heap.size) [] [] ∧ Below w.heap.size w w') := by
    rw [← hW0] at HB ⊢
    have hrest : Rest (W0.alloc (.cells #[.int .u8 16, .int .u8 1] 5)) W0.heap.size (some ⟨W0.heap.size, 0, none⟩) 2 [16, 1] := by
      refine ⟨by decide, by unfold maxLen; omega, .inr ⟨0, rfl, fun j hj => ?_⟩⟩
      rw [cell_of_row _ _ _ _ _ _ (heap_alloc_new W0 _)]
      match j, hj with
      | 0, _ => rfl
      | 1, _ => rfl
    have hc := runsP_any (some ⟨W0.heap.size, 0, none⟩) 2 W0.heap.size 1 8 [16, 1] _ hrest (by rw [size_alloc']; omega) (by omega) (by omega)
    rw [first_rs] at hc
    rw [← hsz0]
    refine hc.mono ?_
    rintro e w' ⟨⟨v, rfl, hv⟩, hbel⟩
    obtain ⟨g, cap, hvf, _, _⟩ := hv.form (by decide)
    rw [hvf] at hv
    subst hvf
    refine ⟨g, cap, rfl, by rw [hv.cellAt 0 (by decide)]; rfl, by rw [hv.cellAt 7 (by decide)]; rfl, (HB.out.below ((Below.refl W0.heap.size W0).alloc (Nat.le_refl _) _) (Nat.le_refl _)).below hbel (Nat.le_refl _), ?_⟩
    exact (hb0.alloc (by omega) _).trans (hbel.mono (by rw [size_alloc']; omega))
  clear hW hC hb0 hsz0 hW0 HB
  unfold nilS at HX
  go_enter Try.func3, Try.ntmps3
  go_wp2_with fail
  refine HX.out.mono ?_
  rintro e w1 ⟨g, cap, rfl, hc0, hc7, hBk, hbel⟩
  have H1 : Hid (Calls Try.prog 7 #[.pointer (some ⟨w.heap.size, 0, none⟩), .string s, .int .i64 W, .int .i64 C] w1 fun e w' => e = .returned (.bool true) ∧ BookOn w1 w.heap.size w.heap.size 0 0 w') := HR.out w1 w.heap.size _ [] [] w.heap.size hBk (by simp) (by simp)
  clear hBk HX
  go_wp2_with fail
  refine H1.out.mono ?_
  rintro e w2 ⟨rfl, U2, bs2, is2, hB2, hl2, hm2, hbel2⟩
  have H2 : Hid (Calls Try.prog 7 #[.pointer (some ⟨w.heap.size, 0, none⟩), .string s, .int .i64 W, .int .i64 C] w2 fun e w' => e = .returned (.bool true) ∧ BookOn w2 w.heap.size w.heap.size bs2.length is2.length w') := HR.out w2 w.heap.size _ bs2 is2 w.heap.size hB2 (by omega) (by omega)
  clear hB2 H1
  go_wp2_with fail
  refine H2.out.mono ?_
  rintro e w3 ⟨rfl, U3, bs3, is3, hB3, hl3, hm3, hbel3⟩
  have H3 : Hid (Calls Try.prog 8 #[.pointer (some ⟨w.heap.size, 0, none⟩)] w3 fun e w' => e = .returned (.bool true) ∧ ∃ n, w' = w3.drewN n) := looks_any w.heap.size w.heap.size U3 bs3 is3 w3 hB3 (by omega) (by omega)
  clear hB3 H2
  go_wp2_with fail
  refine H3.out.mono ?_
  rintro e w4 ⟨rfl, n, hw4⟩
  have hbel4 : Below w.heap.size w w4 := by rw [hw4]; exact below_drewN ((hbel.trans hbel2).trans hbel3) n
  clear hw4
  go_wp2
  go_ret
  exact ⟨rfl, hbel4⟩

end Go.Proofs.Ytjobhlncllfdmaa
