/- Contract of strata.Runs. -/
import Derived.Test.YtjobhlncllfdmaaProI
namespace Go.Proofs.Ytjobhlncllfdmaa
open Go.RowKit

set_option maxHeartbeats 1000000 in
theorem runsP_bad (v : Value) (W C : Int) (w : World) (hW : (Lit.int .i64 W).wf = true) (hC : (Lit.int .i64 C).wf = true) (hbad : W < 0 ∨ 24 < W ∨ C < 0 ∨ 100000 < C) :
    Calls Try.prog 6 #[v, .int .i64 W, .int .i64 C] w fun e w' => e = .returned (.tuple #[.slice none 0 0, .int .i64 0, .int .i64 1]) ∧ w' = w := by
  have H : Hid (Calls Try.prog 17 #[v, .int .i64 W, .int .i64 C] w fun e w' => e = .returned (.tuple #[.slice none 0 0, .int .i64 0, .int .i64 1]) ∧ w' = w) := read_bad v W C w hW hC hbad
  clear hW hC hbad
  go_enter Try.func6, Try.ntmps6
  go_wp2_with fail
  refine H.out.mono ?_
  rintro e w' ⟨rfl, rfl⟩
  go_wp2
  go_ret3
  exact ⟨rfl, rfl⟩

theorem ReadAns.form {B : Nat} {r : Option (List Nat × Nat)} {e : Ending} {w' : World} (h : ReadAns B r e w') : ∃ v x y, e = .returned (.tuple #[v, x, y]) := by
  unfold ReadAns at h
  split at h
  · exact ⟨_, _, _, h⟩
  · obtain ⟨v, h, _⟩ := h
    exact ⟨_, _, _, h⟩

set_option maxHeartbeats 1000000 in
theorem runsP_any (ao : Option Addr) (cap lb W C : Nat) (D : List UInt8) (w : World) (hr : Rest w lb ao cap D) (hlb : lb < w.heap.size) (hW : W ≤ 24) (hC : C ≤ 100000) :
    Calls Try.prog 6 #[.slice ao D.length cap, .int .i64 W, .int .i64 C] w fun e w' => ReadAns w.heap.size (Pu.rs D W C C 0 []) e w' ∧ Below w.heap.size w w' := by
  have H : Hid (Calls Try.prog 17 #[.slice ao D.length cap, .int .i64 W, .int .i64 C] w fun e w' => ∃ v x y, e = .returned (.tuple #[v, x, y]) ∧ ReadAns w.heap.size (Pu.rs D W C C 0 []) (.returned (.tuple #[v, x, y])) w' ∧ Below w.heap.size w w') := by
    refine (read_any ao cap lb W C D w hr hlb hW hC).mono ?_
    rintro e w' ⟨h1, h2⟩
    obtain ⟨v, x, y, rfl⟩ := h1.form
    exact ⟨v, x, y, rfl, h1, h2⟩
  clear hr
  go_enter Try.func6, Try.ntmps6
  go_wp2_with fail
  refine H.out.mono ?_
  rintro e w' ⟨v, x, y, rfl, h1, h2⟩
  go_wp2
  go_ret3
  exact ⟨h1, h2⟩

end Go.Proofs.Ytjobhlncllfdmaa
