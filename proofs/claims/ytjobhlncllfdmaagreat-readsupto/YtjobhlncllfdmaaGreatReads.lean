/- For every text s, budget, pages, columns and groups whose values and letters are together at most 1048576, the call of Reads returns true and its arguments read as they did (P7: Read of any bytes, and of any pages and groups with what belongs around them, answers as the document's own answer does, writes into nothing that was lent, and gives new memory). -/
import Derived.Test.YtjobhlncllfdmaaGreatM51
import Derived.Test.YtjobhlncllfdmaaGreatM52
import Derived.Test.YtjobhlncllfdmaaGreatM53
import Derived.ProofKit
import Derived.OpenShut
import Derived.JoinedCond
import Derived.Carry
namespace Go.Proofs.YtjobhlncllfdmaaGreat.reads
open Go.ChangeShapes Go.WideShapes Go.ChangeAt Go.RowKit
open Go.ChangeMaps (open_string shut_string)

theorem own : ownKnob Tryz.prog.godebug = none := by kernel_rfl
theorem laidOut : laidOutB Tryz.prog = true := by kernel_rfl

theorem pages_doc : Hid (∀ W : World, Calls Tryz.prog 28 #[.int .i64 0, .int .i64 2, .string ⟨exVals.toArray⟩] W fun e w' => e = .returned (.string ⟨(pageL' 0 2 exVals).toArray⟩) ∧ Below W.heap.size W w') := fun W => by
  have := pageOf_any 0 2 ⟨exVals.toArray⟩ W (by decide) (by decide) (by rw [← len_data]; simp [exVals_lit])
  exact this

set_option maxRecDepth 100000 in
theorem contract (H : Type) (enc : TypeId × Value → H) (W : World) (base : Nat) (args : Array Value) (ds gs : List (DataW H)) (before : List MemPlace)
    (hval : ∀ (j : Nat) t v, Tryz.f3.params[j]? = some t → args[j]? = some v → Value.okWide Tryz.prog W .any base t v)
    (hW : DataW.Whole enc Tryz.prog Tryz.f3.params.toList Rows.readsSpec.vars false W args.toList ds gs before) (hk : Rows.uptoSmall H (ds ++ gs) = true) :
    Calls Tryz.prog 3 args W fun e W' => ∃ v, e = .returned v ∧ Rows.readsSpec.post enc Tryz.prog Tryz.f3 false true false false W args v W' := by
  have hW' := hW
  obtain ⟨p, q, hA0, hV, rfl, hfz, hnd⟩ := hW
  have hA : DataW.TrodAll enc Tryz.prog W 0 (fun _ => true) true Tryz.f3.params.toList args.toList ds p := hA0
  rw [Tryz.params3] at hA hval
  obtain ⟨v0, vs0, d0, ds0, p0, q0, hargs, rfl, rfl, h0, r0⟩ := trodAll_cons hA
  obtain ⟨v1, vs1, d1, ds1, p1, q1, rfl, rfl, rfl, h1, r1⟩ := trodAll_cons r0
  obtain ⟨v2, vs2, d2, ds2, p2, q2, rfl, rfl, rfl, h2, r2⟩ := trodAll_cons r1
  obtain ⟨v3, vs3, d3, ds3, p3, q3, rfl, rfl, rfl, h3, r3⟩ := trodAll_cons r2
  obtain ⟨v4, vs4, d4, ds4, p4, q4, rfl, rfl, rfl, h4, r4⟩ := trodAll_cons r3
  obtain ⟨rfl, rfl, rfl⟩ := trodAll_nil r4
  obtain rfl : args = #[v0, v1, v2, v3, v4] := by cases args; simp_all
  obtain ⟨rfl, rfl⟩ := trodVars_none hV
  obtain ⟨a0, rfl, rfl, rfl, m0⟩ := open_string Tryz.underlying9 (hval 0 9 v0 rfl rfl) h0
  obtain ⟨a1, rfl, rfl, rfl, m1⟩ := open_int Tryz.underlying3 (hval 1 3 v1 rfl rfl) h1
  obtain ⟨a2, rfl, rfl, rfl, m2⟩ := open_string Tryz.underlying9 (hval 2 9 v2 rfl rfl) h2
  obtain ⟨a4, rfl, rfl, rfl, m4⟩ := open_string Tryz.underlying9 (hval 4 9 v4 rfl rfl) h4
  clear hA0
  simp only [List.append_nil, List.nil_append] at hW' hk
  have hb : Rows.uptoBulkAll [DataW.lit (H := H) (.string a0.data.toList), .lit (.int .i64 a1), .lit (.string a2.data.toList), d3, .lit (.string a4.data.toList)] ≤ 1048576 := of_decide_eq_true hk
  simp only [Rows.uptoBulkAll, Rows.uptoBulk, len_data] at hb
  have hlt : ∀ x ∈ p3, x.block < W.heap.size := fun x hx => by simpa using hW'.lt x hx
  have SE : Hid (∀ X : World, Below W.heap.size W X → Calls Tryz.prog 10 #[.string a2, v3, .string a4] X fun e w' => ∃ t, e = .returned (.string t) ∧ t.size ≤ 1073741824 ∧ Below X.heap.size X w') := fun X hX => by
    rcases open_cols (hval 3 22 v3 rfl rfl) h3 with ⟨ao, cap, rfl⟩ | ⟨gb, go, cap, cl, sp, rfl, hraw, hd⟩
    · exact sealed_nil a2 a4 ao cap X (by omega) (by omega)
    · rw [hd] at hb
      simp only [Rows.uptoBulk] at hb
      obtain ⟨b1, b2⟩ := bulk_cols (H := H) cl (by omega)
      have hl : (heads cl).length ≤ 10000000 := by
        unfold heads
        rw [List.length_append]
        have := length_vb8 (n := cl.length) (by omega)
        omega
      exact sealed_any a2 a4 gb go cap cl X (hraw.below hX) (by omega) hl (by omega) (by omega)
  refine (reads_top a0 a2 a4 a1 v3 W (by omega) SE pages_doc).mono fun e W' ⟨he, bel⟩ => ?_
  subst he
  have t3 := Below.trod laidOut (by kernel_rfl) (of_decide_eq_true (by kernel_rfl)) h3 bel hlt
  have t34 : DataW.TrodAll enc Tryz.prog W' 0 (fun b => decide (b < W.heap.size)) true [22, 9] [v3, Value.string a4] [d3, DataW.lit (Lit.string a4.data.toList)] (p3 ++ ([] ++ [])) := trodAll_cons_mk t3 (trodAll_cons_mk (shut_string Tryz.underlying9 m4) trodAll_mk0)
  rw [List.append_nil, List.append_nil] at t34
  refine ⟨_, rfl, _, _, _, [], p3, [], hW', trodAll_cons_mk (shut_bool Tryz.underlying4 _) trodAll_mk0, ?_, rfl, bel.frame _, fun h => by cases h⟩
  exact trodAll_cons_mk (shut_string Tryz.underlying9 m0) (trodAll_cons_mk (shut_int Tryz.underlying3 m1) (trodAll_cons_mk (shut_string Tryz.underlying9 m2) t34))

set_option maxRecDepth 100000 in
theorem lifted (os : Os) (started : os.Started) (H : Type) (enc : TypeId × Value → H) (F : Stop.Interp) :
    ReturnsInHanded {} Tryz.checked os 3 .any ((Rows.OpenSpec.upto Rows.readsSpec).pre6 enc Tryz.prog Tryz.f3 Rows.readsUptoRow.domain false) (((Rows.OpenSpec.upto Rows.readsSpec).at F).post enc Tryz.prog Tryz.f3 false true false false) := by
  refine returnsInHanded_of_cond (C := Tryz.checked) (s := Rows.OpenSpec.upto Rows.readsSpec) (k := Rows.uptoSmall) rfl own started (by kernel_rfl) Tryz.func3
    (OpenSpec.witness (enc := enc) (C := Tryz.checked) (s := Rows.OpenSpec.upto Rows.readsSpec) (k := Rows.uptoSmall) rfl false ⟨#[], #[.string .empty, .int .i64 0, .string .empty, .slice none 0 0, .string .empty], []⟩ 8 (by kernel_rfl) (by kernel_rfl) (by kernel_rfl)
      (x := ([.lit (.string []), .lit (.int .i64 0), .lit (.string []), .nil, .lit (.string [])], [], [])) (by kernel_rfl) rfl (by kernel_rfl)) ?_
  intro W base args ds gs before hval hW _ hk _
  exact contract H enc W base args ds gs before hval hW hk

theorem over : Rows.ReadsUptoSaid :=
  OpenClaim.holds_of_cond 3 Tryz.f3 rfl rfl rfl rfl rfl rfl rfl ⟨rfl, rfl, rfl, rfl, rfl⟩ rfl rfl rfl rfl rfl (by kernel_rfl) Tryz.func3 (by kernel_rfl)
    (of_decide_eq_true (by kernel_rfl)) (by unfold Func.isWrapper; first | (rw [if_pos (by decide +kernel)]; kernel_rfl) | (rw [if_neg (by decide +kernel)]; exact ⟨rfl, rfl⟩))
    (fun os started H enc _ F => lifted os started H enc F)

end Go.Proofs.YtjobhlncllfdmaaGreat.reads
namespace Go.Proofs.YtjobhlncllfdmaaGreat
theorem reads_upto_said : Rows.ReadsUptoSaid := reads.over
#print axioms reads_upto_said
end Go.Proofs.YtjobhlncllfdmaaGreat
