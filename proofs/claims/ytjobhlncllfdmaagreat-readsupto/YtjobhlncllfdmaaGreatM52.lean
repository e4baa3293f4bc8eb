/- The columns that come in: their cells, their bulk. -/
import Derived.Test.YtjobhlncllfdmaaGreatM43
import Derived.Test.YtjobhlncllfdmaaGreatRows
import Derived.Deep.Slices
import Derived.OpenShut
namespace Go.Proofs.YtjobhlncllfdmaaGreat
open Go.RowKit Go.Deep Go.ChangeShapes Go.WideShapes

theorem under54 : (match Tryz.prog.underlying 54 with
    | some (.struct fs) => some (fs.toList.map (fun f => (f.type, f.offset)))
    | _ => none) = some [(9, 0), (52, 1), (4, 2)] := by kernel_rfl
theorem cells54 : Tryz.prog.cellsOf 54 = 3 := by kernel_rfl
theorem cells9 : Tryz.prog.cellsOf 9 = 1 := by kernel_rfl
theorem cells52 : Tryz.prog.cellsOf 52 = 1 := by kernel_rfl
theorem cells4 : Tryz.prog.cellsOf 4 = 1 := by kernel_rfl

def rawD {H : Type} (c : RawC) : DataW H := .agg [.lit (.string c.1.data.toList), .lit (.int .i64 c.2.1), .lit (.bool c.2.2)]

section
variable {H : Type} {enc : TypeId × Value → H} {w : World} {base : Nat} {spare : Nat → Bool} {held : Bool}

set_option maxRecDepth 100000 in
theorem one_col {n : Nat} {cs : List Value} {x : DataW H × List MemPlace} (h : DataW.trod enc Tryz.prog w base spare held n 54 cs = some x) : ∃ c : RawC, cs = [.string c.1, .int .i64 c.2.1, .bool c.2.2] ∧ x.1 = rawD c := by
  have hu := under54
  split at hu
  · rename_i fs hfs
    simp only [Option.some.injEq] at hu
    obtain ⟨f0, f1, f2, hf⟩ : ∃ f0 f1 f2, fs = #[f0, f1, f2] := by
      have hl : fs.toList.length = 3 := by have := congrArg List.length hu; simpa using this
      obtain ⟨l⟩ := fs
      match l, hl with
      | [a, b, c], _ => exact ⟨a, b, c, rfl⟩
    subst hf
    simp only [List.map_cons, List.map_nil, List.cons.injEq, Prod.mk.injEq, and_true] at hu
    obtain ⟨⟨a0, b0⟩, ⟨a1, b1⟩, a2, b2⟩ := hu
    obtain ⟨xs, k, _, hx, hl, hxl, hf⟩ := DataW.trod_struct hfs h
    have g0 := hf 0 f0 rfl
    have g1 := hf 1 f1 rfl
    have g2 := hf 2 f2 rfl
    rw [cells54] at hl
    rw [a0, b0, cells9] at g0
    rw [a1, b1, cells52] at g1
    rw [a2, b2, cells4] at g2
    match xs, hxl, cs, hl with
    | [y0, y1, y2], _, [v0, v1, v2], _ =>
      simp at g0 g1 g2
      obtain ⟨s, e1, e2, _⟩ := DataW.trod_string Tryz.underlying9 g0
      obtain ⟨z, e3, e4, _⟩ := DataW.trod_int Tryz.underlying52 g1
      obtain ⟨o, e5, e6⟩ := DataW.trod_bool Tryz.underlying4 g2
      simp only [List.cons.injEq, and_true] at e1 e3 e5
      subst e1 e3 e5
      refine ⟨(s, z, o), rfl, ?_⟩
      rw [hx, e2, e4, e6]
      rfl
  · cases hu

set_option maxRecDepth 100000 in
theorem open_cols {v : Value} {d : DataW H} {ps : List MemPlace} {r : Reach} {b0 : Nat} (hval : Value.okWide Tryz.prog w r b0 22 v) (h : DataW.Trod enc Tryz.prog w 0 (fun _ => true) true 22 v d ps) :
    (∃ ao cap, v = .slice ao 0 cap) ∨ ∃ (gb go cap : Nat) (cl : List RawC) (sp : List (DataW H)), v = .slice (some ⟨gb, go, none⟩) cl.length cap ∧ RawAt w gb go cl ∧ d = .slice (cl.map rawD) sp := by
  obtain ⟨va, vn, vcap, rfl⟩ := okWide_slice Tryz.underlying22 hval
  obtain ⟨fuel, h⟩ := h
  rcases open_slice Tryz.underlying22 h with ⟨h0, _⟩ | ⟨a, len, cap, m, n, D, Pl, hv, hb, hl, hm, hmm, hx, hi⟩
  · left
    have h1 : Value.slice va vn vcap = .slice none 0 0 := by simpa [Value.cells] using h0
    exact ⟨none, 0, h1⟩
  · have hve : Value.slice va vn vcap = .slice (some a) len cap := by simpa [Value.cells] using hv
    by_cases h0 : len = 0
    · left; exact ⟨some a, cap, by rw [hve, h0]⟩
    · right
      have hlm : len ≤ m := by rw [hmm]; split <;> omega
      have each : ∀ i, i < len → ∃ c : RawC, w.cell? (a.add (i * 3)) = some (.string c.1) ∧ w.cell? (a.add (i * 3 + 1)) = some (.int .i64 c.2.1) ∧ w.cell? (a.add (i * 3 + 2)) = some (.bool c.2.2) ∧ D i = rawD c := fun i hlt => by
        obtain ⟨cs', h1, h2⟩ := hi i (by omega)
        rw [cells54] at h1
        obtain ⟨_, _, hcell⟩ := World.cells?_some h1
        obtain ⟨c, rfl, hc⟩ := one_col h2
        have e0 := hcell 0 (by omega)
        have e1 := hcell 1 (by omega)
        have e2 := hcell 2 (by omega)
        rw [add_add] at e0 e1 e2
        exact ⟨c, by simpa using e0, by simpa using e1, by simpa using e2, hc⟩
      obtain ⟨f, hf⟩ := choose_lt each
      obtain ⟨b, off, spot⟩ := a
      have hspot : spot = none := by simpa [Addr.add] using World.cell?_spot (hf 0 (by omega)).1
      subst hspot
      refine ⟨b, off, cap, (List.range len).map f, (List.range (m - len)).map fun j => D (len + j), by rw [hve]; simp, ⟨?_, fun i hi2 => ?_⟩, ?_⟩
      · exact World.block_lt_of_cell? w ⟨b, off, none⟩ (by have := (hf 0 (by omega)).1; simpa [Addr.add] using this)
      · have hil : i < len := by simpa using hi2
        obtain ⟨q0, q1, q2, _⟩ := hf i hil
        rw [add_plain] at q0 q1 q2
        simp only [List.getElem_map, List.getElem_range]
        exact ⟨q0, by rw [Nat.add_assoc]; exact q1, by rw [Nat.add_assoc]; exact q2⟩
      · have := congrArg Prod.fst hx
        simp only at this
        rw [this]
        congr 1
        rw [List.map_map]
        exact List.map_congr_left (fun i hi2 => (hf i (by simpa using hi2)).2.2.2)

theorem bulk_cols : ∀ cl : List RawC, Rows.uptoBulkAll (cl.map (rawD (H := H))) ≤ 1048576 → (cl.flatMap hs1).length ≤ 2 * Rows.uptoBulkAll (cl.map (rawD (H := H))) ∧ cl.length ≤ Rows.uptoBulkAll (cl.map (rawD (H := H))) := by
  intro cl
  induction cl with
  | nil => intro _; exact ⟨Nat.zero_le _, Nat.zero_le _⟩
  | cons c r ih =>
    intro h
    have e : Rows.uptoBulkAll ((c :: r).map (rawD (H := H))) = c.1.size + 4 + Rows.uptoBulkAll (r.map (rawD (H := H))) := by
      rw [List.map_cons]
      simp only [Rows.uptoBulkAll, rawD, Rows.uptoBulk, len_data] <;> omega
    rw [e] at h
    obtain ⟨i1, i2⟩ := ih (by omega)
    have l1 : (hs1 c).length = (vb c.1.size).length + c.1.size + 1 := by
      unfold hs1
      rw [List.length_append, List.length_append, len_data]
      simp
    have l2 := length_vb8 (n := c.1.size) (by omega)
    rw [e, List.flatMap_cons, List.length_append, List.length_cons, l1]
    omega
end
end Go.Proofs.YtjobhlncllfdmaaGreat
