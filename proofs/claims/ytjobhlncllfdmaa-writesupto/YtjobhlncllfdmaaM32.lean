/- The program's table.mayBe. -/
import Derived.Test.YtjobhlncllfdmaaM31
namespace Go.Proofs.Ytjobhlncllfdmaa
open Go.RowKit Go.Maps

/-- may the table be written? -/
def tabOk (rs : List RC) (ts : List (List Pu.Cl)) (rows : Nat) : Bool := shapeOk rs ts rows && colsOk rs && cellsOk rs ts

theorem shapeOk_spec {rs : List RC} {ts : List (List Pu.Cl)} {rows : Nat} (h : shapeOk rs ts rows = true) : 1 ≤ rs.length ∧ rs.length ≤ 20 ∧ ts.length = rs.length ∧ (∀ t ∈ ts, t.length = nRows ts) ∧ nRows ts ≤ 5000 ∧ nRows ts ≤ rows * 50 := by
  unfold shapeOk sameLen at h
  simp only [Bool.and_eq_true, decide_eq_true_eq, List.all_eq_true] at h
  obtain ⟨⟨⟨⟨⟨h1, h2⟩, h3⟩, h4⟩, h5⟩, h6⟩ := h
  exact ⟨h1, h2, h3, h4, h5, h6⟩

set_option maxHeartbeats 8000000 in
set_option maxRecDepth 100000 in
theorem mayBe_any (Bt rows : Nat) (ac : Option Addr) (cc : Nat) (at' : Option Addr) (ct : Nat) (rs : List RC) (ts : List (List Pu.Cl)) (lbc lbt : Nat) (vs : List Value) (w : World) (hT : TR w Bt ac cc at' ct rs ts lbc lbt vs) (hBt : Bt ≤ w.heap.size) (hrl : rs.length ≤ 10000000) (htl : ts.length ≤ 10000000) (hrows : rows ≤ 1000) :
    Calls Try.prog 56 #[.agg #[.slice ac rs.length cc, .slice at' ts.length ct], .int .i64 rows] w fun e w' => e = .returned (.bool (tabOk rs ts rows)) ∧ Below w.heap.size w w' := by
  obtain ⟨S, hS⟩ : ∃ S, S = w.heap.size := ⟨_, rfl⟩
  obtain ⟨N, hN⟩ : ∃ N, N = rs.length := ⟨_, rfl⟩
  obtain ⟨T, hTl⟩ : ∃ T, T = ts.length := ⟨_, rfl⟩
  obtain ⟨W1, hW1⟩ : ∃ W1, W1 = w.alloc (.cells #[.slice ac N cc, .slice at' T ct] 50) := ⟨_, rfl⟩
  have s1 : W1.heap.size = S + 1 := by rw [hW1, size_alloc', hS]
  have b1 : Below S w W1 := by rw [hS, hW1]; exact bbox w _
  have r1 : W1.heap[S]? = some (.cells #[.slice ac N cc, .slice at' T ct] 50 (0, 0)) := by rw [hW1, hS]; exact heap_alloc_new w _
  have kept : ∀ W : World, Below S w W → TR W Bt ac cc at' ct rs ts lbc lbt vs := fun W hW => hT.kept (fun j hj => hW.block j (by omega))
  have cells : ∀ W : World, W.heap[S]? = W1.heap[S]? → W.cell? ⟨S, 0, none⟩ = some (.slice ac N cc) ∧ W.cell? ⟨S, 1, none⟩ = some (.slice at' T ct) := fun W hW => by
    have : W.heap[S]? = some (.cells #[.slice ac N cc, .slice at' T ct] 50 (0, 0)) := by rw [hW]; exact r1
    exact ⟨by rw [cell_of_row _ _ 0 _ _ _ this]; rfl, by rw [cell_of_row _ _ 1 _ _ _ this]; rfl⟩
  obtain ⟨q0, q1⟩ := cells W1 rfl
  have C1 : Hid (Calls Try.prog 68 #[.agg #[.slice ac N cc, .slice at' T ct], .int .i64 rows] W1 fun e w2 => e = .returned (.bool (shapeOk rs ts rows)) ∧ w2.cell? ⟨S, 0, none⟩ = some (.slice ac N cc) ∧ w2.cell? ⟨S, 1, none⟩ = some (.slice at' T ct) ∧ Below S w w2 ∧
      (shapeOk rs ts rows = true → Calls Try.prog 69 #[.slice ac N cc] w2 fun e w3 => e = .returned (.bool (colsOk rs)) ∧ w3.cell? ⟨S, 0, none⟩ = some (.slice ac N cc) ∧ w3.cell? ⟨S, 1, none⟩ = some (.slice at' T ct) ∧ Below S w w3 ∧
        Calls Try.prog 70 #[.agg #[.slice ac N cc, .slice at' T ct]] w3 fun e w4 => e = .returned (.bool (cellsOk rs ts)) ∧ Below S w w4)) := by
    have := hasShape_any Bt rows ac cc at' ct rs ts lbc lbt vs W1 (kept W1 b1) (by omega) hrl htl hrows
    rw [← hN, ← hTl] at this
    refine this.mono ?_
    rintro e w2 ⟨rfl, hb2⟩
    have hb2s := hb2.size
    have bw2 : Below S w w2 := b1.trans (hb2.mono (by omega))
    obtain ⟨x0, x1⟩ := cells w2 (hb2.block S (by omega))
    refine ⟨rfl, x0, x1, bw2, fun hsh => ?_⟩
    obtain ⟨g1, g2, g3, _⟩ := shapeOk_spec hsh
    have hT2 := kept w2 bw2
    have key := hasColumns_any lbc cc ac rs w2 hT2.cols (by have := hT.lbc; omega) (by omega) hT.names
    rw [← hN] at key
    refine key.mono ?_
    rintro e w3 ⟨rfl, hb3⟩
    have hb3s := hb3.size
    have bw3 : Below S w w3 := bw2.trans (hb3.mono (by omega))
    obtain ⟨y0, y1⟩ := cells w3 (by rw [hb3.block S (by omega), hb2.block S (by omega)])
    refine ⟨rfl, y0, y1, bw3, ?_⟩
    have key2 := hasCells_any Bt ac cc at' ct rs ts lbc lbt vs w3 (kept w3 bw3) (by omega) g3.symm g2
    rw [← hN, ← hTl] at key2
    refine key2.mono ?_
    rintro e w4 ⟨rfl, hb4⟩
    exact ⟨rfl, bw3.trans (hb4.mono (by omega))⟩
  obtain ⟨f1, hf1⟩ : ∃ f1, f1 = shapeOk rs ts rows := ⟨_, rfl⟩
  obtain ⟨f2, hf2⟩ : ∃ f2, f2 = colsOk rs := ⟨_, rfl⟩
  obtain ⟨f3, hf3⟩ : ∃ f3, f3 = cellsOk rs ts := ⟨_, rfl⟩
  have hR : tabOk rs ts rows = (f1 && f2 && f3) := by unfold tabOk; rw [hf1, hf2, hf3]
  rw [hR, ← hN, ← hTl, ← hS]
  rw [← hf1, ← hf2, ← hf3] at C1
  have hW1' : w.alloc (.cells #[.slice ac N cc, .slice at' T ct] 50) = W1 := hW1.symm
  have hsz : w.heap.size = S := hS.symm
  clear hT hN hTl hW1 hS b1 r1 hR hBt kept cells s1 hf1 hf2 hf3 hrl htl
  cases f1
  · go_enter Try.func56, Try.ntmps56
    go_wp2_with fail
    refine C1.out.mono ?_
    rintro e w2 ⟨rfl, x0, x1, hb, _⟩
    go_wp2
    go_ret
    exact ⟨by simp, hb⟩
  · cases f2
    · go_enter Try.func56, Try.ntmps56
      go_wp2_with fail
      refine C1.out.mono ?_
      rintro e w2 ⟨rfl, x0, x1, hb, C2⟩
      have C2' := hid (C2 (by simp))
      clear C2 C1
      go_wp2_with fail
      refine C2'.out.mono ?_
      rintro e w3 ⟨rfl, y0, y1, hb3, _⟩
      go_wp2
      go_ret
      exact ⟨by simp, hb3⟩
    · go_enter Try.func56, Try.ntmps56
      go_wp2_with fail
      refine C1.out.mono ?_
      rintro e w2 ⟨rfl, x0, x1, hb, C2⟩
      have C2' := hid (C2 (by simp))
      clear C2 C1
      go_wp2_with fail
      refine C2'.out.mono ?_
      rintro e w3 ⟨rfl, y0, y1, hb3, C3⟩
      have C3' := hid C3
      clear C3 C2'
      go_wp2_with fail
      refine C3'.out.mono ?_
      rintro e w4 ⟨rfl, hb4⟩
      go_wp2
      go_ret
      exact ⟨by simp, hb4⟩
end Go.Proofs.Ytjobhlncllfdmaa
