/- The book's lendTable: its walk. -/
import Derived.Test.YtjobhlncllfdmaaM34
import Derived.Test.YtjobhlncllfdmaaM32
import Derived.Laws.BytesArg
namespace Go.Proofs.Ytjobhlncllfdmaa
open Go.RowKit Go.Maps

set_option maxHeartbeats 8000000 in
set_option maxRecDepth 100000 in
theorem lendTable_any (Bt : Nat) (ac : Option Addr) (cc : Nat) (at' : Option Addr) (ct : Nat) (rs : List RC) (ts : List (List Pu.Cl)) (lbc lbt : Nat) (vs : List Value) (w : World) (hT : TR w Bt ac cc at' ct rs ts lbc lbt vs) (hBt : Bt ≤ w.heap.size) (hrl : rs.length ≤ 10000000) (htl : ts.length ≤ 10000000) :
    Calls Try.prog 36 #[.agg #[.slice ac rs.length cc, .slice at' ts.length ct]] w fun e w' => ∃ gc cc' gt ct' aw cw vsl vsw, e = .returned (.tuple #[.agg #[.slice (some ⟨gc, 0, none⟩) rs.length cc', .slice (some ⟨gt, 0, none⟩) ts.length ct'], .slice aw ts.length cw]) ∧ Lent w w' w.heap.size rs ts gc cc' gt ct' aw cw vsl vsw := by
  obtain ⟨S, hS⟩ : ∃ S, S = w.heap.size := ⟨_, rfl⟩
  obtain ⟨N, hN⟩ : ∃ N, N = rs.length := ⟨_, rfl⟩
  obtain ⟨T, hTl⟩ : ∃ T, T = ts.length := ⟨_, rfl⟩
  obtain ⟨W1, hW1⟩ : ∃ W1, W1 = w.alloc (.cells #[.slice ac N cc, .slice at' T ct] 50) := ⟨_, rfl⟩
  obtain ⟨W2, hW2⟩ : ∃ W2, W2 = W1.alloc (.cells #[.slice none 0 0, .slice none 0 0] 50) := ⟨_, rfl⟩
  have s1 : W1.heap.size = S + 1 := by rw [hW1, size_alloc', hS]
  have s2 : W2.heap.size = S + 2 := by rw [hW2, size_alloc', s1]
  have b1 : Below S w W1 := by rw [hS, hW1]; exact bbox w _
  have b2 : Below S w W2 := by rw [hW2]; exact b1.alloc (by omega) _
  have r1 : W2.heap[S]? = some (.cells #[.slice ac N cc, .slice at' T ct] 50 (0, 0)) := by rw [hW2, Below.heap_alloc W1 _ _ (by omega), hW1, hS]; exact heap_alloc_new w _
  have r2 : W2.heap[S + 1]? = some (.cells #[.slice none 0 0, .slice none 0 0] 50 (0, 0)) := by rw [hW2, ← s1]; exact heap_alloc_new W1 _
  have q0 : W2.cell? ⟨S, 0, none⟩ = some (.slice ac N cc) := by rw [cell_of_row _ _ 0 _ _ _ r1]; rfl
  -- the table, later
  have kept : ∀ W, Below (S + 2) W2 W → TR W Bt ac cc at' ct rs ts lbc lbt vs := fun W hW => hT.kept (fun j hj => by rw [hW.block j (by omega)]; exact b2.block j (by omega))
  have boxes : ∀ W, Below (S + 2) W2 W → W.cell? ⟨S, 0, none⟩ = some (.slice ac N cc) ∧ W.cell? ⟨S, 1, none⟩ = some (.slice at' T ct) := fun W hW => by
    have : W.heap[S]? = some (.cells #[.slice ac N cc, .slice at' T ct] 50 (0, 0)) := by rw [hW.block S (by omega)]; exact r1
    exact ⟨by rw [cell_of_row _ _ 0 _ _ _ this]; rfl, by rw [cell_of_row _ _ 1 _ _ _ this]; rfl⟩
  -- the columns
  obtain ⟨i45, a1', a2', a3', a4'⟩ := info_parts Try.info45
  obtain ⟨a1, c1, w1, gc, cc', w2, run1, run2, o2, bw2, bw1⟩ := lend3 Try.underlying37 a1' a2' a3' a4' rfl (kept W2 (Below.refl _ _)).cols (one_rcsV _) hrl #[.string ⟨#[98, 101, 104, 105, 110, 100]⟩, .int .i64 0, .bool false, .string ⟨#[98, 101, 104, 105, 110, 100]⟩, .int .i64 0, .bool false] rfl (by intro u hu; simp at hu; rcases hu with rfl | rfl | rfl | rfl | rfl | rfl <;> rfl)
  have exs : rcsV rs ++ (#[Value.string ⟨#[98, 101, 104, 105, 110, 100]⟩, .int .i64 0, .bool false, .string ⟨#[98, 101, 104, 105, 110, 100]⟩, .int .i64 0, .bool false] : Array Value).toList = rcsV (rs ++ [bh, bh]) := by rw [rcsV_app]; rfl
  rw [exs, s2] at o2
  rw [s2] at bw2 bw1
  have L0 : LT W2 w2 (S + 2) rs ts (.slice (some ⟨gc, 0, none⟩) (rs.length + 2) cc') (.slice none 0 0) (.slice none 0 0) [] [] 0 := ⟨bw2, by omega, o2, World.ownsRow_nil _ _ _ _, World.ownsRow_nil _ _ _ _, fun i hi => by omega, fun i j v v' x _ hv => by simp at hv, fun x hx => by simp [Value.ownBlock] at hx, Nat.zero_le _⟩
  -- a round
  have HR : Hid (∀ (wr : World) (k : Nat) (al aw : Option Addr) (cl cw : Nat), (∃ vsl vsw, LT W2 wr (S + 2) rs ts (.slice (some ⟨gc, 0, none⟩) (rs.length + 2) cc') (.slice al k cl) (.slice aw k cw) vsl vsw k) → wr.cell? ⟨S, 1, none⟩ = some (.slice at' T ct) ∧ (k < T →
      ∃ ot ai n ci a1 c1 w1 g c w2 aw' cw' w3 al' cl' w4, at' = some ⟨lbt, ot, none⟩ ∧ wr.cell? ⟨lbt, ot + k, none⟩ = some (.slice ai n ci) ∧ w3.cell? ⟨S, 1, none⟩ = some (.slice at' T ct) ∧ w3.cell? ⟨lbt, ot + k, none⟩ = some (.slice ai n ci) ∧ n ≤ c ∧ n ≤ 10000000 ∧ c ≤ 9223372036854775807 ∧
      Hid ((Builtin.append_ #[64, 64] 64 #[.slice none 0 0, .slice ai n ci]).run Try.prog wr = .ok (.slice a1 n c1) w1) ∧
      Hid ((Builtin.append_ #[64, 64] 64 #[.slice a1 n c1, .slice (some ⟨w1.heap.size, 0, none⟩) 2 2]).run Try.prog (w1.alloc (.cells #[.bool false, .int .i64 77, .string ⟨#[]⟩, .bool false, .int .i64 77, .string ⟨#[]⟩] 66)) = .ok (.slice (some ⟨g, 0, none⟩) (n + 2) c) w2) ∧
      Hid ((Builtin.append_ #[28, 28] 28 #[.slice aw k cw, .slice (some ⟨w2.heap.size, 0, none⟩) 1 1]).run Try.prog (w2.alloc (.cells #[.slice (some ⟨g, 0, none⟩) (n + 2) c] 64)) = .ok (.slice aw' (k + 1) cw') w3) ∧
      Hid ((Builtin.append_ #[28, 28] 28 #[.slice al k cl, .slice (some ⟨w3.heap.size, 0, none⟩) 1 1]).run Try.prog (w3.alloc (.cells #[.slice (some ⟨g, 0, none⟩) n c] 64)) = .ok (.slice al' (k + 1) cl') w4) ∧
      Hid (∃ vsl vsw, LT W2 w4 (S + 2) rs ts (.slice (some ⟨gc, 0, none⟩) (rs.length + 2) cc') (.slice al' (k + 1) cl') (.slice aw' (k + 1) cw') vsl vsw (k + 1)))) := fun wr k al aw cl cw hL => by
    obtain ⟨vsl, vsw, h⟩ := hL
    refine ⟨(boxes wr h.bel).2, fun hk => ?_⟩
    have hk' : k < ts.length := by omega
    have hTr := kept wr h.bel
    obtain ⟨ot, hat, hct⟩ := hTr.lists.at (by omega)
    obtain ⟨ai, ci, lbi, e1, e2, e3⟩ := hTr.each k hk'
    have hvl : k < vs.length := (List.getElem?_eq_some_iff.1 e1).1
    have hlen := (hT.texts _ (List.getElem_mem hk')).1
    obtain ⟨a1, c1, w1, g, c, w2, aw', cw', w3, al', cl', w4, x1, x2, x3, x4, x5, x6, x7, x8⟩ := h.round hk' e2 hlen htl
    have hTr3 := kept w3 x7
    obtain ⟨ot3, hat3, hct3⟩ := hTr3.lists.at (by omega)
    have ee : ot3 = ot := by rw [hat] at hat3; simpa using hat3.symm
    subst ee
    rw [List.getElem?_eq_getElem hvl] at e1
    unfold maxLen at x6
    exact ⟨ot3, ai, ts[k].length, ci, a1, c1, w1, g, c, w2, aw', cw', w3, al', cl', w4, hat, by rw [hct k hvl]; exact e1, (boxes w3 x7).2, by rw [hct3 k hvl]; exact e1, by omega, hlen, x6, x1, x2, x3, x4, x8⟩
  -- the end
  have HE : Hid (∀ (wr : World) (al aw : Option Addr) (cl cw : Nat), (∃ vsl vsw, LT W2 wr (S + 2) rs ts (.slice (some ⟨gc, 0, none⟩) (rs.length + 2) cc') (.slice al T cl) (.slice aw T cw) vsl vsw T) → ∃ g c w2, Hid ((Builtin.append_ #[28, 28] 28 #[.slice al T cl, .slice (some ⟨wr.heap.size, 0, none⟩) 2 2]).run Try.prog (wr.alloc (.cells #[.slice none 0 0, .slice none 0 0] 64)) = .ok (.slice (some ⟨g, 0, none⟩) (T + 2) c) w2) ∧ w2.cell? ⟨S, 0, none⟩ = some (.slice ac N cc) ∧ w2.cell? ⟨S, 1, none⟩ = some (.slice at' T ct) ∧ T ≤ c ∧ c ≤ 9223372036854775807 ∧ w2.cell? ⟨S + 1, 0, none⟩ = some (.slice none 0 0) ∧ w2.cell? ⟨S + 1, 1, none⟩ = some (.slice none 0 0) ∧ w2.frozen? ⟨S + 1, 0, none⟩ = false ∧ w2.frozen? ⟨S + 1, 1, none⟩ = false ∧
      Hid (∃ vsl vsw, Lent w ((w2.setCell ⟨S + 1, 0, none⟩ (.slice (some ⟨gc, 0, none⟩) N cc')).setCell ⟨S + 1, 1, none⟩ (.slice (some ⟨g, 0, none⟩) T c)).drew S rs ts gc cc' g c aw cw vsl vsw) ∧
      (w2.setCell ⟨S + 1, 0, none⟩ (.slice (some ⟨gc, 0, none⟩) N cc')).cell? ⟨S + 1, 0, none⟩ = some (.slice (some ⟨gc, 0, none⟩) N cc') ∧ ((w2.setCell ⟨S + 1, 0, none⟩ (.slice (some ⟨gc, 0, none⟩) N cc')).setCell ⟨S + 1, 1, none⟩ (.slice (some ⟨g, 0, none⟩) T c)).cell? ⟨S + 1, 1, none⟩ = some (.slice (some ⟨g, 0, none⟩) T c)) := fun wr al aw cl cw hL => by
    obtain ⟨vsl, vsw, h⟩ := hL
    obtain ⟨g, c, w2, x1, x2, x3, x4, x5, x6, x7, x8, x9, x10⟩ := h.last htl
    have hr : w2.heap[S + 1]? = some (.cells #[.slice none 0 0, .slice none 0 0] 50 (0, 0)) := by rw [x3.block (S + 1) (by omega)]; exact r2
    obtain ⟨y0, y1⟩ := boxes w2 x3
    unfold maxLen at x9
    have f1 : (w2.setCell ⟨S + 1, 0, none⟩ (.slice (some ⟨gc, 0, none⟩) N cc')).heap[S + 1]? = some (.cells #[.slice (some ⟨gc, 0, none⟩) N cc', .slice none 0 0] 50 (0, 0)) := by rw [heap_setCell_same _ (S + 1) 0 _ _ _ hr]; rfl
    have f2 : ((w2.setCell ⟨S + 1, 0, none⟩ (.slice (some ⟨gc, 0, none⟩) N cc')).setCell ⟨S + 1, 1, none⟩ (.slice (some ⟨g, 0, none⟩) T c)).heap[S + 1]? = some (.cells #[.slice (some ⟨gc, 0, none⟩) N cc', .slice (some ⟨g, 0, none⟩) T c] 50 (0, 0)) := by rw [heap_setCell_same _ (S + 1) 1 _ _ _ f1]; rfl
    refine ⟨g, c, w2, x1, y0, y1, by omega, x9, by rw [cell_of_row _ _ 0 _ _ _ hr]; rfl, by rw [cell_of_row _ _ 1 _ _ _ hr]; rfl, frozen_of_row _ _ 0 _ _ hr, frozen_of_row _ _ 1 _ _ hr, ⟨vsl, vsw, ?_⟩, by rw [cell_of_row _ _ 0 _ _ _ f1]; rfl, by rw [cell_of_row _ _ 1 _ _ _ f2]; rfl⟩
    have oth : ∀ j, j ≠ S + 1 → ((w2.setCell ⟨S + 1, 0, none⟩ (.slice (some ⟨gc, 0, none⟩) N cc')).setCell ⟨S + 1, 1, none⟩ (.slice (some ⟨g, 0, none⟩) T c)).drew.heap[j]? = w2.heap[j]? := fun j hne => by
      show ((w2.setCell ⟨S + 1, 0, none⟩ (.slice (some ⟨gc, 0, none⟩) N cc')).setCell ⟨S + 1, 1, none⟩ (.slice (some ⟨g, 0, none⟩) T c)).heap[j]? = w2.heap[j]?
      rw [heap_setCell_other _ _ j _ hne, heap_setCell_other _ _ j _ hne]
    have hsz : ((w2.setCell ⟨S + 1, 0, none⟩ (.slice (some ⟨gc, 0, none⟩) N cc')).setCell ⟨S + 1, 1, none⟩ (.slice (some ⟨g, 0, none⟩) T c)).drew.heap.size = w2.heap.size := by
      show ((w2.setCell ⟨S + 1, 0, none⟩ (.slice (some ⟨gc, 0, none⟩) N cc')).setCell ⟨S + 1, 1, none⟩ (.slice (some ⟨g, 0, none⟩) T c)).heap.size = _
      rw [size_set, size_set]
    have bb : Below S w w2 := b2.trans (x3.mono (by omega))
    refine ⟨⟨bb.os, bb.tape, bb.output, by rw [hsz]; exact bb.size, fun j hj => by rw [oth j (by omega)]; exact bb.block j hj⟩, by rw [hsz]; omega, ?_, ?_, ?_, fun x hx => x7 x (by rw [hTl]; exact hx), fun i h2 => ?_, h.dis, by have := h.l.1; omega⟩
    · exact own_agreeS (x5.mono (by omega)) (fun j hj => oth j (by have := (x5.lt j hj).1; omega))
    · rw [← hTl]
      exact own_agreeS (x2.mono (by omega)) (fun j hj => oth j (by have := (x2.lt j hj).1; omega))
    · rw [← hTl]
      exact own_agreeS (x6.mono (by omega)) (fun j hj => oth j (by have := (x6.lt j hj).1; omega))
    · obtain ⟨g', c', e1, e2, e3⟩ := x10 i (by omega) h2
      exact ⟨g', c', e1, e2, own_agreeS (e3.mono (by omega)) (fun j hj => oth j (by have := (e3.lt j hj).1; omega))⟩
  obtain ⟨capc, _⟩ := cap_of o2
  have hcN : N ≤ cc' := by omega
  have hcM : cc' ≤ 9223372036854775807 := (cap_of o2).2
  have R1 : Hid ((Builtin.append_ #[37, 37] 37 #[.slice none 0 0, .slice ac N cc]).run Try.prog W2 = .ok (.slice a1 N c1) w1) := by rw [hN]; exact run1
  have R2 : Hid ((Builtin.append_ #[37, 37] 37 #[.slice a1 N c1, .slice (some ⟨w1.heap.size, 0, none⟩) 2 2]).run Try.prog (w1.alloc (.cells #[.string ⟨#[98, 101, 104, 105, 110, 100]⟩, .int .i64 0, .bool false, .string ⟨#[98, 101, 104, 105, 110, 100]⟩, .int .i64 0, .bool false] 45)) = .ok (.slice (some ⟨gc, 0, none⟩) (N + 2) cc') w2) := by rw [hN]; exact run2
  have H0 : Hid (∃ vsl vsw, LT W2 w2 (S + 2) rs ts (.slice (some ⟨gc, 0, none⟩) (rs.length + 2) cc') (.slice none 0 0) (.slice none 0 0) vsl vsw 0) := ⟨_, _, L0⟩
  have e1 : w.alloc (.cells #[.slice ac N cc, .slice at' T ct] 50) = W1 := hW1.symm
  have e2 : W1.alloc (.cells #[.slice none 0 0, .slice none 0 0] 50) = W2 := hW2.symm
  have hN7 : N ≤ 10000000 := by omega
  have hT7 : T ≤ 10000000 := by omega
  rw [← hN, ← hTl, ← hS]
  have hsz : w.heap.size = S := hS.symm
  have HF : Hid (∀ (g c : Nat) (aw : Option Addr) (cw : Nat) (W : World), (∃ vsl vsw, Lent w W S rs ts gc cc' g c aw cw vsl vsw) → ∃ gc' cc1 gt ct' aw' cw' vsl vsw, Ending.returned (.tuple #[.agg #[.slice (some ⟨gc, 0, none⟩) N cc', .slice (some ⟨g, 0, none⟩) T c], .slice aw T cw]) = .returned (.tuple #[.agg #[.slice (some ⟨gc', 0, none⟩) N cc1, .slice (some ⟨gt, 0, none⟩) T ct'], .slice aw' T cw']) ∧ Lent w W S rs ts gc' cc1 gt ct' aw' cw' vsl vsw) := fun g c aw cw W ⟨vsl, vsw, h⟩ => ⟨gc, cc', g, c, aw, cw, vsl, vsw, rfl, h⟩
  clear hT hN hTl hW1 hW2 hS b1 b2 r1 r2 hBt kept boxes o2 bw2 bw1 L0 run1 run2 exs hrl htl capc
  go_enter Try.func36, Try.ntmps36
  go_wp2_with (first
    | (at_builtin; refine wpList_append_run rfl (.tmp 9) (.tmp 11) 37 37 rfl _ _ _ rfl rfl R1.out ?_)
    | (at_builtin; refine wpList_append_run rfl (.tmp 13) (.tmp 16) 37 37 rfl _ _ _ rfl rfl R2.out ?_)
    | go_in)
  go_loopw [5, 6, 7] (fun l6 l5 i wr => ∃ (k : Nat) (al aw : Option Addr) (cl cw : Nat), k ≤ T ∧ i = .int .i64 k ∧ l6 = .slice al k cl ∧ l5 = .slice aw k cw ∧ Hid (∃ vsl vsw, LT W2 wr (S + 2) rs ts (.slice (some ⟨gc, 0, none⟩) (rs.length + 2) cc') (.slice al k cl) (.slice aw k cw) vsl vsw k))
    (fun _ _ i _ => T - (intOf i).toNat)
  case atStart => exact ⟨0, none, none, 0, 0, Nat.zero_le _, rfl, rfl, rfl, H0⟩
  case round =>
    clear H0 R1 R2 q0
    obtain ⟨k, al, aw, cl, cw, hk, rfl, rfl, rfl, HL⟩ := hrel
    obtain ⟨q1, hround⟩ := HR.out wr k al aw cl cw HL.out
    by_cases hk2 : k < T
    · obtain ⟨ot, ai, n, ci, a1, c1, w1, g, c, w2, aw', cw', w3, al', cl', w4, rfl, x1, x2, x3, x4, x5, x6, R1, R2, R3, R4, HL4⟩ := hround hk2
      clear hround HL HE
      go_wp2_with (first
        | (at_builtin; refine wpList_append_run rfl (.tmp 25) (.tmp 30) 64 64 rfl _ _ _ rfl rfl R1.out ?_)
        | (at_builtin; refine wpList_append_run rfl (.tmp 32) (.tmp 35) 64 64 rfl _ _ _ rfl rfl R2.out ?_)
        | (at_builtin; refine wpList_append_run rfl (.tmp 37) (.tmp 39) 28 28 rfl _ _ _ rfl rfl R3.out ?_)
        | (at_builtin; refine wpList_append_run rfl (.tmp 41) (.tmp 50) 28 28 rfl _ _ _ rfl rfl R4.out ?_)
        | go_in)
      go_roundw
      case rel => exact ⟨k + 1, al', aw', cl', cw', by omega, by go_num, rfl, rfl, HL4⟩
      case measure => simp [intOf]; omega
    · obtain rfl : k = T := by omega
      clear hround
      obtain ⟨g, c, w2, R1, x1, x2, x3, x4, x5, x6, x7, x8, HLe, p0, p1⟩ := HE.out wr al aw cl cw HL.out
      clear HL HE HR
      go_wp2_with (first
        | (at_builtin; refine wpList_append_run rfl (.tmp 52) (.tmp 53) 28 28 rfl _ _ _ rfl rfl R1.out ?_)
        | go_in)
      go_region
      go_wp2
      exact bodyPost_ret (v := .tuple #[.agg #[.slice (some ⟨gc, 0, none⟩) N cc', .slice (some ⟨g, 0, none⟩) k c], .slice aw k cw]) (by simp [results, Try.results36, go_sem, p0, p1]) rfl (HF.out g c aw cw _ HLe.out)
end Go.Proofs.Ytjobhlncllfdmaa

/- The reference: groups, right, name of columns as they come in, Low of any number. -/
namespace Go.Proofs.Ytjobhlncllfdmaa
open Go.RowKit Go.Maps

theorem groups_any (n rows : Nat) (w : World) (hn : n ≤ 100000000) (h1 : 1 ≤ rows) (h2 : rows ≤ 1000) :
    Calls Try.prog 33 #[.int .i64 (n : Int), .int .i64 (rows : Int)] w fun e w' => e = .returned (.int .i64 (((n + rows - 1) / rows : Nat) : Int)) ∧ w' = w := by
  obtain ⟨q, hq⟩ : ∃ q, q = (n + rows - 1) / rows := ⟨_, rfl⟩
  have hql : q ≤ n + rows - 1 := by rw [hq]; exact Nat.div_le_self _ _
  obtain ⟨m, hm⟩ : ∃ m, m = n + rows - 1 := ⟨_, rfl⟩
  have e1 : IntKind.i64.wrap (IntKind.i64.wrap ((n : Int) + (rows : Int)) - 1) = (m : Int) := by rw [IntKind.wrap_i64, IntKind.wrap_i64]; omega
  have e2 : (m : Int).tdiv (rows : Int) = (q : Int) := by rw [Int.tdiv_eq_ediv_of_nonneg (by omega), hq, ← hm]; simp
  have e2' : (m : Int) / (rows : Int) = (q : Int) := by rw [hq, ← hm]; simp
  have e3 : (n : Int) + (rows : Int) - 1 = (m : Int) := by omega
  have e4 : IntKind.i64.wrap (q : Int) = (q : Int) := by rw [IntKind.wrap_i64]; omega
  have hr0 : ((rows : Int) == 0) = false := by simp; omega
  rw [← hq]
  clear hq hm
  go_enter Try.func33, Try.ntmps33
  go_wp2
  go_ret
  exact ⟨rfl, rfl⟩

set_option maxHeartbeats 4000000 in
set_option maxRecDepth 100000 in
theorem right_any (nm : ByteArray) (k : Int) (opt : Bool) (null : Bool) (n : Int) (t : ByteArray) (w : World) (ht : t.size ≤ 140737488355328) :
    Calls Try.prog 52 #[.agg #[.string nm, .int .i64 k, .bool opt], .agg #[.bool null, .int .i64 n, .string t]] w fun e w' => e = .returned (.bool (fitsR k opt ⟨null, n, t.data.toList⟩)) ∧ Below w.heap.size w w' := by
  obtain ⟨W1, hW1⟩ : ∃ W1, W1 = w.alloc (.cells #[.string nm, .int .i64 k, .bool opt] 45) := ⟨_, rfl⟩
  obtain ⟨W2, hW2⟩ : ∃ W2, W2 = W1.alloc (.cells #[.bool null, .int .i64 n, .string t] 66) := ⟨_, rfl⟩
  obtain ⟨S, hS⟩ : ∃ S, S = w.heap.size := ⟨_, rfl⟩
  have s1 : W1.heap.size = S + 1 := by rw [hW1, size_alloc', hS]
  have b2 : Below w.heap.size w W2 := by rw [hW2, hW1]; exact ((Below.refl _ _).alloc (Nat.le_refl _) _).alloc (by rw [size_alloc']; omega) _
  have r2 : W2.heap[S]? = some (.cells #[.string nm, .int .i64 k, .bool opt] 45 (0, 0)) := by rw [hW2, Below.heap_alloc W1 _ _ (by omega), hW1, hS]; exact heap_alloc_new w _
  have r1 : W2.heap[S + 1]? = some (.cells #[.bool null, .int .i64 n, .string t] 66 (0, 0)) := by rw [hW2, ← s1]; exact heap_alloc_new W1 _
  have a0 : W2.cell? ⟨S + 1, 0, none⟩ = some (.bool null) := by rw [cell_of_row _ _ 0 _ _ _ r1]; rfl
  have a1 : W2.cell? ⟨S + 1, 1, none⟩ = some (.int .i64 n) := by rw [cell_of_row _ _ 1 _ _ _ r1]; rfl
  have a2 : W2.cell? ⟨S + 1, 2, none⟩ = some (.string t) := by rw [cell_of_row _ _ 2 _ _ _ r1]; rfl
  have c1 : W2.cell? ⟨S, 1, none⟩ = some (.int .i64 k) := by rw [cell_of_row _ _ 1 _ _ _ r2]; rfl
  have c2 : W2.cell? ⟨S, 2, none⟩ = some (.bool opt) := by rw [cell_of_row _ _ 2 _ _ _ r2]; rfl
  have e1 : w.alloc (.cells #[.string nm, .int .i64 k, .bool opt] 45) = W1 := hW1.symm
  have e2 : W1.alloc (.cells #[.bool null, .int .i64 n, .string t] 66) = W2 := hW2.symm
  have hsz : w.heap.size = S := hS.symm
  have HB := hid b2
  clear hW1 hW2 hS b2 r1 r2
  obtain ⟨s, hs⟩ : ∃ s, s = t.data.toList := ⟨_, rfl⟩
  have hem : t.toList.isEmpty = decide (s = []) := by
    rw [hs, ← decide_eq_emptyBytes]
    refine decide_eq_decide.2 ⟨fun h => by rw [h]; rfl, fun h => bytes_ext (by rw [h]; rfl)⟩
  have hlen : s.length = t.size := by rw [hs]; exact len_data t
  rw [← hs]
  obtain ⟨em, hE⟩ : ∃ em, em = decide (s = []) := ⟨_, rfl⟩
  rw [← hE] at hem
  obtain ⟨r, hr⟩ : ∃ r, r = fitsR k opt ⟨null, n, s⟩ := ⟨_, rfl⟩
  rw [← hr]
  clear hs
  have HR := hid hr
  have HE := hid hE
  have HL := hid hlen
  clear hr hE hlen
  cases null
  · by_cases hk0 : k = 0
    · subst hk0
      go_enter Try.func52, Try.ntmps52
      go_wp2
      all_goals
        go_ret
        refine ⟨?_, HB.out⟩
        rw [HR.out]
        have hE := HE.out
        clear HR a0 a1 a2 c1 c2 e1 e2 HE HB hsz
        by_cases hs0 : s = []
        · simp_all [fitsR] <;> (by_cases hn0 : n = 1 <;> simp_all)
        · simp_all [fitsR]
    · by_cases hk1 : k = 1
      · subst hk1
        go_enter Try.func52, Try.ntmps52
        go_wp2
        all_goals
          go_ret
          exact ⟨by rw [HR.out]; simp [fitsR, HE.out, *], HB.out⟩
      · have d0 : (k == 0) = false := by simp [hk0]
        have d1 : (k == 1) = false := by simp [hk1]
        go_enter Try.func52, Try.ntmps52
        go_wp2
        all_goals
          go_ret
          exact ⟨by rw [HR.out]; (simp [fitsR, HL.out, *] <;> omega), HB.out⟩
  · cases opt
    · go_enter Try.func52, Try.ntmps52
      go_wp2
      go_ret
      exact ⟨by rw [HR.out]; simp [fitsR], HB.out⟩
    · go_enter Try.func52, Try.ntmps52
      go_wp2
      all_goals
        go_ret
        exact ⟨by rw [HR.out]; simp [fitsR, HE.out, *], HB.out⟩

set_option maxHeartbeats 4000000 in
set_option maxRecDepth 100000 in
theorem nameR_any (lb cap : Nat) (ao : Option Addr) (l : List RC) (t : ByteArray) (w : World) (hr : Rs w 3 lb ao l.length cap (rcsV l)) (hl : l.length ≤ 100000) :
    Calls Try.prog 51 #[.slice ao l.length cap, .string t] w fun e w' => e = .returned (.bool (hasNm l t.data.toList)) ∧ w' = w := by
  obtain ⟨N, hN⟩ : ∃ N, N = l.length := ⟨_, rfl⟩
  have HC : Hid (∀ (k : Nat), (hk : k < l.length) → ∃ o, ao = some ⟨lb, o, none⟩ ∧ w.cell? ⟨lb, o + k * 3, none⟩ = some (.string ⟨l[k].1.toArray⟩)) := fun k hk => by
    obtain ⟨o, h0, h1, _⟩ := hr.rc3 k hk
    exact ⟨o, h0, h1⟩
  have HTk : Hid (∀ k, (hk : k < l.length) → hasNm (l.take (k + 1)) t.data.toList = (hasNm (l.take k) t.data.toList || decide (l[k].1 = t.data.toList))) := fun k hk => hasNm_take l _ k hk
  have HAll : Hid (∀ k, k < l.length → hasNm (l.take (k + 1)) t.data.toList = true → hasNm l t.data.toList = true) := fun k hk h => by
    unfold hasNm at h ⊢
    obtain ⟨c, hc, h'⟩ := List.any_eq_true.1 h
    exact List.any_eq_true.2 ⟨c, List.mem_of_mem_take hc, h'⟩
  have HN : Hid (N = l.length) := hN
  rw [← hN] at hl ⊢
  clear hr hN
  go_enter Try.func51, Try.ntmps51
  go_wp2
  go_loop [5] (fun i => ∃ (k : Nat), k ≤ N ∧ i = .int .i64 k ∧ Hid (hasNm (l.take k) t.data.toList = false)) (fun i => N - (intOf i).toNat)
  case atStart => exact ⟨0, Nat.zero_le _, rfl, by simp [Hid, hasNm]⟩
  case round =>
    obtain ⟨k, hk, rfl, Hh⟩ := hrel
    by_cases hk2 : k < N
    · have hkl : k < l.length := by rw [← HN.out]; exact hk2
      obtain ⟨o, rfl, c0⟩ := HC.out k hkl
      have ht := HTk.out k hkl
      by_cases he : (⟨l[k].1.toArray⟩ : ByteArray) = t
      · have Hr : Hid (hasNm l t.data.toList = true) := HAll.out k hkl (by rw [ht, ← he]; simp)
        rw [he] at c0
        clear he ht
        go_wp2
        go_ret
        exact ⟨by rw [Hr.out]; rfl, rfl⟩
      · have Hn : Hid (hasNm (l.take (k + 1)) t.data.toList = false) := by
          rw [Hid, ht, Hh.out, Bool.false_or]
          exact decide_eq_false (fun e => he (bytes_ext (by rw [← e])))
        obtain ⟨u, hu⟩ : ∃ u : ByteArray, u = ⟨l[k].1.toArray⟩ := ⟨_, rfl⟩
        rw [← hu] at c0 he
        have hd : (u.toList == t.toList) = false := str_ne he
        clear ht hu he
        go_wp2
        go_round
        case rel => exact ⟨k + 1, by omega, by go_num, Hn⟩
        case measure => simp [intOf]; omega
    · obtain rfl : k = N := by omega
      have Hr : Hid (hasNm l t.data.toList = false) := by have := Hh.out; rw [HN.out, List.take_length] at this; exact this
      go_wp2
      go_ret
      exact ⟨by rw [Hr.out]; rfl, rfl⟩

theorem uN_nat (x : Nat) (h : x < 18446744073709551616) : uN (x : Int) = x := by unfold uN; omega

set_option maxHeartbeats 2000000 in
set_option maxRecDepth 100000 in
theorem refLowZ_pos (x : Int) (n : Nat) (w : World) (hn : n ≤ 8) (hn0 : 0 < n) :
    Calls Try.prog 28 #[.int .i64 x, .int .i64 n] w fun e w' => e = .returned (.string ⟨(leB n (uN x)).toArray⟩) ∧ Below w.heap.size w w' := by
  obtain ⟨u, hu⟩ : ∃ u, u = uN x := ⟨_, rfl⟩
  have hul : u < 18446744073709551616 := by rw [hu]; exact uN_lt x
  have huw : IntKind.u64.wrap x = (u : Int) := by rw [hu]; unfold uN; rw [IntKind.wrap_u64]; omega
  have huw2 : x % 18446744073709551616 = (u : Int) := by rw [hu]; unfold uN; omega
  rw [← hu]
  clear hu
  go_enter Try.func28, Try.ntmps28
  go_wp2
  go_loopw [5, 6, 7] (fun v z i wr => ∃ k y : Nat, k ≤ n ∧ i = .int .i64 k ∧ z = .int .u64 y ∧ y ≤ u ∧ Hid (y = u / 256 ^ k) ∧ wr.ownsRow w.heap.size 5 1 v k (bytesV (leB k u)) ∧ Below w.heap.size w wr)
    (fun _ _ i _ => n - (intOf i).toNat)
  case atStart => exact ⟨0, u, Nat.zero_le _, rfl, rfl, Nat.le_refl _, by simp [Hid], World.ownsRow_nil _ _ _ _, Below.refl _ _⟩
  case round =>
    obtain ⟨k, y, hk, rfl, rfl, hyx, Hy, hown, hbel⟩ := hrel
    obtain ⟨ao, cap, rfl⟩ := slen_of hown
    by_cases hk2 : k < n
    · obtain ⟨i0, hi, hz0, hz1, hz2⟩ := info_parts Try.info5
      go_wp2_with (first
        | (at_builtin; refine wpList_append_own _ rfl _ _ 24 rfl w.heap.size 5 i0 (.int .u8 0) 1 1 Try.underlying24 hi hz0 hz1 hz2 rfl (by decide) _ _ _ rfl (hown.alloc _) ⟨_, 0, none⟩ 1 1 [.int .u8 ((y : Int) % 256)] rfl rfl ?c1 ?c2 ?c3 ?c4 ?c5 ?_)
        | go_in)
      case c1 => exact one_new rfl
      case c2 => exact one_cell
      case c3 => unfold maxLen; omega
      case c4 => omega
      case c5 => rw [size_alloc']; have := hbel.size; omega
      intro v' w1 hown3 hg _
      have hbel3 := below_append hbel (Nat.le_refl _) hg (fun k e => (hown.lt k e).1)
      have hb : ((y : Int) % 256) = ((UInt8.ofNat (y % 256)).toNat : Int) := by
        rw [UInt8.toNat_ofNat', Nat.mod_eq_of_lt (by omega)]; simp
      have Hy2 : Hid (y / 256 = u / 256 ^ (k + 1)) := by rw [Hid, Hy.out, Nat.div_div_eq_div_mul, Nat.pow_succ]
      rw [hb, bytesV_snoc, Hy.out, ← leB_snoc] at hown3
      clear hg hown hbel hb Hy
      go_wp2
      go_roundw
      case rel => exact ⟨k + 1, y / 256, by omega, by go_num, by go_num, by omega, Hy2, hown3, hbel3⟩
      case measure => simp [intOf]; omega
    · obtain rfl : k = n := by omega
      have hl := length_leB k u
      obtain ⟨g, cap', hv, _, _⟩ := hown.form (by omega)
      simp only [Value.slice.injEq] at hv
      obtain ⟨rfl, _, rfl⟩ := hv
      have hown' : wr.ownsRow w.heap.size 5 1 (.slice (some ⟨g, 0, none⟩) (leB k u).length cap) (leB k u).length (bytesV (leB k u)) := by rw [hl]; exact hown
      have hcv := text_of_row hown'
      rw [hl] at hcv
      clear hown hown' hl
      go_wp2
      go_ret
      exact ⟨rfl, hbel⟩

set_option maxHeartbeats 2000000 in
set_option maxRecDepth 100000 in
theorem refLowZ_zero (x : Int) (w : World) :
    Calls Try.prog 28 #[.int .i64 x, .int .i64 0] w fun e w' => e = .returned (.string ⟨#[]⟩) ∧ Below w.heap.size w w' := by
  have hcv : (convert 24 9 (.slice none 0 0)).run Try.prog w = .ok (.string ⟨#[]⟩) w := by
    have := run_convert_bytes_back (P := Try.prog) w 24 9 5 ⟨0, 0, none⟩ 0 [] Try.underlying24 Try.underlying5 Try.underlying9 (fun j hj => by simp at hj)
    first | exact this | simpa using this | rfl
  have huw2 : x % 18446744073709551616 = (uN x : Int) := by unfold uN; omega
  go_enter Try.func28, Try.ntmps28
  go_wp2
  go_loop [5, 7] (fun v i => v = .slice none 0 0 ∧ i = .int .i64 0) (fun _ _ => 0)
  case atStart => exact ⟨rfl, rfl⟩
  case round =>
    obtain ⟨rfl, rfl⟩ := hrel
    go_wp2
    go_ret
    exact ⟨rfl, Below.refl _ _⟩

theorem refLowZ (x : Int) (n : Nat) (w : World) (hn : n ≤ 8) :
    Calls Try.prog 28 #[.int .i64 x, .int .i64 n] w fun e w' => e = .returned (.string ⟨(leB n (uN x)).toArray⟩) ∧ Below w.heap.size w w' := by
  by_cases h : 0 < n
  · exact refLowZ_pos x n w hn h
  · obtain rfl : n = 0 := by omega
    exact refLowZ_zero x w
end Go.Proofs.Ytjobhlncllfdmaa
