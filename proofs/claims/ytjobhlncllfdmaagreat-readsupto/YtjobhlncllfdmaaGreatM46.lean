/- strataref.Read: the ways on which nothing is read; what the walk takes. -/
import Derived.Test.YtjobhlncllfdmaaGreatM45
import Derived.Test.YtjobhlncllfdmaaGreatM41
import Derived.Deep.DeepCutAuto
import Derived.Deep.RegionHeld3
namespace Go.Proofs.YtjobhlncllfdmaaGreat
open Go.RowKit

theorem err_cells {W : World} {T N : Nat} (h4 : W.heap[T]? = some (.cells #[.slice none 0 0, .slice none 0 0] 36 (0, 0))) (h7 : W.heap[N]? = some (.cells #[.slice none 0 0, .slice none 0 0] 36 (0, 0))) :
    W.cell? ⟨T, 0, none⟩ = some (.slice none 0 0) ∧ W.cell? ⟨T, 1, none⟩ = some (.slice none 0 0) ∧ W.frozen? ⟨T, 0, none⟩ = false ∧ W.frozen? ⟨T, 1, none⟩ = false ∧ W.cell? ⟨N, 0, none⟩ = some (.slice none 0 0) ∧ W.cell? ⟨N, 1, none⟩ = some (.slice none 0 0) ∧
      ((W.setCell ⟨T, 0, none⟩ (.slice none 0 0)).setCell ⟨T, 1, none⟩ (.slice none 0 0)).cell? ⟨T, 0, none⟩ = some (.slice none 0 0) ∧ ((W.setCell ⟨T, 0, none⟩ (.slice none 0 0)).setCell ⟨T, 1, none⟩ (.slice none 0 0)).cell? ⟨T, 1, none⟩ = some (.slice none 0 0) ∧ T < W.heap.size := by
  have h5 := setTwo_row h4 (.slice none 0 0) (.slice none 0 0)
  refine ⟨by rw [cell_of_row _ _ 0 _ _ _ h4]; rfl, by rw [cell_of_row _ _ 1 _ _ _ h4]; rfl, frozen_of_row _ _ 0 _ _ h4, frozen_of_row _ _ 1 _ _ h4, by rw [cell_of_row _ _ 0 _ _ _ h7]; rfl, by rw [cell_of_row _ _ 1 _ _ _ h7]; rfl, by rw [cell_of_row _ _ 0 _ _ _ h5]; rfl, by rw [cell_of_row _ _ 1 _ _ _ h5]; rfl, (Array.getElem?_eq_some_iff.1 h4).1⟩

set_option maxHeartbeats 4000000 in
set_option maxRecDepth 100000 in
theorem refRead_arg (s : ByteArray) (bd : Int) (w : World) (hb : bd < 0 ∨ 1073741824 < bd) :
    Calls Tryz.prog 20 #[.string s, .int .i64 bd] w fun e w' => TrAns w (.error 1) e w' := by
  have HB : Hid (Below w.heap.size w ((w.alloc (.cells #[.slice none 0 0, .slice none 0 0] 36)).alloc (.cells #[.slice none 0 0, .slice none 0 0] 36))) := (bbox w _).alloc (by rw [size_alloc']; omega) _
  have r0 : ((w.alloc (.cells #[.slice none 0 0, .slice none 0 0] 36)).alloc (.cells #[.slice none 0 0, .slice none 0 0] 36)).heap[w.heap.size]? = some (.cells #[.slice none 0 0, .slice none 0 0] 36 (0, 0)) := by
    rw [Below.heap_alloc _ _ _ (by rw [size_alloc']; omega)]; exact heap_alloc_new w _
  have q0 : ((w.alloc (.cells #[.slice none 0 0, .slice none 0 0] 36)).alloc (.cells #[.slice none 0 0, .slice none 0 0] 36)).cell? ⟨w.heap.size, 0, none⟩ = some (.slice none 0 0) := by rw [cell_of_row _ _ 0 _ _ _ r0]; rfl
  have q1 : ((w.alloc (.cells #[.slice none 0 0, .slice none 0 0] 36)).alloc (.cells #[.slice none 0 0, .slice none 0 0] 36)).cell? ⟨w.heap.size, 1, none⟩ = some (.slice none 0 0) := by rw [cell_of_row _ _ 1 _ _ _ r0]; rfl
  clear r0
  by_cases h1 : bd < 0
  · have hd : decide (bd < 0) = true := by simpa using h1
    clear hb h1
    go_enter Tryz.func20, Tryz.ntmps20
    go_wp2
    exact bodyPost_ret (v := .tuple #[.agg #[.slice none 0 0, .slice none 0 0], .int .i64 0, .int .i64 1]) (by simp [results, Tryz.results20, go_sem, q0, q1]) rfl ⟨HB.out, rfl⟩
  · have hd : decide (bd < 0) = false := by simpa using h1
    have hd2 : decide (1073741824 < bd) = true := by simp; omega
    clear hb h1
    go_enter Tryz.func20, Tryz.ntmps20
    go_wp2
    exact bodyPost_ret (v := .tuple #[.agg #[.slice none 0 0, .slice none 0 0], .int .i64 0, .int .i64 1]) (by simp [results, Tryz.results20, go_sem, q0, q1]) rfl ⟨HB.out, rfl⟩

theorem rows_in {w W : World} {o4 o7 : Obj} (ho4 : o4 = .cells #[.slice none 0 0, .slice none 0 0] 36) (ho7 : o7 = .cells #[.slice none 0 0, .slice none 0 0] 36) (hb : Below (w.heap.size + 1 + 1) ((w.alloc o4).alloc o7) W) : W.heap[w.heap.size]? = some (.cells #[.slice none 0 0, .slice none 0 0] 36 (0, 0)) ∧ W.heap[w.heap.size + 1]? = some (.cells #[.slice none 0 0, .slice none 0 0] 36 (0, 0)) ∧ Below w.heap.size w W := by
  have hs1 : (w.alloc o4).heap.size = w.heap.size + 1 := size_alloc' _ _
  refine ⟨?_, ?_, ((bbox w o4).alloc (by omega) o7).trans (hb.mono (by omega))⟩
  · rw [hb.block _ (by omega), Below.heap_alloc _ _ _ (by omega), ho4]; exact heap_alloc_new w _
  · have := heap_alloc_new (w.alloc o4) o7
    rw [hs1] at this
    rw [hb.block _ (by omega), this, ho7]

set_option maxHeartbeats 4000000 in
set_option maxRecDepth 100000 in
theorem refRead_bad (s : ByteArray) (b k : Nat) (w : World) (hs : s.size ≤ 1073741824) (hb : b ≤ 1073741824) (hk : k ≠ 0) (HLO : Hid (Pu.look s.data.toList = .bad k)) :
    Calls Tryz.prog 20 #[.string s, .int .i64 (b : Int)] w fun e w' => TrAns w (.error k) e w' := by
  have hd : decide ((b : Int) < 0) = false := by simp
  have hd2 : decide (1073741824 < (b : Int)) = false := by simp; omega
  have hd3 : decide (1073741824 < b) = false := by simp; omega
  have hkd : ((k : Int) != 0) = true := by simp; omega
  have FR : Hid (Calls Tryz.prog 38 #[.string s] ((w.alloc (.cells #[.slice none 0 0, .slice none 0 0] 36)).alloc (.cells #[.slice none 0 0, .slice none 0 0] 36)) fun e w' => e = .returned (.tuple #[.pointer none, .int .i64 k]) ∧ Below (w.heap.size + 1 + 1) ((w.alloc (.cells #[.slice none 0 0, .slice none 0 0] 36)).alloc (.cells #[.slice none 0 0, .slice none 0 0] 36)) w') := by
    have := refLook_any s ((w.alloc (.cells #[.slice none 0 0, .slice none 0 0] 36)).alloc (.cells #[.slice none 0 0, .slice none 0 0] 36)) (by omega)
    rw [HLO.out, size_alloc', size_alloc'] at this
    exact this
  clear hk HLO hs
  go_enter Tryz.func20, Tryz.ntmps20
  go_wp2_with fail
  refine FR.out.mono ?_
  rintro e w2 ⟨rfl, hb2⟩
  obtain ⟨r4, r7, hB⟩ := rows_in rfl rfl hb2
  have HB : Hid (Below w.heap.size w w2) := hB
  obtain ⟨a1, a2, a3, a4, a5, a6, a7, a8, a9⟩ := err_cells r4 r7
  clear hb2 r4 r7 hB FR
  go_wp2
  exact bodyPost_ret (v := .tuple #[.agg #[.slice none 0 0, .slice none 0 0], .int .i64 0, .int .i64 (k : Int)]) (by simp [results, Tryz.results20, go_sem, a7, a8]) rfl ⟨(HB.out.setCell (Nat.le_refl _) _).setCell (Nat.le_refl _) _, rfl⟩
end Go.Proofs.YtjobhlncllfdmaaGreat

/- table.Read: the table is read. -/
namespace Go.Proofs.YtjobhlncllfdmaaGreat
open Go.RowKit

set_option maxHeartbeats 4000000 in
set_option maxRecDepth 100000 in
theorem tableRead_good (lb : Nat) (ao : Option Addr) (cap : Nat) (D : List UInt8) (b E : Nat) (cs : List Pu.Col) (gs : List (Nat × List (Nat × Nat))) (w : World) (hb : b ≤ 1073741824) (HRS : Hid (Rest w lb ao cap D)) (hlb : lb < w.heap.size) (HLO : Hid (Pu.look D = .good E cs gs)) (FR : Hid (Calls Tryz.prog 33 #[.slice ao D.length cap] (w.alloc (.cells #[.slice none 0 0, .slice none 0 0] 36)) fun e w' => FootAns (w.heap.size + 1) (.good E cs gs) e w' ∧ Below (w.heap.size + 1) (w.alloc (.cells #[.slice none 0 0, .slice none 0 0] 36)) w')) (hD : D.length ≤ 1073741824) :
    Calls Tryz.prog 17 #[.slice ao D.length cap, .int .i64 (b : Int)] w fun e w' => TrAns w (finR cs (Pu.grpsR D E b cs gs 0 (List.replicate cs.length []))) e w' := by
  have hd : decide ((b : Int) < 0) = false := by simp
  have hd2 : decide (1073741824 < (b : Int)) = false := by simp; omega
  have hd3 : decide (1073741824 < b) = false := by simp; omega
  obtain ⟨d, hdl⟩ : ∃ d, d = D.length := ⟨_, rfl⟩
  rw [← hdl] at FR hD
  rw [← hdl]
  have Hd : Hid (d = D.length) := hdl
  clear hdl
  obtain ⟨RR, hRR⟩ : ∃ RR, RR = finR cs (Pu.grpsR D E b cs gs 0 (List.replicate cs.length [])) := ⟨_, rfl⟩
  have HRR : Hid (RR = finR cs (Pu.grpsR D E b cs gs 0 (List.replicate cs.length []))) := hRR
  rw [← hRR]
  clear hRR
  go_enter Tryz.func17, Tryz.ntmps17
  go_wp2_with fail
  refine FR.out.mono ?_
  rintro e w2 ⟨⟨vc, vr, ws, rfl, oc, og, gl⟩, hb2⟩
  obtain ⟨av, cv, rfl⟩ := slen_of oc
  obtain ⟨ar, cr, rfl⟩ := slen_of og
  have hcl : cs.length ≤ 20 := (look_ok HLO.out).2.2.1
  have hgl : gs.length ≤ 50 := (look_ok HLO.out).2.2.2.1
  have HGL : Hid (ws.length = gs.length) := gl.1
  obtain ⟨n, hn⟩ : ∃ n, n = cs.length := ⟨_, rfl⟩
  obtain ⟨ng, hng⟩ : ∃ ng, ng = ws.length := ⟨_, rfl⟩
  have hng50 : ng ≤ 50 := by rw [hng, gl.1]; exact hgl
  obtain ⟨mc, hmc, hmk⟩ := make_lists n (by omega)
  have HTA : Hid (TS w lb ao cap D w.heap.size w2.heap.size (w2.heap.size + 1) (w2.heap.size + 1 + 1 + 1) (.slice av n cv) (.slice ar ng cr) (.slice (some ⟨w2.heap.size + 1 + 1, 0, none⟩) n n) E b cs ws gs (List.replicate n []) ((((w2.alloc (.cells #[.slice av n cv, .slice ar ng cr, .int .i64 (E : Int)] 77)).alloc (.cells #[.int .i64 (b : Int)] 81)).alloc (.cells mc 47)).alloc (.cells #[.slice av n cv, .slice (some ⟨w2.heap.size + 1 + 1, 0, none⟩) n n] 36)).drew) := by
    unfold Hid; rw [hn] at hmc ⊢; rw [hng]; exact ts_startA HRS.out hlb hb2 oc og gl (by omega) hmc
  have HTB : Hid (TS w lb ao cap D w.heap.size w2.heap.size (w2.heap.size + 1) (w2.heap.size + 1 + 1) (.slice av n cv) (.slice ar ng cr) (.slice (some ⟨w2.heap.size + 1 + 1 + 1, 0, none⟩) n n) E b cs ws gs (List.replicate n []) ((((w2.alloc (.cells #[.slice av n cv, .slice ar ng cr, .int .i64 (E : Int)] 77)).alloc (.cells #[.int .i64 (b : Int)] 81)).alloc (.cells #[.slice av n cv, .slice (some ⟨w2.heap.size + 1 + 1 + 1, 0, none⟩) n n] 36)).alloc (.cells mc 47)).drew) := by
    unfold Hid; rw [hn] at hmc ⊢; rw [hng]; exact ts_startB HRS.out hlb hb2 oc og gl (by omega) hmc
  have Hn : Hid (n = cs.length) := hn
  have Hng : Hid (ng = ws.length) := hng
  rw [← hn] at hcl ⊢
  rw [← hng]
  clear oc og gl hb2 hn hng hmc FR HRS hgl
  go_upto_region 7 with fail
  go_cut [10] (fun s10 wx => ∃ T10 M : Nat, s10 = .pointer (some ⟨T10, 0, none⟩) ∧ Hid (TS w lb ao cap D w.heap.size w2.heap.size (w2.heap.size + 1) T10 (.slice av n cv) (.slice ar ng cr) (.slice (some ⟨M, 0, none⟩) n n) E b cs ws gs (List.replicate n []) wx))
  case first =>
    go_region
    all_goals (go_wp2_with fail; go_meet; first | exact ⟨_, _, rfl, HTA⟩ | exact ⟨_, _, rfl, HTB⟩)
  case rest =>
  obtain ⟨T10, M, rfl, HT⟩ := hcut
  clear HTA HTB hmk
  obtain ⟨F7, hF7⟩ : ∃ F7, F7 = w2.heap.size := ⟨_, rfl⟩
  obtain ⟨K, hK⟩ : ∃ K, K = w2.heap.size + 1 := ⟨_, rfl⟩
  rw [← hK, ← hF7] at HT
  rw [← hK, ← hF7]
  clear hF7 hK
  have c71 : wc.cell? ⟨F7, 1, none⟩ = some (.slice ar ng cr) := by rw [cell_of_row _ _ 1 _ _ _ HT.out.r7]; rfl
  have HO : Hid (Outer w lb ao cap D F7 K T10 (.slice av n cv) (.slice ar ng cr) (.slice (some ⟨M, 0, none⟩) n n) E b cs ws gs RR 0 wc) := ⟨0, List.replicate n [], HT.out, Nat.zero_le _, by rw [List.length_replicate]; exact Hn.out, fun x hx => by rw [List.eq_of_mem_replicate hx]; simp, by rw [HRR.out, ← Hn.out]; rfl⟩
  clear HT HRR
  go_wp2
  go_loopw [45] (fun i wr => ∃ k : Nat, k ≤ ng ∧ i = .int .i64 k ∧ Hid (Outer w lb ao cap D F7 K T10 (.slice av n cv) (.slice ar ng cr) (.slice (some ⟨M, 0, none⟩) n n) E b cs ws gs RR k wr)) (fun i _ => ng - (intOf i).toNat)
  case atStart => exact ⟨0, Nat.zero_le _, rfl, HO⟩
  case round =>
    clear HO c71
    obtain ⟨k, hk, rfl, HO⟩ := hrel
    obtain ⟨wo, hwo⟩ : ∃ wo : World, wo = wr := ⟨_, rfl⟩
    subst hwo
    by_cases hk2 : k < ng
    · have hkd : decide ((k : Int) < (ng : Int)) = true := by simp; omega
      obtain ⟨g, rows, pl, ap, cp, hg, c0, c1, hrows, hpl, hch, hgl, hIn⟩ := HO.out.group Hng.out hk2 (look_ok HLO.out).2.2.2.2.2
      rw [hpl, ← Hn.out] at c1 hIn
      subst hg
      obtain ⟨G12, hG⟩ : ∃ G12, G12 = wo.heap.size := ⟨_, rfl⟩
      rw [← hG] at hIn
      have HI0 : Hid (Inner w lb ao cap D F7 K T10 (.slice av n cv) (.slice (some ⟨g, 0, none⟩) ng cr) (.slice (some ⟨M, 0, none⟩) n n) E b cs ws gs RR k G12 rows pl (.slice ap n cp) 0 (wo.alloc (.cells #[.int .i64 (rows : Int), .slice ap n cp] 84))) := hIn
      have Hpl : Hid (pl.length = cs.length) := hpl
      have Hch : Hid (∀ c ∈ pl, ChOk E c) := hch
      clear hpl hch hIn HO
      go_wp2
      rw [← hG]
      clear hG
      go_loopw [52] (fun i wr => ∃ j : Nat, j ≤ n ∧ i = .int .i64 j ∧ Hid (Inner w lb ao cap D F7 K T10 (.slice av n cv) (.slice (some ⟨g, 0, none⟩) ng cr) (.slice (some ⟨M, 0, none⟩) n n) E b cs ws gs RR k G12 rows pl (.slice ap n cp) j wr)) (fun i _ => n - (intOf i).toNat)
      case atStart => exact ⟨0, Nat.zero_le _, rfl, HI0⟩
      case round =>
        clear HI0 c0 c1
        obtain ⟨j, hj, rfl, HI⟩ := hrel
        by_cases hj2 : j < n
        · have hjd : decide ((j : Int) < (n : Int)) = true := by simp; omega
          obtain ⟨gc, gp, nm, kind, opt, at', q, h1, h2, c0, c1, c2, d0, d1, hkind, hat, hq, hgc, hgp, l, hcs, hpl⟩ := HI.out.part Hn.out Hpl.out hj2 (look_ok HLO.out).2.2.2.2.1 Hch.out
          subst h1 h2
          have Hcs : Hid (cs[j]? = some ⟨l, kind, opt⟩ ∧ pl[j]? = some (at', q)) := ⟨hcs, hpl⟩
          clear hcs hpl
          have SS : Hid (∀ w' : World, Below (wr.heap.size + 1) (wr.alloc (.cells #[.int .i64 (at' : Int), .int .i64 (q : Int)] 86)) w' → Below (wr.heap.size + 1) (wr.alloc (.cells #[.int .i64 (at' : Int), .int .i64 (q : Int)] 86)) w' ∧ w'.cell? ⟨F7, 0, none⟩ = some (.slice (some ⟨gc, 0, none⟩) n cv) ∧ w'.cell? ⟨F7, 1, none⟩ = some (.slice (some ⟨g, 0, none⟩) ng cr) ∧ w'.cell? ⟨F7, 2, none⟩ = some (.int .i64 (E : Int)) ∧ w'.cell? ⟨gc, j * 3, none⟩ = some (.string nm) ∧ w'.cell? ⟨gc, j * 3 + 1, none⟩ = some (.int .i64 (kind : Int)) ∧ w'.cell? ⟨gc, j * 3 + 2, none⟩ = some (.bool opt) ∧ w'.cell? ⟨G12, 0, none⟩ = some (.int .i64 (rows : Int)) ∧ w'.cell? ⟨wr.heap.size, 0, none⟩ = some (.int .i64 (at' : Int)) ∧ w'.cell? ⟨wr.heap.size, 1, none⟩ = some (.int .i64 (q : Int))) := by
            obtain ⟨u, ts, T, hu, htl, hts, hR, hG, ho⟩ := HI.out
            intro w' hw'
            have hs : (wr.alloc (.cells #[.int .i64 (at' : Int), .int .i64 (q : Int)] 86)).heap.size = wr.heap.size + 1 := size_alloc' _ _
            have old : ∀ k, k < wr.heap.size → w'.heap[k]? = wr.heap[k]? := fun k hk => by rw [hw'.block k (by omega), Below.heap_alloc _ _ _ hk]
            have new : w'.heap[wr.heap.size]? = some (.cells #[.int .i64 (at' : Int), .int .i64 (q : Int)] 86 (0, 0)) := by rw [hw'.block _ (by omega)]; exact heap_alloc_new wr _
            have f7 := old F7 (Array.getElem?_eq_some_iff.1 T.r7).1
            rw [T.r7] at f7
            have f12 := old G12 (Array.getElem?_eq_some_iff.1 hG).1
            rw [hG] at f12
            refine ⟨hw', by rw [cell_of_row _ _ 0 _ _ _ f7]; rfl, by rw [cell_of_row _ _ 1 _ _ _ f7]; rfl, by rw [cell_of_row _ _ 2 _ _ _ f7]; rfl, ?_, ?_, ?_, by rw [cell_of_row _ _ 0 _ _ _ f12]; rfl, by rw [cell_of_row _ _ 0 _ _ _ new]; rfl, by rw [cell_of_row _ _ 1 _ _ _ new]; rfl⟩
            · rw [World.cell?_of_block (w := wr) (old gc hgc)]; exact c0
            · rw [World.cell?_of_block (w := wr) (old gc hgc)]; exact c1
            · rw [World.cell?_of_block (w := wr) (old gc hgc)]; exact c2
          obtain ⟨pa, hpa⟩ : ∃ pa, pa = pieceA ao at' E := ⟨_, rfl⟩
          obtain ⟨z, hz⟩ : ∃ z, z = E - at' := ⟨_, rfl⟩
          have P35 : Hid (∀ W : World, Calls Tryz.prog 35 #[.agg #[.slice (some ⟨gc, 0, none⟩) n cv, .slice (some ⟨g, 0, none⟩) ng cr, .int .i64 (E : Int)], .slice ao d cap, .agg #[.int .i64 (at' : Int), .int .i64 (q : Int)]] W fun e w' => e = .returned (.slice pa z z) ∧ Below W.heap.size W w') := fun W => by
            obtain ⟨u, ts, T, hu, htl, hts, hR, hG, ho⟩ := HI.out
            rw [hpa, hz]
            exact pagesOf_any _ _ _ _ _ _ _ _ rfl rfl E at' q ao d cap W hat (by rw [Hd.out]; exact (look_ok HLO.out).1) (by rw [Hd.out]; exact T.rs.1) T.rs.2.1
          have P34 : Hid (∀ W : World, Calls Tryz.prog 34 #[.agg #[.string nm, .int .i64 (kind : Int), .bool opt], .int .i64 (rows : Int), .slice pa z z] W fun e w' => e = .returned (.agg (ptRow nm kind opt rows (.slice pa z z) 0 false (.slice none 0 0) (.slice none 0 0))) ∧ Below W.heap.size W w') := fun W => newPart_any nm kind rows opt pa z z W
          unfold ptRow at P34
          have Hpa : Hid (pa = pieceA ao at' E) := hpa
          have Hz : Hid (z = E - at') := hz
          clear hpa hz
          have BX : Hid (∀ X w' : World, Below (wr.heap.size + 1) (wr.alloc (.cells #[.int .i64 (at' : Int), .int .i64 (q : Int)] 86)) X → Below X.heap.size X w' → Below (wr.heap.size + 1) (wr.alloc (.cells #[.int .i64 (at' : Int), .int .i64 (q : Int)] 86)) w') := fun X w' h1 h2 => h1.trans (h2.mono (by have := h1.size; rw [size_alloc'] at this; exact this))
          have BA : Hid (∀ (X : World) (o : Obj), Below (wr.heap.size + 1) (wr.alloc (.cells #[.int .i64 (at' : Int), .int .i64 (q : Int)] 86)) X → Below (wr.heap.size + 1) (wr.alloc (.cells #[.int .i64 (at' : Int), .int .i64 (q : Int)] 86)) (X.alloc o)) := fun X o h1 => h1.alloc (by have := h1.size; rw [size_alloc'] at this; exact this) _
          have BD : Hid (∀ X : World, Below (wr.heap.size + 1) (wr.alloc (.cells #[.int .i64 (at' : Int), .int .i64 (q : Int)] 86)) X → Below (wr.heap.size + 1) (wr.alloc (.cells #[.int .i64 (at' : Int), .int .i64 (q : Int)] 86)) X.drew) := fun X h1 => h1.drew
          have BS : Hid (∀ (X : World) (P i : Nat) (v : Value), wr.heap.size + 1 ≤ P → Below (wr.heap.size + 1) (wr.alloc (.cells #[.int .i64 (at' : Int), .int .i64 (q : Int)] 86)) X → Below (wr.heap.size + 1) (wr.alloc (.cells #[.int .i64 (at' : Int), .int .i64 (q : Int)] 86)) (X.setCell ⟨P, i, none⟩ v)) := fun X P i v hP h1 => h1.setCell hP _
          have BS9 : Hid (∀ (X : World) (P : Nat) (v0 v1 v2 v3 v4 v5 v6 v7 v8 : Value), wr.heap.size + 1 ≤ P → Below (wr.heap.size + 1) (wr.alloc (.cells #[.int .i64 (at' : Int), .int .i64 (q : Int)] 86)) X → Below (wr.heap.size + 1) (wr.alloc (.cells #[.int .i64 (at' : Int), .int .i64 (q : Int)] 86)) (World.setCell (World.setCell (World.setCell (World.setCell (World.setCell (World.setCell (World.setCell (World.setCell (World.setCell X ⟨P, 0, none⟩ v0) ⟨P, 1, none⟩ v1) ⟨P, 2, none⟩ v2) ⟨P, 3, none⟩ v3) ⟨P, 4, none⟩ v4) ⟨P, 5, none⟩ v5) ⟨P, 6, none⟩ v6) ⟨P, 7, none⟩ v7) ⟨P, 8, none⟩ v8)) := fun X P v0 v1 v2 v3 v4 v5 v6 v7 v8 hP h => ((((((((h.setCell hP _).setCell hP _).setCell hP _).setCell hP _).setCell hP _).setCell hP _).setCell hP _).setCell hP _).setCell hP _
          have N35 : Hid (∀ w' : World, Below (wr.heap.size + 1) (wr.alloc (.cells #[.int .i64 (at' : Int), .int .i64 (q : Int)] 86)) w' → wr.heap.size + 1 ≤ w'.heap.size) := fun w' h => by have := h.size; rw [size_alloc'] at this; exact this
          have N1 : Hid (wr.heap.size + 1 ≤ wr.heap.size + 1) := Nat.le_refl _
          have Z35g : Hid (∀ (C : Array Value) (w' : World), Below ((wr.alloc (.cells #[.int .i64 (at' : Int), .int .i64 (q : Int)] 86)).alloc (.cells C 90)).drew.heap.size ((wr.alloc (.cells #[.int .i64 (at' : Int), .int .i64 (q : Int)] 86)).alloc (.cells C 90)).drew w' → w'.heap[wr.heap.size + 1]? = some (.cells C 90 (0, 0))) := fun C w' h => by
            have := heap_alloc_new (wr.alloc (.cells #[.int .i64 (at' : Int), .int .i64 (q : Int)] 86)) (.cells C 90)
            rw [size_alloc'] at this
            rw [h.block _ (by show wr.heap.size + 1 < ((wr.alloc (.cells #[.int .i64 (at' : Int), .int .i64 (q : Int)] 86)).alloc _).heap.size; rw [size_alloc', size_alloc']; omega)]
            exact this
          have Z34a : Hid (∀ X w' : World, Below (X.alloc (.cells zRow90 90)).heap.size (X.alloc (.cells zRow90 90)) w' → Z90 w' X.heap.size) := fun X w' h => by
            unfold Z90
            rw [h.block _ (by rw [size_alloc']; omega)]
            exact heap_alloc_new X _
          unfold zRow90 at Z34a
          have QA : Hid (∀ W : World, Below (wr.heap.size + 1) (wr.alloc (.cells #[.int .i64 (at' : Int), .int .i64 (q : Int)] 86)) W → PartAt w lb D E at' q rows kind nm opt wr W.heap.size (W.alloc (.cells #[.string nm, .int .i64 (kind : Int), .bool opt, .int .i64 (rows : Int), .slice pa z z, .int .i64 ((0 : Nat) : Int), .bool false, .slice none 0 0, .slice none 0 0] 90))) := fun W h => by
            obtain ⟨u, ts, T, hu, htl, hts, hR, hG, ho⟩ := HI.out
            have hsz : wr.heap.size + 1 ≤ W.heap.size := by have := h.size; rw [size_alloc'] at this; exact this
            have hb1 : Below wr.heap.size wr (W.alloc (.cells #[.string nm, .int .i64 (kind : Int), .bool opt, .int .i64 (rows : Int), .slice pa z z, .int .i64 ((0 : Nat) : Int), .bool false, .slice none 0 0, .slice none 0 0] 90)) := ((bbox wr _).trans (h.mono (by omega))).alloc (by omega) _
            refine ⟨part_new T.rs T.hlb T.bl.size (look_ok HLO.out).1 hat hb1 (by omega) ?_, hb1, ?_⟩
            · rw [← Hpa.out, ← Hz.out]; exact heap_alloc_new W _
            · exact (SS.out _ (h.alloc hsz _)).2.2.2.2.2.2.2.2.2
          have QB : Hid (∀ (W : World) (P : Nat), Below (wr.heap.size + 1) (wr.alloc (.cells #[.int .i64 (at' : Int), .int .i64 (q : Int)] 86)) W → Z90 W P → wr.heap.size + 1 ≤ P → PartAt w lb D E at' q rows kind nm opt wr P ((World.setCell (World.setCell (World.setCell (World.setCell (World.setCell (World.setCell (World.setCell (World.setCell (World.setCell W ⟨P, 0, none⟩ (.string nm)) ⟨P, 1, none⟩ (.int .i64 (kind : Int))) ⟨P, 2, none⟩ (.bool opt)) ⟨P, 3, none⟩ (.int .i64 (rows : Int))) ⟨P, 4, none⟩ (.slice pa z z)) ⟨P, 5, none⟩ (.int .i64 ((0 : Nat) : Int))) ⟨P, 6, none⟩ (.bool false)) ⟨P, 7, none⟩ (.slice none 0 0)) ⟨P, 8, none⟩ (.slice none 0 0)))) := fun W P h hZ hP => by
            obtain ⟨u, ts, T, hu, htl, hts, hR, hG, ho⟩ := HI.out
            have hB2 : Below (wr.heap.size + 1) (wr.alloc (.cells #[.int .i64 (at' : Int), .int .i64 (q : Int)] 86)) ((World.setCell (World.setCell (World.setCell (World.setCell (World.setCell (World.setCell (World.setCell (World.setCell (World.setCell W ⟨P, 0, none⟩ (.string nm)) ⟨P, 1, none⟩ (.int .i64 (kind : Int))) ⟨P, 2, none⟩ (.bool opt)) ⟨P, 3, none⟩ (.int .i64 (rows : Int))) ⟨P, 4, none⟩ (.slice pa z z)) ⟨P, 5, none⟩ (.int .i64 ((0 : Nat) : Int))) ⟨P, 6, none⟩ (.bool false)) ⟨P, 7, none⟩ (.slice none 0 0)) ⟨P, 8, none⟩ (.slice none 0 0))) := ((((((((h.setCell hP _).setCell hP _).setCell hP _).setCell hP _).setCell hP _).setCell hP _).setCell hP _).setCell hP _).setCell hP _
            have hb1 : Below wr.heap.size wr ((World.setCell (World.setCell (World.setCell (World.setCell (World.setCell (World.setCell (World.setCell (World.setCell (World.setCell W ⟨P, 0, none⟩ (.string nm)) ⟨P, 1, none⟩ (.int .i64 (kind : Int))) ⟨P, 2, none⟩ (.bool opt)) ⟨P, 3, none⟩ (.int .i64 (rows : Int))) ⟨P, 4, none⟩ (.slice pa z z)) ⟨P, 5, none⟩ (.int .i64 ((0 : Nat) : Int))) ⟨P, 6, none⟩ (.bool false)) ⟨P, 7, none⟩ (.slice none 0 0)) ⟨P, 8, none⟩ (.slice none 0 0))) := (bbox wr _).trans (hB2.mono (by omega))
            refine ⟨part_new T.rs T.hlb T.bl.size (look_ok HLO.out).1 hat hb1 (by omega) ?_, hb1, ?_⟩
            · rw [← Hpa.out, ← Hz.out]; exact hZ.set nm kind rows opt pa z
            · exact (SS.out _ hB2).2.2.2.2.2.2.2.2.2
          clear c0 c1 c2
          go_upto_region 14 with fail
          clear d0 d1
          go_cut [15, 52] from 52 to 88 (fun s15 s52 wx => ∃ P : Nat, s15 = .pointer (some ⟨P, 0, none⟩) ∧ s52 = .int .i64 (j : Int) ∧ Hid (PartAt w lb D E at' q rows kind nm opt wr P wx))
          case first =>
            go_region_held3 (fun w' => Below (wr.heap.size + 1) (wr.alloc (.cells #[.int .i64 (at' : Int), .int .i64 (q : Int)] 86)) w' ∧ w'.cell? ⟨F7, 0, none⟩ = some (.slice (some ⟨gc, 0, none⟩) n cv) ∧ w'.cell? ⟨F7, 1, none⟩ = some (.slice (some ⟨g, 0, none⟩) ng cr) ∧ w'.cell? ⟨F7, 2, none⟩ = some (.int .i64 (E : Int)) ∧ w'.cell? ⟨gc, j * 3, none⟩ = some (.string nm) ∧ w'.cell? ⟨gc, j * 3 + 1, none⟩ = some (.int .i64 (kind : Int)) ∧ w'.cell? ⟨gc, j * 3 + 2, none⟩ = some (.bool opt) ∧ w'.cell? ⟨G12, 0, none⟩ = some (.int .i64 (rows : Int)) ∧ w'.cell? ⟨wr.heap.size, 0, none⟩ = some (.int .i64 (at' : Int)) ∧ w'.cell? ⟨wr.heap.size, 1, none⟩ = some (.int .i64 (q : Int)))
              ((with_reducible refine SS.out _ ?_; first | (with_reducible refine BS9.out _ _ _ _ _ _ _ _ _ _ _ n35 ?_; with_reducible exact k34) | (with_reducible refine BS9.out _ _ _ _ _ _ _ _ _ _ _ N1.out ?_; with_reducible exact k34) | (repeat (first | with_reducible exact Below.refl _ _ | with_reducible refine BX.out _ _ ?_ hb34 | with_reducible refine BX.out _ _ ?_ hb35 | with_reducible refine BD.out _ ?_ | with_reducible refine BA.out _ _ ?_))))
              (first | (go_at_call 35; refine (P35.out _).mono ?_; rintro e w' ⟨rfl, hb35⟩; (first | ((with_reducible have z35g := Z35g.out _ _ hb35); have z35 : Z90 w' (wr.heap.size + 1) := z35g; clear z35g) | skip); have n35 := N35.out w' (by repeat (first | with_reducible exact Below.refl _ _ | with_reducible refine BX.out _ _ ?_ hb35 | with_reducible refine BD.out _ ?_ | with_reducible refine BA.out _ _ ?_))) | (go_at_call 34; refine (P34.out _).mono ?_; rintro e w' ⟨rfl, hb34⟩; have k34 : Below (wr.heap.size + 1) (wr.alloc (.cells #[.int .i64 (at' : Int), .int .i64 (q : Int)] 86)) w' := (by repeat (first | with_reducible exact Below.refl _ _ | with_reducible refine BX.out _ _ ?_ hb34 | with_reducible refine BX.out _ _ ?_ hb35 | with_reducible refine BD.out _ ?_ | with_reducible refine BA.out _ _ ?_)); first | (with_reducible have z34 := Z34a.out _ _ hb34; obtain ⟨y0, y1, y2, y3, y4, y5, y6, y7, y8, f0, f1, f2, f3, f4, f5, f6, f7, f8⟩ := z34.cells) | (have z34 := z35.kept hb34; obtain ⟨y0, y1, y2, y3, y4, y5, y6, y7, y8, f0, f1, f2, f3, f4, f5, f6, f7, f8⟩ := z34.cells) | skip))
            all_goals (go_wp2_with fail; go_meet)
            · exact ⟨_, rfl, rfl, QA.out _ k34⟩
            · exact ⟨_, rfl, rfl, QB.out _ _ k34 z34 n35⟩
            · exact ⟨_, rfl, rfl, QB.out _ _ k34 z34 N1.out⟩
          case rest =>
          obtain ⟨P, rfl, rfl, HPA⟩ := hcut
          clear SS P35 P34 BX BA BD BS BS9 N35 N1 Z35g Z34a QA QB Hpa Hz
          have cq : wc.cell? ⟨wr.heap.size, 1, none⟩ = some (.int .i64 (q : Int)) := HPA.out.2.2
          obtain ⟨u, ts, T, hu, htl, hts, hR, hG, ho⟩ := HI.out
          have HT : Hid (TS w lb ao cap D w.heap.size F7 K T10 (.slice (some ⟨gc, 0, none⟩) n cv) (.slice (some ⟨g, 0, none⟩) ng cr) (.slice (some ⟨M, 0, none⟩) n n) E (b - u) cs ws gs ts wr) := T
          have Hu : Hid (u ≤ b ∧ ts.length = cs.length ∧ (∀ x ∈ ts, x.length ≤ 1000 * (20 * k + j)) ∧ RR = restR D E b rows cs ((cs.zip pl).drop j) j u ts (gs.drop (k + 1)) ∧ wr.heap[G12]? = some (.cells #[.int .i64 (rows : Int), .slice (some ⟨gp, 0, none⟩) n cp] 84 (0, 0)) ∧ wr.ownsRow w.heap.size 86 2 (.slice (some ⟨gp, 0, none⟩) n cp) pl.length (plsV pl)) := ⟨hu, htl, hts, hR, hG, ho⟩
          clear T hu htl hts hR hG ho HI
          have PR : Hid (Calls Tryz.prog 36 #[.pointer (some ⟨P, 0, none⟩), .int .i64 (q : Int), .pointer (some ⟨K, 0, none⟩)] wc fun e w' => PrAns wc P wr.heap.size K nm kind opt rows lb (D.take E) b (Pu.pages D E opt kind b q true at' u ⟨rows, [], false, []⟩) e w') := by
            have T := HT.out
            have hKl : K < wr.heap.size := (Array.getElem?_eq_some_iff.1 T.rK).1
            have h1 := T.nK
            have h2 := T.hlb
            exact partRead_any P K wr.heap.size nm kind opt rows lb D E at' q b u ⟨rows, [], false, []⟩ wc (look_ok HLO.out).1 HPA.out.1 (by rw [HPA.out.2.1.block K hKl]; exact T.rK) hKl (by omega) Hu.out.1 hb (by omega) hkind (by omega) (by rw [← Hd.out]; exact hD) (by simp) (by simp)
          have HRP : Hid (RR = match Pu.part D E b ⟨l, kind, opt⟩ rows (at', q) u with
            | .error e => .error e
            | .ok (u', l') => restR D E b rows cs ((cs.zip pl).drop (j + 1)) (j + 1) u' (ts.set j (ts.getD j [] ++ l')) (gs.drop (k + 1))) := by
            unfold Hid; rw [Hu.out.2.2.2.1]; exact rest_part D E b rows cs pl j u ts _ _ _ Hcs.out.1 Hcs.out.2
          cases hp : Pu.pages D E opt kind b q true at' u ⟨rows, [], false, []⟩ with
          | error ke =>
            rw [hp] at PR
            have HE : Hid (RR = .error ke) := by unfold Hid; rw [HRP.out]; unfold Pu.part; simp only [hp]
            have hk0 : ((ke : Int) != 0) = true := by have := (pages_err (look_ok HLO.out).1 q 0 at' u _ ke hp).1; simp; omega
            clear hp HRP
            go_wp2_with fail
            refine PR.out.mono ?_
            rintro e w2 ⟨hf, rfl⟩
            obtain ⟨r4, hB, _⟩ := HT.out.err HPA.out.2.1 hf
            have HB : Hid (Below w.heap.size w w2) := hB
            obtain ⟨a1, a2, a3, a4, a5, a6, a7, a8, a9⟩ := err_cells r4 r4
            clear hf r4 hB PR HT Hu HPA
            go_wp2
            refine bodyPost_ret (v := .tuple #[.agg #[.slice none 0 0, .slice none 0 0], .int .i64 0, .int .i64 (ke : Int)]) (by simp [results, Tryz.results17, go_sem, a7, a8]) rfl ?_
            rw [HE.out]
            exact ⟨(HB.out.setCell (Nat.le_refl _) _).setCell (Nat.le_refl _) _, rfl⟩
          | ok pr =>
            obtain ⟨u', st'⟩ := pr
            rw [hp] at PR
            by_cases hle : 0 < st'.left
            · have HE : Hid (RR = .error 13) := by unfold Hid; rw [HRP.out]; unfold Pu.part; simp only [hp, if_pos hle]
              have PR2 : Hid (Calls Tryz.prog 36 #[.pointer (some ⟨P, 0, none⟩), .int .i64 (q : Int), .pointer (some ⟨K, 0, none⟩)] wc fun e w' => e = .returned (.int .i64 13) ∧ Fr (fun j => j = K ∨ wr.heap.size ≤ j) wc w') := PR.out.mono (fun e w' h => by obtain ⟨h1, h2⟩ := h; simp only [if_pos hle] at h2; exact ⟨h2, h1⟩)
              clear hp HRP PR hle
              go_wp2_with fail
              refine PR2.out.mono ?_
              rintro e w2 ⟨rfl, hf⟩
              obtain ⟨r4, hB, _⟩ := HT.out.err HPA.out.2.1 hf
              have HB : Hid (Below w.heap.size w w2) := hB
              obtain ⟨a1, a2, a3, a4, a5, a6, a7, a8, a9⟩ := err_cells r4 r4
              clear hf r4 hB PR2 HT Hu HPA
              go_wp2
              refine bodyPost_ret (v := .tuple #[.agg #[.slice none 0 0, .slice none 0 0], .int .i64 0, .int .i64 13]) (by simp [results, Tryz.results17, go_sem, a7, a8]) rfl ?_
              rw [HE.out]
              exact ⟨(HB.out.setCell (Nat.le_refl _) _).setCell (Nat.le_refl _) _, rfl⟩
            · have HE : Hid (RR = restR D E b rows cs ((cs.zip pl).drop (j + 1)) (j + 1) u' (ts.set j (ts.getD j [] ++ st'.cells)) (gs.drop (k + 1))) := by unfold Hid; rw [HRP.out]; unfold Pu.part; simp only [hp, if_neg hle]
              have PR2 : Hid (Calls Tryz.prog 36 #[.pointer (some ⟨P, 0, none⟩), .int .i64 (q : Int), .pointer (some ⟨K, 0, none⟩)] wc fun e w' => e = .returned (.int .i64 0) ∧ Fr (fun j => j = K ∨ wr.heap.size ≤ j) wc w' ∧ u' ≤ b ∧ w'.heap[K]? = some (.cells #[.int .i64 ((b - u' : Nat) : Int)] 81 (0, 0)) ∧ ∃ a pages, PSta w' P wr.heap.size nm kind opt rows lb (D.take E) a pages st') := PR.out.mono (fun e w' h => by obtain ⟨h1, h2⟩ := h; simp only [if_neg hle] at h2; exact ⟨h2.1, h1, h2.2⟩)
              clear hp HRP PR hle
              go_wp2_with fail
              refine PR2.out.mono ?_
              rintro e w2 ⟨rfl, hf, hu', hrow, a2, pg2, ao2, cap2, vd, vl, g1, g2, g3, g4, g5, g6, g7, g8, g9, g10⟩
              obtain ⟨r4, hB, hfw⟩ := HT.out.err HPA.out.2.1 hf
              obtain ⟨al, cl, rfl⟩ := slen_of g6
              have T2 := HT.out.step hfw hrow
              have hjt : j < ts.length := by rw [Hu.out.2.1, ← Hn.out]; exact hj2
              obtain ⟨ai, ci, a5, k5, w5, hc, hoi, run5, own5, gr5, at5, hc5, hf5, kt5⟩ := tab_append T2.tb (by rw [Hu.out.2.1]; exact Hn.out) hjt g6 (fun x hx => by have := Hu.out.2.2.1 x hx; omega) (by omega) T2.bl.size
              have HI2 : Hid (Inner w lb ao cap D F7 K T10 (.slice (some ⟨gc, 0, none⟩) n cv) (.slice (some ⟨g, 0, none⟩) ng cr) (.slice (some ⟨M, 0, none⟩) n n) E b cs ws gs RR k G12 rows pl (.slice (some ⟨gp, 0, none⟩) n cp) (j + 1) (w5.setCell ⟨M, j, none⟩ (.slice a5 (ts[j].length + st'.cells.length) k5))) := inner_next HT.out Hu.out.2.1 Hn.out hj2 Hu.out.2.2.1 Hu.out.2.2.2.2.1 Hu.out.2.2.2.2.2 hfw hrow hu' (by omega) HE.out hc hoi own5 gr5 at5
              have c8 := g1.c8
              have c101 : w2.cell? ⟨T10, 1, none⟩ = some (.slice (some ⟨M, 0, none⟩) n n) := by rw [cell_of_row _ _ 1 _ _ _ T2.r10]; rfl
              have c105 : w5.cell? ⟨T10, 1, none⟩ = some (.slice (some ⟨M, 0, none⟩) n n) := by rw [World.cell?_of_block (kt5 T10 36 ⟨_, T2.r10⟩ (by decide))]; exact c101
              obtain ⟨m, hm⟩ : ∃ m, m = ts[j].length := ⟨_, rfl⟩
              obtain ⟨ll, hll⟩ : ∃ ll, ll = st'.cells.length := ⟨_, rfl⟩
              rw [← hm] at hc hc5 run5 HI2
              rw [← hll] at c8 run5 HI2
              have HR5 : Hid ((Builtin.append_ #[47, 47] 47 #[.slice ai m ci, .slice al ll cl]).run Tryz.prog w2.drew = .ok (.slice a5 (m + ll) k5) w5) := run5
              clear run5 hf hu' hrow g1 g2 g3 g4 g5 g6 g7 g8 g9 g10 r4 hB hfw T2 hjt hoi own5 gr5 at5 kt5 hm hll PR2 HT Hu HPA HE
              go_wp2
              go_region_law (refine step_append_run rfl (.tmp 83) (.tmp 85) 47 47 rfl _ _ _ _ rfl rfl HR5.out ?_)
              all_goals
                go_wp2
                go_roundw
                case rel => exact ⟨j + 1, by omega, by go_num, HI2⟩
                case measure => simp [intOf]; omega
        · obtain rfl : j = n := by omega
          have hjd : decide ((j : Int) < (j : Int)) = false := by simp
          have HO2 : Hid (Outer w lb ao cap D F7 K T10 (.slice av j cv) (.slice (some ⟨g, 0, none⟩) ng cr) (.slice (some ⟨M, 0, none⟩) j j) E b cs ws gs RR (k + 1) wr) := HI.out.last Hn.out (by rw [← Hn.out]; exact hcl)
          go_wp2
          go_roundw
          case rel => exact ⟨k + 1, by omega, by go_num, HO2⟩
          case measure => simp [intOf]; omega
    · have hkd : decide ((k : Int) < (ng : Int)) = false := by simp; omega
      obtain ⟨u, ts, T, hu, htl, hts, hR⟩ := HO.out
      have HE : Hid (RR = .ok (cs, ts, u)) := by
        unfold Hid
        rw [hR, List.drop_eq_nil_of_le (by rw [← HGL.out, ← Hng.out]; omega)]
        rfl
      have HB : Hid (Below w.heap.size w wo) := T.bl
      have Hoc : Hid (wo.ownsRow w.heap.size 54 3 (.slice av n cv) cs.length (colsV cs)) := T.oc
      have Htb : Hid (TabD wo w.heap.size (.slice (some ⟨M, 0, none⟩) n n) ts) := T.tb
      have r4 := T.r4
      have t4 : Ty wo w.heap.size 36 := ⟨_, r4⟩
      have c100 : wo.cell? ⟨T10, 0, none⟩ = some (.slice av n cv) := by rw [cell_of_row _ _ 0 _ _ _ T.r10]; rfl
      have c101 : wo.cell? ⟨T10, 1, none⟩ = some (.slice (some ⟨M, 0, none⟩) n n) := by rw [cell_of_row _ _ 1 _ _ _ T.r10]; rfl
      have cK : wo.cell? ⟨K, 0, none⟩ = some (.int .i64 ((b - u : Nat) : Int)) := by rw [cell_of_row _ _ 0 _ _ _ T.rK]; rfl
      have a1 : wo.cell? ⟨w.heap.size, 0, none⟩ = some (.slice none 0 0) := by rw [cell_of_row _ _ 0 _ _ _ r4]; rfl
      have a2 : wo.cell? ⟨w.heap.size, 1, none⟩ = some (.slice none 0 0) := by rw [cell_of_row _ _ 1 _ _ _ r4]; rfl
      have a3 := frozen_of_row _ _ 0 _ _ r4
      have a4 := frozen_of_row _ _ 1 _ _ r4
      have r5 := setTwo_row r4 (.slice av n cv) (.slice (some ⟨M, 0, none⟩) n n)
      have a7 : ((wo.setCell ⟨w.heap.size, 0, none⟩ (.slice av n cv)).setCell ⟨w.heap.size, 1, none⟩ (.slice (some ⟨M, 0, none⟩) n n)).cell? ⟨w.heap.size, 0, none⟩ = some (.slice av n cv) := by rw [cell_of_row _ _ 0 _ _ _ r5]; rfl
      have a8 : ((wo.setCell ⟨w.heap.size, 0, none⟩ (.slice av n cv)).setCell ⟨w.heap.size, 1, none⟩ (.slice (some ⟨M, 0, none⟩) n n)).cell? ⟨w.heap.size, 1, none⟩ = some (.slice (some ⟨M, 0, none⟩) n n) := by rw [cell_of_row _ _ 1 _ _ _ r5]; rfl
      have KT : Hid (∀ k e, Ty wo k e → e ≠ 36 → ((wo.setCell ⟨w.heap.size, 0, none⟩ (.slice av n cv)).setCell ⟨w.heap.size, 1, none⟩ (.slice (some ⟨M, 0, none⟩) n n)).heap[k]? = wo.heap[k]?) := fun k e hk he => by rw [row_off (Ty.ne hk t4 he), row_off (Ty.ne hk t4 he)]
      obtain ⟨lf, hlf⟩ : ∃ lf, lf = b - u := ⟨_, rfl⟩
      rw [← hlf] at cK
      have hlw : IntKind.i64.wrap ((b : Int) - (lf : Int)) = (u : Int) := by rw [IntKind.wrap_i64]; omega
      have hKn : K ≠ w.heap.size := Ty.ne ⟨_, T.rK⟩ t4 (by decide)
      have cK1 : (wo.setCell ⟨w.heap.size, 0, none⟩ (.slice av n cv)).cell? ⟨K, 0, none⟩ = some (.int .i64 (lf : Int)) := by rw [World.cell?_of_block (w := wo) (row_off hKn _)]; exact cK
      have cK2 : ((wo.setCell ⟨w.heap.size, 0, none⟩ (.slice av n cv)).setCell ⟨w.heap.size, 1, none⟩ (.slice (some ⟨M, 0, none⟩) n n)).cell? ⟨K, 0, none⟩ = some (.int .i64 (lf : Int)) := by rw [World.cell?_of_block (w := wo.setCell ⟨w.heap.size, 0, none⟩ (.slice av n cv)) (row_off hKn _)]; exact cK1
      have HTL : Hid (ts.length = cs.length ∧ cs.length ≤ 20 ∧ ∀ x ∈ ts, x.length ≤ 1000000) := ⟨htl, by rw [← Hn.out]; exact hcl, fun x hx => by have := hts x hx; omega⟩
      clear T r4 r5 t4 hR htl hts hu hlf HO hKn
      go_wp2
      go_region
      all_goals
        go_wp2
        refine bodyPost_ret (v := .tuple #[.agg #[.slice av n cv, .slice (some ⟨M, 0, none⟩) n n], .int .i64 (u : Int), .int .i64 0]) (by simp [results, Tryz.results17, go_sem, a7, a8]) rfl ?_
        rw [HE.out]
        refine ⟨((HB.out.setCell (Nat.le_refl _) _).setCell (Nat.le_refl _) _).drew, .slice av n cv, .slice (some ⟨M, 0, none⟩) n n, rfl, ?_, ?_, HTL.out⟩
        · exact own_agreeS Hoc.out (fun k hk => KT.out k 54 (own_tyS Hoc.out hk) (by decide))
        · exact Htb.out.kept (fun k hk => by rcases hk with hk | hk; exact KT.out k 47 hk (by decide); exact KT.out k 57 hk (by decide))
end Go.Proofs.YtjobhlncllfdmaaGreat
