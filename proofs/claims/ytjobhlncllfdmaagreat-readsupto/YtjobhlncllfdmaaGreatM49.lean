/- strataref.Read: the table is read. -/
import Derived.Test.YtjobhlncllfdmaaGreatM46
import Derived.Test.YtjobhlncllfdmaaGreatM48
import Derived.Test.YtjobhlncllfdmaaGreatM41
import Derived.Deep.DeepCutAuto
import Derived.Deep.RegionHeld3
namespace Go.Proofs.YtjobhlncllfdmaaGreat
open Go.RowKit

theorem err_alloc {W : World} {T N : Nat} (o : Obj) (h4 : W.heap[T]? = some (.cells #[.slice none 0 0, .slice none 0 0] 36 (0, 0))) (h7 : W.heap[N]? = some (.cells #[.slice none 0 0, .slice none 0 0] 36 (0, 0))) :
    W.cell? ⟨T, 0, none⟩ = some (.slice none 0 0) ∧ W.cell? ⟨T, 1, none⟩ = some (.slice none 0 0) ∧ W.frozen? ⟨T, 0, none⟩ = false ∧ W.frozen? ⟨T, 1, none⟩ = false ∧ W.cell? ⟨N, 0, none⟩ = some (.slice none 0 0) ∧ W.cell? ⟨N, 1, none⟩ = some (.slice none 0 0) ∧ True ∧ True ∧ T < W.heap.size ∧
      (((W.alloc o).setCell ⟨T, 0, none⟩ (.slice none 0 0)).setCell ⟨T, 1, none⟩ (.slice none 0 0)).cell? ⟨T, 0, none⟩ = some (.slice none 0 0) ∧ (((W.alloc o).setCell ⟨T, 0, none⟩ (.slice none 0 0)).setCell ⟨T, 1, none⟩ (.slice none 0 0)).cell? ⟨T, 1, none⟩ = some (.slice none 0 0) ∧
      (((W.setCell ⟨T, 0, none⟩ (.slice none 0 0)).setCell ⟨T, 1, none⟩ (.slice none 0 0)).alloc o).cell? ⟨T, 0, none⟩ = some (.slice none 0 0) ∧ (((W.setCell ⟨T, 0, none⟩ (.slice none 0 0)).setCell ⟨T, 1, none⟩ (.slice none 0 0)).alloc o).cell? ⟨T, 1, none⟩ = some (.slice none 0 0) ∧ N < W.heap.size := by
  obtain ⟨a1, a2, a3, a4, a5, a6, a7, a8, a9⟩ := err_cells h4 h7
  have FF := setTwo_row (row_alloc h4 o) (.slice none 0 0) (.slice none 0 0)
  have FF2 := row_alloc (setTwo_row h4 (.slice none 0 0) (.slice none 0 0)) o
  exact ⟨a1, a2, a3, a4, a5, a6, trivial, trivial, a9, by rw [cell_of_row _ _ 0 _ _ _ FF]; rfl, by rw [cell_of_row _ _ 1 _ _ _ FF]; rfl, by rw [cell_of_row _ _ 0 _ _ _ FF2]; rfl, by rw [cell_of_row _ _ 1 _ _ _ FF2]; rfl, (Array.getElem?_eq_some_iff.1 h7).1⟩

/-- the next column -/
theorem rin_next {w : World} {F T10 : Nat} {vc vr vk : Value} {D : List UInt8} {E b : Nat} {cs : List Pu.Col} {gs : List (Nat × List (Nat × Nat))} {vs : List Value} {RR : Except Nat (List Pu.Col × List (List Pu.Cl) × Nat)} {k u' : Nat} {w2 w5 : World} {rows : Nat} {pl : List (Nat × Nat)} {j M n : Nat} {ts : List (List Pu.Cl)} {l : List Pu.Cl} {ai a5 : Option Addr} {ci k5 : Nat}
    (T2 : RT w w.heap.size (w.heap.size + 1) F T10 vc vr vk (.slice (some ⟨M, 0, none⟩) n n) E cs gs vs ts w2) (htl : ts.length = cs.length) (hn : n = cs.length) (hj : j < n) (hts : ∀ x ∈ ts, x.length ≤ 1000 * (20 * k + j)) (hu' : u' ≤ b) (hll : l.length ≤ 1000) (hR : RR = restR D E b rows cs ((cs.zip pl).drop (j + 1)) (j + 1) u' (ts.set j (ts.getD j [] ++ l)) (gs.drop (k + 1)))
    (hc : w2.cell? ⟨M, j, none⟩ = some (.slice ai (ts[j]'(by omega)).length ci)) (hoi : w2.ownsRow w.heap.size 57 3 (.slice ai (ts[j]'(by omega)).length ci) (ts[j]'(by omega)).length (clsV (ts[j]'(by omega)))) (hown : w5.ownsRow w.heap.size 57 3 (.slice a5 ((ts[j]'(by omega)).length + l.length) k5) ((ts[j]'(by omega)).length + l.length) (clsV (ts[j]'(by omega)) ++ clsV l)) (hg : w2.grownBy w5 (Value.slice ai (ts[j]'(by omega)).length ci).ownBlock) (hat : (Value.slice a5 ((ts[j]'(by omega)).length + l.length) k5).ownBlock = (Value.slice ai (ts[j]'(by omega)).length ci).ownBlock ∨ (Value.slice a5 ((ts[j]'(by omega)).length + l.length) k5).ownBlock = some w2.heap.size ∧ w2.grownBy w5 none) :
    RIn w F T10 vc vr vk (.slice (some ⟨M, 0, none⟩) n n) D E b cs gs vs RR k rows pl (j + 1) u' (w5.setCell ⟨M, j, none⟩ (.slice a5 ((ts[j]'(by omega)).length + l.length) k5)) := by
  refine ⟨ts.set j (ts.getD j [] ++ l), T2.app (by omega) (by omega) hc hoi hown hg hat, hu', by rw [List.length_set]; exact htl, fun x hx => ?_, hR⟩
  rcases List.mem_or_eq_of_mem_set hx with hx | hx
  · have := hts x hx; omega
  · subst hx
    have hm := hts (ts[j]'(by omega)) (List.getElem_mem _)
    rw [List.getD_eq_getElem?_getD, List.getElem?_eq_getElem (by omega)]
    simp only [Option.getD_some, List.length_append]
    omega

set_option maxHeartbeats 16000000 in
set_option maxRecDepth 100000 in
theorem refRead_good (s : ByteArray) (b E : Nat) (cs : List Pu.Col) (gs : List (Nat × List (Nat × Nat))) (w : World) (hs : s.size ≤ 1073741824) (hb : b ≤ 1073741824) (HLO : Hid (Pu.look s.data.toList = .good E cs gs)) :
    Calls Tryz.prog 20 #[.string s, .int .i64 (b : Int)] w fun e w' => TrAns w (finR cs (Pu.grpsR s.data.toList E b cs gs 0 (List.replicate cs.length []))) e w' := by
  have hd : decide ((b : Int) < 0) = false := by simp
  have hd2 : decide (1073741824 < (b : Int)) = false := by simp; omega
  have hd3 : decide (1073741824 < b) = false := by simp; omega
  have FR : Hid (Calls Tryz.prog 38 #[.string s] ((w.alloc (.cells #[.slice none 0 0, .slice none 0 0] 36)).alloc (.cells #[.slice none 0 0, .slice none 0 0] 36)) fun e w' => (∃ F vc vr vk vs, e = .returned (.tuple #[.pointer (some ⟨F, 0, none⟩), .int .i64 0]) ∧ w'.ownsRow (w.heap.size + 1 + 1) 54 3 vc cs.length (colsV cs) ∧ FBlk w' F vc vr vk E ∧ w'.ownsRow (w.heap.size + 1 + 1) 3 1 vr gs.length (ints (gs.map Prod.fst)) ∧ w'.ownsRow (w.heap.size + 1 + 1) 107 1 vk gs.length vs ∧ (∀ i, (h : i < gs.length) → ∃ v, vs[i]? = some v ∧ w'.ownsRow (w.heap.size + 1 + 1) 106 2 v gs[i].2.length (chV gs[i].2))) ∧ Below (w.heap.size + 1 + 1) ((w.alloc (.cells #[.slice none 0 0, .slice none 0 0] 36)).alloc (.cells #[.slice none 0 0, .slice none 0 0] 36)) w') := by
    have := refLook_any s ((w.alloc (.cells #[.slice none 0 0, .slice none 0 0] 36)).alloc (.cells #[.slice none 0 0, .slice none 0 0] 36)) (by omega)
    rw [HLO.out, size_alloc', size_alloc'] at this
    refine this.mono (fun e w' h => ?_)
    obtain ⟨⟨F, vc, vr, vk, vs, h1, _, h3, _, h5, h6, h7, h8⟩, hb⟩ := h
    rw [size_alloc', size_alloc'] at h3 h6 h7 h8
    exact ⟨⟨F, vc, vr, vk, vs, h1, h3, h5, h6, h7, h8⟩, hb⟩
  have hEl : E ≤ s.data.toList.length := (look_ok HLO.out).1
  have hEs : E ≤ s.size := by rw [len_dataB] at hEl; exact hEl
  have hDl : s.data.toList.length ≤ 1073741824 := by rw [len_dataB]; exact hs
  obtain ⟨D, hD⟩ : ∃ D, D = s.data.toList := ⟨_, rfl⟩
  have HEAD : Hid (∀ (a : Nat) (W : World), a ≤ E → Calls Tryz.prog 39 #[.string s, .int .i64 (a : Int), .int .i64 (E : Int)] W fun e w' => HdAns (Pu.head D a E) e ∧ Below W.heap.size W w') := fun a W ha => by rw [hD]; exact head_any s a E W (by omega) ha hEs
  rw [← hD] at HLO hEl hDl ⊢
  clear hD hs hEs
  have HEl : Hid (E ≤ D.length ∧ D.length ≤ 1073741824) := ⟨hEl, hDl⟩
  clear hEl hDl
  obtain ⟨RR, hRR⟩ : ∃ RR, RR = finR cs (Pu.grpsR D E b cs gs 0 (List.replicate cs.length [])) := ⟨_, rfl⟩
  have HRR : Hid (RR = finR cs (Pu.grpsR D E b cs gs 0 (List.replicate cs.length []))) := hRR
  rw [← hRR]
  clear hRR
  go_enter Tryz.func20, Tryz.ntmps20
  go_wp2_with fail
  refine FR.out.mono ?_
  rintro e w2 ⟨⟨F, vc, vr, vk, vs, rfl, oc, fb, or, ok, ch⟩, hb2⟩
  obtain ⟨av, cv, rfl⟩ := slen_of oc
  obtain ⟨ar, cr, rfl⟩ := slen_of or
  obtain ⟨ak, ck, rfl⟩ := slen_of ok
  have hcl : cs.length ≤ 20 := (look_ok HLO.out).2.2.1
  have hgl : gs.length ≤ 50 := (look_ok HLO.out).2.2.2.1
  obtain ⟨n, hn⟩ : ∃ n, n = cs.length := ⟨_, rfl⟩
  obtain ⟨ng, hng⟩ : ∃ ng, ng = gs.length := ⟨_, rfl⟩
  obtain ⟨mc, hmc, hmk⟩ := make_lists n (by omega)
  have HTA : Hid (RT w w.heap.size (w.heap.size + 1) F (w2.heap.size + 1) (.slice av n cv) (.slice ar ng cr) (.slice ak ng ck) (.slice (some ⟨w2.heap.size, 0, none⟩) n n) E cs gs vs (List.replicate n []) ((w2.alloc (.cells mc 47)).alloc (.cells #[.slice av n cv, .slice (some ⟨w2.heap.size, 0, none⟩) n n] 36)).drew) := by
    unfold Hid; rw [hn] at hmc ⊢; rw [hng]
    refine rt_start rfl rfl hb2 oc fb or ok ch (((bbox w2 _).alloc (by rw [size_alloc']; omega) _).drew) ?_ ?_ (Nat.le_refl _) (by omega) hmc
    · have := heap_alloc_new (w2.alloc (.cells mc 47)) (.cells #[.slice av cs.length cv, .slice (some ⟨w2.heap.size, 0, none⟩) cs.length cs.length] 36)
      rw [size_alloc'] at this
      exact this
    · show ((w2.alloc _).alloc _).heap[w2.heap.size]? = _
      rw [Below.heap_alloc _ _ _ (by rw [size_alloc']; omega)]
      exact heap_alloc_new w2 _
  have HTB : Hid (RT w w.heap.size (w.heap.size + 1) F w2.heap.size (.slice av n cv) (.slice ar ng cr) (.slice ak ng ck) (.slice (some ⟨w2.heap.size + 1, 0, none⟩) n n) E cs gs vs (List.replicate n []) ((w2.alloc (.cells #[.slice av n cv, .slice (some ⟨w2.heap.size + 1, 0, none⟩) n n] 36)).alloc (.cells mc 47)).drew) := by
    unfold Hid; rw [hn] at hmc ⊢; rw [hng]
    refine rt_start rfl rfl hb2 oc fb or ok ch (((bbox w2 _).alloc (by rw [size_alloc']; omega) _).drew) ?_ ?_ (by omega) (by omega) hmc
    · show ((w2.alloc _).alloc _).heap[w2.heap.size]? = _
      rw [Below.heap_alloc _ _ _ (by rw [size_alloc']; omega)]
      exact heap_alloc_new w2 _
    · have := heap_alloc_new (w2.alloc (.cells #[.slice av cs.length cv, .slice (some ⟨w2.heap.size + 1, 0, none⟩) cs.length cs.length] 36)) (.cells mc 47)
      rw [size_alloc'] at this
      exact this
  have f0 := fb.c0
  rw [← hn] at f0 hcl
  have fA : ∀ o, (w2.alloc o).cell? ⟨F, 0, none⟩ = some (.slice av n cv) := fun o => by rw [World.cell?_of_block (w := w2) (Below.heap_alloc _ _ _ fb.ty.lt)]; exact f0
  have fB : ∀ o o', ((w2.alloc o).alloc o').cell? ⟨F, 0, none⟩ = some (.slice av n cv) := fun o o' => by rw [World.cell?_of_block (w := w2.alloc o) (Below.heap_alloc _ _ _ (by rw [size_alloc']; show F < w2.heap.size + 1; have := fb.ty.lt; omega))]; exact fA o
  rw [← hng] at hgl
  have Hn : Hid (n = cs.length) := hn
  have Hng : Hid (ng = gs.length) := hng
  clear oc fb or ok ch hb2 hn hng hmc FR
  go_upto_region 7 with fail
  go_cut [10] (fun s10 wx => ∃ T10 M : Nat, s10 = .pointer (some ⟨T10, 0, none⟩) ∧ Hid (RT w w.heap.size (w.heap.size + 1) F T10 (.slice av n cv) (.slice ar ng cr) (.slice ak ng ck) (.slice (some ⟨M, 0, none⟩) n n) E cs gs vs (List.replicate n []) wx))
  case first =>
    go_region
    all_goals (go_wp2_with fail; go_meet; first | exact ⟨_, _, rfl, HTA⟩ | exact ⟨_, _, rfl, HTB⟩)
  case rest =>
  obtain ⟨T10, M, rfl, HT⟩ := hcut
  clear HTA HTB hmk f0 fA fB
  have HO : Hid (ROut w F T10 (.slice av n cv) (.slice ar ng cr) (.slice ak ng ck) (.slice (some ⟨M, 0, none⟩) n n) D E b cs gs vs RR 0 0 wc) := ⟨List.replicate n [], HT.out, Nat.zero_le _, by rw [List.length_replicate]; exact Hn.out, fun x hx => by rw [List.eq_of_mem_replicate hx]; simp, by rw [HRR.out, ← Hn.out]; rfl⟩
  clear HT HRR
  go_wp2
  go_loopw [11, 12] (fun s11 i wr => ∃ k u : Nat, k ≤ ng ∧ i = .int .i64 k ∧ s11 = .int .i64 u ∧ Hid (ROut w F T10 (.slice av n cv) (.slice ar ng cr) (.slice ak ng ck) (.slice (some ⟨M, 0, none⟩) n n) D E b cs gs vs RR k u wr)) (fun _ i _ => ng - (intOf i).toNat)
  case atStart => exact ⟨0, 0, Nat.zero_le _, rfl, rfl, HO⟩
  case round =>
    clear HO
    obtain ⟨k, u0, hk, rfl, rfl, HO⟩ := hrel
    obtain ⟨wo, hwo⟩ : ∃ wo : World, wo = wr := ⟨_, rfl⟩
    subst hwo
    have f1 : wo.cell? ⟨F, 1, none⟩ = some (.slice ar ng cr) := by obtain ⟨ts, T, _⟩ := HO.out; exact T.fb.c1
    by_cases hk2 : k < ng
    · have hkd : decide ((k : Int) < (ng : Int)) = true := by simp; omega
      obtain ⟨rows, pl, hg, hrows, hpl, hch, hIn⟩ := HO.out.group (by rw [← Hng.out]; exact hk2) (look_ok HLO.out).2.2.2.2.2
      have HI0 : Hid (RIn w F T10 (.slice av n cv) (.slice ar ng cr) (.slice ak ng ck) (.slice (some ⟨M, 0, none⟩) n n) D E b cs gs vs RR k rows pl 0 u0 wo) := hIn
      have Hg : Hid (gs[k]? = some (rows, pl) ∧ pl.length = cs.length ∧ ∀ c ∈ pl, ChOk E c) := ⟨hg, hpl, hch⟩
      clear hg hpl hch hIn HO
      go_wp2
      clear f1
      go_loopw [11, 13] (fun s11 i wr => ∃ j u : Nat, j ≤ n ∧ i = .int .i64 j ∧ s11 = .int .i64 u ∧ Hid (RIn w F T10 (.slice av n cv) (.slice ar ng cr) (.slice ak ng ck) (.slice (some ⟨M, 0, none⟩) n n) D E b cs gs vs RR k rows pl j u wr)) (fun _ i _ => n - (intOf i).toNat)
      case atStart => exact ⟨0, u0, Nat.zero_le _, rfl, rfl, HI0⟩
      case round =>
        clear HI0
        obtain ⟨j, u1, hj, rfl, rfl, HI⟩ := hrel
        obtain ⟨wm, hwm⟩ : ∃ wm : World, wm = wr := ⟨_, rfl⟩
        subst hwm
        have f0 : wm.cell? ⟨F, 0, none⟩ = some (.slice av n cv) := by obtain ⟨ts, T, _⟩ := HI.out; exact T.fb.c0
        by_cases hj2 : j < n
        · have hjd : decide ((j : Int) < (n : Int)) = true := by simp; omega
          obtain ⟨gc, gr, gk, gp, cc, cr', ck', cp, nm, kind, opt, at', q, RC, hkind, hat, hq, l, hcs, hplj⟩ := HI.out.cells Hg.out.1 (by rw [← Hn.out]; exact hj2) Hg.out.2.1 (look_ok HLO.out).2.2.2.2.1 Hg.out.2.2
          rw [← Hn.out, ← Hng.out] at RC
          have e1 := RC.vce
          have e2 := RC.vre
          have e3 := RC.vke
          simp only [Value.slice.injEq, true_and] at e1 e2 e3
          obtain ⟨e1, e1'⟩ := e1
          obtain ⟨e2, e2'⟩ := e2
          obtain ⟨e3, e3'⟩ := e3
          subst e1 e1' e2 e2' e3 e3'
          have HRC : Hid (RCells F (.slice (some ⟨gc, 0, none⟩) n cv) (.slice (some ⟨gr, 0, none⟩) ng cr) (.slice (some ⟨gk, 0, none⟩) ng ck) E k j gc gr gk gp n cv ng cr ck cp nm kind opt rows at' q wm) := RC
          obtain ⟨PP, hPP⟩ : ∃ PP, PP = Pu.pages D E opt kind b q true at' u1 ⟨rows, [], false, []⟩ := ⟨_, rfl⟩
          have HERR : Hid (∀ x, PP = .error x → RR = .error x) := by
            obtain ⟨ts, T, hu, htl, hts, hR⟩ := HI.out
            intro x hx
            rw [hR, rest_part D E b rows cs pl j u1 ts _ _ _ hcs hplj]
            unfold Pu.part
            simp only [← hPP, hx]
          have HOKE : Hid (∀ u st, PP = .ok (u, st) → 0 < st.left → RR = .error 13) := by
            obtain ⟨ts, T, hu, htl, hts, hR⟩ := HI.out
            intro u st hx hle
            rw [hR, rest_part D E b rows cs pl j u1 ts _ _ _ hcs hplj]
            unfold Pu.part
            simp only [← hPP, hx, if_pos hle]
          have HOK : Hid (∃ ts, RT w w.heap.size (w.heap.size + 1) F T10 (.slice (some ⟨gc, 0, none⟩) n cv) (.slice (some ⟨gr, 0, none⟩) ng cr) (.slice (some ⟨gk, 0, none⟩) ng ck) (.slice (some ⟨M, 0, none⟩) n n) E cs gs vs ts wm ∧ ts.length = cs.length ∧ (∀ x ∈ ts, x.length ≤ 1000 * (20 * k + j)) ∧ ∀ u st, PP = .ok (u, st) → ¬ 0 < st.left → RR = restR D E b rows cs ((cs.zip pl).drop (j + 1)) (j + 1) u (ts.set j (ts.getD j [] ++ st.cells)) (gs.drop (k + 1))) := by
            obtain ⟨ts, T, hu, htl, hts, hR⟩ := HI.out
            refine ⟨ts, T, htl, hts, ?_⟩
            intro u st hx hle
            rw [hR, rest_part D E b rows cs pl j u1 ts _ _ _ hcs hplj]
            unfold Pu.part
            simp only [← hPP, hx, if_neg hle]
          have HER : Hid (∀ W, Below wm.heap.size wm W → W.heap[w.heap.size]? = some (.cells #[.slice none 0 0, .slice none 0 0] 36 (0, 0)) ∧ W.heap[w.heap.size + 1]? = some (.cells #[.slice none 0 0, .slice none 0 0] 36 (0, 0)) ∧ Below w.heap.size w W) := by
            obtain ⟨ts, T, hu, htl, hts, hR⟩ := HI.out
            intro W hW
            have T' := T.below hW
            exact ⟨T'.r4, T'.r7, T'.bl⟩
          have HU : Hid (u1 ≤ b ∧ rows ≤ 1000) := by obtain ⟨ts, T, hu, htl, hts, hR⟩ := HI.out; exact ⟨hu, hrows⟩
          have HPP : Hid (PP = Pu.pages D E opt kind b q true at' u1 ⟨rows, [], false, []⟩) := hPP
          have HBOX : Hid (RSta (wm.alloc (.cells #[.string nm, .int .i64 (kind : Int), .bool opt, .int .i64 (rows : Int), .slice none 0 0, .bool false, .slice none 0 0] 104)).drew wm.heap.size wm.heap.size nm kind opt ⟨rows, [], false, []⟩ ∧ Below wm.heap.size wm (wm.alloc (.cells #[.string nm, .int .i64 (kind : Int), .bool opt, .int .i64 (rows : Int), .slice none 0 0, .bool false, .slice none 0 0] 104)).drew) := ⟨⟨.slice none 0 0, .slice none 0 0, heap_alloc_new wm _, ⟨rfl, .inl ⟨rfl, rfl⟩⟩, ⟨rfl, .inl ⟨rfl, rfl⟩⟩, (fun k hk => by cases hk), Nat.le_refl _⟩, bboxd wm _⟩
          have f1 := RC.f1
          have c0 := RC.c0
          have c1 := RC.c1
          have c2 := RC.c2
          have d0 := RC.d0
          clear hPP hcs hplj RC HI
          go_upto_region 15 with fail
          go_cut [14] from 58 to 163 (fun s14 wx => ∃ r : Nat, s14 = .pointer (some ⟨r, 0, none⟩) ∧ Hid (RSta wx r wm.heap.size nm kind opt ⟨rows, [], false, []⟩ ∧ Below wm.heap.size wm wx))
          case first =>
            go_region
            all_goals (go_wp2_with fail; go_meet; exact ⟨_, rfl, HBOX⟩)
          case rest =>
          obtain ⟨r, rfl, HRS⟩ := hcut
          clear HBOX f0 f1 c0 c1 c2 d0
          have f2 := (HRC.out.below HRS.out.2).f2
          have k0 := (HRC.out.below HRS.out.2).k0
          have p0 := (HRC.out.below HRS.out.2).p0
          have HP0 : Hid (RPg wm r nm D E b opt kind q PP 0 u1 at' wc) := ⟨⟨rows, [], false, []⟩, HRS.out.1, HRS.out.2, HU.out.1, hat, by simp, by simp, by have := HU.out.2; simpa using this, HPP.out⟩
          clear HRS HU HPP
          go_wp2
          clear f2 k0 p0
          go_loopw [11, 15, 16] (fun s11 s15 i wr => ∃ t u a : Nat, t ≤ q ∧ i = .int .i64 t ∧ s11 = .int .i64 u ∧ s15 = .int .i64 a ∧ Hid (RPg wm r nm D E b opt kind q PP t u a wr)) (fun _ _ i _ => q - (intOf i).toNat)
          case atStart => exact ⟨0, u1, at', Nat.zero_le _, rfl, rfl, rfl, HP0⟩
          case round =>
            clear HP0
            obtain ⟨t, u, a, ht, rfl, rfl, rfl, HP⟩ := hrel
            have HB : Hid (Below wm.heap.size wm wr) := by obtain ⟨st, h1, h2, _⟩ := HP.out; exact h2
            have f2 := (HRC.out.below HB.out).f2
            have f3 := (HRC.out.below HB.out).f3
            have k0 := (HRC.out.below HB.out).k0
            have p1 := (HRC.out.below HB.out).p1
            by_cases ht2 : t < q
            · have htd : decide ((t : Int) < (q : Int)) = true := by simp; omega
              have HA : Hid (a ≤ E) := by obtain ⟨st, h1, h2, h3, h4, _⟩ := HP.out; exact h4
              have HBT : Hid (((t : Int) == 0) = decide (t = 0)) := by unfold Hid; by_cases h : t = 0 <;> simp [h]
              have STEP : Hid (RStep wm r nm D E b opt kind q PP t u a wr) := HP.out.step ht2 HEl.out.1 HEl.out.2 hb hkind
              have HHD := HEAD.out a wr HA.out
              rcases STEP.out with ⟨hh, hx⟩ | ⟨p, nx, hh, hrest⟩
              · rw [hh] at HHD
                have HH : Hid (Calls Tryz.prog 39 #[.string s, .int .i64 (a : Int), .int .i64 (E : Int)] wr fun e w' => (∃ a b c d f g x, e = .returned (.tuple #[.agg #[.int .i64 a, .int .i64 b, .bool c, .int .i64 d, .int .i64 f, .string g], .int .i64 x, .bool false])) ∧ Below wr.heap.size wr w') := HHD
                have HE : Hid (RR = .error 9) := HERR.out 9 hx
                clear HHD hh hx STEP
                go_wp2_with fail
                refine HH.out.mono ?_
                rintro e w3 ⟨⟨x1, x2, x3, x4, x5, x6, x7, rfl⟩, hb3⟩
                obtain ⟨r4, r7, hBB⟩ := HER.out _ (bself HB.out hb3)
                have HBB : Hid (Below w.heap.size w w3) := hBB
                obtain ⟨a1, a2, a3, a4, a5, a6, _, _, a9, b1, b2, b3, b4, a7⟩ := err_alloc (.cells #[.int .i64 x1, .int .i64 x2, .bool x3, .int .i64 x4, .int .i64 x5, .string x6] 109) r4 r7
                clear hb3 r4 r7 hBB HH
                go_wp2
                refine bodyPost_ret (v := .tuple #[.agg #[.slice none 0 0, .slice none 0 0], .int .i64 0, .int .i64 9]) (by simp [results, Tryz.results20, go_sem, b3, b4]) rfl ?_
                rw [HE.out]
                refine ⟨?_, rfl⟩
                first
                  | exact ((HBB.out.setCell (Nat.le_refl _) _).setCell (Nat.le_refl _) _).alloc (by rw [size_set, size_set]; omega) _
                  | exact ((HBB.out.alloc (by omega) _).setCell (Nat.le_refl _) _).setCell (Nat.le_refl _) _
              · rw [hh] at HHD
                have HH : Hid (Calls Tryz.prog 39 #[.string s, .int .i64 (a : Int), .int .i64 (E : Int)] wr fun e w' => e = .returned (.tuple #[.agg #[.int .i64 (p.sort : Int), .int .i64 (p.cells : Int), .bool p.packed, .int .i64 (p.size : Int), .int .i64 (p.sum : Int), .string ⟨p.body.toArray⟩], .int .i64 (nx : Int), .bool true]) ∧ Below wr.heap.size wr w') := HHD
                unfold pgV at hrest
                clear HHD hh STEP
                generalize (p.sort : Int) = so at HH hrest
                generalize (p.cells : Int) = ce at HH hrest
                generalize p.packed = pk at HH hrest
                generalize (p.size : Int) = si at HH hrest
                generalize (p.sum : Int) = su at HH hrest
                generalize (⟨p.body.toArray⟩ : ByteArray) = bo at HH hrest
                have HREST : Hid _ := hrest
                clear hrest
                go_wp2_with fail
                refine HH.out.mono ?_
                rintro e w3 ⟨rfl, hb3⟩
                have BM3 : Hid (Below wr.heap.size wr (w3.alloc (.cells #[.int .i64 so, .int .i64 ce, .bool pk, .int .i64 si, .int .i64 su, .string bo] 109))) := hb3.alloc hb3.size _
                clear hb3 HH
                rcases HREST.out with ⟨MAY, hx⟩ | ⟨MAY, ⟨ke, hke, hx, PAGE⟩ | ⟨u', st', PAGE, hnext⟩⟩
                · have MY : Hid (Calls Tryz.prog 40 #[.pointer (some ⟨r, 0, none⟩), .agg #[.int .i64 so, .int .i64 ce, .bool pk, .int .i64 si, .int .i64 su, .string bo], .bool ((t : Int) == 0)] (w3.alloc (.cells #[.int .i64 so, .int .i64 ce, .bool pk, .int .i64 si, .int .i64 su, .string bo] 109)) fun e w' => e = .returned (.bool false) ∧ Below (w3.alloc (.cells #[.int .i64 so, .int .i64 ce, .bool pk, .int .i64 si, .int .i64 su, .string bo] 109)).heap.size (w3.alloc (.cells #[.int .i64 so, .int .i64 ce, .bool pk, .int .i64 si, .int .i64 su, .string bo] 109)) w') := by unfold Hid; rw [HBT.out]; exact MAY _ BM3.out
                  have HE : Hid (RR = .error 9) := HERR.out 9 hx
                  clear MAY hx HREST
                  go_wp2_with fail
                  refine MY.out.mono ?_
                  rintro e w4 ⟨rfl, hb4⟩
                  obtain ⟨r4, r7, hBB⟩ := HER.out _ (bself (bself HB.out BM3.out) hb4)
                  have HBB : Hid (Below w.heap.size w w4) := hBB
                  obtain ⟨a1, a2, a3, a4, a5, a6, a7, a8, a9⟩ := err_cells r4 r7
                  clear hb4 r4 r7 hBB MY BM3
                  go_wp2
                  refine bodyPost_ret (v := .tuple #[.agg #[.slice none 0 0, .slice none 0 0], .int .i64 0, .int .i64 9]) (by simp [results, Tryz.results20, go_sem, a7, a8]) rfl ?_
                  rw [HE.out]
                  exact ⟨(HBB.out.setCell (Nat.le_refl _) _).setCell (Nat.le_refl _) _, rfl⟩
                · have MY : Hid (Calls Tryz.prog 40 #[.pointer (some ⟨r, 0, none⟩), .agg #[.int .i64 so, .int .i64 ce, .bool pk, .int .i64 si, .int .i64 su, .string bo], .bool ((t : Int) == 0)] (w3.alloc (.cells #[.int .i64 so, .int .i64 ce, .bool pk, .int .i64 si, .int .i64 su, .string bo] 109)) fun e w' => e = .returned (.bool true) ∧ Below (w3.alloc (.cells #[.int .i64 so, .int .i64 ce, .bool pk, .int .i64 si, .int .i64 su, .string bo] 109)).heap.size (w3.alloc (.cells #[.int .i64 so, .int .i64 ce, .bool pk, .int .i64 si, .int .i64 su, .string bo] 109)) w') := by unfold Hid; rw [HBT.out]; exact MAY _ BM3.out
                  have HE : Hid (RR = .error ke) := HERR.out ke hx
                  have hk0 : ((ke : Int) != 0) = true := by simp; omega
                  have HPAGE : Hid (∀ W', Below wr.heap.size wr W' → Calls Tryz.prog 41 #[.pointer (some ⟨r, 0, none⟩), .agg #[.int .i64 so, .int .i64 ce, .bool pk, .int .i64 si, .int .i64 su, .string bo], .int .i64 (u : Int), .int .i64 (b : Int)] W' fun e w' => e = .returned (.tuple #[.int .i64 0, .int .i64 (ke : Int)]) ∧ Below wm.heap.size W' w') := PAGE
                  clear MAY hx HREST hke PAGE
                  go_wp2_with fail
                  refine MY.out.mono ?_
                  rintro e w4 ⟨rfl, hb4⟩
                  have y0 : w4.cell? ⟨w3.heap.size, 0, none⟩ = some (.int .i64 so) := box_cell hb4
                  have y1 : w4.cell? ⟨w3.heap.size, 1, none⟩ = some (.int .i64 ce) := box_cell hb4
                  have y2 : w4.cell? ⟨w3.heap.size, 2, none⟩ = some (.bool pk) := box_cell hb4
                  have y3 : w4.cell? ⟨w3.heap.size, 3, none⟩ = some (.int .i64 si) := box_cell hb4
                  have y4 : w4.cell? ⟨w3.heap.size, 4, none⟩ = some (.int .i64 su) := box_cell hb4
                  have y5 : w4.cell? ⟨w3.heap.size, 5, none⟩ = some (.string bo) := box_cell hb4
                  have PG := HPAGE.out w4 (bself BM3.out hb4)
                  have HPG : Hid (Calls Tryz.prog 41 #[.pointer (some ⟨r, 0, none⟩), .agg #[.int .i64 so, .int .i64 ce, .bool pk, .int .i64 si, .int .i64 su, .string bo], .int .i64 (u : Int), .int .i64 (b : Int)] w4 fun e w' => e = .returned (.tuple #[.int .i64 0, .int .i64 (ke : Int)]) ∧ Below wm.heap.size w4 w') := PG
                  have HB4 : Hid (Below wm.heap.size wm w4) := bself (bself HB.out BM3.out) hb4
                  clear hb4 PG MY BM3 HPAGE
                  go_wp2_with fail
                  refine HPG.out.mono ?_
                  rintro e w5 ⟨rfl, hb5⟩
                  obtain ⟨r4, r7, hBB⟩ := HER.out _ (HB4.out.trans hb5)
                  have HBB : Hid (Below w.heap.size w w5) := hBB
                  obtain ⟨a1, a2, a3, a4, a5, a6, a7, a8, a9⟩ := err_cells r4 r7
                  clear hb5 r4 r7 hBB HPG y0 y1 y2 y3 y4 y5
                  go_wp2
                  refine bodyPost_ret (v := .tuple #[.agg #[.slice none 0 0, .slice none 0 0], .int .i64 0, .int .i64 (ke : Int)]) (by simp [results, Tryz.results20, go_sem, a7, a8]) rfl ?_
                  rw [HE.out]
                  exact ⟨(HBB.out.setCell (Nat.le_refl _) _).setCell (Nat.le_refl _) _, rfl⟩
                · have MY : Hid (Calls Tryz.prog 40 #[.pointer (some ⟨r, 0, none⟩), .agg #[.int .i64 so, .int .i64 ce, .bool pk, .int .i64 si, .int .i64 su, .string bo], .bool ((t : Int) == 0)] (w3.alloc (.cells #[.int .i64 so, .int .i64 ce, .bool pk, .int .i64 si, .int .i64 su, .string bo] 109)) fun e w' => e = .returned (.bool true) ∧ Below (w3.alloc (.cells #[.int .i64 so, .int .i64 ce, .bool pk, .int .i64 si, .int .i64 su, .string bo] 109)).heap.size (w3.alloc (.cells #[.int .i64 so, .int .i64 ce, .bool pk, .int .i64 si, .int .i64 su, .string bo] 109)) w') := by unfold Hid; rw [HBT.out]; exact MAY _ BM3.out
                  have HPAGE : Hid (∀ W', Below wr.heap.size wr W' → Calls Tryz.prog 41 #[.pointer (some ⟨r, 0, none⟩), .agg #[.int .i64 so, .int .i64 ce, .bool pk, .int .i64 si, .int .i64 su, .string bo], .int .i64 (u : Int), .int .i64 (b : Int)] W' fun e w' => e = .returned (.tuple #[.int .i64 (u' : Int), .int .i64 0]) ∧ Below wm.heap.size W' w' ∧ RSta w' r wm.heap.size nm kind opt st') := PAGE
                  have HNX : Hid (∀ W', RSta W' r wm.heap.size nm kind opt st' → Below wm.heap.size wm W' → RPg wm r nm D E b opt kind q PP (t + 1) u' nx W') := hnext
                  clear MAY HREST hnext PAGE
                  go_wp2_with fail
                  refine MY.out.mono ?_
                  rintro e w4 ⟨rfl, hb4⟩
                  have y0 : w4.cell? ⟨w3.heap.size, 0, none⟩ = some (.int .i64 so) := box_cell hb4
                  have y1 : w4.cell? ⟨w3.heap.size, 1, none⟩ = some (.int .i64 ce) := box_cell hb4
                  have y2 : w4.cell? ⟨w3.heap.size, 2, none⟩ = some (.bool pk) := box_cell hb4
                  have y3 : w4.cell? ⟨w3.heap.size, 3, none⟩ = some (.int .i64 si) := box_cell hb4
                  have y4 : w4.cell? ⟨w3.heap.size, 4, none⟩ = some (.int .i64 su) := box_cell hb4
                  have y5 : w4.cell? ⟨w3.heap.size, 5, none⟩ = some (.string bo) := box_cell hb4
                  have PG := HPAGE.out w4 (bself BM3.out hb4)
                  have HPG : Hid (Calls Tryz.prog 41 #[.pointer (some ⟨r, 0, none⟩), .agg #[.int .i64 so, .int .i64 ce, .bool pk, .int .i64 si, .int .i64 su, .string bo], .int .i64 (u : Int), .int .i64 (b : Int)] w4 fun e w' => e = .returned (.tuple #[.int .i64 (u' : Int), .int .i64 0]) ∧ Below wm.heap.size w4 w' ∧ RSta w' r wm.heap.size nm kind opt st') := PG
                  have HB4 : Hid (Below wm.heap.size wm w4) := bself (bself HB.out BM3.out) hb4
                  clear hb4 PG MY BM3 HPAGE
                  go_wp2_with fail
                  refine HPG.out.mono ?_
                  rintro e w5 ⟨rfl, hb5, hst⟩
                  have HP2 : Hid (RPg wm r nm D E b opt kind q PP (t + 1) u' nx w5) := HNX.out w5 hst (HB4.out.trans hb5)
                  clear hb5 hst HPG HB4 HNX y0 y1 y2 y3 y4 y5
                  go_wp2
                  go_roundw
                  case rel => exact ⟨t + 1, u', nx, by omega, by go_num, rfl, rfl, HP2⟩
                  case measure => simp [intOf]; omega
            · have htd : decide ((t : Int) < (q : Int)) = false := by simp; omega
              obtain ⟨st, hst, hbl, hu, ha, hdl, hds, hsum, hx⟩ := HP.out
              rw [show q - t = 0 by omega] at hx
              have hx2 : PP = .ok (u, st) := hx
              obtain ⟨vd, vl, g1, g2, g3, g4, g5⟩ := hst
              obtain ⟨al, cl, rfl⟩ := slen_of g3
              have c3 := g1.c3
              have c6 := g1.c6
              obtain ⟨lf, hlf⟩ : ∃ lf, lf = st.left := ⟨_, rfl⟩
              rw [← hlf] at c3
              by_cases hle : 0 < st.left
              · have HE : Hid (RR = .error 13) := HOKE.out u st hx2 hle
                have hd8 : decide ((0 : Int) < (lf : Int)) = true := by simp; omega
                have hd9 : decide (0 < lf) = true := by simp; omega
                obtain ⟨r4, r7, hBB⟩ := HER.out _ hbl
                have HBB : Hid (Below w.heap.size w wr) := hBB
                obtain ⟨a1, a2, a3, a4, a5, a6, a7, a8, a9⟩ := err_cells r4 r7
                clear r4 r7 hBB hbl hu ha hdl hds hsum hx hx2 g1 g2 g3 g4 g5 hlf hle c6 HP
                go_wp2
                refine bodyPost_ret (v := .tuple #[.agg #[.slice none 0 0, .slice none 0 0], .int .i64 0, .int .i64 13]) (by simp [results, Tryz.results20, go_sem, a7, a8]) rfl ?_
                rw [HE.out]
                exact ⟨(HBB.out.setCell (Nat.le_refl _) _).setCell (Nat.le_refl _) _, rfl⟩
              · have hd8 : decide ((0 : Int) < (lf : Int)) = false := by simp; omega
                have hd9 : decide (0 < lf) = false := by simp; omega
                obtain ⟨ts, T, htl, hts, hR⟩ := HOK.out
                have T2 := T.below hbl
                have hjt : j < ts.length := by rw [htl, ← Hn.out]; exact hj2
                obtain ⟨ai, ci, a5, k5, w5, hc, hoi, run5, own5, gr5, at5, hc5, hf5, kt5⟩ := tab_append T2.tb (by rw [htl]; exact Hn.out) hjt g3 (fun x hx => by have := hts x hx; omega) (by omega) T2.bl.size
                have HI2 : Hid (RIn w F T10 (.slice (some ⟨gc, 0, none⟩) n cv) (.slice (some ⟨gr, 0, none⟩) ng cr) (.slice (some ⟨gk, 0, none⟩) ng ck) (.slice (some ⟨M, 0, none⟩) n n) D E b cs gs vs RR k rows pl (j + 1) u (w5.setCell ⟨M, j, none⟩ (.slice a5 (ts[j].length + st.cells.length) k5))) := rin_next T2 htl Hn.out hj2 hts hu (by omega) (hR u st hx2 hle) hc hoi own5 gr5 at5
                have c101 : wr.cell? ⟨T10, 1, none⟩ = some (.slice (some ⟨M, 0, none⟩) n n) := by rw [cell_of_row _ _ 1 _ _ _ T2.r10]; rfl
                have c105 : w5.cell? ⟨T10, 1, none⟩ = some (.slice (some ⟨M, 0, none⟩) n n) := by rw [World.cell?_of_block (kt5 T10 36 ⟨_, T2.r10⟩ (by decide))]; exact c101
                obtain ⟨m, hm⟩ : ∃ m, m = ts[j].length := ⟨_, rfl⟩
                obtain ⟨ll, hll⟩ : ∃ ll, ll = st.cells.length := ⟨_, rfl⟩
                rw [← hm] at hc hc5 run5 HI2
                rw [← hll] at c6 run5 HI2
                have HR5 : Hid ((Builtin.append_ #[47, 47] 47 #[.slice ai m ci, .slice al ll cl]).run Tryz.prog wr.drew = .ok (.slice a5 (m + ll) k5) w5) := run5
                clear run5 hbl hu ha hdl hds hsum hx hx2 g1 g2 g3 g4 g5 hlf hle HP htl hts hR T T2 hjt hoi own5 gr5 at5 kt5 hm hll
                go_wp2
                go_region_law (refine step_append_run rfl (.tmp 157) (.tmp 161) 47 47 rfl _ _ _ _ rfl rfl HR5.out ?_)
                all_goals
                  go_wp2
                  go_roundw
                  case rel => exact ⟨j + 1, u, by omega, by go_num, rfl, HI2⟩
                  case measure => simp [intOf]; omega
        · obtain rfl : j = n := by omega
          have hjd : decide ((j : Int) < (j : Int)) = false := by simp
          have HO2 : Hid (ROut w F T10 (.slice av j cv) (.slice ar ng cr) (.slice ak ng ck) (.slice (some ⟨M, 0, none⟩) j j) D E b cs gs vs RR (k + 1) u1 wm) := HI.out.last Hn.out (by rw [← Hn.out]; exact hcl)
          go_wp2
          go_roundw
          case rel => exact ⟨k + 1, u1, by omega, by go_num, rfl, HO2⟩
          case measure => simp [intOf]; omega
    · have hkd : decide ((k : Int) < (ng : Int)) = false := by simp; omega
      obtain ⟨ts, T, hu, htl, hts, hR⟩ := HO.out
      have HE : Hid (RR = .ok (cs, ts, u0)) := by
        unfold Hid
        rw [hR, List.drop_eq_nil_of_le (by rw [← Hng.out]; omega)]
        rfl
      have HBB : Hid (Below w.heap.size w wo) := T.bl
      have Hoc : Hid (wo.ownsRow w.heap.size 54 3 (.slice av n cv) cs.length (colsV cs)) := T.oc
      have Htb : Hid (TabD wo w.heap.size (.slice (some ⟨M, 0, none⟩) n n) ts) := T.tb
      have r4 := T.r4
      have t4 : Ty wo w.heap.size 36 := ⟨_, r4⟩
      have c100 : wo.cell? ⟨T10, 0, none⟩ = some (.slice av n cv) := by rw [cell_of_row _ _ 0 _ _ _ T.r10]; rfl
      have c101 : wo.cell? ⟨T10, 1, none⟩ = some (.slice (some ⟨M, 0, none⟩) n n) := by rw [cell_of_row _ _ 1 _ _ _ T.r10]; rfl
      have a1 : wo.cell? ⟨w.heap.size, 0, none⟩ = some (.slice none 0 0) := by rw [cell_of_row _ _ 0 _ _ _ r4]; rfl
      have a2 : wo.cell? ⟨w.heap.size, 1, none⟩ = some (.slice none 0 0) := by rw [cell_of_row _ _ 1 _ _ _ r4]; rfl
      have a3 := frozen_of_row _ _ 0 _ _ r4
      have a4 := frozen_of_row _ _ 1 _ _ r4
      have r5 := setTwo_row r4 (.slice av n cv) (.slice (some ⟨M, 0, none⟩) n n)
      have a7 : ((wo.setCell ⟨w.heap.size, 0, none⟩ (.slice av n cv)).setCell ⟨w.heap.size, 1, none⟩ (.slice (some ⟨M, 0, none⟩) n n)).cell? ⟨w.heap.size, 0, none⟩ = some (.slice av n cv) := by rw [cell_of_row _ _ 0 _ _ _ r5]; rfl
      have a8 : ((wo.setCell ⟨w.heap.size, 0, none⟩ (.slice av n cv)).setCell ⟨w.heap.size, 1, none⟩ (.slice (some ⟨M, 0, none⟩) n n)).cell? ⟨w.heap.size, 1, none⟩ = some (.slice (some ⟨M, 0, none⟩) n n) := by rw [cell_of_row _ _ 1 _ _ _ r5]; rfl
      have KT : Hid (∀ k e, Ty wo k e → e ≠ 36 → ((wo.setCell ⟨w.heap.size, 0, none⟩ (.slice av n cv)).setCell ⟨w.heap.size, 1, none⟩ (.slice (some ⟨M, 0, none⟩) n n)).heap[k]? = wo.heap[k]?) := fun k e hk he => by rw [row_off (Ty.ne hk t4 he), row_off (Ty.ne hk t4 he)]
      have HTL : Hid (ts.length = cs.length ∧ cs.length ≤ 20 ∧ ∀ x ∈ ts, x.length ≤ 1000000) := ⟨htl, by rw [← Hn.out]; exact hcl, fun x hx => by have := hts x hx; omega⟩
      clear T r4 r5 t4 hR htl hts hu HO
      go_wp2
      refine bodyPost_ret (v := .tuple #[.agg #[.slice av n cv, .slice (some ⟨M, 0, none⟩) n n], .int .i64 (u0 : Int), .int .i64 0]) (by simp [results, Tryz.results20, go_sem, a7, a8]) rfl ?_
      rw [HE.out]
      refine ⟨(HBB.out.setCell (Nat.le_refl _) _).setCell (Nat.le_refl _) _, .slice av n cv, .slice (some ⟨M, 0, none⟩) n n, rfl, ?_, ?_, HTL.out⟩
      · exact own_agreeS Hoc.out (fun k hk => KT.out k 54 (own_tyS Hoc.out hk) (by decide))
      · exact Htb.out.kept (fun k hk => by rcases hk with hk | hk; exact KT.out k 47 hk (by decide); exact KT.out k 57 hk (by decide))
end Go.Proofs.YtjobhlncllfdmaaGreat
