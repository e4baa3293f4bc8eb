/- (*Book).reads: the walk. -/
import Derived.Test.YtjobhlncllfdmaaGreatM50
import Derived.Test.YtjobhlncllfdmaaGreatM45
import Derived.Test.YtjobhlncllfdmaaGreatM47
import Derived.Deep.DeepCutAuto
import Derived.Deep.RegionHeld3
namespace Go.Proofs.YtjobhlncllfdmaaGreat
open Go.RowKit

set_option maxHeartbeats 4000000 in
set_option maxRecDepth 100000 in
theorem breads (B b nb : Nat) (A : Nat → Prop) (s : ByteArray) (bd : Int) (w : World) (hBk : Book5 w B b A nb) (hs : s.size ≤ 1073741824) (hnb : nb ≤ 700000) :
    Calls Tryz.prog 8 #[.pointer (some ⟨b, 0, none⟩), .string s, .int .i64 bd] w fun e w' => e = .returned (.bool true) ∧ ∃ A', Chain w B b (nb + 92) A' w' := by
  have HBk : Hid (Book5 w B b A nb) := hBk
  have HBs : Hid (B ≤ w.heap.size) := hBk.bsize
  have Hlen : Hid (s.data.toList.length = s.size) := len_data s
  have L : Hid (Calls Tryz.prog 18 #[.string s] w fun e w' => ∃ g cap, e = .returned (.slice (some ⟨g, 0, none⟩) (s.size + 3) cap) ∧ w'.ownsRow w.heap.size 5 1 (.slice (some ⟨g, 0, none⟩) (s.size + 3) cap) (s.size + 3) (bytesV s.data.toList ++ [.int .u8 200, .int .u8 201, .int .u8 202]) ∧ Below w.heap.size w w') := lend_any s w (by omega)
  obtain ⟨R, hR⟩ : ∃ R, R = Pu.read s.data.toList bd := ⟨_, rfl⟩
  have hk13 : unK R ≤ 13 := by rw [hR]; exact unK_le _ _
  have RL : Hid (∀ W : World, Calls Tryz.prog 20 #[.string s, .int .i64 bd] W fun e w' => TrAns W R e w') := fun W => by rw [hR]; exact refRead_any s bd W hs
  have HA : Hid (∀ k, A k → k < w.heap.size) := fun k hk => (hBk.lt k hk).2
  have HR : Hid (R = Pu.read s.data.toList bd) := hR
  clear hBk hR
  go_enter Tryz.func8, Tryz.ntmps8
  go_wp2_with fail
  refine L.out.mono ?_
  rintro e w1 ⟨g, cap, rfl, hown, hbel⟩
  have hlt1 : g < w1.heap.size := (own_tyS hown rfl).lt
  have hlt2 : w.heap.size ≤ g := (hown.lt g rfl).1
  have hcap : s.size + 3 ≤ cap ∧ cap ≤ 9223372036854775807 := by
    rcases hown.2 with ⟨h, _⟩ | ⟨g', cap', cur, h, _, _, hnc, hm, _⟩
    · cases h
    · simp only [Value.slice.injEq] at h
      unfold maxLen at hm
      omega
  obtain ⟨hcap1, hcap2⟩ := hcap
  have C1 : Hid (Chain w B b nb A w1) := Chain.below ⟨HBk.out, Below.refl _ _⟩ hbel
  have M1 : Hid (Mine w1 A B 5 1 (.slice (some ⟨g, 0, none⟩) (s.size + 3) cap) (s.size + 3) (bytesV s.data.toList ++ [.int .u8 200, .int .u8 201, .int .u8 202])) := ⟨hown.mono HBs.out, fun k hk hA => by
    simp only [Value.ownBlock, Option.some.injEq] at hk
    have := HA.out k hA; omega⟩
  have LK : Hid (Calls Tryz.prog 6 #[.slice (some ⟨g, 0, none⟩) s.size cap, .int .i64 bd] w1 fun e w' => TrAns w1 R e w') := by
    have := strataRead_any g (some ⟨g, 0, none⟩) cap s.data.toList bd w1 (rest_of_lent5 hown) hlt1 (by rw [Hlen.out]; exact hs)
    rw [Hlen.out, ← HR.out] at this
    exact this
  have BA : Hid (∀ W : World, Chain w B b nb A W → Mine W A B 5 1 (.slice (some ⟨g, 0, none⟩) (s.size + 3) cap) (s.size + 3) (bytesV s.data.toList ++ [.int .u8 200, .int .u8 201, .int .u8 202]) → Calls Tryz.prog 19 #[.pointer (some ⟨b, 0, none⟩), .slice (some ⟨g, 0, none⟩) (s.size + 3) cap, .string s] W fun e w' => e = .returned (.bool true) ∧ Kept W B b A nb (some g) w') := fun W h1 h2 =>
    back5 B b A nb g cap s W h1.1 h2.1 (h2.2 g rfl) (by omega) (by omega)
  have Hsz : Hid (w.heap.size ≤ w1.heap.size) := hbel.size
  have Tg : Hid (∀ W : World, Below w1.heap.size w1 W → Ty W g 5) := fun W hW => by
    obtain ⟨C, hC⟩ := own_tyS hown rfl
    exact ⟨C, by rw [hW.block g hlt1]; exact hC⟩
  clear hown hbel HR L
  obtain ⟨cs, hcs⟩ : ∃ cs, cs = unC R := ⟨_, rfl⟩
  obtain ⟨ts, hts⟩ : ∃ ts, ts = unT R := ⟨_, rfl⟩
  obtain ⟨u, hu⟩ : ∃ u, u = unU R := ⟨_, rfl⟩
  obtain ⟨k, hk⟩ : ∃ k, k = unK R := ⟨_, rfl⟩
  have UN : Hid (∀ (W : World) (e : Ending) (w' : World), TrAns W R e w' → Below W.heap.size W w' ∧ ∃ av cv at' ct, e = .returned (.tuple #[.agg #[.slice av cs.length cv, .slice at' ts.length ct], .int .i64 (u : Int), .int .i64 (k : Int)]) ∧ w'.ownsRow W.heap.size 54 3 (.slice av cs.length cv) cs.length (colsV cs) ∧ TabD w' W.heap.size (.slice at' ts.length ct) ts ∧ cs.length ≤ 20 ∧ ts.length ≤ 20 ∧ ∀ x ∈ ts, x.length ≤ 1000000) := fun W e w' h => by
    rw [hcs, hts, hu, hk]; exact h.uni
  rw [← hk] at hk13
  clear hcs hts hu hk
  obtain ⟨nc, hnc⟩ : ∃ nc, nc = cs.length := ⟨_, rfl⟩
  obtain ⟨nt, hnt⟩ : ∃ nt, nt = ts.length := ⟨_, rfl⟩
  have LK2 : Hid (Calls Tryz.prog 6 #[.slice (some ⟨g, 0, none⟩) s.size cap, .int .i64 bd] w1 fun e w' => ∃ av cv at' ct, e = .returned (.tuple #[.agg #[.slice av nc cv, .slice at' nt ct], .int .i64 (u : Int), .int .i64 (k : Int)]) ∧ Hid (Below w1.heap.size w1 w' ∧ w'.ownsRow w1.heap.size 54 3 (.slice av cs.length cv) cs.length (colsV cs) ∧ TabD w' w1.heap.size (.slice at' ts.length ct) ts ∧ cs.length ≤ 20 ∧ ts.length ≤ 20 ∧ ∀ x ∈ ts, x.length ≤ 1000000)) := LK.out.mono (fun e w' h => by
    obtain ⟨h1, av, cv, at', ct, he, h2⟩ := UN.out _ _ _ h
    rw [hnc, hnt]
    exact ⟨av, cv, at', ct, he, h1, h2⟩)
  have RL2 : Hid (∀ W : World, Calls Tryz.prog 20 #[.string s, .int .i64 bd] W fun e w' => ∃ av cv at' ct, e = .returned (.tuple #[.agg #[.slice av nc cv, .slice at' nt ct], .int .i64 (u : Int), .int .i64 (k : Int)]) ∧ Hid (Below W.heap.size W w' ∧ w'.ownsRow W.heap.size 54 3 (.slice av cs.length cv) cs.length (colsV cs) ∧ TabD w' W.heap.size (.slice at' ts.length ct) ts)) := fun W => (RL.out W).mono (fun e w' h => by
    obtain ⟨h1, av, cv, at', ct, he, h2⟩ := UN.out _ _ _ h
    rw [hnc, hnt]
    exact ⟨av, cv, at', ct, he, h1, h2.1, h2.2.1⟩)
  have Hnc : Hid (nc = cs.length ∧ nt = ts.length) := ⟨hnc, hnt⟩
  clear LK RL UN hnc hnt
  go_wp2_with fail
  refine LK2.out.mono ?_
  rintro e w2 ⟨av, cv, at1, ct, rfl, HW2⟩
  have HX : Hid (cs.length ≤ 20 ∧ ts.length ≤ 20 ∧ ∀ x ∈ ts, x.length ≤ 1000000) := HW2.out.2.2.2
  have Hb2 : Hid (Below w1.heap.size w1 (w2.alloc (.cells #[.slice av nc cv, .slice at1 nt ct] 36))) := bself HW2.out.1 (bbox _ _)
  have C2 : Hid (Chain w B b nb A (w2.alloc (.cells #[.slice av nc cv, .slice at1 nt ct] 36))) := C1.out.below Hb2.out
  have M2 : Hid (Mine (w2.alloc (.cells #[.slice av nc cv, .slice at1 nt ct] 36)) A B 5 1 (.slice (some ⟨g, 0, none⟩) (s.size + 3) cap) (s.size + 3) (bytesV s.data.toList ++ [.int .u8 200, .int .u8 201, .int .u8 202])) := M1.out.below Hb2.out
  have Hs2 : Hid (w1.heap.size ≤ w2.heap.size) := HW2.out.1.size
  have AP : Hid (Apart (w2.alloc (.cells #[.slice av nc cv, .slice at1 nt ct] 36)) A w2.heap.size (.cells #[.slice av nc cv, .slice at1 nt ct] 36 (0, 0))) := ⟨heap_alloc_new w2 _, fun hA => by have := HA.out _ hA; have := Hs2.out; have := Hsz.out; omega⟩
  have Hg2 : Hid (some g ≠ some w2.heap.size) := fun e' => by simp only [Option.some.injEq] at e'; have := Hs2.out; omega
  have hB1 : Hid (B ≤ w1.heap.size) := Nat.le_trans HBs.out Hsz.out
  have HA1 : Hid (∀ k, A k → k < w1.heap.size) := fun k hk => by have := HA.out k hk; have := Hsz.out; omega
  have Mc : Hid (Mine (w2.alloc (.cells #[.slice av nc cv, .slice at1 nt ct] 36)) A B 54 3 (.slice av cs.length cv) cs.length (colsV cs)) := Mine.below ⟨HW2.out.2.1.mono hB1.out, fun k hk hA => by have := (HW2.out.2.1.lt k hk).1; have := HA1.out k hA; omega⟩ (bbox _ _)
  have Mt : Hid (MTab (w2.alloc (.cells #[.slice av nc cv, .slice at1 nt ct] 36)) A B (.slice at1 ts.length ct) ts) := (MTab.new HW2.out.2.2.1 hB1.out HA1.out).below (bbox _ _)
  have T2g : Hid (Ty (w2.alloc (.cells #[.slice av nc cv, .slice at1 nt ct] 36)) g 5) := Tg.out _ Hb2.out
  clear HW2 Hb2 C1 M1 LK2 Tg hB1 HA1 HA
  go_wp2_with fail
  refine (BA.out _ C2.out M2.out).mono ?_
  rintro e w3 ⟨rfl, hK⟩
  obtain ⟨A3, c3, af3⟩ := C2.out.kept hK (fun k hk => by simp only [Option.some.injEq] at hk; have := HBs.out; omega)
  have AP3 : Hid (Apart w3 A3 w2.heap.size (.cells #[.slice av nc cv, .slice at1 nt ct] 36 (0, 0))) := AP.out.after af3 Hg2.out
  have Mc3 : Hid (Mine w3 A3 B 54 3 (.slice av cs.length cv) cs.length (colsV cs)) := Mc.out.after af3 (fun k hk e' => by simp only [Option.some.injEq] at e'; subst e'; exact Ty.ne T2g.out (own_tyS Mc.out.1 hk) (by decide) rfl)
  have Mt3 : Hid (MTab w3 A3 B (.slice at1 ts.length ct) ts) := Mt.out.after af3 (fun k hk => by simp only [Option.some.injEq] at hk; subst hk; exact ⟨5, T2g.out, by decide, by decide⟩)
  have C3 : Hid (Chain w B b (nb + 4) A3 w3) := c3
  clear hK c3 af3 C2 M2 AP BA Mc Mt T2g
  go_wp2_with fail
  refine (RL2.out _).mono ?_
  rintro e w4 ⟨av2, cv2, at2, ct2, rfl, HW4⟩
  have Hb4 : Hid (Below w3.heap.size w3 (w4.alloc (.cells #[.slice av2 nc cv2, .slice at2 nt ct2] 36))) := bself HW4.out.1 (bbox _ _)
  have k0 : (w4.alloc (.cells #[.slice av2 nc cv2, .slice at2 nt ct2] 36)).cell? ⟨w2.heap.size, 0, none⟩ = some (.slice av nc cv) := by rw [cell_of_row _ _ 0 _ _ _ (AP3.out.below Hb4.out).1]; rfl
  have k1 : (w4.alloc (.cells #[.slice av2 nc cv2, .slice at2 nt ct2] 36)).cell? ⟨w2.heap.size, 1, none⟩ = some (.slice at1 nt ct) := by rw [cell_of_row _ _ 1 _ _ _ (AP3.out.below Hb4.out).1]; rfl
  have SC : Hid (Calls Tryz.prog 21 #[.slice av nc cv, .slice av2 nc cv2] (w4.alloc (.cells #[.slice av2 nc cv2, .slice at2 nt ct2] 36)) fun e w' => e = .returned (.bool true) ∧ ∃ m, w' = (w4.alloc (.cells #[.slice av2 nc cv2, .slice at2 nt ct2] 36)).drewN m) := by
    have := sameCols av av2 cv cv2 cs _ _ (w4.alloc (.cells #[.slice av2 nc cv2, .slice at2 nt ct2] 36)) (Mc3.out.below Hb4.out).1 (own_below HW4.out.2.1 (bbox _ _)) (by have := HX.out.1; omega)
    rw [← Hnc.out.1] at this
    exact this
  have SL : Hid (∀ n, Calls Tryz.prog 7 #[.slice at1 nt ct, .slice at2 nt ct2] ((w4.alloc (.cells #[.slice av2 nc cv2, .slice at2 nt ct2] 36)).drewN n) fun e w' => e = .returned (.bool true) ∧ ∃ m, w' = ((w4.alloc (.cells #[.slice av2 nc cv2, .slice at2 nt ct2] 36)).drewN n).drewN m) := fun n => by
    have hd : Below (w4.alloc (.cells #[.slice av2 nc cv2, .slice at2 nt ct2] 36)).heap.size (w4.alloc (.cells #[.slice av2 nc cv2, .slice at2 nt ct2] 36)) ((w4.alloc (.cells #[.slice av2 nc cv2, .slice at2 nt ct2] 36)).drewN n) := below_drewN (Below.refl _ _) n
    have t1 := ((Mt3.out.below Hb4.out).below hd).1.tab
    have t2 := (HW4.out.2.2.kept (W' := (w4.alloc (.cells #[.slice av2 nc cv2, .slice at2 nt ct2] 36)).drewN n) (fun k hk => (bself (bbox w4 _) hd).block k (by rcases hk with hk | hk <;> exact hk.lt))).tab
    have := sameCells_any at1 at2 ct ct2 ts _ _ ((w4.alloc (.cells #[.slice av2 nc cv2, .slice at2 nt ct2] 36)).drewN n) t1 t2 (by have := HX.out.2.1; omega) (fun i hi => by have := HX.out.2.2 _ (List.getElem_mem hi); omega)
    rw [← Hnc.out.2] at this
    exact this
  have KC : Hid (∀ W : World, Below (w4.alloc (.cells #[.slice av2 nc cv2, .slice at2 nt ct2] 36)).heap.size (w4.alloc (.cells #[.slice av2 nc cv2, .slice at2 nt ct2] 36)) W → Calls Tryz.prog 22 #[.pointer (some ⟨b, 0, none⟩), .slice av nc cv] W fun e w' => e = .returned (.tuple #[]) ∧ Hid (∃ A6, Chain w B b (nb + 8) A6 w' ∧ MTab w' A6 B (.slice at1 ts.length ct) ts) ∧ w'.cell? ⟨w2.heap.size, 1, none⟩ = some (.slice at1 nt ct)) := fun W hW => by
    have c4 := (C3.out.below Hb4.out).below hW
    have mc4 := (Mc3.out.below Hb4.out).below hW
    have mt4 := (Mt3.out.below Hb4.out).below hW
    have ap4 := (AP3.out.below Hb4.out).below hW
    have := keepColumns5 B b cs.length A3 (nb + 4) av cv _ W c4.1 mc4.1 mc4.2 (by have := HX.out.1; omega) (by omega)
    rw [← Hnc.out.1] at this
    refine this.mono ?_
    rintro e w6 ⟨he, hK⟩
    rw [Hnc.out.1] at hK
    obtain ⟨A6, c6, af6⟩ := c4.kept hK (fun k hk => (mc4.1.lt k hk).1)
    have ap6 := ap4.after af6 (fun e' => Ty.ne (own_tyS mc4.1 e') ⟨_, ap4.1⟩ (by decide) rfl)
    exact ⟨he, ⟨A6, c6, mt4.after af6 (fun k hk => ⟨54, own_tyS mc4.1 hk, by decide, by decide⟩)⟩, by rw [cell_of_row _ _ 1 _ _ _ ap6.1]; rfl⟩
  have KL : Hid (∀ W : World, (∃ A6, Chain w B b (nb + 8) A6 W ∧ MTab W A6 B (.slice at1 ts.length ct) ts) → Calls Tryz.prog 23 #[.pointer (some ⟨b, 0, none⟩), .slice at1 nt ct] W fun e w' => e = .returned (.tuple #[]) ∧ Hid (∃ A', Chain w B b (nb + 92) A' w')) := fun W h => by
    obtain ⟨A6, c6, m6⟩ := h
    have := keepTab5 B b A6 (nb + 8) at1 ct ts w W c6 m6 HX.out.2.1 HX.out.2.2 (by omega)
    rw [← Hnc.out.2] at this
    exact this
  clear HW4 AP3 C3 RL2 Mc3 Mt3 HX Hb4
  go_wp2_with fail
  refine SC.out.mono ?_
  rintro e w' ⟨rfl, n1, hw'⟩
  subst w'
  obtain ⟨w5, hw5⟩ : ∃ w5, w5 = (w4.alloc (.cells #[.slice av2 nc cv2, .slice at2 nt ct2] 36)).drewN n1 := ⟨_, rfl⟩
  rw [← hw5]
  have k05 : w5.cell? ⟨w2.heap.size, 0, none⟩ = some (.slice av nc cv) := by rw [hw5]; exact k0
  have k15 : w5.cell? ⟨w2.heap.size, 1, none⟩ = some (.slice at1 nt ct) := by rw [hw5]; exact k1
  have m15 : w5.cell? ⟨w4.heap.size, 1, none⟩ = some (.slice at2 nt ct2) := by rw [hw5]; exact cell_of_row (w4.alloc (.cells #[.slice av2 nc cv2, .slice at2 nt ct2] 36)) _ 1 _ _ _ (heap_alloc_new w4 _)
  have SL5 : Hid (Calls Tryz.prog 7 #[.slice at1 nt ct, .slice at2 nt ct2] w5 fun e w' => e = .returned (.bool true) ∧ ∃ m, w' = w5.drewN m) := by rw [hw5]; exact SL.out n1
  have H5 : Hid (Below (w4.alloc (.cells #[.slice av2 nc cv2, .slice at2 nt ct2] 36)).heap.size (w4.alloc (.cells #[.slice av2 nc cv2, .slice at2 nt ct2] 36)) w5) := by rw [hw5]; exact below_drewN (Below.refl _ _) n1
  clear hw5 k0 k1 SL SC
  go_wp2_with fail
  refine SL5.out.mono ?_
  rintro e w' ⟨rfl, n2, hw'⟩
  subst w'
  obtain ⟨w6, hw6⟩ : ∃ w6, w6 = w5.drewN n2 := ⟨_, rfl⟩
  rw [← hw6]
  have k06 : w6.cell? ⟨w2.heap.size, 0, none⟩ = some (.slice av nc cv) := by rw [hw6]; exact k05
  have H6 : Hid (Below (w4.alloc (.cells #[.slice av2 nc cv2, .slice at2 nt ct2] 36)).heap.size (w4.alloc (.cells #[.slice av2 nc cv2, .slice at2 nt ct2] 36)) w6) := by rw [hw6]; exact below_drewN H5.out n2
  clear hw6 k05 k15 m15 SL5 H5
  go_wp2_with fail
  refine (KC.out _ H6.out).mono ?_
  rintro e w7 ⟨rfl, HC7, c17⟩
  clear H6 KC k06
  go_wp2_with fail
  refine (KL.out _ HC7.out).mono ?_
  rintro e w8 ⟨rfl, HC8⟩
  clear HC7 KL c17
  go_wp2_with fail
  refine (num_any (k : Int) _ (by omega)).mono ?_
  rintro e w' ⟨rfl, hw'⟩
  subst w'
  go_wp2
  go_ret
  exact ⟨rfl, HC8.out⟩
end Go.Proofs.YtjobhlncllfdmaaGreat

/- The document's file, read. -/
namespace Go.Proofs.YtjobhlncllfdmaaGreat
open Go.RowKit

def pageL' (sort cells : Nat) (D : List UInt8) : List UInt8 := [UInt8.ofNat sort, 0] ++ vb cells ++ vb D.length ++ vb D.length ++ leB 4 (Pu.sum D) ++ D
def docL : List UInt8 := [83, 84, 82, 65, 0, 0, 2, 16, 16, 185, 221, 246, 0, 1, 0, 0, 0, 0, 0, 0, 0, 2, 0, 0, 0, 0, 0, 0, 0, 1, 1, 97, 1, 1, 2, 4, 1, 8, 0, 0, 0, 149, 103, 100, 89, 83, 84, 82, 65]

theorem exVals_lit : exVals = [1, 0, 0, 0, 0, 0, 0, 0, 2, 0, 0, 0, 0, 0, 0, 0] := by kernel_rfl
theorem exSum : leB 4 (Pu.sum [1, 0, 0, 0, 0, 0, 0, 0, 2, 0, 0, 0, 0, 0, 0, 0]) = [185, 221, 246, 0] := by kernel_rfl
theorem foot_lit : exFoot = [1, 1, 97, 1, 1, 2, 4, 1] := by
  unfold exFoot
  rw [heads_ex, vb_small (n := 1) (by decide), vb_small (n := 2) (by decide), vb_small (n := 4) (by decide)]
  rfl
theorem end_lit : endL [1, 1, 97, 1, 1, 2, 4, 1] = [1, 1, 97, 1, 1, 2, 4, 1, 8, 0, 0, 0, 149, 103, 100, 89, 83, 84, 82, 65] := by kernel_rfl
theorem page_lit : pageL' 0 2 exVals = [0, 0, 2, 16, 16, 185, 221, 246, 0, 1, 0, 0, 0, 0, 0, 0, 0, 2, 0, 0, 0, 0, 0, 0, 0] := by
  unfold pageL'
  rw [exVals_lit, exSum, show ([1, 0, 0, 0, 0, 0, 0, 0, 2, 0, 0, 0, 0, 0, 0, 0] : List UInt8).length = 16 from rfl, vb_small (n := 2) (by decide), vb_small (n := 16) (by decide)]
  rfl
theorem doc_list : docOf (pageL' 0 2 exVals) = docL := by
  unfold docOf
  rw [foot_lit, end_lit, page_lit]
  rfl
theorem doc_read32 : Pu.read docL 32 = .ok ([⟨[97], 1, false⟩], [[⟨false, 1, []⟩, ⟨false, 2, []⟩]], 32) := by kernel_rfl
theorem doc_read31 : Pu.read docL 31 = .error 10 := by kernel_rfl
end Go.Proofs.YtjobhlncllfdmaaGreat

/- Reads: its walk. -/
namespace Go.Proofs.YtjobhlncllfdmaaGreat
open Go.RowKit

/-- '[]byte(s)' is bytes to be read -/
theorem bytes_rest (w : World) (D : List UInt8) (hD : D.length ≤ 1000) : ∃ cp w2, (convert 9 25 (.string ⟨D.toArray⟩)).run Tryz.prog w = .ok (.slice (some ⟨w.heap.size, 0, none⟩) D.length cp) w2 ∧ Rest w2 w.heap.size (some ⟨w.heap.size, 0, none⟩) cp D ∧ w.heap.size < w2.heap.size ∧ Below w.heap.size w w2 := by
  have hr := run_bytes_of_string (P := Tryz.prog) w 9 25 5 ⟨D.toArray⟩ Tryz.underlying9 Tryz.underlying25 Tryz.underlying5
  have hsz : (⟨D.toArray⟩ : ByteArray).size = D.length := by rw [← len_data]
  rw [hsz] at hr
  have hge := grownCap_ge w D.length 0 5
  have hcm : grownCap w D.length 0 5 ≤ maxLen := grownCap_le_maxLen w D.length 0 5 (by unfold maxLen; omega)
  refine ⟨_, _, hr, ⟨hge, hcm, .inr ⟨0, rfl, fun j hj => ?_⟩⟩, by rw [size_alloc']; exact Nat.lt_succ_self _, ((Below.refl _ _).drew).alloc (Nat.le_refl _) _⟩
  have hnew := heap_alloc_new w.drew (.cells (bytesRow ⟨D.toArray⟩ (grownCap w D.length 0 5)) 5 ((bytesRow ⟨D.toArray⟩ (grownCap w D.length 0 5)).size, (bytesRow ⟨D.toArray⟩ (grownCap w D.length 0 5)).size + 1))
  rw [Nat.zero_add]
  refine (cell_of_row _ _ j _ _ _ hnew).trans ?_
  unfold bytesRow
  rw [Array.getElem?_append_left (by simpa using hj)]
  simp [Pu.byteAt, List.getD_eq_getElem?_getD, List.getElem?_eq_getElem hj]

theorem field_ex (a b : Option Addr) (n m c d : Nat) (W : World) : (Instr.field 36 (.agg #[.slice a n c, .slice b m d]) 1).run Tryz.prog W = .ok (.slice b m d) W := by
  simp [Instr.field, go_sem, asAgg]

def exTs : List (List Pu.Cl) := [[⟨false, 1, []⟩, ⟨false, 2, []⟩]]

theorem exTab {W : World} {gc gt gl : Nat} (h : ExT W gc gt gl) : Tab W 0 (.slice (some ⟨gt, 0, none⟩) 1 1) exTs := by
  refine ⟨[.slice (some ⟨gl, 0, none⟩) 2 2], ⟨rfl, .inr ⟨gt, 1, _, rfl, Nat.zero_le _, h.2.1, by decide, by decide, rfl, rfl⟩⟩, fun i hi => ?_⟩
  obtain rfl : i = 0 := by simp [exTs] at hi; exact hi
  exact ⟨some ⟨gl, 0, none⟩, 2, rfl, ⟨rfl, .inr ⟨gl, 2, _, rfl, Nat.zero_le _, h.2.2, Nat.le_refl 2, by decide, rfl, rfl⟩⟩⟩

set_option maxHeartbeats 8000000 in
set_option maxRecDepth 100000 in
theorem reads_top (s p gr : ByteArray) (bd : Int) (vc : Value) (w : World) (hs : s.size ≤ 1073741824)
    (SE : Hid (∀ W : World, Below w.heap.size w W → Calls Tryz.prog 10 #[.string p, vc, .string gr] W fun e w' => ∃ t, e = .returned (.string t) ∧ t.size ≤ 1073741824 ∧ Below W.heap.size W w'))
    (PG : Hid (∀ W : World, Calls Tryz.prog 28 #[.int .i64 0, .int .i64 2, .string ⟨exVals.toArray⟩] W fun e w' => e = .returned (.string ⟨(pageL' 0 2 exVals).toArray⟩) ∧ Below W.heap.size W w')) :
    Calls Tryz.prog 3 #[.string s, .int .i64 bd, .string p, vc, .string gr] w fun e w' => e = .returned (.bool true) ∧ Below w.heap.size w w' := by
  have HS : Hid (∀ (W : World) (A : Nat → Prop) (n : Nat) (t : ByteArray), Book5 W w.heap.size w.heap.size A n → t.size ≤ 1073741824 → n ≤ 700000 → Calls Tryz.prog 8 #[.pointer (some ⟨w.heap.size, 0, none⟩), .string t, .int .i64 bd] W fun e w' => e = .returned (.bool true) ∧ ∃ A', Chain W w.heap.size w.heap.size (n + 92) A' w') := fun W A n t h1 h2 h3 => breads w.heap.size w.heap.size n A t bd W h1 h2 h3
  have LO : Hid (∀ (W : World) (A : Nat → Prop) (n : Nat), Book5 W w.heap.size w.heap.size A n → n ≤ 1000000 → Calls Tryz.prog 9 #[.pointer (some ⟨w.heap.size, 0, none⟩)] W fun e w' => e = .returned (.bool true) ∧ ∃ n, w' = W.drewN n) := fun W A n h1 h2 => looks5 w.heap.size w.heap.size A n W h1 h2
  have WX : Hid (∀ (gc gt gl : Nat) (W : World), ExT W gc gt gl → Calls Tryz.prog 4 #[.agg #[.slice (some ⟨gc, 0, none⟩) 1 1, .slice (some ⟨gt, 0, none⟩) 1 1], .int .i64 10] W fun e w' => e = .returned (.tuple #[.string ⟨docL.toArray⟩, .int .i64 0]) ∧ Below W.heap.size W w') := fun gc gt gl W hW => by
    have := write_ex gc gt gl ⟨(pageL' 0 2 exVals).toArray⟩ W hW (by rw [page_lit]; decide) PG
    rw [doc_list] at this
    exact this
  have BK : Hid (Book5 (w.alloc (.cells #[.int .i64 0, .slice none 0 0, .slice none 0 0, .slice none 0 0, .slice none 0 0, .slice none 0 0, .slice none 0 0, .slice none 0 0, .slice none 0 0, .slice none 0 0, .slice none 0 0] 32)) w.heap.size w.heap.size (fun k => k = w.heap.size) 0) := Book5.start w
  have HB0 : Hid (Below w.heap.size w (w.alloc (.cells #[.int .i64 0, .slice none 0 0, .slice none 0 0, .slice none 0 0, .slice none 0 0, .slice none 0 0, .slice none 0 0, .slice none 0 0, .slice none 0 0, .slice none 0 0, .slice none 0 0] 32))) := bbox w _
  have EX : Hid (∀ W : World, Calls Tryz.prog 5 #[] W fun e w' => ∃ gc gt gl : Nat, e = .returned (.agg #[.slice (some ⟨gc, 0, none⟩) 1 1, .slice (some ⟨gt, 0, none⟩) 1 1]) ∧ ExT w' gc gt gl ∧ Below W.heap.size W w') := fun W => example_any W
  clear PG
  go_enter Tryz.func3, Tryz.ntmps3
  go_wp2_with fail
  refine (EX.out _).mono ?_
  rintro e w1 ⟨gc, gt, gl, rfl, hex, hb1⟩
  have HX1 : Hid (ExT w1 gc gt gl) := hex
  have BK1 : Hid (Book5 w1 w.heap.size w.heap.size (fun k => k = w.heap.size) 0 ∧ Below w.heap.size w w1) := ⟨BK.out.below hb1 (Nat.le_refl _), HB0.out.trans (hb1.mono HB0.out.size)⟩
  clear hb1 hex BK HB0
  go_wp2_with fail
  refine (WX.out gc gt gl _ HX1.out).mono ?_
  rintro e w2 ⟨rfl, hb2⟩
  have BK2 : Hid (Book5 w2 w.heap.size w.heap.size (fun k => k = w.heap.size) 0 ∧ Below w.heap.size w w2) := ⟨BK1.out.1.below hb2 (Nat.le_refl _), BK1.out.2.trans (hb2.mono BK1.out.2.size)⟩
  clear hb2 BK1 WX HX1
  obtain ⟨cp, w3, cv, hrest, hlt3, hb3⟩ := bytes_rest w2 docL (by decide)
  have RD : Hid (Calls Tryz.prog 6 #[.slice (some ⟨w2.heap.size, 0, none⟩) 49 cp, .int .i64 32] w3 fun e w' => TrAns w3 (.ok ([⟨[97], 1, false⟩], exTs, 32)) e w') := by
    have := strataRead_any w2.heap.size (some ⟨w2.heap.size, 0, none⟩) cp docL 32 w3 hrest hlt3 (by decide)
    rw [doc_read32] at this
    exact this
  have cv' : (convert 9 25 (.string ⟨docL.toArray⟩)).run Tryz.prog w2 = .ok (.slice (some ⟨w2.heap.size, 0, none⟩) 49 cp) w3 := cv
  have BK3 : Hid (Book5 w3 w.heap.size w.heap.size (fun k => k = w.heap.size) 0 ∧ Below w.heap.size w w3) := ⟨BK2.out.1.below hb3 (Nat.le_refl _), BK2.out.2.trans (hb3.mono BK2.out.2.size)⟩
  clear hb3 hrest hlt3 cv BK2
  obtain ⟨dl, hdl⟩ : ∃ dl : ByteArray, dl = ⟨docL.toArray⟩ := ⟨_, rfl⟩
  have HDL : Hid (dl = ⟨docL.toArray⟩) := hdl
  rw [← hdl] at cv' ⊢
  clear hdl
  go_wp2_with fail
  refine RD.out.mono ?_
  rintro e w4 ⟨hb4, v1, v2, rfl, oc, ot, _⟩
  obtain ⟨av, cc, rfl⟩ := slen_of oc
  obtain ⟨vs, q1, q2, q3⟩ := ot
  obtain ⟨at1, ct, rfl⟩ := slen_of q1
  have HT4 : Hid (TabD w4 w3.heap.size (.slice at1 1 ct) exTs) := ⟨vs, q1, q2, q3⟩
  have BK4 : Hid (Book5 w4 w.heap.size w.heap.size (fun k => k = w.heap.size) 0 ∧ Below w.heap.size w w4) := ⟨BK3.out.1.below hb4 (Nat.le_refl _), BK3.out.2.trans (hb4.mono BK3.out.2.size)⟩
  clear hb4 oc q1 q2 q3 BK3 RD cv'
  obtain ⟨wa, hwa⟩ : ∃ wa : World, wa = (w4.alloc (.cells #[.slice av 1 cc, .slice at1 1 ct] 36)) := ⟨_, rfl⟩
  have BKa : Hid (Book5 wa w.heap.size w.heap.size (fun k => k = w.heap.size) 0 ∧ Below w.heap.size w wa) := by rw [hwa]; exact ⟨BK4.out.1.below (bbox _ _) (Nat.le_refl _), BK4.out.2.trans ((bbox _ _).mono BK4.out.2.size)⟩
  have HTa : Hid (TabD wa w3.heap.size (.slice at1 1 ct) exTs) := by rw [hwa]; exact HT4.out.kept (fun k hk => (bbox w4 _).block k (by rcases hk with hk | hk <;> exact hk.lt))
  have HRa : Hid (wa.heap[w4.heap.size]? = some (.cells #[.slice av 1 cc, .slice at1 1 ct] 36 (0, 0))) := by rw [hwa]; exact heap_alloc_new w4 _
  obtain ⟨cp2, w5, cv2, hrest, hlt5, hb5⟩ := bytes_rest wa docL (by decide)
  have RD2 : Hid (Calls Tryz.prog 6 #[.slice (some ⟨wa.heap.size, 0, none⟩) 49 cp2, .int .i64 31] w5 fun e w' => TrAns w5 (.error 10) e w') := by
    have := strataRead_any wa.heap.size (some ⟨wa.heap.size, 0, none⟩) cp2 docL 31 w5 hrest hlt5 (by decide)
    rw [doc_read31] at this
    exact this
  have cv2' : (convert 9 25 (.string dl)).run Tryz.prog wa = .ok (.slice (some ⟨wa.heap.size, 0, none⟩) 49 cp2) w5 := by rw [HDL.out]; exact cv2
  have cv2'' : (convert 9 25 (.string dl)).run Tryz.prog (w4.alloc (.cells #[.slice av 1 cc, .slice at1 1 ct] 36)) = .ok (.slice (some ⟨w4.heap.size + 1, 0, none⟩) 49 cp2) w5 := by rw [← hwa, cv2', hwa, size_alloc']
  have RD2' : Hid (Calls Tryz.prog 6 #[.slice (some ⟨w4.heap.size + 1, 0, none⟩) 49 cp2, .int .i64 31] w5 fun e w' => TrAns w5 (.error 10) e w') := by
    have := RD2
    rw [hwa, size_alloc'] at this
    exact this
  have BK5 : Hid (Book5 w5 w.heap.size w.heap.size (fun k => k = w.heap.size) 0 ∧ Below w.heap.size w w5) := ⟨BKa.out.1.below hb5 (Nat.le_refl _), BKa.out.2.trans (hb5.mono BKa.out.2.size)⟩
  have HT5 : Hid (TabD w5 w3.heap.size (.slice at1 1 ct) exTs) := HTa.out.kept (fun k hk => hb5.block k (by rcases hk with hk | hk <;> exact hk.lt))
  have HR5 : Hid (w5.heap[w4.heap.size]? = some (.cells #[.slice av 1 cc, .slice at1 1 ct] 36 (0, 0))) := by
    unfold Hid
    rw [hb5.block _ (Array.getElem?_eq_some_iff.1 HRa.out).1]; exact HRa.out
  clear hb5 hrest hlt5 cv2 cv2' BK4 HT4 BKa HTa HRa RD2 hwa
  go_wp2_with fail
  refine RD2'.out.mono ?_
  rintro e w6 ⟨hb6, rfl⟩
  have hb6a : Below w5.heap.size w5 (w6.alloc (.cells #[.slice none 0 0, .slice none 0 0] 36)) := bself hb6 (bbox _ _)
  obtain ⟨w7, hw7⟩ : ∃ w7 : World, w7 = w6.alloc (.cells #[.slice none 0 0, .slice none 0 0] 36) := ⟨_, rfl⟩
  rw [← hw7] at hb6a
  have BK7 : Hid (Book5 w7 w.heap.size w.heap.size (fun k => k = w.heap.size) 0 ∧ Below w.heap.size w w7) := ⟨BK5.out.1.below hb6a (Nat.le_refl _), BK5.out.2.trans (hb6a.mono BK5.out.2.size)⟩
  have HT7 : Hid (TabD w7 w3.heap.size (.slice at1 1 ct) exTs) := HT5.out.kept (fun k hk => hb6a.block k (by rcases hk with hk | hk <;> exact hk.lt))
  have HR7 : Hid (w7.heap[w4.heap.size]? = some (.cells #[.slice av 1 cc, .slice at1 1 ct] 36 (0, 0))) := by
    unfold Hid
    rw [hb6a.block _ (Array.getElem?_eq_some_iff.1 HR5.out).1]; exact HR5.out
  clear hb6a BK5 HT5 HR5 RD2' cv2'' hb6
  have SS : Hid (∀ W : World, Below w7.heap.size w7 W → Below w7.heap.size w7 W ∧ W.cell? ⟨w4.heap.size, 1, none⟩ = some (.slice at1 1 ct)) := fun W hW => ⟨hW, by
    have hr : W.heap[w4.heap.size]? = some (.cells #[.slice av 1 cc, .slice at1 1 ct] 36 (0, 0)) := by rw [hW.block _ (Array.getElem?_eq_some_iff.1 HR7.out).1]; exact HR7.out
    rw [cell_of_row _ _ 1 _ _ _ hr]; rfl⟩
  have SL : Hid (∀ (X : World) (gc2 gt2 gl2 : Nat), Below w7.heap.size w7 X → ExT X gc2 gt2 gl2 → Calls Tryz.prog 7 #[.slice at1 1 ct, .slice (some ⟨gt2, 0, none⟩) 1 1] X fun e w' => e = .returned (.bool true) ∧ Below X.heap.size X w') := fun X gc2 gt2 gl2 hX hE => by
    have t1 : Tab X w3.heap.size (.slice at1 1 ct) exTs := (HT7.out.kept (fun k hk => hX.block k (by rcases hk with hk | hk <;> exact hk.lt))).tab
    refine (sameCells_any at1 (some ⟨gt2, 0, none⟩) ct 1 exTs _ _ X t1 (exTab hE) (by decide) (fun i hi => ?_)).mono ?_
    · obtain rfl : i = 0 := by simp [exTs] at hi; exact hi
      show 2 ≤ 1000000000
      decide
    · rintro e w' ⟨he, n, rfl⟩
      exact ⟨he, below_drewN (Below.refl _ _) n⟩
  have hfd : ∀ (a b : Option Addr) (n m c d : Nat) (W : World), (Instr.field 36 (.agg #[.slice a n c, .slice b m d]) 1).run Tryz.prog W = .ok (.slice b m d) W := field_ex
  go_upto_region 5 with fail
  rw [← hw7]
  clear hw7
  go_cut [20] (fun s20 wx => s20 = .bool true ∧ Hid (Below w7.heap.size w7 wx))
  case first =>
    go_region_held3 (fun W => Below w7.heap.size w7 W ∧ W.cell? ⟨w4.heap.size, 1, none⟩ = some (.slice at1 1 ct))
      ((with_reducible refine SS.out _ ?_; repeat (first | with_reducible exact Below.refl _ _ | with_reducible refine bself ?_ hby | with_reducible refine bself ?_ hbx | with_reducible refine Below.drew ?_)))
      (first | (go_at_call 5; refine (EX.out _).mono ?_; rintro e w' ⟨gc2, gt2, gl2, rfl, hex2, hbx⟩) | (go_at_call 7; refine (SL.out _ gc2 gt2 gl2 ?_ hex2).mono ?_; exact bself (Below.refl _ _).drew hbx; rintro e w'' ⟨rfl, hby⟩))
    all_goals (go_wp2_with fail; go_meet; exact ⟨rfl, bself (bself (Below.refl _ _).drew hbx) hby⟩)
  case rest =>
  obtain ⟨rfl, HBC⟩ := hcut
  have BK8 : Hid (Book5 wc w.heap.size w.heap.size (fun k => k = w.heap.size) 0 ∧ Below w.heap.size w wc) := ⟨BK7.out.1.below HBC.out (Nat.le_refl _), BK7.out.2.trans (HBC.out.mono BK7.out.2.size)⟩
  clear BK7 HT7 HR7 SS SL HBC EX hfd
  go_wp2_with fail
  refine (HS.out _ _ _ _ BK8.out.1 hs (by omega)).mono ?_
  rintro e w9 ⟨rfl, A9, c9⟩
  have BK9 : Hid (Book5 w9 w.heap.size w.heap.size A9 92 ∧ Below w.heap.size w w9) := ⟨c9.1, BK8.out.2.trans c9.2⟩
  clear c9 BK8
  go_wp2_with fail
  refine (LO.out _ _ _ BK9.out.1 (by omega)).mono ?_
  rintro e w10 ⟨rfl, n10, hw10⟩
  have BK10 : Hid (Book5 w10 w.heap.size w.heap.size A9 92 ∧ Below w.heap.size w w10) := by rw [hw10]; exact ⟨BK9.out.1.below (below_drewN (Below.refl _ _) n10) (Nat.le_refl _), below_drewN BK9.out.2 n10⟩
  clear hw10 BK9
  go_wp2_with fail
  refine (SE.out _ BK10.out.2).mono ?_
  rintro e w11 ⟨t, rfl, hts, hb11⟩
  have BK11 : Hid (Book5 w11 w.heap.size w.heap.size A9 92 ∧ Below w.heap.size w w11) := ⟨BK10.out.1.below hb11 (Nat.le_refl _), BK10.out.2.trans (hb11.mono BK10.out.2.size)⟩
  clear hb11 BK10 SE
  go_wp2_with fail
  refine (HS.out _ _ _ _ BK11.out.1 hts (by omega)).mono ?_
  rintro e w12 ⟨rfl, A12, c12⟩
  have BK12 : Hid (Book5 w12 w.heap.size w.heap.size A12 184 ∧ Below w.heap.size w w12) := ⟨c12.1, BK11.out.2.trans c12.2⟩
  clear c12 BK11 HS
  go_wp2_with fail
  refine (LO.out _ _ _ BK12.out.1 (by omega)).mono ?_
  rintro e w13 ⟨rfl, n13, hw13⟩
  have HB13 : Hid (Below w.heap.size w w13) := by rw [hw13]; exact below_drewN BK12.out.2 n13
  clear hw13 BK12 LO
  go_wp2
  go_ret
  exact ⟨rfl, HB13.out⟩
end Go.Proofs.YtjobhlncllfdmaaGreat
