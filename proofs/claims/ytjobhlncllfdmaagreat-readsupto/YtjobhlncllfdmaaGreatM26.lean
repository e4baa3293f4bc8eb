/- The program's unpacker: literal, behind its length. -/
import Derived.Test.YtjobhlncllfdmaaGreatM25
import Derived.Test.YtjobhlncllfdmaaGreatM16
import Derived.Test.YtjobhlncllfdmaaGreatM21
namespace Go.Proofs.YtjobhlncllfdmaaGreat
open Go.RowKit

theorem USt.push {w w1 : World} {R lb B : Nat} {D : List UInt8} {n a : Nat} {o o' : List UInt8} {ao : Option Addr} {cap : Nat} {v v' : Value}
    (hb : UBlk w R (.slice ao (D.length - a) cap) v n) (ha : a ≤ D.length) (hr : Rest w lb ao cap (D.drop a)) (hown : w.ownsRow B 5 1 v o.length (bytesV o)) (hlb : lb < B) (hB : B ≤ R)
    (hag : ∀ k, k < w.heap.size → v.ownBlock ≠ some k → w1.heap[k]? = w.heap[k]?) (hbel : Below B w w1) (hown' : w1.ownsRow B 5 1 v' o'.length (bytesV o')) :
    UBlk w1 R (.slice ao (D.length - a) cap) v n ∧ USt (w1.setCell ⟨R, 1, none⟩ v') R lb B D n a o' ∧ Below B w (w1.setCell ⟨R, 1, none⟩ v') := by
  have hRl := hb.lt
  have hb1 : UBlk w1 R (.slice ao (D.length - a) cap) v n := hb.kept (hag R hRl (fun e => Ty.ne (own_ty hown e) ⟨_, hb⟩ (by decide) rfl))
  refine ⟨hb1, ⟨ao, cap, v', hb1.set1 v', ha, ?_, ?_, hlb, hB⟩, hbel.setCell hB _⟩
  · exact (hr.kept (hag lb (by omega) (fun e => by have := (hown.lt lb e).1; omega))).kept (heap_setCell_other w1 _ _ _ (by simp only []; omega))
  · exact ownsRow_set_other' hown' (fun e => Ty.ne (own_ty hown' e) ⟨_, hb1⟩ (by decide) rfl)

set_option maxHeartbeats 1000000 in
set_option maxRecDepth 100000 in
theorem literal_of (R lb B : Nat) (D : List UInt8) (n a m x : Nat) (o : List UInt8) (w w1 : World) (hV : Calls Tryz.prog 112 #[.pointer (some ⟨R, 0, none⟩), .int .i64 m] w fun e w' => e = .returned (.tuple #[.int .u32 x, .bool true]) ∧ w' = w1)
    (hS : USt w1 R lb B D n a o) (hBs : B ≤ w1.heap.size) (hx : x ≤ 4294967295) (hn : n ≤ 1048576) (ho : o.length ≤ n) :
    Calls Tryz.prog 106 #[.pointer (some ⟨R, 0, none⟩), .int .i64 m] w fun e w' => UAns R lb B D n (Pu.lit D n a (x + 1) o) e w' ∧ Below B w1 w' := by
  obtain ⟨ao, cap, v, hb, ha, hr, hown, hlb, hB⟩ := hS
  obtain ⟨ao1, cap1, rfl⟩ := slen_of hown
  have V : Hid (Calls Tryz.prog 112 #[.pointer (some ⟨R, 0, none⟩), .int .i64 m] w fun e w' => e = .returned (.tuple #[.int .u32 x, .bool true]) ∧ w' = w1) := hV
  have RM : Hid (Calls Tryz.prog 103 #[.pointer (some ⟨R, 0, none⟩)] w1 fun e w' => e = .returned (.int .i64 ((n - o.length : Nat) : Int)) ∧ ∃ q, w' = w1.drewN q) := room_any R n o.length ao1 cap1 w1 hb.c1 hb.c2 hn ho
  clear hV
  by_cases h1 : n - o.length ≤ x
  · have Hl : Hid (Pu.lit D n a (x + 1) o = none) := by unfold Hid Pu.lit; rw [if_neg (by omega)]
    clear hr hb hown
    go_enter Tryz.func106, Tryz.ntmps106
    go_wp2_with fail
    refine V.out.mono ?_
    rintro e w' ⟨rfl, rfl⟩
    go_wp2_with fail
    refine RM.out.mono ?_
    rintro e w2 ⟨rfl, q, rfl⟩
    go_wp2
    go_ret
    exact ⟨by rw [Hl.out]; rfl, below_drewN (Below.refl _ _) q⟩
  · have hcap : D.length - a ≤ cap ∧ cap ≤ maxLen := by have := hr.1; have := hr.2.1; rw [List.length_drop] at *; omega
    obtain ⟨z, hz⟩ : ∃ z, z = x + 1 := ⟨_, rfl⟩
    rw [← hz]
    have hx1 : (x : Int) + 1 = (z : Int) := by omega
    have hz1 : 1 ≤ z := by omega
    have hz2 : z ≤ n - o.length := by omega
    clear hz
    by_cases h2 : D.length - a < z
    · have Hl : Hid (Pu.lit D n a z o = none) := by unfold Hid Pu.lit; rw [if_neg (by omega)]
      have T : Hid (∀ q : Nat, Calls Tryz.prog 75 #[.pointer (some ⟨R, 0, none⟩), .int .i64 (z : Int)] (w1.drewN q) fun e w' => e = .returned (.tuple #[.slice none 0 0, .bool false]) ∧ w' = w1.drewN q) :=
        fun q => take_no R 0 z ao (D.length - a) cap (w1.drewN q) hb.c0 h2 (by omega)
      clear hr hb hown hcap
      go_enter Tryz.func106, Tryz.ntmps106
      go_wp2_with fail
      refine V.out.mono ?_
      rintro e w' ⟨rfl, rfl⟩
      go_wp2_with fail
      refine RM.out.mono ?_
      rintro e w2 ⟨rfl, q, rfl⟩
      go_wp2_with fail
      refine (T.out q).mono ?_
      rintro e w2 ⟨rfl, rfl⟩
      go_wp2
      go_ret
      exact ⟨by rw [Hl.out]; rfl, below_drewN (Below.refl _ _) q⟩
    · have Hl : Hid (Pu.lit D n a z o = some (a + z, o ++ Pu.piece D a z)) := by unfold Hid Pu.lit; rw [if_pos (by omega)]
      have hrt := hr
      obtain ⟨off, rfl, hnews⟩ := lit_take hr (by rw [List.length_drop]; omega) hz1
      have T : Hid (∀ q : Nat, Calls Tryz.prog 75 #[.pointer (some ⟨R, 0, none⟩), .int .i64 (z : Int)] (w1.drewN q) fun e w' => e = .returned (.tuple #[.slice (some ⟨lb, off, none⟩) z z, .bool true]) ∧ w' = (w1.drewN q).setCell ⟨R, 0, none⟩ (.slice (cutA (some ⟨lb, off, none⟩) cap z) (D.length - a - z) (cap - z))) :=
        fun q => take_yes R 0 z (some ⟨lb, off, none⟩) (D.length - a) cap (w1.drewN q) hb.c0 (hb.fz 0) (by omega) hcap.1 hcap.2
      have hR : R ≠ lb := by omega
      have hvR : (Value.slice ao1 o.length cap1).ownBlock ≠ some R := fun e => Ty.ne (own_ty hown e) ⟨_, hb⟩ (by decide) rfl
      obtain ⟨W, hW⟩ : ∃ W, W = w1.setCell ⟨R, 0, none⟩ (.slice (cutA (some ⟨lb, off, none⟩) cap z) (D.length - a - z) (cap - z)) := ⟨_, rfl⟩
      have hbW : UBlk W R (.slice (cutA (some ⟨lb, off, none⟩) cap z) (D.length - (a + z)) (cap - z)) (.slice ao1 o.length cap1) n := by rw [hW, show D.length - (a + z) = D.length - a - z by omega]; exact hb.set0 _
      have hownW : W.ownsRow B 5 1 (.slice ao1 o.length cap1) o.length (bytesV o) := by rw [hW]; exact ownsRow_set_other' hown hvR
      have hlbW : W.heap[lb]? = w1.heap[lb]? := by rw [hW]; exact heap_setCell_other w1 _ _ _ (by simp only []; omega)
      have hrW : Rest W lb (cutA (some ⟨lb, off, none⟩) cap z) (cap - z) (D.drop (a + z)) := by
        have := (hr.drop z (by rw [List.length_drop]; omega)).kept hlbW
        rw [List.drop_drop] at this
        exact this
      have hbelW : Below B w1 W := by rw [hW]; exact (Below.refl _ _).setCell hB _
      have hpl : (Pu.piece D a z).length = z := Pu.length_piece _ _ _ (by omega)
      have hnW : ∀ j u, (bytesV (Pu.piece D a z))[j]? = some u → W.cell? ((⟨lb, off, none⟩ : Addr).add j) = some u := fun j u hu => by
        rw [show (⟨lb, off, none⟩ : Addr).add j = ⟨lb, off + j, none⟩ from by unfold Addr.add; split <;> simp_all, World.cell?_of_block (w := w1) hlbW]
        have := hnews j u hu
        rw [show (⟨lb, off, none⟩ : Addr).add j = ⟨lb, off + j, none⟩ from by unfold Addr.add; split <;> simp_all] at this
        exact this
      obtain ⟨i0, hi, hz0, hz1', hz2'⟩ := info_parts Tryz.info5
      have T : Hid (∀ q : Nat, Calls Tryz.prog 75 #[.pointer (some ⟨R, 0, none⟩), .int .i64 (z : Int)] (w1.drewN q) fun e w' => e = .returned (.tuple #[.slice (some ⟨lb, off, none⟩) z z, .bool true]) ∧ w' = W.drewN q) := fun q => by
        rw [hW]; exact T.out q
      have AP : Hid (∀ q : Nat, ∃ g cp w4, (Builtin.append_ #[25, 25] 25 #[.slice ao1 o.length cap1, .slice (some ⟨lb, off, none⟩) z z]).run Tryz.prog (W.drewN q) = .ok (.slice (some ⟨g, 0, none⟩) (o.length + z) cp) w4 ∧
          w4.cell? ⟨R, 1, none⟩ = some (.slice ao1 o.length cap1) ∧ w4.frozen? ⟨R, 1, none⟩ = false ∧ USt (w4.setCell ⟨R, 1, none⟩ (.slice (some ⟨g, 0, none⟩) (o.length + z) cp)) R lb B D n (a + z) (o ++ Pu.piece D a z) ∧ Below B w1 (w4.setCell ⟨R, 1, none⟩ (.slice (some ⟨g, 0, none⟩) (o.length + z) cp))) := fun q => by
        obtain ⟨g, cp, w4, run4, own4, gr4, _⟩ := appendC (W.drewN q) 25 25 5 i0 (.int .u8 0) 1 1 B Tryz.underlying25 hi hz0 hz1' hz2' rfl (.slice ao1 o.length cap1) o.length (bytesV o) (ownsRow_drewN hownW q) ⟨lb, off, none⟩ z z (by omega) (bytesV (Pu.piece D a z)) (by rw [length_bytesV, hpl]; omega) hnW (fun u hu => by
          simp only [bytesV, List.mem_map] at hu; obtain ⟨x, _, rfl⟩ := hu; rfl) (by unfold maxLen; omega) (by omega) (Nat.le_trans hBs hbelW.size)
        have hl2 : (o ++ Pu.piece D a z).length = o.length + z := by rw [List.length_append, hpl]
        have P := USt.push (w := W.drewN q) (w1 := w4) (v' := .slice (some ⟨g, 0, none⟩) (o.length + z) cp) (o' := o ++ Pu.piece D a z) hbW (by omega) hrW (ownsRow_drewN hownW q) hlb hB (fun k hk hne => gr4.block k hk hne.symm) (Below.grown (Below.refl B (W.drewN q)) gr4 (Nat.le_trans hBs hbelW.size) (fun k e => (hownW.lt k e).1)) (by rw [hl2, bytesV_append]; exact own4)
        exact ⟨g, cp, w4, run4, P.1.c1, P.1.fz 1, P.2.1, (below_drewN hbelW q).trans P.2.2⟩
      have C1 : Hid (∀ q : Nat, (W.drewN q).cell? ⟨R, 1, none⟩ = some (.slice ao1 o.length cap1)) := fun q => hbW.c1
      clear hr hb hown hcap hrt hnews hbW hownW hlbW hrW hbelW hpl hnW hW
      go_enter Tryz.func106, Tryz.ntmps106
      go_wp2_with fail
      refine V.out.mono ?_
      rintro e w' ⟨rfl, hw'⟩
      subst w'
      go_wp2_with fail
      refine RM.out.mono ?_
      rintro e w2 ⟨rfl, q, hw2⟩
      subst hw2
      go_wp2_with fail
      refine (T.out q).mono ?_
      rintro e w2 ⟨rfl, hw2⟩
      obtain ⟨g, cp, w4, run4, c4, f4, S4, B4⟩ := AP.out q
      rw [← hw2] at run4
      have c1 : w2.cell? ⟨R, 1, none⟩ = some (.slice ao1 o.length cap1) := by rw [hw2]; exact C1.out q
      have R4 : Hid ((Builtin.append_ #[25, 25] 25 #[.slice ao1 o.length cap1, .slice (some ⟨lb, off, none⟩) z z]).run Tryz.prog w2 = .ok (.slice (some ⟨g, 0, none⟩) (o.length + z) cp) w4) := run4
      have HS4 : Hid (USt (w4.setCell ⟨R, 1, none⟩ (.slice (some ⟨g, 0, none⟩) (o.length + z) cp)) R lb B D n (a + z) (o ++ Pu.piece D a z)) := S4
      clear hw2 run4 S4 AP T C1
      go_wp2_with (first | (at_builtin; refine wpList_append_run rfl (.tmp 39) (.tmp 40) 25 25 rfl _ _ _ rfl rfl R4.out ?_) | go_in)
      go_ret
      exact ⟨by rw [Hl.out]; exact ⟨rfl, HS4.out⟩, B4⟩
end Go.Proofs.YtjobhlncllfdmaaGreat

/- The program's unpacker: literal, whole; copyBack. -/
namespace Go.Proofs.YtjobhlncllfdmaaGreat
open Go.RowKit

set_option maxHeartbeats 1000000 in
set_option maxRecDepth 100000 in
theorem literal_no (R m : Nat) (w : World) (hV : Calls Tryz.prog 112 #[.pointer (some ⟨R, 0, none⟩), .int .i64 m] w fun e w' => e = .returned (.tuple #[.int .u32 0, .bool false]) ∧ w' = w) :
    Calls Tryz.prog 106 #[.pointer (some ⟨R, 0, none⟩), .int .i64 m] w fun e w' => e = .returned (.bool false) ∧ w' = w := by
  have V : Hid (Calls Tryz.prog 112 #[.pointer (some ⟨R, 0, none⟩), .int .i64 m] w fun e w' => e = .returned (.tuple #[.int .u32 0, .bool false]) ∧ w' = w) := hV
  clear hV
  go_enter Tryz.func106, Tryz.ntmps106
  go_wp2_with fail
  refine V.out.mono ?_
  rintro e w' ⟨rfl, hw'⟩
  subst w'
  go_wp2
  go_ret
  exact ⟨rfl, rfl⟩

/-- the bytes of a literal's length -/
def lm (m : Nat) : Nat := if m < 60 then 0 else m - 59

theorem literal_any (R lb B : Nat) (D : List UInt8) (n a m : Nat) (o : List UInt8) (w : World) (h : USt w R lb B D n a o) (hBs : B ≤ w.heap.size) (hm : m ≤ 63) (hn : n ≤ 1048576) (ho : o.length ≤ n) :
    Calls Tryz.prog 106 #[.pointer (some ⟨R, 0, none⟩), .int .i64 m] w fun e w' => UAns R lb B D n (match Pu.lo D a (lm m) with
      | none => none
      | some x => Pu.lit D n (a + lm m) (if m < 60 then m + 1 else x + 1) o) e w' ∧ Below B w w' := by
  by_cases h60 : m < 60
  · have hlo : Pu.lo D a (lm m) = some 0 := by
      have ha : a ≤ D.length := by obtain ⟨_, _, _, _, ha, _⟩ := h; exact ha
      unfold Pu.lo lm
      rw [if_pos h60, if_pos (by omega)]
      simp [Pu.piece, Pu.le]
    rw [hlo]
    simp only [if_pos h60]
    rw [show a + lm m = a by unfold lm; rw [if_pos h60]; rfl]
    exact literal_of R lb B D n a m m o w w (lless_small R m w h60) h hBs (by omega) hn ho
  · have hlm : lm m = m - 59 := by unfold lm; rw [if_neg h60]
    have h' := h
    obtain ⟨ao, cap, v, hb, ha, hr, hown, hlb, hB⟩ := h'
    have hlen : (D.drop a).length = D.length - a := List.length_drop
    have hc0 : w.cell? ⟨R, 0, none⟩ = some (.slice ao (D.drop a).length cap) := by rw [hlen]; exact hb.c0
    rw [hlm]
    simp only [if_neg h60]
    by_cases hfit : D.length - a < m - 59
    · have hlo : Pu.lo D a (m - 59) = none := by unfold Pu.lo; rw [if_neg (by omega)]
      rw [hlo]
      refine (literal_no R m w (lless_no R m lb ao cap (D.drop a) w hr hc0 (by omega) hm (by rw [hlen]; exact hfit))).mono ?_
      rintro e w' ⟨he, hw⟩
      subst hw
      exact ⟨he, Below.refl _ _⟩
    · have hlo : Pu.lo D a (m - 59) = some (Pu.le (Pu.piece D a (m - 59))) := by unfold Pu.lo; rw [if_pos (by omega)]
      rw [hlo]
      have V := lless_yes R m lb ao cap (D.drop a) w hr hc0 (hb.fz 0) (by omega) (by omega) hm (by rw [hlen]; omega)
      rw [hlen] at V
      have hS := USt.skip (k := m - 59) hb (by omega) hr hown hlb hB
      have hx : Pu.le (Pu.piece D a (m - 59)) ≤ 4294967295 := by
        have := Pu.le_lt (Pu.piece D a (m - 59))
        rw [Pu.length_piece _ _ _ (by omega)] at this
        have h4 : 256 ^ (m - 59) ≤ 256 ^ 4 := Nat.pow_le_pow_right (by omega) (by omega)
        have : (256 : Nat) ^ 4 = 4294967296 := by decide
        omega
      refine (literal_of R lb B D n (a + (m - 59)) m (Pu.le (Pu.piece D a (m - 59))) o w _ V hS (by rw [size_set]; exact hBs) hx hn ho).mono ?_
      rintro e w' ⟨he, hb'⟩
      exact ⟨he, ((Below.refl B w).setCell hB _).trans hb'⟩

set_option maxHeartbeats 4000000 in
set_option maxRecDepth 100000 in
theorem copyBack_any (R lb B : Nat) (D : List UInt8) (n a size back : Nat) (o : List UInt8) (w : World) (h : USt w R lb B D n a o) (_hBs : B ≤ w.heap.size) (hsz : size ≤ 64) (hbk : back ≤ 4294967295) (hn : n ≤ 1048576) (ho : o.length ≤ n) :
    Calls Tryz.prog 107 #[.pointer (some ⟨R, 0, none⟩), .int .i64 size, .int .u32 back] w fun e w' => UAns R lb B D n (Pu.cp n a size back o) e w' ∧ Below B w w' := by
  have HS0 : Hid (USt w R lb B D n a o) := h
  obtain ⟨ao, cap, v, hb, ha, hr, hown, hlb, hB⟩ := h
  obtain ⟨ao1, cap1, rfl⟩ := slen_of hown
  have RM : Hid (∀ q : Nat, Calls Tryz.prog 103 #[.pointer (some ⟨R, 0, none⟩)] (w.drewN q) fun e w' => e = .returned (.int .i64 ((n - o.length : Nat) : Int)) ∧ ∃ q', w' = (w.drewN q).drewN q') := fun q => room_any R n o.length ao1 cap1 (w.drewN q) hb.c1 hb.c2 hn ho
  have c1 := hb.c1
  clear hr
  by_cases h0 : back = 0
  · subst h0
    have HX : Hid (Pu.cp n a size 0 o = none) := by simp [Hid, Pu.cp]
    clear hb hown
    go_enter Tryz.func107, Tryz.ntmps107
    go_wp2
    go_ret
    exact ⟨by rw [HX.out]; rfl, Below.refl _ _⟩
  · have h0d : ((back : Int) == 0) = false := by simp; omega
    by_cases h1 : o.length < back
    · have HX : Hid (Pu.cp n a size back o = none) := by unfold Hid Pu.cp; rw [if_pos (.inr (.inl h1))]
      have h1d : decide ((o.length : Int) < (back : Int)) = true := by simp; omega
      clear hb hown
      go_enter Tryz.func107, Tryz.ntmps107
      go_wp2
      go_ret
      exact ⟨by rw [HX.out]; rfl, Below.refl _ _⟩
    · have h1d : decide ((o.length : Int) < (back : Int)) = false := by simp; omega
      by_cases h2 : n - o.length < size
      · have HX : Hid (Pu.cp n a size back o = none) := by unfold Hid Pu.cp; rw [if_pos (.inr (.inr h2))]
        clear hb hown
        go_enter Tryz.func107, Tryz.ntmps107
        go_wp2_with fail
        refine (RM.out 0).mono ?_
        rintro e w2 ⟨rfl, q, hw2⟩
        have hb2 : Below B w w2 := by rw [hw2]; exact below_drewN (Below.refl _ _) _
        clear hw2
        go_wp2
        go_ret
        exact ⟨by rw [HX.out]; rfl, hb2⟩
      · have HX : Hid (Pu.cp n a size back o = some (a, Pu.copyN back size o)) := by unfold Hid Pu.cp; rw [if_neg (by omega)]
        obtain ⟨fr, hfr⟩ : ∃ fr, fr = o.length - back := ⟨_, rfl⟩
        have Hfr : Hid (fr = o.length - back) := hfr
        have hfr2 : (o.length : Int) - (back : Int) = (fr : Int) := by omega
        clear hb hown hfr
        go_enter Tryz.func107, Tryz.ntmps107
        go_wp2_with fail
        refine (RM.out 0).mono ?_
        rintro e w2 ⟨rfl, q, hw2⟩
        have hb2 : Below B w w2 := by rw [hw2]; exact below_drewN (Below.refl _ _) _
        have HS2 : Hid (USt w2 R lb B D n a o) := by rw [Hid, hw2]; exact HS0.out
        have c12 : w2.cell? ⟨R, 1, none⟩ = some (.slice ao1 o.length cap1) := by rw [hw2]; exact c1
        clear hw2 c1
        go_wp2
        go_loopw [36] (fun i wr => ∃ k : Nat, k ≤ size ∧ i = .int .i64 k ∧ Hid (USt wr R lb B D n a (Pu.copyN back k o)) ∧ Below B w wr) (fun i _ => size - (intOf i).toNat)
        case atStart => exact ⟨0, Nat.zero_le _, rfl, HS2, hb2⟩
        case round =>
          clear c12 HS2 hb2
          obtain ⟨k, hk, rfl, HS, hbel⟩ := hrel
          by_cases hk2 : k < size
          · obtain ⟨ao2, cap2, v2, hb2, ha2, hr2, hown2, _, _⟩ := HS.out
            have hl := Pu.length_copyN back k o
            obtain ⟨g, cp, hv, _, _⟩ := hown2.form (by rw [hl]; omega)
            subst hv
            obtain ⟨m, hm⟩ : ∃ m, m = fr + k := ⟨_, rfl⟩
            have hm1 : (fr : Int) + (k : Int) = (m : Int) := by omega
            have hm2 : m < o.length + k := by have := Hfr.out; omega
            have hmw : IntKind.i64.wrap (m : Int) = (m : Int) := IntWalk.i64_in _ ⟨by omega, by omega⟩
            have hcell : wr.cell? ⟨g, m, none⟩ = some (.int .u8 ((Pu.nth (Pu.copyN back k o) m).toNat : Int)) := bytesV_cell (n := (Pu.copyN back k o).length) hown2 (by rw [hl]; exact hm2)
            have HSn : Hid (Pu.copyN back (k + 1) o = Pu.copyN back k o ++ [Pu.nth (Pu.copyN back k o) m]) := by
              rw [Hid, Pu.copyN_snoc, hl, show o.length + k - back = m by have := Hfr.out; omega]
            have hsz2 : B ≤ wr.heap.size := by omega
            obtain ⟨i0, hi, hz0, hz1, hz2⟩ := info_parts Tryz.info5
            have hc1 := hb2.c1
            rw [hl] at hown2 hc1 hb2
            obtain ⟨g4, cp4, w4, run4, own4, gr4, _⟩ := appendS (wr.drew.alloc (.cells #[.int .u8 ((Pu.nth (Pu.copyN back k o) m).toNat : Int)] 5)) 25 25 5 i0 (.int .u8 0) 1 1 B Tryz.underlying25 hi hz0 hz1 hz2 rfl (by decide) _ _ _ (show (wr.drew.alloc _).ownsRow B 5 1 (.slice (some ⟨g, 0, none⟩) (o.length + k) cp) (o.length + k) (bytesV (Pu.copyN back k o)) from World.ownsRow.alloc (w := wr.drew) hown2 _) ⟨wr.heap.size, 0, none⟩ [.int .u8 ((Pu.nth (Pu.copyN back k o) m).toNat : Int)] rfl (one_new rfl) one_cell 1 (by unfold maxLen; omega) (by omega) (by rw [size_alloc']; show B ≤ wr.heap.size + 1; omega)
            have R4 : Hid ((Builtin.append_ #[25, 25] 25 #[.slice (some ⟨g, 0, none⟩) (o.length + k) cp, .slice (some ⟨wr.heap.size, 0, none⟩) 1 1]).run Tryz.prog (wr.alloc (.cells #[.int .u8 ((Pu.nth (Pu.copyN back k o) m).toNat : Int)] 5)).drew = .ok (.slice (some ⟨g4, 0, none⟩) (o.length + k + 1) cp4) w4) := run4
            have P := USt.push (w := wr) (w1 := w4) (v' := .slice (some ⟨g4, 0, none⟩) (o.length + k + 1) cp4) (o := Pu.copyN back k o) (o' := Pu.copyN back (k + 1) o) hb2 ha2 hr2 (by rw [hl]; exact hown2) hlb hB (fun j hj hne => agree_step (w := wr.drew) gr4 hj hne) (below_append (wr := wr.drew) ((Below.refl B wr).drew) (by omega) gr4 (fun j e => (hown2.lt j e).1)) (by
              rw [Pu.length_copyN, HSn.out, ← bytesV_snoc, ← Nat.add_assoc]; exact own4)
            have c4 := P.1.c1
            have f4 := P.1.fz 1
            have HS4 : Hid (USt (w4.setCell ⟨R, 1, none⟩ (.slice (some ⟨g4, 0, none⟩) (o.length + k + 1) cp4)) R lb B D n a (Pu.copyN back (k + 1) o)) := P.2.1
            have hbel4 : Below B w (w4.setCell ⟨R, 1, none⟩ (.slice (some ⟨g4, 0, none⟩) (o.length + k + 1) cp4)) := hbel.trans P.2.2
            have hc1b : (wr.alloc (.cells #[.int .u8 ((Pu.nth (Pu.copyN back k o) m).toNat : Int)] 5)).cell? ⟨R, 1, none⟩ = some (.slice (some ⟨g, 0, none⟩) (o.length + k) cp) := (hb2.kept (Below.heap_alloc _ _ R hb2.lt)).c1
            have hbt : (Pu.nth (Pu.copyN back k o) m).toNat < 256 := (Pu.nth (Pu.copyN back k o) m).toNat_lt
            have hm0 : (0 : Int) ≤ (m : Int) := by omega
            have hm3 : (m : Int) < (o.length : Int) + (k : Int) := by omega
            generalize (Pu.nth (Pu.copyN back k o) m).toNat = b at *
            clear run4 own4 gr4 P hb2 hr2 hown2 HS hbel hm hl HSn
            go_wp2
            go_region_law (refine step_append_run rfl (.tmp 43) (.tmp 53) 25 25 rfl _ _ _ _ rfl rfl R4.out ?_)
            all_goals
              go_wp2
              go_roundw
              case rel => exact ⟨k + 1, by omega, by go_num, HS4, hbel4⟩
              case measure => simp [intOf]; omega
          · obtain rfl : k = size := by omega
            go_wp2
            go_ret
            exact ⟨by rw [HX.out]; exact ⟨rfl, HS.out⟩, hbel⟩
end Go.Proofs.YtjobhlncllfdmaaGreat

/- Contract of eights. -/
namespace Go.Proofs.YtjobhlncllfdmaaGreat
open Go.RowKit

set_option maxHeartbeats 1000000 in
set_option maxRecDepth 100000 in
theorem eights_many (R lb B : Nat) (D : List UInt8) (W C a n : Nat) (xs : List Nat) (w : World) (h : RSt w R lb B D W C a xs) (hC : C ≤ 100000) (hx : xs.length < C) (hn : n ≤ 2147483648) (hno : C - xs.length ≤ 8 * n - 8) (hn1 : 1 ≤ n) :
    Calls Tryz.prog 114 #[.pointer (some ⟨R, 0, none⟩), .int .i64 n] w fun e w' => e = .returned (.bool false) ∧ Below B w w' := by
  obtain ⟨ao, cap, v, hb, ha, hr, ho, hv, hlb, hB⟩ := h
  obtain ⟨ao3, cap3, rfl⟩ := slen_of ho
  have M2 : Hid _ := hb.c2
  have M3 : Hid _ := hb.c3
  go_enter Tryz.func114, Tryz.ntmps114
  go_wp2_with fail
  refine (missing_any R C ao3 xs.length cap3 _ (by exact M2.out) (by exact M3.out) hC (by omega)).mono ?_
  rintro e w' ⟨rfl, q, rfl⟩
  go_wp2
  go_ret
  exact ⟨rfl, below_drewN (Below.refl _ _) _⟩

set_option maxHeartbeats 1000000 in
set_option maxRecDepth 100000 in
theorem eights_short (R lb B : Nat) (D : List UInt8) (W C a n : Nat) (xs : List Nat) (w : World) (h : RSt w R lb B D W C a xs) (hW : W ≤ 24) (hC : C ≤ 100000) (hx : xs.length < C) (hn : n ≤ 2147483648) (hok : ¬ C - xs.length ≤ 8 * n - 8) (hn1 : 1 ≤ n) (hs : D.length < a + n * W) :
    Calls Tryz.prog 114 #[.pointer (some ⟨R, 0, none⟩), .int .i64 n] w fun e w' => e = .returned (.bool false) ∧ Below B w w' := by
  obtain ⟨ao, cap, v, hb, ha, hr, ho, hv, hlb, hB⟩ := h
  obtain ⟨ao3, cap3, rfl⟩ := slen_of ho
  have M2 : Hid _ := hb.c2
  have M3 : Hid _ := hb.c3
  have c1 := hb.c1
  have C0 : Hid _ := hb.c0
  have Hs : Hid (D.length - a < n * W) := by unfold Hid; omega
  have hm : D.length - a ≤ maxLen := by have := hr.1; have := hr.2.1; rw [List.length_drop] at *; omega
  have EP : Hid (IntKind.i64.wrap ((n : Int) * (W : Int)) = ((n * W : Nat) : Int)) := by
    have : n * W ≤ 2147483648 * 24 := Nat.mul_le_mul hn hW
    rw [Hid, ← Int.natCast_mul]; exact IntWalk.i64_in _ (by omega)
  clear hs
  go_enter Tryz.func114, Tryz.ntmps114
  go_wp2_with fail
  refine (missing_any R C ao3 xs.length cap3 _ (by exact M2.out) (by exact M3.out) hC (by omega)).mono ?_
  rintro e w' ⟨rfl, q, rfl⟩
  go_wp2
  go_region_with (go_at_call 75; rw [EP.out]; refine (take_no R 0 (n * W) ao (D.length - a) cap _ (by exact C0.out) Hs.out hm).mono ?_; rintro e w' ⟨rfl, rfl⟩)
  all_goals
    go_wp2
    go_ret
    exact ⟨rfl, by first | exact below_drewN (Below.refl _ _) _ | exact (below_drewN (Below.refl _ _) _).drew⟩

end Go.Proofs.YtjobhlncllfdmaaGreat
