/- Shapes: its walk. -/
import Derived.Test.YtjobhlncllfdmaaBkL
namespace Go.Proofs.Ytjobhlncllfdmaa
open Go.RowKit

/-- '[]byte(s)' is bytes to be read -/
theorem bytes_rest (w : World) (D : List UInt8) (hD : D.length ≤ 1000) : ∃ cp w2, (convert 9 24 (.string ⟨D.toArray⟩)).run Try.prog w = .ok (.slice (some ⟨w.heap.size, 0, none⟩) D.length cp) w2 ∧ Rest w2 w.heap.size (some ⟨w.heap.size, 0, none⟩) cp D ∧ w.heap.size < w2.heap.size ∧ Below w.heap.size w w2 := by
  have hr := run_bytes_of_string (P := Try.prog) w 9 24 5 ⟨D.toArray⟩ Try.underlying9 Try.underlying24 Try.underlying5
  have hsz : (⟨D.toArray⟩ : ByteArray).size = D.length := by rw [← len_data]
  rw [hsz] at hr
  have hge := grownCap_ge w D.length 0 5
  have hcm : grownCap w D.length 0 5 ≤ maxLen := grownCap_le_maxLen w D.length 0 5 (by unfold maxLen; omega)
  refine ⟨_, _, hr, ⟨hge, hcm, .inr ⟨0, rfl, fun j hj => ?_⟩⟩, by rw [size_alloc']; exact Nat.lt_succ_self _, ((Below.refl _ _).drew).alloc (Nat.le_refl _) _⟩
  have hnew := heap_alloc_new w.drew (.cells (bytesRow ⟨D.toArray⟩ (grownCap w D.length 0 5)) 5 ((bytesRow ⟨D.toArray⟩ (grownCap w D.length 0 5)).size, (bytesRow ⟨D.toArray⟩ (grownCap w D.length 0 5)).size + 1))
  rw [Nat.zero_add]
  refine (cell_of_row _ _ j _ _ _ hnew).trans ?_
  unfold bytesRow
  rw [Array.getElem?_append_left (by simpa using hj)]
  simp [Pu.byteAt, List.getD_eq_getElem?_getD, List.getElem?_eq_getElem hj]

theorem look_seen {base : Nat} {e : Ending} {w' : World} (h : LookAnsP base (.good 4 [⟨[97], 1, false⟩] []) e w') : ∃ gc cc ar cr, e = .returned (.tuple #[.agg #[.slice (some ⟨gc, 0, none⟩) 1 cc, .slice ar 0 cr], .int .i64 0]) ∧ w'.cell? ⟨gc, 0, none⟩ = some (.string ⟨#[97]⟩) ∧ w'.cell? ⟨gc, 1, none⟩ = some (.int .i64 1) ∧ w'.cell? ⟨gc, 2, none⟩ = some (.bool false) ∧ gc < w'.heap.size := by
  obtain ⟨vc, vr, he, hc, hr⟩ := h
  obtain ⟨av, cv, rfl⟩ := slen_of hc
  obtain ⟨ar, cr, rfl⟩ := slen_of hr
  obtain ⟨g, h1, h2, h3, h4⟩ := cols_cell hc 0 (by simp)
  subst h1
  exact ⟨g, cv, ar, cr, he, h2, h3, h4, (own_tyS hc rfl).lt⟩

set_option maxHeartbeats 4000000 in
set_option maxRecDepth 100000 in
theorem shapes_any (s foot : ByteArray) (w : World) (hs : s.size ≤ 140737488351232) (hf : foot.size ≤ 140737488351232) :
    Calls Try.prog 4 #[.string s, .string foot] w fun e w' => e = .returned (.bool true) ∧ Below w.heap.size w w' := by
  have HS : Hid (∀ (W : World) (A : Nat → Prop) (n : Nat) (t : ByteArray), Book5 W w.heap.size w.heap.size A n → t.size ≤ 140737488355000 → n ≤ 800000 → Calls Try.prog 11 #[.pointer (some ⟨w.heap.size, 0, none⟩), .string t] W fun e w' => e = .returned (.bool true) ∧ ∃ A', Chain W w.heap.size w.heap.size (n + 12) A' w') := fun W A n t h1 h2 h3 => bshapes w.heap.size w.heap.size n A t W h1 h2 h3
  have HE : Hid (∀ W : World, Calls Try.prog 12 #[.string foot] W fun e w' => e = .returned (.string ⟨(endL foot.data.toList).toArray⟩) ∧ Below W.heap.size W w') := fun W => ending_any foot W (by omega)
  have z1 : (⟨(endL foot.data.toList).toArray⟩ : ByteArray).size = foot.size + 12 := by rw [← len_data, ← len_data foot]; simp [size_endL]
  have HM : Hid (∀ W : World, Calls Try.prog 10 #[] W fun e w' => e = .returned (.string ⟨smallL.toArray⟩) ∧ Below W.heap.size W w') := fun W => small_any W
  have BK : Hid (Book5 (w.alloc (.cells #[.int .i64 0, .slice none 0 0, .slice none 0 0, .slice none 0 0, .slice none 0 0, .slice none 0 0, .slice none 0 0, .slice none 0 0, .slice none 0 0, .slice none 0 0, .slice none 0 0] 31)) w.heap.size w.heap.size (fun k => k = w.heap.size) 0) := Book5.start w
  have hb0 : Below w.heap.size w (w.alloc (.cells #[.int .i64 0, .slice none 0 0, .slice none 0 0, .slice none 0 0, .slice none 0 0, .slice none 0 0, .slice none 0 0, .slice none 0 0, .slice none 0 0, .slice none 0 0, .slice none 0 0] 31)) := (Below.refl _ _).alloc (Nat.le_refl _) _
  have Hsl : Hid (smallL.length = 21) := by rw [Hid, small_list]; rfl
  generalize (⟨(endL foot.data.toList).toArray⟩ : ByteArray) = t1 at *
  go_enter Try.func4, Try.ntmps4
  go_wp2_with fail
  refine (HM.out _).mono ?_
  rintro e w1 ⟨rfl, hb1⟩
  obtain ⟨cp, w2, cv, hrest, hlt2, hb2⟩ := bytes_rest w1 smallL (by rw [Hsl.out]; omega)
  have LK : Hid (Calls Try.prog 9 #[.slice (some ⟨w1.heap.size, 0, none⟩) 21 cp] w2 fun e w' => LookAnsP w2.heap.size (.good 4 [⟨[97], 1, false⟩] []) e w' ∧ Below w2.heap.size w2 w') := by
    have := look_any w1.heap.size (some ⟨w1.heap.size, 0, none⟩) cp smallL w2 hrest hlt2 (by rw [Hsl.out]; omega)
    rw [small_look, Hsl.out] at this
    exact this
  rw [Hsl.out] at cv
  have BK2 : Hid (Book5 w2 w.heap.size w.heap.size (fun k => k = w.heap.size) 0) := (BK.out.below hb1 (Nat.le_refl _)).below hb2 (Nat.le_refl _)
  have HB2 : Hid (Below w.heap.size w w2) := hb0.trans ((hb1.mono hb0.size).trans (hb2.mono (Nat.le_trans hb0.size hb1.size)))
  clear hb1 hb2 hrest hlt2 hb0 BK HM
  go_wp2_with fail
  refine LK.out.mono ?_
  rintro e w3 ⟨ha, hb3⟩
  obtain ⟨gc, cc, ar, cr, rfl, q0, q1, q2, hgc⟩ := look_seen ha
  have BK3 : Hid (Book5 w3 w.heap.size w.heap.size (fun k => k = w.heap.size) 0) := BK2.out.below hb3 (Nat.le_refl _)
  have HB3 : Hid (Below w.heap.size w w3) := HB2.out.trans (hb3.mono HB2.out.size)
  clear hb3 ha LK BK2 HB2 cv
  have BK4 : Hid (∀ o : Obj, Book5 (w3.alloc o) w.heap.size w.heap.size (fun k => k = w.heap.size) 0 ∧ Below w.heap.size w (w3.alloc o)) := fun o => ⟨BK3.out.below ((Below.refl _ _).alloc (Nat.le_refl _) _) (Nat.le_refl _), HB3.out.alloc HB3.out.size _⟩
  go_wp2_with fail
  refine (HS.out _ _ _ _ (BK4.out _).1 (by omega) (by omega)).mono ?_
  rintro e w5 ⟨rfl, A5, c5⟩
  have HC5 : Hid (Book5 w5 w.heap.size w.heap.size A5 12) := c5.1
  have HB5 : Hid (Below w.heap.size w w5) := (BK4.out _).2.trans c5.2
  clear c5 BK4 BK3 HB3
  go_wp2_with fail
  refine (HE.out _).mono ?_
  rintro e w6 ⟨rfl, hb6⟩
  have HC6 : Hid (Book5 w6 w.heap.size w.heap.size A5 12) := HC5.out.below hb6 (Nat.le_refl _)
  have HB6 : Hid (Below w.heap.size w w6) := HB5.out.trans (hb6.mono HB5.out.size)
  clear hb6 HC5 HB5 HE
  go_wp2_with fail
  refine (HS.out _ _ _ _ HC6.out (by rw [ByteArray.size_append, z1]; show 4 + (foot.size + 12) ≤ _; omega) (by omega)).mono ?_
  rintro e w7 ⟨rfl, A7, c7⟩
  have HB7 : Hid (Below w.heap.size w w7) := HB6.out.trans c7.2
  have LO : Hid (Calls Try.prog 8 #[.pointer (some ⟨w.heap.size, 0, none⟩)] w7 fun e w' => e = .returned (.bool true) ∧ ∃ n, w' = w7.drewN n) := looks5 w.heap.size w.heap.size A7 _ w7 c7.1 (by omega)
  clear c7 HC6 HB6 HS
  go_wp2_with fail
  refine LO.out.mono ?_
  rintro e w8 ⟨rfl, n, hw8⟩
  have hb8 : Below w.heap.size w w8 := by rw [hw8]; exact below_drewN HB7.out n
  clear hw8 LO
  go_wp2
  go_ret
  exact ⟨rfl, hb8⟩

end Go.Proofs.Ytjobhlncllfdmaa
