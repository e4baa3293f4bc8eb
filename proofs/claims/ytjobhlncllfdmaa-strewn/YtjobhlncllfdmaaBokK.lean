/- (*Book).runs: its contract. -/
import Derived.Test.YtjobhlncllfdmaaBokH
import Derived.Test.YtjobhlncllfdmaaBokI
import Derived.Test.YtjobhlncllfdmaaProJ
import Derived.Test.YtjobhlncllfdmaaRefE
namespace Go.Proofs.Ytjobhlncllfdmaa
open Go.RowKit

theorem own_base {w : World} {B B' : Nat} {e : TypeId} {v : Value} {n : Nat} {xs : List Value} (h : w.ownsRow B' e 1 v n xs) (hB : B ≤ B') : w.ownsRow B e 1 v n xs := by
  refine ⟨h.1, ?_⟩
  rcases h.2 with h2 | ⟨g, cap, cur, h1, h2, h3⟩
  · exact .inl h2
  · exact .inr ⟨g, cap, cur, h1, by omega, h3⟩

theorem own_below {w w' : World} {B N : Nat} {e : TypeId} {v : Value} {n : Nat} {xs : List Value} (h : w.ownsRow B e 1 v n xs) (hb : Below N w w') (hN : w.heap.size ≤ N) : w'.ownsRow B e 1 v n xs :=
  own_agree h (fun k hk => hb.block k (by have := (h.lt k hk).2; omega))

theorem Book.below {w w' : World} {B b N : Nat} {U : Nat → Prop} {bs is : List (Value × Int)} (h : Book w B b U bs is) (hb : Below N w w') (hN : w.heap.size ≤ N) : Book w' B b U bs is := by
  have hU : ∀ k, U k → k < w.heap.size := by obtain ⟨_, _, _, _, _, _, _, _, _, h5⟩ := h; exact fun k hk => (h5 k hk).2
  exact h.kept (fun k hk => hb.block k (by have := hU k hk; omega)) hb.size

theorem Book.lt {w : World} {B b : Nat} {U : Nat → Prop} {bs is : List (Value × Int)} (h : Book w B b U bs is) : ∀ k, U k → B ≤ k ∧ k < w.heap.size := by
  obtain ⟨_, _, _, _, _, _, _, _, _, h5⟩ := h; exact h5
theorem Book.bsize {w : World} {B b : Nat} {U : Nat → Prop} {bs is : List (Value × Int)} (h : Book w B b U bs is) : B ≤ w.heap.size := by
  obtain ⟨_, _, _, _, _, _, _, _, h4, h5⟩ := h; have := h5 b h4; omega

/-- lent bytes are bytes to be read -/
theorem rest_of_lent {w : World} {B g cap : Nat} {s : ByteArray} (h : w.ownsRow B 5 1 (.slice (some ⟨g, 0, none⟩) (s.size + 3) cap) (s.size + 3) (bytesV s.data.toList ++ [.int .u8 200, .int .u8 201, .int .u8 202])) :
    Rest w g (some ⟨g, 0, none⟩) cap s.data.toList := by
  have hlen : s.data.toList.length = s.size := by simp
  have hcap : s.size + 3 ≤ cap ∧ cap ≤ maxLen := by
    rcases h.2 with ⟨h, _⟩ | ⟨g', cap', cur, h, _, _, hnc, hm, _⟩
    · cases h
    · simp only [Value.slice.injEq] at h
      obtain ⟨_, _, rfl⟩ := h
      exact ⟨hnc, hm⟩
  refine ⟨by omega, hcap.2, .inr ⟨0, rfl, fun j hj => ?_⟩⟩
  rw [Nat.zero_add, h.cellAt j (by omega), List.getElem?_append_left (by rw [length_bytesV]; exact hj)]
  simp only [bytesV, List.getElem?_map, List.getElem?_eq_getElem hj, Option.map_some, Pu.byteAt, List.getD_eq_getElem?_getD, Option.getD_some]

/-- what (*Book).runs leaves -/
def BookOn (w : World) (B b : Nat) (nb ni : Nat) (w' : World) : Prop :=
  ∃ U' bs' is', Book w' B b U' bs' is' ∧ bs'.length ≤ nb + 4 ∧ is'.length ≤ ni + 4 ∧ Below B w w'

set_option maxHeartbeats 2000000 in
set_option maxRecDepth 100000 in
theorem bruns_bad (B b : Nat) (U : Nat → Prop) (bs is : List (Value × Int)) (s : ByteArray) (W C : Int) (w : World) (hBk : Book w B b U bs is) (hs : s.size ≤ 140737488355000) (hbs : bs.length ≤ 900000)
    (hW : (Lit.int .i64 W).wf = true) (hC : (Lit.int .i64 C).wf = true) (hbad : W < 0 ∨ 24 < W ∨ C < 0 ∨ 100000 < C) :
    Calls Try.prog 7 #[.pointer (some ⟨b, 0, none⟩), .string s, .int .i64 W, .int .i64 C] w fun e w' => e = .returned (.bool true) ∧ BookOn w B b bs.length is.length w' := by
  have HBk : Hid (Book w B b U bs is) := hBk
  have HBs : Hid (B ≤ w.heap.size) := hBk.bsize
  have L : Hid (Calls Try.prog 18 #[.string s] w fun e w' => ∃ g cap, e = .returned (.slice (some ⟨g, 0, none⟩) (s.size + 3) cap) ∧ w'.ownsRow w.heap.size 5 1 (.slice (some ⟨g, 0, none⟩) (s.size + 3) cap) (s.size + 3) (bytesV s.data.toList ++ [.int .u8 200, .int .u8 201, .int .u8 202]) ∧ Below w.heap.size w w') := lend_any s w hs
  have R : Hid (∀ (v : Value) (w : World), Calls Try.prog 6 #[v, .int .i64 W, .int .i64 C] w fun e w' => e = .returned (.tuple #[.slice none 0 0, .int .i64 0, .int .i64 1]) ∧ w' = w) := fun v w => runsP_bad v W C w hW hC hbad
  clear hBk hW hC
  go_enter Try.func7, Try.ntmps7
  go_wp2_with fail
  refine L.out.mono ?_
  rintro e w1 ⟨g, cap, rfl, hown, hbel⟩
  have hlt : g < w1.heap.size ∧ w.heap.size ≤ g := ⟨(own_ty hown rfl).lt, (hown.lt g rfl).1⟩
  have hcap : s.size + 3 ≤ cap ∧ cap ≤ 9223372036854775807 := by
    have := rest_of_lent hown
    rcases hown.2 with ⟨h, _⟩ | ⟨g', cap', cur, h, _, _, hnc, hm, _⟩
    · cases h
    · simp only [Value.slice.injEq] at h
      unfold maxLen at hm
      omega
  obtain ⟨hcap1, hcap2⟩ := hcap
  have HBA : Hid (Calls Try.prog 19 #[.pointer (some ⟨b, 0, none⟩), .slice (some ⟨g, 0, none⟩) (s.size + 3) cap, .string s] w1 fun e w' => e = .returned (.bool true) ∧ ∃ U' ps', Book w' B b U' ps' is ∧ ps'.length = bs.length + 4 ∧ (∀ k, U' k → U k ∨ some g = some k ∨ w1.heap.size ≤ k) ∧ Fr (fun k => U k ∨ some g = some k) w1 w') := back_any B b U bs is g cap s w1 (HBk.out.below hbel (Nat.le_refl _)) (own_base hown HBs.out) (fun hu => by have := HBk.out.lt g hu; omega) hs hbs
  have Hbel : Hid (Below w.heap.size w w1) := hbel
  clear hown hbel
  go_wp2_with fail
  refine (R.out _ _).mono ?_
  rintro e w' ⟨rfl, rfl⟩
  go_wp2_with fail
  refine HBA.out.mono ?_
  rintro e w3 ⟨rfl, hK⟩
  have HF : Hid (BookOn w B b bs.length is.length w3) := by
    obtain ⟨U', ps', hB3, hl3, hU', hfr⟩ := hK
    refine ⟨U', ps', is, hB3, by omega, by omega, (Hbel.out.mono HBs.out).trans (hfr.below (Nat.le_trans HBs.out Hbel.out.size) ?_)⟩
    intro k hk
    rcases hk with hk | hk
    · exact (HBk.out.lt k hk).1
    · simp only [Option.some.injEq] at hk; have := HBs.out; omega
  clear hK HBA
  by_cases h1 : W < 0
  · go_wp2_with fail
    refine (num_any 1 _ (by omega)).mono ?_
    rintro e w' ⟨rfl, rfl⟩
    go_wp2
    go_ret
    exact ⟨rfl, HF.out⟩
  · by_cases h2 : 24 < W
    · go_wp2_with fail
      refine (num_any 1 _ (by omega)).mono ?_
      rintro e w' ⟨rfl, rfl⟩
      go_wp2
      go_ret
      exact ⟨rfl, HF.out⟩
    · by_cases h3 : C < 0
      · go_wp2_with fail
        refine (num_any 1 _ (by omega)).mono ?_
        rintro e w' ⟨rfl, rfl⟩
        go_wp2
        go_ret
        exact ⟨rfl, HF.out⟩
      · have h4 : 100000 < C := by omega
        go_wp2_with fail
        refine (num_any 1 _ (by omega)).mono ?_
        rintro e w' ⟨rfl, rfl⟩
        go_wp2
        go_ret
        exact ⟨rfl, HF.out⟩
end Go.Proofs.Ytjobhlncllfdmaa
