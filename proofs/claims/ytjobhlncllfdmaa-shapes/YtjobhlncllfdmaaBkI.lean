/- back: its contract. -/
import Derived.Test.YtjobhlncllfdmaaBkF
import Derived.Test.YtjobhlncllfdmaaBkH
import Derived.Laws.IdiomStrings
namespace Go.Proofs.Ytjobhlncllfdmaa
open Go.RowKit

theorem lent_cell {w : World} {B g N cap : Nat} {s : ByteArray} (h : w.ownsRow B 5 1 (.slice (some ⟨g, 0, none⟩) (s.size + 3) cap) (s.size + 3) (bytesV s.data.toList ++ [.int .u8 200, .int .u8 201, .int .u8 202])) (hN : N < 3) :
    w.cell? ⟨g, s.size + N, none⟩ = some (.int .u8 (200 + N : Nat)) := by
  rw [h.cellAt _ (by omega), List.getElem?_append_right (by rw [length_bytesV]; simp)]
  rw [length_bytesV, show s.size + N - s.data.toList.length = N by simp]
  match N, hN with
  | 0, _ => rfl
  | 1, _ => rfl
  | 2, _ => rfl

set_option maxHeartbeats 2000000 in
set_option maxRecDepth 100000 in
theorem back5 (B b : Nat) (A : Nat → Prop) (nb : Nat) (g cap : Nat) (s : ByteArray) (w : World) (hBk : Book5 w B b A nb) (hl : w.ownsRow B 5 1 (.slice (some ⟨g, 0, none⟩) (s.size + 3) cap) (s.size + 3) (bytesV s.data.toList ++ [.int .u8 200, .int .u8 201, .int .u8 202])) (hlA : ¬ A g)
    (hs : s.size ≤ 140737488355000) (hnb : nb ≤ 900000) :
    Calls Try.prog 19 #[.pointer (some ⟨b, 0, none⟩), .slice (some ⟨g, 0, none⟩) (s.size + 3) cap, .string s] w fun e w' => e = .returned (.bool true) ∧ Kept w B b A nb (some g) w' := by
  have K : Hid (Calls Try.prog 38 #[.pointer (some ⟨b, 0, none⟩), .slice (some ⟨g, 0, none⟩) (s.size + 3) cap] w fun e w' => e = .returned (.tuple #[]) ∧ Kept w B b A nb (some g) w') :=
    keepBytes5 B b (s.size + 3) A nb (some ⟨g, 0, none⟩) cap _ w hBk hl (fun k hk => by simp only [Value.ownBlock, Option.some.injEq] at hk; subst hk; exact hlA) (by omega) hnb
  have c0 := lent_cell (N := 0) hl (by omega)
  have c1 := lent_cell (N := 1) hl (by omega)
  have c2 := lent_cell (N := 2) hl (by omega)
  have hcap : s.size + 3 ≤ cap := by
    rcases hl.2 with ⟨h, _⟩ | ⟨g', cap', cur, h, _, _, hnc, _⟩
    · cases h
    · simp only [Value.slice.injEq] at h
      omega
  have hcm : cap ≤ 9223372036854775807 := by
    rcases hl.2 with ⟨h, _⟩ | ⟨g', cap', cur, h, _, _, hnc, hm, _⟩
    · cases h
    · simp only [Value.slice.injEq] at h
      unfold maxLen at hm
      omega
  have hcv : (convert 24 9 (.slice (some ⟨g, 0, none⟩) s.size cap)).run Try.prog w = .ok (.string s) w := by
    have hlen : s.data.toList.length = s.size := by simp
    have hb := run_convert_bytes_back (P := Try.prog) w 24 9 5 ⟨g, 0, none⟩ cap s.data.toList Try.underlying24 Try.underlying5 Try.underlying9 (fun j hj => by
      rw [show (⟨g, 0, none⟩ : Addr).add j = ⟨g, j, none⟩ from by unfold Addr.add; split <;> simp_all, hl.cellAt j (by omega), List.getElem?_append_left (by rw [length_bytesV]; exact hj)]
      simp only [bytesV, List.getElem?_map, List.getElem?_eq_getElem hj, Option.map_some])
    rw [hlen] at hb
    rw [hb]
  rw [Nat.add_zero] at c0
  clear hBk hl
  go_enter Try.func19, Try.ntmps19
  go_wp2_with fail
  refine K.out.mono ?_
  rintro e w1 ⟨rfl, hK⟩
  have HK : Hid _ := hK
  clear hK
  go_wp2
  go_ret
  exact ⟨rfl, HK.out⟩
end Go.Proofs.Ytjobhlncllfdmaa
