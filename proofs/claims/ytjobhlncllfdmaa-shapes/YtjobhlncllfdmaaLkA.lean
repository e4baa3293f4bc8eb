/- Columns as cells; contract of the reference's name. -/
import Derived.Test.YtjobhlncllfdmaaLkP
import Derived.Deep.AppendLies
import Derived.Deep.AppendSrc
import Derived.Deep.Upon
namespace Go.Proofs.Ytjobhlncllfdmaa
open Go.RowKit

def strV (l : List UInt8) : Value := .string ⟨l.toArray⟩
def colV (c : Pu.Col) : List Value := [strV c.name, .int .i64 (c.kind : Int), .bool c.opt]
def colsV (cs : List Pu.Col) : List Value := cs.flatMap colV

theorem length_colsV (cs : List Pu.Col) : (colsV cs).length = cs.length * 3 := by
  induction cs with
  | nil => rfl
  | cons c r ih =>
    have : (colsV (c :: r)).length = 3 + (colsV r).length := by simp [colsV, colV]; omega
    rw [this, ih, List.length_cons]; omega

theorem colsV_at (cs : List Pu.Col) (k j : Nat) (h : k < cs.length) (hj : j < 3) : (colsV cs)[k * 3 + j]? = (colV cs[k])[j]? := by
  induction cs generalizing k with
  | nil => simp at h
  | cons c r ih =>
    have e : colsV (c :: r) = colV c ++ colsV r := by simp [colsV]
    have hl : (colV c).length = 3 := rfl
    rw [e]
    cases k with
    | zero => rw [List.getElem?_append_left (by omega)]; simp
    | succ k =>
      rw [List.getElem?_append_right (by omega), show (k + 1) * 3 + j - (colV c).length = k * 3 + j by omega, ih k (by simpa using h)]
      simp

theorem colsV_snoc (cs : List Pu.Col) (c : Pu.Col) : colsV cs ++ colV c = colsV (cs ++ [c]) := by simp [colsV]

theorem str_list (s : ByteArray) : (⟨s.data.toList.toArray⟩ : ByteArray) = s := by cases s; simp

theorem str_eq_iff (l : List UInt8) (s : ByteArray) : (⟨l.toArray⟩ : ByteArray) = s ↔ l = s.data.toList := by
  constructor
  · rintro rfl; simp
  · rintro rfl; exact str_list s

theorem str_ne {t s : ByteArray} (h : ¬ t = s) : (t.toList == s.toList) = false := by
  rw [beq_eq_false_iff_ne, ByteArray.toList_eq, ByteArray.toList_eq]
  intro e
  exact h (by cases t; cases s; simp only [ByteArray.mk.injEq]; exact Array.ext' e)

theorem hasName_snoc (cs : List Pu.Col) (k : Nat) (nm : List UInt8) (h : k < cs.length) : Pu.hasName (cs.take (k + 1)) nm = (Pu.hasName (cs.take k) nm || cs[k].name == nm) := by
  unfold Pu.hasName
  rw [List.take_succ_eq_append_getElem h, List.any_append]
  simp

/-- the cells of a row of columns -/
theorem cols_cell {w : World} {B : Nat} {ao : Option Addr} {cap : Nat} {cs : List Pu.Col} (h : w.ownsRow B 45 3 (.slice ao cs.length cap) cs.length (colsV cs)) :
    ∀ k, (hk : k < cs.length) → ∃ g, ao = some ⟨g, 0, none⟩ ∧ w.cell? ⟨g, k * 3, none⟩ = some (strV cs[k].name) ∧ w.cell? ⟨g, k * 3 + 1, none⟩ = some (.int .i64 (cs[k].kind : Int)) ∧ w.cell? ⟨g, k * 3 + 2, none⟩ = some (.bool cs[k].opt) := by
  intro k hk
  obtain ⟨g, cap', he, _, _⟩ := h.form (by omega)
  simp only [Value.slice.injEq] at he
  obtain ⟨rfl, _, rfl⟩ := he
  refine ⟨g, rfl, ?_, ?_, ?_⟩
  · rw [h.cellAt _ (by omega)]; exact colsV_at cs k 0 hk (by omega)
  · rw [h.cellAt _ (by omega)]; exact colsV_at cs k 1 hk (by omega)
  · rw [h.cellAt _ (by omega)]; exact colsV_at cs k 2 hk (by omega)

set_option maxHeartbeats 1000000 in
set_option maxRecDepth 100000 in
theorem name_any (B : Nat) (ao : Option Addr) (cap : Nat) (cs : List Pu.Col) (s : ByteArray) (w : World) (h : w.ownsRow B 45 3 (.slice ao cs.length cap) cs.length (colsV cs)) (hcs : cs.length ≤ 20) :
    Calls Try.prog 51 #[.slice ao cs.length cap, .string s] w fun e w' => e = .returned (.bool (Pu.hasName cs s.data.toList)) ∧ w' = w := by
  have HC : Hid (∀ k, (hk : k < cs.length) → ∃ g, ao = some ⟨g, 0, none⟩ ∧ w.cell? ⟨g, k * 3, none⟩ = some (.string ⟨cs[k].name.toArray⟩)) := fun k hk => by
    obtain ⟨g, h1, h2, _⟩ := cols_cell h k hk
    exact ⟨g, h1, h2⟩
  have HN : Hid (∀ k, (hk : k < cs.length) → Pu.hasName (cs.take (k + 1)) s.data.toList = (Pu.hasName (cs.take k) s.data.toList || cs[k].name == s.data.toList)) := fun k hk => hasName_snoc cs k _ hk
  have HE : Hid (Pu.hasName (cs.take cs.length) s.data.toList = Pu.hasName cs s.data.toList) := by rw [Hid, List.take_length]
  have HT : Hid (∀ k, (hk : k < cs.length) → (⟨cs[k].name.toArray⟩ : ByteArray) = s → Pu.hasName cs s.data.toList = true) := fun k hk he => by
    unfold Pu.hasName
    rw [List.any_eq_true]
    exact ⟨cs[k], List.getElem_mem hk, by rw [(str_eq_iff _ _).1 he]; simp⟩
  clear h
  go_enter Try.func51, Try.ntmps51
  go_wp2
  go_loop [5] (fun i => ∃ k : Nat, k ≤ cs.length ∧ i = .int .i64 k ∧ Hid (Pu.hasName (cs.take k) s.data.toList = false)) (fun i => cs.length - (intOf i).toNat)
  case atStart => exact ⟨0, Nat.zero_le _, rfl, rfl⟩
  case round =>
    obtain ⟨k, hk, rfl, Hk⟩ := hrel
    by_cases hk2 : k < cs.length
    · obtain ⟨g, rfl, hc⟩ := HC.out k hk2
      by_cases he : (⟨cs[k].name.toArray⟩ : ByteArray) = s
      · have Hr : Hid (Pu.hasName cs s.data.toList = true) := HT.out k hk2 he
        rw [he] at hc
        clear he
        go_wp2
        go_ret
        exact ⟨by rw [Hr.out]; rfl, rfl⟩
      · have Hn : Hid (Pu.hasName (cs.take (k + 1)) s.data.toList = false) := by
          rw [Hid, HN.out k hk2, Hk.out, Bool.false_or, beq_eq_false_iff_ne]
          exact fun e => he ((str_eq_iff _ _).2 e)
        generalize (⟨cs[k].name.toArray⟩ : ByteArray) = t at *
        have hd : (t.toList == s.toList) = false := str_ne he
        go_wp2
        go_round
        case rel => exact ⟨k + 1, by omega, by go_num, Hn⟩
        case measure => simp [intOf]; omega
    · obtain rfl : k = cs.length := by omega
      go_wp2
      go_ret
      exact ⟨by rw [← HE.out, Hk.out]; rfl, rfl⟩

end Go.Proofs.Ytjobhlncllfdmaa
