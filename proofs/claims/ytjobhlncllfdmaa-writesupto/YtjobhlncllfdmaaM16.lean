/- The program's runs.Write. -/
import Derived.Test.YtjobhlncllfdmaaM15
namespace Go.Proofs.Ytjobhlncllfdmaa
open Go.RowKit

/-- numbers in runs -/
def ruL (width : Nat) : Nat → List Nat → List UInt8
  | 0, _ => []
  | f + 1, l => if l = [] then [] else
    if 8 ≤ eqs (l.headD 0) l then vb (2 * eqs (l.headD 0) l) ++ leB ((width + 7) / 8) (l.headD 0) ++ ruL width f (l.drop (eqs (l.headD 0) l))
    else eightL width (l.take (min l.length 8)) ++ ruL width f (l.drop (min l.length 8))
def runsL (width : Nat) (l : List Nat) : List UInt8 := ruL width l.length l

theorem eqs_pos {l : List Nat} (h : l ≠ []) : 0 < eqs (l.headD 0) l := by
  cases l with
  | nil => exact absurd rfl h
  | cons y r => simp [eqs]
theorem ruL_nil (width : Nat) : ∀ f, ruL width f [] = []
  | 0 => rfl
  | f + 1 => by simp [ruL]
theorem length_eightL (width : Nat) (l : List Nat) (hw : width ≤ 24) : (eightL width l).length ≤ 25 := by
  unfold eightL
  rw [List.length_append, length_pkRow, vb_small (by omega)]
  simp; omega

/-- a writer that was made here: all that it has touched is new -/
theorem OG.fresh {w wr w' : World} {R : Nat} {v : Value} {L M : List UInt8} (hb : Below R w wr) (hR : R = w.heap.size) (h : OS wr R R v L) (hg : OG wr R R v M w') : ∃ v', OS w' R R v' M ∧ Below R w w' := by
  obtain ⟨v', o, f, _⟩ := hg
  refine ⟨v', o, hb.trans (f.below (by have := hb.size; omega) (fun k e => ?_))⟩
  rcases e with rfl | e
  · exact Nat.le_refl _
  · exact (h.own.lt k e).1

theorem ints_take (l : List Nat) (k : Nat) : (ints l).take k = ints (l.take k) := by simp [ints, List.map_take]
theorem ints_drop (l : List Nat) (k : Nat) : (ints l).drop k = ints (l.drop k) := by simp [ints, List.map_drop]

/-- what is so in the loop of runs.Write -/
def RuS (w : World) (R lb width : Nat) (l : List Nat) (ao : Option Addr) (m cap : Nat) (wr : World) : Prop :=
  ∃ (r : List Nat) (M : List UInt8) (f : Nat) (v : Value), m = r.length ∧ r.length ≤ f ∧ r.length ≤ l.length ∧ M ++ ruL width f r = runsL width l ∧ M.length ≤ 32 * (l.length - r.length) ∧ Rs w 1 lb ao m cap (ints r) ∧ (∀ x ∈ r, x < 4294967296) ∧ OS wr R R v M ∧ Below R w wr

/-- of one round -/
def RuStep (w : World) (R lb width : Nat) (l : List Nat) (ao : Option Addr) (m cap : Nat) (wr : World) : Prop :=
  ∃ n x : Nat, 0 < n ∧ n ≤ m ∧ m ≤ cap ∧ cap ≤ maxLen ∧ (∃ o, ao = some ⟨lb, o, none⟩ ∧ wr.cell? ⟨lb, o, none⟩ = some (.int .i64 (x : Int))) ∧ ∃ z : Nat,
    Calls Try.prog 114 #[.slice ao m cap] wr (fun e w' => e = .returned (.int .i64 (z : Int)) ∧ w' = wr) ∧
    ((8 ≤ z ∧ n = z ∧ Calls Try.prog 115 #[.pointer (some ⟨R, 0, none⟩), .int .i64 x, .int .i64 width, .int .i64 n] wr (fun e w' => e = .returned (.tuple #[]) ∧ RuS w R lb width l (cutS ao cap n 1) (m - n) (cap - n) w')) ∨
     (z < 8 ∧ n = min m 8 ∧ Calls Try.prog 116 #[.pointer (some ⟨R, 0, none⟩), .slice ao n n, .int .i64 width] wr (fun e w' => e = .returned (.tuple #[]) ∧ RuS w R lb width l (cutS ao cap n 1) (m - n) (cap - n) w')))

theorem RuS.step {w : World} {R lb width : Nat} {l : List Nat} {ao : Option Addr} {m cap : Nat} {wr : World} (h : RuS w R lb width l ao m cap wr) (hm : 0 < m) (hR : R = w.heap.size) (hlb : lb < w.heap.size) (hw : width ≤ 24) (hl : l.length ≤ 1000000) : RuStep w R lb width l ao m cap wr := by
  obtain ⟨r, M, f, v, rfl, hrf, hrl, he, hM, hrs, hx, ho, hb⟩ := h
  have hrs2 : Rs wr 1 lb ao r.length cap (ints r) := hrs.kept (hb.block _ (by omega))
  obtain ⟨o, rfl, hc⟩ := hrs2.at hm
  have hne : r ≠ [] := fun e => by rw [e] at hm; simp at hm
  have hhd : r.headD 0 = r[0] := by cases r with | nil => exact absurd rfl hne | cons y t => rfl
  have hc0 : wr.cell? ⟨lb, o, none⟩ = some (.int .i64 (r[0] : Int)) := by
    have := hc 0 (by simp [ints]; omega)
    simpa [ints] using this
  have hpos := eqs_pos hne
  have hle := eqs_le (r.headD 0) r
  obtain ⟨f', rfl⟩ : ∃ f', f = f' + 1 := ⟨f - 1, by omega⟩
  have hz := equalOnes_any lb cap r (some ⟨lb, o, none⟩) wr hrs2 hm (by omega)
  rw [← hhd] at hz hc0
  have hxr : r.headD 0 < 4294967296 := by rw [hhd]; exact hx _ (List.getElem_mem hm)
  have hBr : R ≤ wr.heap.size := by have := hb.size; omega
  unfold ruL at he
  rw [if_neg hne] at he
  by_cases h8 : 8 ≤ eqs (r.headD 0) r
  · rw [if_pos h8] at he
    refine ⟨eqs (r.headD 0) r, r.headD 0, hpos, hle, hrs.1, hrs.2.1, ⟨o, rfl, hc0⟩, _, hz, .inl ⟨h8, rfl, ?_⟩⟩
    refine (writeEqual_any R R (r.headD 0) width (eqs (r.headD 0) r) v M wr ho hBr hxr hw (by omega) (by omega)).mono ?_
    rintro e w' ⟨rfl, hg⟩
    obtain ⟨v', o', b'⟩ := hg.fresh hb hR ho
    have d := hrs.drop (eqs (r.headD 0) r) hle
    rw [Nat.mul_one, ints_drop] at d
    have l1 := length_vb8 (n := 2 * eqs (r.headD 0) r) (by omega)
    have l2 := length_leB ((width + 7) / 8) (r.headD 0)
    refine ⟨rfl, r.drop (eqs (r.headD 0) r), _, f', v', by rw [List.length_drop], by rw [List.length_drop]; omega, by rw [List.length_drop]; omega, by rw [List.append_assoc, List.append_assoc, ← List.append_assoc (vb _)]; exact he, ?_, d, fun x hx' => hx x (List.mem_of_mem_drop hx'), o', b'⟩
    simp only [List.length_append, List.length_drop]
    omega
  · rw [if_neg h8] at he
    obtain ⟨n, hn⟩ : ∃ n, n = min r.length 8 := ⟨_, rfl⟩
    rw [← hn] at he
    refine ⟨n, r.headD 0, by omega, by omega, hrs.1, hrs.2.1, ⟨o, rfl, hc0⟩, _, hz, .inr ⟨by omega, hn, ?_⟩⟩
    have tk := hrs2.take n (by omega)
    rw [Nat.mul_one, ints_take] at tk
    have hlt : (r.take n).length = n := by rw [List.length_take]; omega
    have := writeEight_any R R lb width n v M (r.take n) (some ⟨lb, o, none⟩) wr ho hBr (by rw [hlt]; exact tk) (fun _ => by have := hb.size; omega) (by omega) (fun x hx' => hx x (List.mem_of_mem_take hx')) hw (by omega)
    rw [hlt] at this
    refine this.mono ?_
    rintro e w' ⟨rfl, hg⟩
    obtain ⟨v', o', b'⟩ := hg.fresh hb hR ho
    have d := hrs.drop n (by omega)
    rw [Nat.mul_one, ints_drop] at d
    have l1 := length_eightL width (r.take n) hw
    refine ⟨rfl, r.drop n, _, f', v', by rw [List.length_drop], by rw [List.length_drop]; omega, by rw [List.length_drop]; omega, by rw [List.append_assoc]; exact he, ?_, d, fun x hx' => hx x (List.mem_of_mem_drop hx'), o', b'⟩
    simp only [List.length_append, List.length_drop]
    omega

set_option maxHeartbeats 800000 in
set_option maxRecDepth 100000 in
theorem runsWrite_any (lb width cap : Nat) (l : List Nat) (ao : Option Addr) (w : World) (hr : Rs w 1 lb ao l.length cap (ints l)) (hlb : lb < w.heap.size) (hx : ∀ x ∈ l, x < 4294967296) (hw : width ≤ 24) (hl : l.length ≤ 1000000) :
    Calls Try.prog 111 #[.slice ao l.length cap, .int .i64 width] w fun e w' => ∃ v, e = .returned v ∧ w'.ownsRow w.heap.size 5 1 v (runsL width l).length (bytesV (runsL width l)) ∧ Below w.heap.size w w' := by
  obtain ⟨R, hR⟩ : ∃ R, R = w.heap.size := ⟨_, rfl⟩
  obtain ⟨W0, hW0⟩ : ∃ W0, W0 = w.alloc (.cells #[.slice none 0 0] 116) := ⟨_, rfl⟩
  have o0 : OS W0 R R (.slice none 0 0) [] := ⟨by rw [hW0, hR]; exact heap_alloc_new w _, World.ownsRow_nil _ _ _ _⟩
  have H0 : Hid (RuS w R lb width l ao l.length cap W0) := ⟨l, [], l.length, _, rfl, Nat.le_refl _, Nat.le_refl _, rfl, by simp, hr, hx, o0, by rw [hR, hW0]; exact bbox w _⟩
  have HS : Hid (∀ (ao : Option Addr) (m cap : Nat) (wr : World), RuS w R lb width l ao m cap wr → 0 < m → RuStep w R lb width l ao m cap wr) := fun ao m cap wr h hm => h.step hm hR hlb hw hl
  have HE : Hid (∀ (ao : Option Addr) (cap : Nat) (wr : World), RuS w R lb width l ao 0 cap wr → ∃ v, Calls Try.prog 60 #[.pointer (some ⟨R, 0, none⟩)] wr (fun e w' => e = .returned v ∧ w' = wr) ∧ wr.ownsRow w.heap.size 5 1 v (runsL width l).length (bytesV (runsL width l)) ∧ Below w.heap.size w wr) := fun ao cap wr h => by
    obtain ⟨r, M, f, v, hm, hrf, hrl, he, hM, hrs, hx, ho, hb⟩ := h
    have hr0 : r = [] := List.eq_nil_of_length_eq_zero hm.symm
    rw [hr0, ruL_nil, List.append_nil] at he
    rw [← hR, ← he]
    exact ⟨v, outBytes_any R R v M wr ho, ho.own, hb⟩
  obtain ⟨N, hN⟩ : ∃ N, N = l.length := ⟨_, rfl⟩
  rw [← hN] at H0 hl ⊢
  have hcap : N ≤ cap := by rw [hN]; exact hr.1
  have hcm : cap ≤ maxLen := hr.2.1
  have hW0' : w.alloc (.cells #[.slice none 0 0] 116) = W0 := hW0.symm
  have hsz : w.heap.size = R := hR.symm
  rw [hsz] at HE ⊢
  clear hr hx o0 hN hW0 hlb hR
  unfold maxLen at hcm
  go_enter Try.func111, Try.ntmps111
  go_wp2
  go_loopw [0] (fun s wr => ∃ (ao : Option Addr) (m cap : Nat), s = .slice ao m cap ∧ m ≤ N ∧ Hid (RuS w R lb width l ao m cap wr)) (fun s _ => slen s)
  case atStart => exact ⟨ao, N, cap, rfl, Nat.le_refl _, H0⟩
  case round =>
    obtain ⟨ao, m, cap, rfl, hmN, HU⟩ := hrel
    by_cases hm : 0 < m
    · obtain ⟨n, x, hn0, hnm, hmc, hcm2, ⟨o, rfl, hc⟩, z, C1, hcase⟩ := HS.out ao m cap wr HU.out hm
      unfold maxLen at hcm2
      have C1' : Hid (Calls Try.prog 114 #[.slice (some ⟨lb, o, none⟩) m cap] wr (fun e w' => e = .returned (.int .i64 (z : Int)) ∧ w' = wr)) := C1
      clear C1 HU
      rcases hcase with ⟨h8, rfl, C2⟩ | ⟨h8, hn, C2⟩
      · have C2' : Hid (Calls Try.prog 115 #[.pointer (some ⟨R, 0, none⟩), .int .i64 x, .int .i64 width, .int .i64 n] wr (fun e w' => e = .returned (.tuple #[]) ∧ RuS w R lb width l (cutS (some ⟨lb, o, none⟩) cap n 1) (m - n) (cap - n) w')) := C2
        clear C2
        go_wp2_with fail
        refine C1'.out.mono ?_
        rintro e w' ⟨rfl, hw'⟩
        subst w'
        go_wp2_with fail
        refine C2'.out.mono ?_
        rintro e w2 ⟨rfl, h2⟩
        have H2 : Hid (RuS w R lb width l (cutS (some ⟨lb, o, none⟩) cap n 1) (m - n) (cap - n) w2) := h2
        clear h2 C1' C2' hc
        by_cases hcn : cap = n
        · subst hcn
          have Hcut : Hid (cutS (some ⟨lb, o, none⟩) cap cap 1 = some ⟨lb, o, none⟩) := by simp [Hid, cutS]
          rw [Hcut.out, show m - cap = 0 by omega, Nat.sub_self] at H2
          go_wp2
          go_roundw
          case rel => exact ⟨_, 0, 0, rfl, by omega, H2⟩
          case measure => simp [slen]; omega
        · have Hcut : Hid (cutS (some ⟨lb, o, none⟩) cap n 1 = some ⟨lb, o + n, none⟩) := by unfold Hid cutS; rw [if_neg hcn]; simp [Addr.add]; omega
          rw [Hcut.out] at H2
          go_wp2
          go_roundw
          case rel => exact ⟨_, m - n, cap - n, rfl, by omega, H2⟩
          case measure => simp [slen]; omega
      · by_cases hm8 : m ≤ 8
        · obtain rfl : m = n := by omega
          clear hn
          have C2' : Hid (Calls Try.prog 116 #[.pointer (some ⟨R, 0, none⟩), .slice (some ⟨lb, o, none⟩) m m, .int .i64 width] wr (fun e w' => e = .returned (.tuple #[]) ∧ RuS w R lb width l (cutS (some ⟨lb, o, none⟩) cap m 1) (m - m) (cap - m) w')) := C2
          clear C2
          go_wp2_with fail
          refine C1'.out.mono ?_
          rintro e w' ⟨rfl, hw'⟩
          subst w'
          go_wp2_with fail
          refine C2'.out.mono ?_
          rintro e w2 ⟨rfl, h2⟩
          have H2 : Hid (RuS w R lb width l (cutS (some ⟨lb, o, none⟩) cap m 1) (m - m) (cap - m) w2) := h2
          clear h2 C1' C2' hc
          by_cases hcn : cap = m
          · subst hcn
            have Hcut : Hid (cutS (some ⟨lb, o, none⟩) cap cap 1 = some ⟨lb, o, none⟩) := by simp [Hid, cutS]
            rw [Hcut.out, Nat.sub_self] at H2
            go_wp2
            go_roundw
            case rel => exact ⟨_, 0, 0, rfl, by omega, H2⟩
            case measure => simp [slen]; omega
          · have Hcut : Hid (cutS (some ⟨lb, o, none⟩) cap m 1 = some ⟨lb, o + m, none⟩) := by unfold Hid cutS; rw [if_neg hcn]; simp [Addr.add]; try omega
            rw [Hcut.out, Nat.sub_self] at H2
            go_wp2
            go_roundw
            case rel => exact ⟨_, 0, cap - m, rfl, by omega, H2⟩
            case measure => simp [slen]; omega
        · obtain rfl : n = 8 := by omega
          clear hn
          have C2' : Hid (Calls Try.prog 116 #[.pointer (some ⟨R, 0, none⟩), .slice (some ⟨lb, o, none⟩) 8 8, .int .i64 width] wr (fun e w' => e = .returned (.tuple #[]) ∧ RuS w R lb width l (cutS (some ⟨lb, o, none⟩) cap 8 1) (m - 8) (cap - 8) w')) := C2
          clear C2
          go_wp2_with fail
          refine C1'.out.mono ?_
          rintro e w' ⟨rfl, hw'⟩
          subst w'
          go_wp2_with fail
          refine C2'.out.mono ?_
          rintro e w2 ⟨rfl, h2⟩
          have H2 : Hid (RuS w R lb width l (cutS (some ⟨lb, o, none⟩) cap 8 1) (m - 8) (cap - 8) w2) := h2
          clear h2 C1' C2' hc
          by_cases hcn : cap = 8
          · subst hcn
            have Hcut : Hid (cutS (some ⟨lb, o, none⟩) 8 8 1 = some ⟨lb, o, none⟩) := by simp [Hid, cutS]
            rw [Hcut.out, Nat.sub_self] at H2
            go_wp2
            go_roundw
            case rel => exact ⟨_, m - 8, 0, rfl, by omega, H2⟩
            case measure => simp [slen]; omega
          · have Hcut : Hid (cutS (some ⟨lb, o, none⟩) cap 8 1 = some ⟨lb, o + 8, none⟩) := by unfold Hid cutS; rw [if_neg hcn]; simp [Addr.add]; try omega
            rw [Hcut.out] at H2
            go_wp2
            go_roundw
            case rel => exact ⟨_, m - 8, cap - 8, rfl, by omega, H2⟩
            case measure => simp [slen]; omega
    · obtain rfl : m = 0 := by omega
      obtain ⟨v, C1, ho, hb⟩ := HE.out ao cap wr HU.out
      have C1' : Hid (Calls Try.prog 60 #[.pointer (some ⟨R, 0, none⟩)] wr (fun e w' => e = .returned v ∧ w' = wr)) := C1
      clear C1
      go_wp2_with fail
      refine C1'.out.mono ?_
      rintro e w' ⟨rfl, hw'⟩
      subst w'
      go_wp2
      go_ret
      exact ⟨v, rfl, ho, hb⟩
end Go.Proofs.Ytjobhlncllfdmaa

/- The program's cells.valuesOf, writeLevels. -/
namespace Go.Proofs.Ytjobhlncllfdmaa
open Go.RowKit

/-- one element more, made just now -/
theorem own_push {P : Program} {w : World} {B : Nat} {t e : TypeId} {i : TypeInfo} {z : Value} {size bytes : Nat} (ht : P.underlying t = some (.slice e)) (hi : P.info? e = some i) (hz : i.zero = some z) (hsize : i.size = size) (hby : i.bytes = bytes) (hzs : z.cells.size = size)
    {v : Value} {n : Nat} {xs : List Value} (hown : w.ownsRow B e size v n xs) (news : Array Value) (hl : news.size = size) (h1 : ∀ u ∈ news.toList, u.oneCell' = true) (h63 : n + 1 ≤ maxLen) (hbytes : (n + 1) * bytes ≤ 140737488355328) (hB : B ≤ w.heap.size) :
    ∃ a1 c1 w1, (Builtin.append_ #[t, t] t #[v, .slice (some ⟨w.heap.size, 0, none⟩) 1 1]).run P (w.alloc (.cells news e)) = .ok (.slice a1 (n + 1) c1) w1 ∧
      w1.ownsRow B e size (.slice a1 (n + 1) c1) (n + 1) (xs ++ news.toList) ∧ w.grownBy w1 v.ownBlock ∧ ∀ k, (Value.slice a1 (n + 1) c1).ownBlock = some k → v.ownBlock = some k ∨ w.heap.size ≤ k := by
  have hsz := size_alloc' w (.cells news e)
  have hsrc : Src P size t (.slice (some ⟨w.heap.size, 0, none⟩) 1 1) 1 news.toList (w.alloc (.cells news e)) :=
    Src.ofSlice _ ht _ 1 1 _ (by simp [hl]) (World.news_of_block (cs := news) (heap_alloc_new w _)) h1
  obtain ⟨v1, w1, run, own, gr, lies, _⟩ := appendX (P := P) (w.alloc (.cells news e)) t t t e i z size bytes B ht hi hz hsize hby hzs v n xs (hown.alloc _) _ 1 _ hsrc h63 hbytes (by omega)
  obtain ⟨a1, c1, rfl⟩ := slen_of own
  refine ⟨a1, c1, w1, run, own, ⟨gr.os, gr.tape, gr.output, by have := gr.size; omega, fun k hk hn => ?_⟩, fun k hk => ?_⟩
  · rw [gr.block k (by omega) hn]; exact Below.heap_alloc w _ k hk
  · rcases lies k hk with h' | h'
    · exact .inl h'
    · exact .inr (by omega)

theorem below_grown {w wr w1 : World} {B : Nat} {row : Option Nat} (h : Below B w wr) (hB : B ≤ w.heap.size) (hg : wr.grownBy w1 row) (hr : ∀ k, row = some k → B ≤ k) : Below B w w1 :=
  h.grown hg (Nat.le_trans hB h.size) hr

/-- a cell of a list -/
theorem Rs.cl3 {w : World} {lb : Nat} {ao : Option Addr} {cap : Nat} {l : List Pu.Cl} (h : Rs w 3 lb ao l.length cap (clsV l)) (k : Nat) (hk : k < l.length) :
    ∃ o, ao = some ⟨lb, o, none⟩ ∧ w.cell? ⟨lb, o + k * 3, none⟩ = some (.bool l[k].null) ∧ w.cell? ⟨lb, o + k * 3 + 1, none⟩ = some (.int .i64 l[k].n) ∧ w.cell? ⟨lb, o + k * 3 + 2, none⟩ = some (strV l[k].s) := by
  obtain ⟨o, rfl, hc⟩ := h.at (by omega)
  have hl := length_clsV l
  have hh : ∀ j, (hj : j < 3) → ∀ u, (clV l[k])[j]? = some u → w.cell? ⟨lb, o + (k * 3 + j), none⟩ = some u := fun j hj u hu => by
    rw [hc (k * 3 + j) (by omega)]
    have := clsV_at l k j hk hj
    rw [List.getElem?_eq_getElem (by omega), hu] at this
    exact this
  exact ⟨o, rfl, hh 0 (by omega) _ rfl, hh 1 (by omega) _ rfl, hh 2 (by omega) _ rfl⟩

/-- the cells that are not null -/
def valsL (l : List Pu.Cl) : List Pu.Cl := l.filter fun c => !c.null
theorem valsL_take (l : List Pu.Cl) (k : Nat) (hk : k < l.length) : valsL (l.take (k + 1)) = if l[k].null = true then valsL (l.take k) else valsL (l.take k) ++ [l[k]] := by
  unfold valsL
  rw [List.take_succ_eq_append_getElem hk, List.filter_append]
  cases h : l[k].null <;> simp [h]
theorem length_valsL (l : List Pu.Cl) : (valsL l).length ≤ l.length := List.length_filter_le _ _

set_option maxHeartbeats 4000000 in
set_option maxRecDepth 100000 in
theorem valuesOf_any (lb cap : Nat) (l : List Pu.Cl) (ao : Option Addr) (w : World) (hr : Rs w 3 lb ao l.length cap (clsV l)) (hlb : lb < w.heap.size) (hl : l.length ≤ 1000000) :
    Calls Try.prog 107 #[.slice ao l.length cap] w fun e w' => ∃ v, e = .returned v ∧ w'.ownsRow w.heap.size 66 3 v (valsL l).length (clsV (valsL l)) ∧ Below w.heap.size w w' := by
  obtain ⟨N, hN⟩ : ∃ N, N = l.length := ⟨_, rfl⟩
  obtain ⟨B, hB⟩ : ∃ B, B = w.heap.size := ⟨_, rfl⟩
  have HC : Hid (∀ (wr : World) (k : Nat), Below B w wr → (hk : k < l.length) → ∃ o, ao = some ⟨lb, o, none⟩ ∧ wr.cell? ⟨lb, o + k * 3, none⟩ = some (.bool l[k].null) ∧ wr.cell? ⟨lb, o + k * 3 + 1, none⟩ = some (.int .i64 l[k].n) ∧ wr.cell? ⟨lb, o + k * 3 + 2, none⟩ = some (strV l[k].s)) := fun wr k hb hk =>
    (hr.kept (hb.block _ (by omega))).cl3 k hk
  have HN : Hid (N = l.length) := hN
  have HB : Hid (B = w.heap.size) := hB
  rw [← hN] at hl ⊢
  rw [← hB]
  clear hr hN hB
  go_enter Try.func107, Try.ntmps107
  go_wp2
  go_loopw [3, 8] (fun v i wr => ∃ (k : Nat) (n : Nat), k ≤ N ∧ i = .int .i64 k ∧ n ≤ k ∧ Hid (n = (valsL (l.take k)).length) ∧ Hid (wr.ownsRow B 66 3 v n (clsV (valsL (l.take k)))) ∧ Hid (Below B w wr))
    (fun _ i _ => N - (intOf i).toNat)
  case atStart => exact ⟨0, 0, Nat.zero_le _, rfl, Nat.le_refl _, rfl, World.ownsRow_nil _ _ _ _, Below.refl _ _⟩
  case round =>
    obtain ⟨k, n, hk, rfl, hnk, Hn, Ho, Hb⟩ := hrel
    obtain ⟨av, cv, rfl⟩ := slen_of Ho.out
    by_cases hk2 : k < N
    · have hkl : k < l.length := by rw [← HN.out]; exact hk2
      obtain ⟨o, rfl, h0, h1, h2⟩ := HC.out wr k Hb.out hkl
      obtain ⟨c, hc⟩ : ∃ c, c = l[k] := ⟨_, rfl⟩
      rw [← hc] at h0 h1 h2
      have htk := valsL_take l k hkl
      rw [← hc] at htk
      obtain ⟨b, x, s⟩ := c
      simp only at h0 h1 h2 htk
      obtain ⟨t, ht⟩ : ∃ t : ByteArray, strV s = .string t := ⟨_, rfl⟩
      rw [ht] at h2
      cases b
      · simp only [Bool.false_eq_true, if_false] at htk
        obtain ⟨i0, hi, hz0, hz1, hz2⟩ := info_parts Try.info66
        have hsz := size_alloc' wr (.cells #[.bool false, .int .i64 x, .string t] 66)
        have hbs := Hb.out.size
        obtain ⟨a1, c1, w1, run, own, gr, lies⟩ := own_push (P := Try.prog) (t := 64) Try.underlying64 hi hz0 hz1 hz2 rfl (Ho.out.alloc (.cells #[.bool false, .int .i64 x, .string t] 66)) #[.bool false, .int .i64 x, .string t] rfl (by intro u hu; simp at hu; rcases hu with rfl | rfl | rfl <;> rfl) (by unfold maxLen; omega) (by omega) (by rw [HB.out]; omega)
        rw [hsz] at run
        have RN : Hid ((Builtin.append_ #[64, 64] 64 #[.slice av n cv, .slice (some ⟨wr.heap.size + 1, 0, none⟩) 1 1]).run Try.prog ((wr.alloc (.cells #[.bool false, .int .i64 x, .string t] 66)).alloc (.cells #[.bool false, .int .i64 x, .string t] 66)) = .ok (.slice a1 (n + 1) c1) w1) := run
        have Hn2 : Hid (n + 1 = (valsL (l.take (k + 1))).length) := by rw [Hid, htk, List.length_append, ← Hn.out]; rfl
        have Ho2 : Hid (w1.ownsRow B 66 3 (.slice a1 (n + 1) c1) (n + 1) (clsV (valsL (l.take (k + 1))))) := by
          rw [htk, ← clsV_snoc]
          have e : clV (⟨false, x, s⟩ : Pu.Cl) = [.bool false, .int .i64 x, .string t] := by unfold clV; rw [ht]
          rw [e]; exact own
        have Hb2 : Hid (Below B w w1) := below_grown (Hb.out.alloc (by rw [HB.out]; exact hbs) _) (by rw [HB.out]; exact Nat.le_refl _) gr (fun k hk => ((Ho.out).lt k hk).1)
        clear run own gr lies hc htk Ho Hb Hn hsz hbs ht
        go_wp2_with (first | (at_builtin; refine wpList_append_run rfl (.tmp 15) (.tmp 17) 64 64 rfl _ _ _ rfl rfl RN.out ?_) | go_in)
        go_roundw
        case rel => exact ⟨k + 1, n + 1, by omega, by go_num, by omega, Hn2, Ho2, Hb2⟩
        case measure => simp [intOf]; omega
      · simp only [if_true] at htk
        have Hn2 : Hid (n = (valsL (l.take (k + 1))).length) := by rw [Hid, htk]; exact Hn.out
        have hbs := Hb.out.size
        have Ho2 : Hid ((wr.alloc (.cells #[.bool true, .int .i64 x, .string t] 66)).ownsRow B 66 3 (.slice av n cv) n (clsV (valsL (l.take (k + 1))))) := by rw [htk]; exact Ho.out.alloc _
        have Hb2 : Hid (Below B w (wr.alloc (.cells #[.bool true, .int .i64 x, .string t] 66))) := Hb.out.alloc (by rw [HB.out]; exact hbs) _
        clear hc htk Ho Hb Hn hbs ht
        go_wp2
        go_roundw
        case rel => exact ⟨k + 1, n, by omega, by go_num, by omega, Hn2, Ho2, Hb2⟩
        case measure => simp [intOf]; omega
    · obtain rfl : k = N := by omega
      have htl : l.take k = l := List.take_of_length_le (by rw [HN.out]; exact Nat.le_refl _)
      go_wp2
      go_ret
      refine ⟨_, rfl, ?_, Hb.out⟩
      have h1 := Ho.out
      have h2 := Hn.out
      rw [htl] at h1 h2
      rw [← h2]
      exact h1
end Go.Proofs.Ytjobhlncllfdmaa
