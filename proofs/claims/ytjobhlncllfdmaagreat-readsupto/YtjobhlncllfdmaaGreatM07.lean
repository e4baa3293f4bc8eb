/- Contracts of the reference's Low and Ending, and of small. -/
import Derived.Test.YtjobhlncllfdmaaGreatM06
import Derived.Test.YtjobhlncllfdmaaGreatM04
import Derived.Laws.IdiomStrings
namespace Go.Proofs.YtjobhlncllfdmaaGreat
open Go.RowKit

/-- a number as n bytes, the lowest first -/
def leB : Nat → Nat → List UInt8
  | 0, _ => []
  | n + 1, x => UInt8.ofNat (x % 256) :: leB n (x / 256)

theorem leB_snoc (k x : Nat) : leB (k + 1) x = leB k x ++ [UInt8.ofNat (x / 256 ^ k % 256)] := by
  induction k generalizing x with
  | zero => simp [leB]
  | succ k ih =>
    rw [leB, ih (x / 256), leB, List.cons_append, Nat.div_div_eq_div_mul, Nat.pow_succ, Nat.mul_comm 256]

theorem length_leB (n x : Nat) : (leB n x).length = n := by
  induction n generalizing x with
  | zero => rfl
  | succ n ih => simp [leB, ih]

theorem bytesV_snoc (D : List UInt8) (b : UInt8) : bytesV D ++ [.int .u8 (b.toNat : Int)] = bytesV (D ++ [b]) := by simp [bytesV]

/-- the text of a row of bytes of one's own -/
theorem text_of_row {w : World} {B g cap : Nat} {D : List UInt8} (h : w.ownsRow B 5 1 (.slice (some ⟨g, 0, none⟩) D.length cap) D.length (bytesV D)) :
    (convert 25 9 (.slice (some ⟨g, 0, none⟩) D.length cap)).run Tryz.prog w = .ok (.string ⟨D.toArray⟩) w := by
  exact run_convert_bytes_back (P := Tryz.prog) w 25 9 5 ⟨g, 0, none⟩ cap D Tryz.underlying25 Tryz.underlying5 Tryz.underlying9 (fun j hj => by
    rw [show (⟨g, 0, none⟩ : Addr).add j = ⟨g, j, none⟩ from by unfold Addr.add; split <;> simp_all, h.cellAt j (by omega)]
    simp only [bytesV, List.getElem?_map, List.getElem?_eq_getElem hj, Option.map_some])

set_option maxHeartbeats 2000000 in
set_option maxRecDepth 100000 in
theorem refLow_any (x n : Nat) (w : World) (hx : x ≤ 140737488355328) (hn : n ≤ 8) (hn0 : 0 < n) :
    Calls Tryz.prog 31 #[.int .i64 x, .int .i64 n] w fun e w' => e = .returned (.string ⟨(leB n x).toArray⟩) ∧ Below w.heap.size w w' := by
  go_enter Tryz.func31, Tryz.ntmps31
  go_wp2
  go_loopw [5, 6, 7] (fun v u i wr => ∃ k y : Nat, k ≤ n ∧ i = .int .i64 k ∧ u = .int .u64 y ∧ y ≤ x ∧ Hid (y = x / 256 ^ k) ∧ wr.ownsRow w.heap.size 5 1 v k (bytesV (leB k x)) ∧ Below w.heap.size w wr)
    (fun _ _ i _ => n - (intOf i).toNat)
  case atStart => exact ⟨0, x, Nat.zero_le _, rfl, rfl, Nat.le_refl _, by simp [Hid], World.ownsRow_nil _ _ _ _, Below.refl _ _⟩
  case round =>
    obtain ⟨k, y, hk, rfl, rfl, hyx, Hy, hown, hbel⟩ := hrel
    obtain ⟨ao, cap, rfl⟩ := slen_of hown
    by_cases hk2 : k < n
    · obtain ⟨i0, hi, hz0, hz1, hz2⟩ := info_parts Tryz.info5
      go_wp2_with (first
        | (at_builtin; refine wpList_append_own _ rfl _ _ 25 rfl w.heap.size 5 i0 (.int .u8 0) 1 1 Tryz.underlying25 hi hz0 hz1 hz2 rfl (by decide) _ _ _ rfl (hown.alloc _) ⟨_, 0, none⟩ 1 1 [.int .u8 ((y : Int) % 256)] rfl rfl ?c1 ?c2 ?c3 ?c4 ?c5 ?_)
        | go_in)
      case c1 => exact one_new rfl
      case c2 => exact one_cell
      case c3 => unfold maxLen; omega
      case c4 => omega
      case c5 => rw [size_alloc']; have := hbel.size; omega
      intro v' w1 hown3 hg _
      have hbel3 := below_append hbel (Nat.le_refl _) hg (fun k e => (hown.lt k e).1)
      have hb : ((y : Int) % 256) = ((UInt8.ofNat (y % 256)).toNat : Int) := by
        rw [UInt8.toNat_ofNat', Nat.mod_eq_of_lt (by omega)]; simp
      have Hy2 : Hid (y / 256 = x / 256 ^ (k + 1)) := by rw [Hid, Hy.out, Nat.div_div_eq_div_mul, Nat.pow_succ]
      rw [hb, bytesV_snoc, Hy.out, ← leB_snoc] at hown3
      clear hg hown hbel hb Hy
      go_wp2
      go_roundw
      case rel => exact ⟨k + 1, y / 256, by omega, by go_num, by go_num, by omega, Hy2, hown3, hbel3⟩
      case measure => simp [intOf]; omega
    · obtain rfl : k = n := by omega
      have hl := length_leB k x
      obtain ⟨g, cap', hv, _, _⟩ := hown.form (by omega)
      simp only [Value.slice.injEq] at hv
      obtain ⟨rfl, _, rfl⟩ := hv
      have hown' : wr.ownsRow w.heap.size 5 1 (.slice (some ⟨g, 0, none⟩) (leB k x).length cap) (leB k x).length (bytesV (leB k x)) := by rw [hl]; exact hown
      have hcv := text_of_row hown'
      rw [hl] at hcv
      clear hown hown' hl
      go_wp2
      go_ret
      exact ⟨rfl, hbel⟩

def endL (D : List UInt8) : List UInt8 := D ++ leB 4 D.length ++ leB 4 (Pu.sum D) ++ stra

theorem bytes_ext {a b : ByteArray} (h : a.data.toList = b.data.toList) : a = b := by
  cases a; cases b; simp only [ByteArray.mk.injEq]; exact Array.ext' h

set_option maxHeartbeats 2000000 in
set_option maxRecDepth 100000 in
theorem ending_any (s : ByteArray) (w : World) (hs : s.size ≤ 140737488354000) :
    Calls Tryz.prog 16 #[.string s] w fun e w' => e = .returned (.string ⟨(endL s.data.toList).toArray⟩) ∧ Below w.heap.size w w' := by
  obtain ⟨q, hq⟩ : ∃ q, q = Pu.sum s.data.toList := ⟨_, rfl⟩
  have hql : q < 4294967296 := by rw [hq]; exact Pu.sum_lt _
  have SUM : Hid (∀ W : World, Calls Tryz.prog 32 #[.string s] W fun e w' => e = .returned (.int .u32 (q : Int)) ∧ w' = W) := fun W => by rw [hq]; exact refSum_any _ W (by omega)
  have L1 : Hid (∀ W : World, Calls Tryz.prog 31 #[.int .i64 (s.size : Int), .int .i64 4] W fun e w' => e = .returned (.string ⟨(leB 4 s.size).toArray⟩) ∧ Below W.heap.size W w') := fun W => refLow_any s.size 4 W (by omega) (by omega) (by omega)
  have L2 : Hid (∀ W : World, Calls Tryz.prog 31 #[.int .i64 (q : Int), .int .i64 4] W fun e w' => e = .returned (.string ⟨(leB 4 q).toArray⟩) ∧ Below W.heap.size W w') := fun W => refLow_any q 4 W (by omega) (by omega) (by omega)
  have HE : Hid (endL s.data.toList = s.data.toList ++ leB 4 s.size ++ leB 4 q ++ stra) := by rw [Hid, hq]; simp [endL]
  have z1 : (⟨(leB 4 s.size).toArray⟩ : ByteArray).size = 4 := by rw [← len_data]; simp [length_leB]
  have z2 : (⟨(leB 4 q).toArray⟩ : ByteArray).size = 4 := by rw [← len_data]; simp [length_leB]
  have D1 : Hid ((⟨(leB 4 s.size).toArray⟩ : ByteArray).data.toList = leB 4 s.size) := by simp [Hid]
  have D2 : Hid ((⟨(leB 4 q).toArray⟩ : ByteArray).data.toList = leB 4 q) := by simp [Hid]
  generalize (⟨(leB 4 s.size).toArray⟩ : ByteArray) = t1 at *
  generalize (⟨(leB 4 q).toArray⟩ : ByteArray) = t2 at *
  clear hq
  go_enter Tryz.func16, Tryz.ntmps16
  go_wp2_with fail
  refine (L1.out _).mono ?_
  rintro e w1 ⟨rfl, hb1⟩
  go_wp2_with fail
  refine (SUM.out _).mono ?_
  rintro e w' ⟨rfl, hw'⟩
  subst w'
  go_wp2_with fail
  refine (L2.out _).mono ?_
  rintro e w2 ⟨rfl, hb2⟩
  go_wp2
  go_ret
  refine ⟨?_, hb1.trans (hb2.mono hb1.size)⟩
  refine congrArg (fun t => Ending.returned (.string t)) (bytes_ext ?_)
  simp only [ByteArray.data_append, Array.toList_append]
  rw [D1.out, D2.out, HE.out]
  simp [stra]

theorem size_endL (D : List UInt8) : (endL D).length = D.length + 12 := by simp [endL, length_leB, stra]

def smallL : List UInt8 := stra ++ endL [1, 1, 97, 1, 0]

theorem small_list : smallL = [83, 84, 82, 65, 1, 1, 97, 1, 0, 5, 0, 0, 0, 158, 41, 240, 19, 83, 84, 82, 65] := by kernel_rfl
theorem small_look' : Pu.look [83, 84, 82, 65, 1, 1, 97, 1, 0, 5, 0, 0, 0, 158, 41, 240, 19, 83, 84, 82, 65] = .good 4 [⟨[97], 1, false⟩] [] := by kernel_rfl
theorem small_look : Pu.look smallL = .good 4 [⟨[97], 1, false⟩] [] := by rw [small_list]; exact small_look'

end Go.Proofs.YtjobhlncllfdmaaGreat

/- The book's lanes, whatever their elements are: what is kept in them, the three steps by which a list is kept. -/
namespace Go.Proofs.YtjobhlncllfdmaaGreat
open Go.RowKit

/-- one element more, of any size: in place, or in a new block and nothing old turned -/
theorem appendS {P : Program} (w : World) (t ty e : TypeId) (i : TypeInfo) (z : Value) (size bytes B : Nat) (ht : P.underlying t = some (.slice e)) (hi : P.info? e = some i) (hz : i.zero = some z) (hsize : i.size = size) (hby : i.bytes = bytes) (hzs : z.cells.size = size) (_hs0 : 0 < size)
    (v : Value) (n : Nat) (xs : List Value) (hown : w.ownsRow B e size v n xs) (a : Addr) (news : List Value) (hl : news.length = size) (hnews : ∀ j u, news[j]? = some u → w.cell? (a.add j) = some u) (h1 : ∀ u ∈ news, u.oneCell' = true) (c : Nat) (h63 : n + 1 ≤ maxLen) (hbytes : (n + 1) * bytes ≤ 140737488355328) (hB : B ≤ w.heap.size) :
    ∃ g cap w', (Builtin.append_ #[t, t] ty #[v, .slice (some a) 1 c]).run P w = .ok (.slice (some ⟨g, 0, none⟩) (n + 1) cap) w' ∧
      w'.ownsRow B e size (.slice (some ⟨g, 0, none⟩) (n + 1) cap) (n + 1) (xs ++ news) ∧ w.grownBy w' v.ownBlock ∧ (v.ownBlock = some g ∨ g = w.heap.size ∧ w.grownBy w' none) := by
  have hlx : xs.length = n * size := hown.1
  have hlen : (xs ++ news).length = (n + 1) * size := by rw [List.length_append, hlx, hl, Nat.add_mul, Nat.one_mul]
  have hsrc : Src P i.size t (.slice (some a) 1 c) 1 news w := Src.ofSlice w ht a 1 c news (by rw [hsize, hl, Nat.one_mul]) hnews h1
  have grow : ∀ (base : Option Addr) (sc : Nat), (Builtin.firstCells i.size n (.slice base n sc)).run P w.drew = .ok xs.toArray w.drew → sc < n + 1 →
      ∃ g cap w', (Builtin.append_ #[t, t] ty #[.slice base n sc, .slice (some a) 1 c]).run P w = .ok (.slice (some ⟨g, 0, none⟩) (n + 1) cap) w' ∧
      w'.ownsRow B e size (.slice (some ⟨g, 0, none⟩) (n + 1) cap) (n + 1) (xs ++ news) ∧ g = w.heap.size ∧ w.grownBy w' none := by
    intro base sc hold hsc
    have hr := run_append_grow_src w t t ty e i z ht hi hz base n sc xs hold (.slice (some a) 1 c) 1 news hsrc hsc (by unfold maxLen at h63; omega) (by rw [hby]; exact growslice_fits (by omega) hbytes)
    have hge := grownCap_ge w (n + 1) sc e
    have hcm : grownCap w (n + 1) sc e ≤ maxLen := grownCap_le_maxLen w (n + 1) sc e h63
    refine ⟨_, _, _, hr, ⟨hlen, .inr ⟨w.heap.size, _, _, rfl, hB, heap_alloc_new w.drew _, hge, hcm, ?_, ?_⟩⟩, rfl, ⟨rfl, rfl, rfl, by simp, fun k hk _ => Below.heap_alloc w.drew _ k hk⟩⟩
    · simp only [Array.size_append, List.size_toArray, size_zeroCells, hzs]
      rw [hlen, ← Nat.add_mul]
      congr 1; omega
    · simp only [Array.toList_append]
      rw [← hlen]
      exact List.take_left
  rcases hown.2 with ⟨rfl, rfl⟩ | ⟨g, cap, cur, rfl, hbg, hg, hnc, hcm, hcs, htake⟩
  · have hx0 : xs = [] := List.eq_nil_of_length_eq_zero (by rw [hlx]; simp)
    subst hx0
    obtain ⟨g, cap, w', h2, h3, h4, h5⟩ := grow none 0 (by simpa using run_firstCells_none (P := P) w.drew i.size 0 0 0) (by omega)
    exact ⟨g, cap, w', h2, h3, h5, .inr ⟨h4, h5⟩⟩
  · by_cases hroom : n + 1 ≤ cap
    · obtain ⟨w', h2, h3, h4⟩ := run_append_fits w B t ty e i size ht hi hsize g n cap xs hown a 1 c news (by rw [hl, Nat.one_mul]) hnews h1 hroom
      exact ⟨g, cap, w', h2, h3, h4, .inl rfl⟩
    · have holds : ∀ j u, xs[j]? = some u → w.cell? ((⟨g, 0, none⟩ : Addr).add j) = some u := hown.cells (g := g) rfl
      obtain ⟨g', cap', w', h2, h3, h4, h5⟩ := grow (some ⟨g, 0, none⟩) cap (run_firstCells_some w.drew i.size n ⟨g, 0, none⟩ n cap xs (by rw [hsize]; exact hlx) (by simpa using holds)) (by omega)
      refine ⟨g', cap', w', h2, h3, ⟨h5.os, h5.tape, h5.output, h5.size, fun k hk _ => h5.block k hk (by simp)⟩, .inr ⟨h4, h5⟩⟩

/-- a lane: the type of its lists, of their elements (and how many cells one has), of its marks; a further type of blocks; what reads as a mark -/
structure LP where
  E : TypeId
  e : TypeId
  em : TypeId
  ax : TypeId
  sz : Nat
  kd : IntKind
  el : World → (Nat → Prop) → Int → List Value → Prop

structure LPok (P : LP) : Prop where
  Ee : P.E ≠ P.e
  Eem : P.E ≠ P.em
  E31 : P.E ≠ 32
  e31 : P.e ≠ 32
  em31 : P.em ≠ 32
  axE : P.ax ≠ P.E
  axe : P.ax ≠ P.e
  axem : P.ax ≠ P.em
  ax31 : P.ax ≠ 32
  sz0 : 0 < P.sz
  stab : ∀ (w w' : World) (U U' : Nat → Prop) (m : Int) (xs : List Value), P.el w U m xs → (∀ k, U k → Ty w k P.ax → w'.heap[k]? = w.heap[k]?) → (∀ k, U k → U' k) → P.el w' U' m xs
  len : ∀ (w : World) (U : Nat → Prop) (m : Int) (xs : List Value), P.el w U m xs → xs.length = P.sz

/-- n places that read the mark m -/
def AllEl (P : LP) (w : World) (U : Nat → Prop) (m : Int) (n : Nat) (xs : List Value) : Prop := ∀ j, j < n → P.el w U m ((xs.drop (j * P.sz)).take P.sz)

theorem AllEl.agree {P : LP} (ok : LPok P) {w w' : World} {U U' : Nat → Prop} {m : Int} {n : Nat} {xs : List Value} (h : AllEl P w U m n xs) (hx : ∀ k, U k → Ty w k P.ax → w'.heap[k]? = w.heap[k]?) (hU : ∀ k, U k → U' k) : AllEl P w' U' m n xs :=
  fun j hj => ok.stab w w' U U' m _ (h j hj) hx hU

theorem AllEl.take {P : LP} {w : World} {U : Nat → Prop} {m : Int} {n : Nat} {xs ys : List Value} (h : AllEl P w U m n xs) (he : ys.take (n * P.sz) = xs.take (n * P.sz)) : AllEl P w U m n ys := by
  intro j hj
  have hle : (j + 1) * P.sz ≤ n * P.sz := Nat.mul_le_mul_right _ hj
  rw [Nat.succ_mul] at hle
  have e1 : ∀ zs : List Value, (zs.drop (j * P.sz)).take P.sz = ((zs.take (n * P.sz)).drop (j * P.sz)).take P.sz := by
    intro zs
    rw [List.drop_take, List.take_take, Nat.min_eq_left (by omega)]
  rw [e1, he, ← e1]
  exact h j hj

theorem AllEl.mono {P : LP} {w : World} {U : Nat → Prop} {m : Int} {n k : Nat} {xs : List Value} (h : AllEl P w U m n xs) (hk : k ≤ n) : AllEl P w U m k xs := fun j hj => h j (by omega)

theorem AllEl.snoc {P : LP} {w : World} {U : Nat → Prop} {m : Int} {n : Nat} {xs ys : List Value} (h : AllEl P w U m n xs) (hl : xs.length = n * P.sz) (hy : P.el w U m ys) (hyl : ys.length = P.sz) : AllEl P w U m (n + 1) (xs ++ ys) := by
  intro j hj
  by_cases hjn : j < n
  · have hle : (j + 1) * P.sz ≤ n * P.sz := Nat.mul_le_mul_right _ hjn
    rw [Nat.succ_mul] at hle
    rw [List.drop_append_of_le_length (by omega), List.take_append_of_le_length (by rw [List.length_drop]; omega)]
    exact h j hjn
  · obtain rfl : j = n := by omega
    rw [← hl, List.drop_left, List.take_of_length_le (by omega)]
    exact hy

/-- a kept list: it reads m in every place; its block is one of U, and not the one to be avoided -/
def FullG (P : LP) (w : World) (U : Nat → Prop) (av : Option Nat) (v : Value) (m : Int) : Prop :=
  ∃ ao n cap, v = .slice ao n cap ∧ n ≤ maxLen ∧ (n = 0 ∨ ∃ g cur, ao = some ⟨g, 0, none⟩ ∧ U g ∧ av ≠ some g ∧ w.heap[g]? = some (.cells cur P.e (0, 0)) ∧ AllEl P w U m n cur.toList)

theorem FullG.agree {P : LP} (ok : LPok P) {w w' : World} {U U' : Nat → Prop} {av av' : Option Nat} {v : Value} {m : Int} (h : FullG P w U av v m) (hk : ∀ k, Ty w k P.e → U k → av ≠ some k → av' ≠ some k ∧ w'.heap[k]? = w.heap[k]?) (hx : ∀ k, U k → Ty w k P.ax → w'.heap[k]? = w.heap[k]?) (hU : ∀ k, U k → U' k) : FullG P w' U' av' v m := by
  obtain ⟨ao, n, cap, rfl, hm, h⟩ := h
  refine ⟨ao, n, cap, rfl, hm, ?_⟩
  rcases h with h | ⟨g, cur, rfl, h1, h2, h3, h4⟩
  · exact .inl h
  · obtain ⟨k2, k3⟩ := hk g ⟨cur, h3⟩ h1 h2
    exact .inr ⟨g, cur, rfl, hU g h1, k2, by rw [k3]; exact h3, h4.agree ok hx hU⟩

/-- a lane of the book: the row of lists, the row of marks, what was kept -/
def LaneG (P : LP) (w : World) (B : Nat) (U : Nat → Prop) (vr vm : Value) (X Y : List Value) (ps : List (Value × Int)) : Prop :=
  w.ownsRow B P.E 1 vr X.length X ∧ w.ownsRow B P.em 1 vm Y.length Y ∧ (∀ p ∈ ps, FullG P w U vm.ownBlock p.1 p.2) ∧ (∀ k, vr.ownBlock = some k → U k) ∧ (∀ k, vm.ownBlock = some k → U k)

theorem LaneG.agree {P : LP} (ok : LPok P) {w w' : World} {B : Nat} {U U' : Nat → Prop} {vr vm : Value} {X Y : List Value} {ps : List (Value × Int)} (h : LaneG P w B U vr vm X Y ps) (hw : ∀ k, U k → w'.heap[k]? = w.heap[k]?) (hU : ∀ k, U k → U' k) : LaneG P w' B U' vr vm X Y ps := by
  obtain ⟨h1, h2, h3, h4, h5⟩ := h
  exact ⟨own_agreeS h1 (fun k hk => hw k (h4 k hk)), own_agreeS h2 (fun k hk => hw k (h5 k hk)), fun p hp => (h3 p hp).agree ok (fun k _ hu ha => ⟨ha, hw k hu⟩) (fun k hk _ => hw k hk) hU, fun k hk => hU k (h4 k hk), fun k hk => hU k (h5 k hk)⟩

/-- a lane, and the list that is being kept in it -/
def KeepG (P : LP) (w : World) (B : Nat) (U : Nat → Prop) (vr vm : Value) (X Y : List Value) (ps : List (Value × Int)) (vl : Value) (n : Nat) (m : Int) : Prop :=
  LaneG P w B U vr vm X Y ps ∧ (∃ xs, w.ownsRow B P.e P.sz vl n xs ∧ AllEl P w U m n xs) ∧ (∀ k, vl.ownBlock = some k → vm.ownBlock ≠ some k) ∧
    (∀ p ∈ ps, ∀ g j cap, p.1 = .slice (some ⟨g, 0, none⟩) j cap → 0 < j → vl.ownBlock = some g → p.2 = m ∧ j ≤ n)

theorem own_leS {w : World} {B : Nat} {e : TypeId} {size : Nat} {v : Value} {n : Nat} {xs : List Value} (h : w.ownsRow B e size v n xs) : n ≤ maxLen := by
  rcases h.2 with ⟨_, h0⟩ | ⟨g, cap, cur, _, _, _, h1, h2, _⟩
  · omega
  · omega

section
variable {P : LP} {w w1 : World} {o : Obj} {B b j g cap : Nat} {U U' : Nat → Prop} {vr vm vl x u : Value} {X Y : List Value} {ps : List (Value × Int)} {n : Nat} {m : Int}

/-- nothing old has turned -/
theorem KeepG.moved (ok : LPok P) (h : KeepG P w B U vr vm X Y ps vl n m) (hb : Below w.heap.size w w1) (hUs : ∀ k, U k → k < w.heap.size) (hU : ∀ k, U k → U' k) : KeepG P w1 B U' vr vm X Y ps vl n m := by
  obtain ⟨h1, ⟨xs, h2, h3⟩, h4, h5⟩ := h
  exact ⟨h1.agree ok (fun k hk => hb.block k (hUs k hk)) hU, ⟨xs, own_agreeS h2 (fun k hk => hb.block k (own_tyS h2 hk).lt), h3.agree ok (fun k hk _ => hb.block k (hUs k hk)) hU⟩, h4, h5⟩

/-- the row of lists grows -/
theorem KeepG.stepA (ok : LPok P) (h : KeepG P w B U vr vm X Y ps vl n m) (hb : Ty w b 32) (hg : (w.alloc o).grownBy w1 vr.ownBlock)
    (hown : w1.ownsRow B P.E 1 (.slice (some ⟨g, 0, none⟩) (X.length + 1) cap) (X.length + 1) (X ++ [x])) (hat : vr.ownBlock = some g ∨ g = w.heap.size + 1 ∧ (w.alloc o).grownBy w1 none) :
    KeepG P (w1.setCell ⟨b, j, none⟩ u) B (more U w (w1.setCell ⟨b, j, none⟩ u)) (.slice (some ⟨g, 0, none⟩) (X.length + 1) cap) vm (X ++ [x]) Y ps vl n m := by
  obtain ⟨⟨h1, h2, h3, h4, h5⟩, ⟨xs, h6, h6'⟩, h7, h8⟩ := h
  have hgb : g ≠ b := by
    have hb1 : Ty w1 b 32 := by
      obtain ⟨cur, hb⟩ := hb
      exact ⟨cur, by rw [agree_step hg (Ty.lt ⟨cur, hb⟩) (fun e' => Ty.ne (own_tyS h1 e') ⟨cur, hb⟩ ok.E31 rfl)]; exact hb⟩
    exact Ty.ne (own_tyS hown rfl) hb1 ok.E31
  have ag : ∀ k t, Ty w k t → P.E ≠ t → t ≠ 32 → (w1.setCell ⟨b, j, none⟩ u).heap[k]? = w.heap[k]? := fun k t ht hE h31 =>
    agree_set hg ht.lt (fun e' => Ty.ne (own_tyS h1 e') ht hE rfl) (Ty.ne ht hb h31)
  have agx : ∀ k, U k → Ty w k P.ax → (w1.setCell ⟨b, j, none⟩ u).heap[k]? = w.heap[k]? := fun k _ ht => ag k _ ht ok.axE.symm ok.ax31
  refine ⟨⟨?_, own_agreeS h2 (fun k hk => ag k _ (own_tyS h2 hk) ok.Eem ok.em31), fun p hp => (h3 p hp).agree ok (fun k ht hu ha => ⟨ha, ag k _ ht ok.Ee ok.e31⟩) agx (fun k hk => .inl hk), ?_, fun k hk => .inl (h5 k hk)⟩,
    ⟨xs, own_agreeS h6 (fun k hk => ag k _ (own_tyS h6 hk) ok.Ee ok.e31), h6'.agree ok agx (fun k hk => .inl hk)⟩, h7, h8⟩
  · rw [show (X ++ [x]).length = X.length + 1 by simp]
    exact ownsRow_set_other' hown (by simp [Value.ownBlock]; exact hgb)
  · intro k hk
    simp only [Value.ownBlock, Option.some.injEq] at hk
    subst hk
    rcases hat with hat | ⟨hat, _⟩
    · exact .inl (h4 _ hat)
    · refine .inr ⟨by omega, ?_⟩
      rw [size_set]; exact (own_tyS hown rfl).lt

/-- the row of marks grows -/
theorem KeepG.stepB (ok : LPok P) (h : KeepG P w B U vr vm X Y ps vl n m) (hb : Ty w b 32) (hg : (w.alloc o).grownBy w1 vm.ownBlock)
    (hown : w1.ownsRow B P.em 1 (.slice (some ⟨g, 0, none⟩) (Y.length + 1) cap) (Y.length + 1) (Y ++ [x])) (hat : vm.ownBlock = some g ∨ g = w.heap.size + 1 ∧ (w.alloc o).grownBy w1 none) :
    KeepG P (w1.setCell ⟨b, j, none⟩ u) B (more U w (w1.setCell ⟨b, j, none⟩ u)) vr (.slice (some ⟨g, 0, none⟩) (Y.length + 1) cap) X (Y ++ [x]) ps vl n m := by
  obtain ⟨⟨h1, h2, h3, h4, h5⟩, ⟨xs, h6, h6'⟩, h7, h8⟩ := h
  have hgb : g ≠ b := by
    have hb1 : Ty w1 b 32 := by
      obtain ⟨cur, hb⟩ := hb
      exact ⟨cur, by rw [agree_step hg (Ty.lt ⟨cur, hb⟩) (fun e' => Ty.ne (own_tyS h2 e') ⟨cur, hb⟩ ok.em31 rfl)]; exact hb⟩
    exact Ty.ne (own_tyS hown rfl) hb1 ok.em31
  have ag : ∀ k t, Ty w k t → vm.ownBlock ≠ some k → t ≠ 32 → (w1.setCell ⟨b, j, none⟩ u).heap[k]? = w.heap[k]? := fun k t ht hn h31 =>
    agree_set hg ht.lt hn (Ty.ne ht hb h31)
  have agx : ∀ k, U k → Ty w k P.ax → (w1.setCell ⟨b, j, none⟩ u).heap[k]? = w.heap[k]? := fun k _ ht => ag k _ ht (fun e' => Ty.ne (own_tyS h2 e') ht ok.axem.symm rfl) ok.ax31
  have av : ∀ k, Ty w k P.e → vm.ownBlock ≠ some k → (Value.slice (some ⟨g, 0, none⟩) (Y.length + 1) cap).ownBlock ≠ some k := by
    intro k ht hn e'
    simp only [Value.ownBlock, Option.some.injEq] at e'
    subst e'
    rcases hat with hat | ⟨hat, _⟩
    · exact hn hat
    · have := ht.lt; omega
  refine ⟨⟨own_agreeS h1 (fun k hk => ag k _ (own_tyS h1 hk) (fun e' => Ty.ne (own_tyS h1 hk) (own_tyS h2 e') ok.Eem rfl) ok.E31), ?_, fun p hp => (h3 p hp).agree ok (fun k ht hu ha => ⟨av k ht ha, ag k _ ht ha ok.e31⟩) agx (fun k hk => .inl hk), fun k hk => .inl (h4 k hk), ?_⟩,
    ⟨xs, own_agreeS h6 (fun k hk => ag k _ (own_tyS h6 hk) (h7 k hk) ok.e31), h6'.agree ok agx (fun k hk => .inl hk)⟩, fun k hk => av k (own_tyS h6 hk) (h7 k hk), h8⟩
  · rw [show (Y ++ [x]).length = Y.length + 1 by simp]
    exact ownsRow_set_other' hown (by simp [Value.ownBlock]; exact hgb)
  · intro k hk
    simp only [Value.ownBlock, Option.some.injEq] at hk
    subst hk
    rcases hat with hat | ⟨hat, _⟩
    · exact .inl (h5 _ hat)
    · refine .inr ⟨by omega, ?_⟩
      rw [size_set]; exact (own_tyS hown rfl).lt

theorem own_cellsS {w : World} {B : Nat} {e : TypeId} {size : Nat} {v : Value} {n : Nat} {xs : List Value} (h : w.ownsRow B e size v n xs) (hn : 0 < n) :
    ∃ g cap cur, v = .slice (some ⟨g, 0, none⟩) n cap ∧ w.heap[g]? = some (.cells cur e (0, 0)) ∧ cur.toList.take (n * size) = xs := by
  rcases h.2 with ⟨_, h0⟩ | ⟨g, cap, cur, rfl, _, hg, _, _, hcs, ht⟩
  · omega
  · exact ⟨g, cap, cur, rfl, hg, ht⟩

/-- the list itself grows: as it was it is kept -/
theorem KeepG.stepC (ok : LPok P) {news : List Value} (h : KeepG P w B U vr vm X Y ps vl n m) (hg : (w.alloc o).grownBy w1 vl.ownBlock) (hUs : ∀ k, U k → k < w.heap.size) (hel : P.el w U m news)
    (hown : ∀ xs, w.ownsRow B P.e P.sz vl n xs → w1.ownsRow B P.e P.sz (.slice (some ⟨g, 0, none⟩) (n + 1) cap) (n + 1) (xs ++ news)) (hat : vl.ownBlock = some g ∨ g = w.heap.size + 1 ∧ (w.alloc o).grownBy w1 none) :
    KeepG P w1 B (fun k => more U w w1 k ∨ vl.ownBlock = some k) vr vm X Y (ps ++ [(vl, m)]) (.slice (some ⟨g, 0, none⟩) (n + 1) cap) (n + 1) m := by
  obtain ⟨⟨h1, h2, h3, h4, h5⟩, ⟨xs, h6, h6'⟩, h7, h8⟩ := h
  have hown := hown xs h6
  have hnl := ok.len _ _ _ _ hel
  have hxl : xs.length = n * P.sz := h6.1
  have old : ∀ k, k < w.heap.size → vl.ownBlock ≠ some k ∨ g = w.heap.size + 1 ∧ (w.alloc o).grownBy w1 none → w1.heap[k]? = w.heap[k]? := by
    intro k hk hc
    rcases hc with hc | ⟨_, hc⟩
    · exact agree_step hg hk hc
    · exact agree_step hc hk (by simp)
  have hU : ∀ k, U k → more U w w1 k ∨ vl.ownBlock = some k := fun k hk => .inl (.inl hk)
  have agx : ∀ k, U k → Ty w k P.ax → w1.heap[k]? = w.heap[k]? := fun k hk ht => old k (hUs k hk) (.inl (fun e' => Ty.ne (own_tyS h6 e') ht ok.axe.symm rfl))
  have hel1 : P.el w1 (fun k => more U w w1 k ∨ vl.ownBlock = some k) m news := ok.stab _ _ _ _ _ _ hel agx hU
  have hall : AllEl P w1 (fun k => more U w w1 k ∨ vl.ownBlock = some k) m (n + 1) (xs ++ news) := (h6'.agree ok agx hU).snoc hxl hel1 hnl
  obtain ⟨g', cap', cur', he', hgg, hcur⟩ := own_cellsS hown (by omega)
  simp only [Value.slice.injEq, Option.some.injEq, Addr.mk.injEq, and_true, true_and] at he'
  obtain ⟨rfl, rfl⟩ := he'
  have hall' : AllEl P w1 (fun k => more U w w1 k ∨ vl.ownBlock = some k) m (n + 1) cur'.toList := hall.take (by rw [hcur, List.take_of_length_le (by rw [hown.1]; exact Nat.le_refl _)])
  refine ⟨⟨own_agreeS h1 (fun k hk => old k (own_tyS h1 hk).lt (.inl (fun e' => Ty.ne (own_tyS h1 hk) (own_tyS h6 e') ok.Ee rfl))), own_agreeS h2 (fun k hk => old k (own_tyS h2 hk).lt (.inl (fun e' => h7 k e' hk))), ?_, fun k hk => hU k (h4 k hk), fun k hk => hU k (h5 k hk)⟩, ⟨_, hown, hall⟩, ?_, ?_⟩
  · intro p hp
    rw [List.mem_append, List.mem_singleton] at hp
    rcases hp with hp | rfl
    · obtain ⟨ao, j, cp, hv, hm, hf⟩ := h3 p hp
      refine ⟨ao, j, cp, hv, hm, ?_⟩
      rcases hf with hf | ⟨gp, cur, rfl, k1, k2, k3, k4⟩
      · exact .inl hf
      · by_cases hj : j = 0
        · exact .inl hj
        · by_cases hgp : vl.ownBlock = some gp
          · rcases hat with hat | hat
            · rw [hgp] at hat
              simp only [Option.some.injEq] at hat
              subst hat
              obtain ⟨e1, e2⟩ := h8 p hp gp j cp hv (by omega) hgp
              exact .inr ⟨gp, cur', rfl, .inr hgp, k2, hgg, by rw [e1]; exact hall'.mono (by omega)⟩
            · exact .inr ⟨gp, cur, rfl, .inr hgp, k2, by rw [old gp (Ty.lt ⟨cur, k3⟩) (.inr hat)]; exact k3, k4.agree ok agx hU⟩
          · exact .inr ⟨gp, cur, rfl, .inl (.inl k1), k2, by rw [old gp (Ty.lt ⟨cur, k3⟩) (.inl hgp)]; exact k3, k4.agree ok agx hU⟩
    · by_cases hn : n = 0
      · obtain ⟨ao, cp, hv⟩ := slen_of h6
        exact ⟨ao, n, cp, hv, own_leS h6, .inl hn⟩
      · obtain ⟨gl, cpl, cur, hv, hgl, hc⟩ := own_cellsS h6 (by omega)
        have hob : vl.ownBlock = some gl := by rw [hv]; rfl
        refine ⟨some ⟨gl, 0, none⟩, n, cpl, hv, own_leS h6, ?_⟩
        rcases hat with hat | hat
        · rw [hob] at hat
          simp only [Option.some.injEq] at hat
          subst hat
          exact .inr ⟨gl, cur', rfl, .inr hob, h7 gl hob, hgg, hall'.mono (by omega)⟩
        · refine .inr ⟨gl, cur, rfl, .inr hob, h7 gl hob, by rw [old gl (Ty.lt ⟨cur, hgl⟩) (.inr hat)]; exact hgl, ?_⟩
          exact (h6'.agree ok agx hU).take (by rw [hc, List.take_of_length_le (by rw [hxl]; exact Nat.le_refl _)])
  · intro k hk e'
    simp only [Value.ownBlock, Option.some.injEq] at hk
    subst hk
    rcases hat with hat | ⟨hat, _⟩
    · exact h7 _ hat e'
    · have := (own_tyS h2 e').lt; omega
  · intro p hp gp j cp hv hj hgp
    simp only [Value.ownBlock, Option.some.injEq] at hgp
    subst hgp
    rw [List.mem_append, List.mem_singleton] at hp
    rcases hp with hp | rfl
    · rcases hat with hat | ⟨hat, _⟩
      · obtain ⟨e1, e2⟩ := h8 p hp _ j cp hv hj hat
        exact ⟨e1, by omega⟩
      · obtain ⟨ao, j', cp', hv', hm, hf⟩ := h3 p hp
        rw [hv] at hv'
        simp only [Value.slice.injEq] at hv'
        obtain ⟨rfl, rfl, rfl⟩ := hv'
        rcases hf with hf | ⟨gp, cur, ha, _, _, k3, _⟩
        · omega
        · simp only [Option.some.injEq, Addr.mk.injEq, and_true] at ha
          subst ha
          have := Ty.lt ⟨cur, k3⟩; omega
    · obtain ⟨ao, cp', hv'⟩ := slen_of h6
      simp only at hv
      rw [hv'] at hv
      simp only [Value.slice.injEq] at hv
      exact ⟨rfl, by omega⟩

end
end Go.Proofs.YtjobhlncllfdmaaGreat
