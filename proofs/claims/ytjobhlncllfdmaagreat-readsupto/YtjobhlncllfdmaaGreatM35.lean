/- package table: the next page: the walks. -/
import Derived.Test.YtjobhlncllfdmaaGreatM34
namespace Go.Proofs.YtjobhlncllfdmaaGreat
open Go.RowKit

set_option maxHeartbeats 4000000 in
set_option maxRecDepth 100000 in
theorem next_may (P K B : Nat) (nm : ByteArray) (kind : Nat) (opt : Bool) (rows lb : Nat) (F : List UInt8) (a nx pages left _budget _used : Nat) (st : Pu.Sta) (C : Array Value) (so ce : Nat) (pa : Bool) (si su : Nat) (bo : List UInt8) (n : Nat) (w : World) (HP : Hid (PSta w P B nm kind opt rows lb F a pages st)) (HC : Hid (w.heap[P]? = some (.cells C 90 (0, 0)))) (HK : Hid (w.heap[K]? = some (.cells #[.int .i64 (left : Int)] 81 (0, 0)))) (hKB : K < B) (hKl : K ≠ lb) (NX : Hid (Calls Tryz.prog 64 #[.pointer (some ⟨P, 4, none⟩)] w fun e w' => NxAns w P 4 C 90 lb F (some (⟨so, ce, pa, si, su, bo⟩, nx)) e w')) (Hn : Hid (n = bo.length)) (_hl : left ≤ 1073741824) (hr : rows ≤ 100000) (hk : kind ≤ 2) (hpg : pages ≤ 1000) (hsort : so ≤ 2) (hcells : ce ≤ 4294967295) (_hsize : si ≤ 4294967295) (_hsum : su < 4294967296) (_hpk : pa = true → si ≤ 1048576) (hmay : Pu.may ⟨so, ce, pa, si, su, bo⟩ kind st.left st.known (decide (pages = 0)) = false) :
    Calls Tryz.prog 50 #[.pointer (some ⟨P, 0, none⟩), .pointer (some ⟨K, 0, none⟩)] w fun e w' => e = .returned (.int .i64 9) ∧ Fr (fun j => j = K ∨ B ≤ j) w w' := by
  go_enter Tryz.func50, Tryz.ntmps50
  go_wp2_with fail
  refine NX.out.mono ?_
  rintro e w1 ⟨ap, rfl, hN1, hN2, hN3⟩
  have HN0 : Hid (NS w P B K nm kind opt rows lb F nx pages left st w1.heap.size ⟨so, ce, pa, si, su, bo⟩ ap (w1.alloc (.cells (pgRow so ce si pa su (.slice ap bo.length bo.length)) 146))) := NS.start HP.out HC.out HK.out hKB hKl hN1 hN2 hN3
  clear hN1 hN2 hN3
  have MH := HN0.out.may hr hsort hcells hk hpg
  rw [hmay] at MH
  simp only at MH HN0 ⊢
  rw [← Hn.out] at MH HN0 ⊢
  unfold pgRow at MH HN0 ⊢
  have MH' : Hid (Calls Tryz.prog 65 #[.pointer (some ⟨P, 0, none⟩), .agg #[.int .u32 (so : Int), .int .i64 (ce : Int), .int .i64 (si : Int), .bool pa, .int .u32 (su : Int), .slice ap n n]] (w1.alloc (.cells #[.int .u32 (so : Int), .int .i64 (ce : Int), .int .i64 (si : Int), .bool pa, .int .u32 (su : Int), .slice ap n n] 146)) fun e w' => e = .returned (.bool false) ∧ NS w P B K nm kind opt rows lb F nx pages left st w1.heap.size ⟨so, ce, pa, si, su, bo⟩ ap w') := MH
  clear MH
  go_wp2_with fail
  refine MH'.out.mono ?_
  rintro e w2 ⟨rfl, hN⟩
  have Hw2 : Hid (NS w P B K nm kind opt rows lb F nx pages left st w1.heap.size ⟨so, ce, pa, si, su, bo⟩ ap w2) := hN
  clear hN MH'
  go_wp2
  go_ret
  exact ⟨rfl, Hw2.out.fr⟩

set_option maxHeartbeats 4000000 in
set_option maxRecDepth 100000 in
theorem next_pay (P K B : Nat) (nm : ByteArray) (kind : Nat) (opt : Bool) (rows lb : Nat) (F : List UInt8) (a nx pages left _budget _used : Nat) (st : Pu.Sta) (C : Array Value) (so ce : Nat) (pa : Bool) (si su : Nat) (bo : List UInt8) (n : Nat) (w : World) (HP : Hid (PSta w P B nm kind opt rows lb F a pages st)) (HC : Hid (w.heap[P]? = some (.cells C 90 (0, 0)))) (HK : Hid (w.heap[K]? = some (.cells #[.int .i64 (left : Int)] 81 (0, 0)))) (hKB : K < B) (hKl : K ≠ lb) (NX : Hid (Calls Tryz.prog 64 #[.pointer (some ⟨P, 4, none⟩)] w fun e w' => NxAns w P 4 C 90 lb F (some (⟨so, ce, pa, si, su, bo⟩, nx)) e w')) (Hn : Hid (n = bo.length)) (hl : left ≤ 1073741824) (hr : rows ≤ 100000) (hk : kind ≤ 2) (hpg : pages ≤ 1000) (hsort : so ≤ 2) (hcells : ce ≤ 4294967295) (hsize : si ≤ 4294967295) (_hsum : su < 4294967296) (_hpk : pa = true → si ≤ 1048576) (hmay : Pu.may ⟨so, ce, pa, si, su, bo⟩ kind st.left st.known (decide (pages = 0)) = true) (hpy : left < si) :
    Calls Tryz.prog 50 #[.pointer (some ⟨P, 0, none⟩), .pointer (some ⟨K, 0, none⟩)] w fun e w' => e = .returned (.int .i64 10) ∧ Fr (fun j => j = K ∨ B ≤ j) w w' := by
  go_enter Tryz.func50, Tryz.ntmps50
  go_wp2_with fail
  refine NX.out.mono ?_
  rintro e w1 ⟨ap, rfl, hN1, hN2, hN3⟩
  have HN0 : Hid (NS w P B K nm kind opt rows lb F nx pages left st w1.heap.size ⟨so, ce, pa, si, su, bo⟩ ap (w1.alloc (.cells (pgRow so ce si pa su (.slice ap bo.length bo.length)) 146))) := NS.start HP.out HC.out HK.out hKB hKl hN1 hN2 hN3
  clear hN1 hN2 hN3
  have MH := HN0.out.may hr hsort hcells hk hpg
  rw [hmay] at MH
  simp only at MH HN0 ⊢
  rw [← Hn.out] at MH HN0 ⊢
  unfold pgRow at MH HN0 ⊢
  have MH' : Hid (Calls Tryz.prog 65 #[.pointer (some ⟨P, 0, none⟩), .agg #[.int .u32 (so : Int), .int .i64 (ce : Int), .int .i64 (si : Int), .bool pa, .int .u32 (su : Int), .slice ap n n]] (w1.alloc (.cells #[.int .u32 (so : Int), .int .i64 (ce : Int), .int .i64 (si : Int), .bool pa, .int .u32 (su : Int), .slice ap n n] 146)) fun e w' => e = .returned (.bool true) ∧ NS w P B K nm kind opt rows lb F nx pages left st w1.heap.size ⟨so, ce, pa, si, su, bo⟩ ap w') := MH
  clear MH
  go_wp2_with fail
  refine MH'.out.mono ?_
  rintro e w2 ⟨rfl, hN⟩
  have Hw2 : Hid (NS w P B K nm kind opt rows lb F nx pages left st w1.heap.size ⟨so, ce, pa, si, su, bo⟩ ap w2) := hN
  clear hN MH'
  have w2c0 : w2.cell? ⟨w1.heap.size, 0, none⟩ = some (.int .u32 (so : Int)) := by rw [cell_of_row _ _ 0 _ _ _ Hw2.out.bx]; rfl
  have w2c1 : w2.cell? ⟨w1.heap.size, 1, none⟩ = some (.int .i64 (ce : Int)) := by rw [cell_of_row _ _ 1 _ _ _ Hw2.out.bx]; rfl
  have w2c2 : w2.cell? ⟨w1.heap.size, 2, none⟩ = some (.int .i64 (si : Int)) := by rw [cell_of_row _ _ 2 _ _ _ Hw2.out.bx]; rfl
  have w2c3 : w2.cell? ⟨w1.heap.size, 3, none⟩ = some (.bool pa) := by rw [cell_of_row _ _ 3 _ _ _ Hw2.out.bx]; rfl
  have w2c4 : w2.cell? ⟨w1.heap.size, 4, none⟩ = some (.int .u32 (su : Int)) := by rw [cell_of_row _ _ 4 _ _ _ Hw2.out.bx]; rfl
  have w2c5 : w2.cell? ⟨w1.heap.size, 5, none⟩ = some (.slice ap n n) := by rw [cell_of_row _ _ 5 _ _ _ Hw2.out.bx, Hn.out]; rfl
  have PY : Hid (Calls Tryz.prog 66 #[.pointer (some ⟨K, 0, none⟩), .int .i64 (si : Int)] w2 fun e w' => e = .returned (.bool false) ∧ NS w P B K nm kind opt rows lb F nx pages left st w1.heap.size ⟨so, ce, pa, si, su, bo⟩ ap w') := Hw2.out.payN hl hsize hpy
  go_wp2_with fail
  refine PY.out.mono ?_
  rintro e w3 ⟨rfl, hN⟩
  have Hw3 : Hid (NS w P B K nm kind opt rows lb F nx pages left st w1.heap.size ⟨so, ce, pa, si, su, bo⟩ ap w3) := hN
  clear hN PY
  clear w2c0 w2c1 w2c2 w2c3 w2c4 w2c5
  go_wp2
  go_ret
  exact ⟨rfl, Hw3.out.fr⟩

set_option maxHeartbeats 4000000 in
set_option maxRecDepth 100000 in
theorem next_by (P K B : Nat) (nm : ByteArray) (kind : Nat) (opt : Bool) (rows lb : Nat) (F : List UInt8) (a nx pages left _budget _used : Nat) (st : Pu.Sta) (C : Array Value) (so ce : Nat) (pa : Bool) (si su : Nat) (bo : List UInt8) (n : Nat) (w : World) (HP : Hid (PSta w P B nm kind opt rows lb F a pages st)) (HC : Hid (w.heap[P]? = some (.cells C 90 (0, 0)))) (HK : Hid (w.heap[K]? = some (.cells #[.int .i64 (left : Int)] 81 (0, 0)))) (hKB : K < B) (hKl : K ≠ lb) (NX : Hid (Calls Tryz.prog 64 #[.pointer (some ⟨P, 4, none⟩)] w fun e w' => NxAns w P 4 C 90 lb F (some (⟨so, ce, pa, si, su, bo⟩, nx)) e w')) (Hn : Hid (n = bo.length)) (hl : left ≤ 1073741824) (hr : rows ≤ 100000) (hk : kind ≤ 2) (hpg : pages ≤ 1000) (hsort : so ≤ 2) (hcells : ce ≤ 4294967295) (hsize : si ≤ 4294967295) (hsum : su < 4294967296) (hpk : pa = true → si ≤ 1048576) (k : Nat) (hmay : Pu.may ⟨so, ce, pa, si, su, bo⟩ kind st.left st.known (decide (pages = 0)) = true) (hpy : si ≤ left) (HBY : Hid (∀ w e w', ByAns w lb ⟨so, ce, pa, si, su, bo⟩ e w' = (e = .returned (.tuple #[.slice none 0 0, .int .i64 (k : Int)])))) (k0 : ((k : Int) != 0) = true) :
    Calls Tryz.prog 50 #[.pointer (some ⟨P, 0, none⟩), .pointer (some ⟨K, 0, none⟩)] w fun e w' => e = .returned (.int .i64 (k : Int)) ∧ Fr (fun j => j = K ∨ B ≤ j) w w' := by
  go_enter Tryz.func50, Tryz.ntmps50
  go_wp2_with fail
  refine NX.out.mono ?_
  rintro e w1 ⟨ap, rfl, hN1, hN2, hN3⟩
  have HN0 : Hid (NS w P B K nm kind opt rows lb F nx pages left st w1.heap.size ⟨so, ce, pa, si, su, bo⟩ ap (w1.alloc (.cells (pgRow so ce si pa su (.slice ap bo.length bo.length)) 146))) := NS.start HP.out HC.out HK.out hKB hKl hN1 hN2 hN3
  clear hN1 hN2 hN3
  have MH := HN0.out.may hr hsort hcells hk hpg
  rw [hmay] at MH
  simp only at MH HN0 ⊢
  rw [← Hn.out] at MH HN0 ⊢
  unfold pgRow at MH HN0 ⊢
  have MH' : Hid (Calls Tryz.prog 65 #[.pointer (some ⟨P, 0, none⟩), .agg #[.int .u32 (so : Int), .int .i64 (ce : Int), .int .i64 (si : Int), .bool pa, .int .u32 (su : Int), .slice ap n n]] (w1.alloc (.cells #[.int .u32 (so : Int), .int .i64 (ce : Int), .int .i64 (si : Int), .bool pa, .int .u32 (su : Int), .slice ap n n] 146)) fun e w' => e = .returned (.bool true) ∧ NS w P B K nm kind opt rows lb F nx pages left st w1.heap.size ⟨so, ce, pa, si, su, bo⟩ ap w') := MH
  clear MH
  go_wp2_with fail
  refine MH'.out.mono ?_
  rintro e w2 ⟨rfl, hN⟩
  have Hw2 : Hid (NS w P B K nm kind opt rows lb F nx pages left st w1.heap.size ⟨so, ce, pa, si, su, bo⟩ ap w2) := hN
  clear hN MH'
  have w2c0 : w2.cell? ⟨w1.heap.size, 0, none⟩ = some (.int .u32 (so : Int)) := by rw [cell_of_row _ _ 0 _ _ _ Hw2.out.bx]; rfl
  have w2c1 : w2.cell? ⟨w1.heap.size, 1, none⟩ = some (.int .i64 (ce : Int)) := by rw [cell_of_row _ _ 1 _ _ _ Hw2.out.bx]; rfl
  have w2c2 : w2.cell? ⟨w1.heap.size, 2, none⟩ = some (.int .i64 (si : Int)) := by rw [cell_of_row _ _ 2 _ _ _ Hw2.out.bx]; rfl
  have w2c3 : w2.cell? ⟨w1.heap.size, 3, none⟩ = some (.bool pa) := by rw [cell_of_row _ _ 3 _ _ _ Hw2.out.bx]; rfl
  have w2c4 : w2.cell? ⟨w1.heap.size, 4, none⟩ = some (.int .u32 (su : Int)) := by rw [cell_of_row _ _ 4 _ _ _ Hw2.out.bx]; rfl
  have w2c5 : w2.cell? ⟨w1.heap.size, 5, none⟩ = some (.slice ap n n) := by rw [cell_of_row _ _ 5 _ _ _ Hw2.out.bx, Hn.out]; rfl
  have PY : Hid (Calls Tryz.prog 66 #[.pointer (some ⟨K, 0, none⟩), .int .i64 (si : Int)] w2 fun e w' => e = .returned (.bool true) ∧ NS w P B K nm kind opt rows lb F nx pages (left - si) st w1.heap.size ⟨so, ce, pa, si, su, bo⟩ ap w') := Hw2.out.payY hl hpy
  go_wp2_with fail
  refine PY.out.mono ?_
  rintro e w3 ⟨rfl, hN⟩
  have Hw3 : Hid (NS w P B K nm kind opt rows lb F nx pages (left - si) st w1.heap.size ⟨so, ce, pa, si, su, bo⟩ ap w3) := hN
  clear hN PY
  clear w2c0 w2c1 w2c2 w2c3 w2c4 w2c5
  have w3c0 : w3.cell? ⟨w1.heap.size, 0, none⟩ = some (.int .u32 (so : Int)) := by rw [cell_of_row _ _ 0 _ _ _ Hw3.out.bx]; rfl
  have w3c1 : w3.cell? ⟨w1.heap.size, 1, none⟩ = some (.int .i64 (ce : Int)) := by rw [cell_of_row _ _ 1 _ _ _ Hw3.out.bx]; rfl
  have w3c2 : w3.cell? ⟨w1.heap.size, 2, none⟩ = some (.int .i64 (si : Int)) := by rw [cell_of_row _ _ 2 _ _ _ Hw3.out.bx]; rfl
  have w3c3 : w3.cell? ⟨w1.heap.size, 3, none⟩ = some (.bool pa) := by rw [cell_of_row _ _ 3 _ _ _ Hw3.out.bx]; rfl
  have w3c4 : w3.cell? ⟨w1.heap.size, 4, none⟩ = some (.int .u32 (su : Int)) := by rw [cell_of_row _ _ 4 _ _ _ Hw3.out.bx]; rfl
  have w3c5 : w3.cell? ⟨w1.heap.size, 5, none⟩ = some (.slice ap n n) := by rw [cell_of_row _ _ 5 _ _ _ Hw3.out.bx, Hn.out]; rfl
  have BY : Hid (Calls Tryz.prog 67 #[.agg #[.int .u32 (so : Int), .int .i64 (ce : Int), .int .i64 (si : Int), .bool pa, .int .u32 (su : Int), .slice ap n n]] w3 fun e w' => ByAns w3 lb ⟨so, ce, pa, si, su, bo⟩ e w' ∧ NS w P B K nm kind opt rows lb F nx pages (left - si) st w1.heap.size ⟨so, ce, pa, si, su, bo⟩ ap w') := by
    have := Hw3.out.bytes hsum hpk hsize
    simp only at this
    rw [← Hn.out] at this
    exact this
  go_wp2_with fail
  refine BY.out.mono ?_
  rintro e w4 ⟨hby, hN⟩
  have Hw4 : Hid (NS w P B K nm kind opt rows lb F nx pages (left - si) st w1.heap.size ⟨so, ce, pa, si, su, bo⟩ ap w4) := hN
  clear hN BY
  rw [HBY.out] at hby
  subst hby
  clear w3c0 w3c1 w3c2 w3c3 w3c4 w3c5
  go_wp2
  go_ret
  exact ⟨rfl, Hw4.out.fr⟩

set_option maxHeartbeats 4000000 in
set_option maxRecDepth 100000 in
theorem next_dec (P K B : Nat) (nm : ByteArray) (kind : Nat) (opt : Bool) (rows lb : Nat) (F : List UInt8) (a nx pages left _budget _used : Nat) (st : Pu.Sta) (C : Array Value) (so ce : Nat) (pa : Bool) (si su : Nat) (bo : List UInt8) (n : Nat) (w : World) (HP : Hid (PSta w P B nm kind opt rows lb F a pages st)) (HC : Hid (w.heap[P]? = some (.cells C 90 (0, 0)))) (HK : Hid (w.heap[K]? = some (.cells #[.int .i64 (left : Int)] 81 (0, 0)))) (hKB : K < B) (hKl : K ≠ lb) (NX : Hid (Calls Tryz.prog 64 #[.pointer (some ⟨P, 4, none⟩)] w fun e w' => NxAns w P 4 C 90 lb F (some (⟨so, ce, pa, si, su, bo⟩, nx)) e w')) (Hn : Hid (n = bo.length)) (hl : left ≤ 1073741824) (hr : rows ≤ 100000) (hk : kind ≤ 2) (hpg : pages ≤ 1000) (hsort : so ≤ 2) (hcells : ce ≤ 4294967295) (hsize : si ≤ 4294967295) (hsum : su < 4294967296) (hpk : pa = true → si ≤ 1048576) (k : Nat) (L : List UInt8) (nu ix : Bool) (d : Nat) (Hnu : Hid (nu = (opt && decide (so ≠ 1)))) (Hix : Hid (ix = decide (so = 2))) (Hd : Hid (d = st.dict.length)) (hmay : Pu.may ⟨so, ce, pa, si, su, bo⟩ kind st.left st.known (decide (pages = 0)) = true) (hpy : si ≤ left) (HBY : Hid (∀ w e w', ByAns w lb ⟨so, ce, pa, si, su, bo⟩ e w' = ∃ ap cap lb', e = .returned (.tuple #[.slice ap L.length cap, .int .i64 0]) ∧ Rest w' lb' ap cap L ∧ lb' < w'.heap.size ∧ (lb' = lb ∨ w.heap.size ≤ lb'))) (hce : ce ≤ 100000) (hdl : d ≤ 100000) (Hdec : Hid (Pu.decT nu kind ix st.dict L ce = .error k)) (k0 : ((k : Int) != 0) = true) :
    Calls Tryz.prog 50 #[.pointer (some ⟨P, 0, none⟩), .pointer (some ⟨K, 0, none⟩)] w fun e w' => e = .returned (.int .i64 (k : Int)) ∧ Fr (fun j => j = K ∨ B ≤ j) w w' := by
  go_enter Tryz.func50, Tryz.ntmps50
  go_wp2_with fail
  refine NX.out.mono ?_
  rintro e w1 ⟨ap, rfl, hN1, hN2, hN3⟩
  have HN0 : Hid (NS w P B K nm kind opt rows lb F nx pages left st w1.heap.size ⟨so, ce, pa, si, su, bo⟩ ap (w1.alloc (.cells (pgRow so ce si pa su (.slice ap bo.length bo.length)) 146))) := NS.start HP.out HC.out HK.out hKB hKl hN1 hN2 hN3
  clear hN1 hN2 hN3
  have MH := HN0.out.may hr hsort hcells hk hpg
  rw [hmay] at MH
  simp only at MH HN0 ⊢
  rw [← Hn.out] at MH HN0 ⊢
  unfold pgRow at MH HN0 ⊢
  have MH' : Hid (Calls Tryz.prog 65 #[.pointer (some ⟨P, 0, none⟩), .agg #[.int .u32 (so : Int), .int .i64 (ce : Int), .int .i64 (si : Int), .bool pa, .int .u32 (su : Int), .slice ap n n]] (w1.alloc (.cells #[.int .u32 (so : Int), .int .i64 (ce : Int), .int .i64 (si : Int), .bool pa, .int .u32 (su : Int), .slice ap n n] 146)) fun e w' => e = .returned (.bool true) ∧ NS w P B K nm kind opt rows lb F nx pages left st w1.heap.size ⟨so, ce, pa, si, su, bo⟩ ap w') := MH
  clear MH
  go_wp2_with fail
  refine MH'.out.mono ?_
  rintro e w2 ⟨rfl, hN⟩
  have Hw2 : Hid (NS w P B K nm kind opt rows lb F nx pages left st w1.heap.size ⟨so, ce, pa, si, su, bo⟩ ap w2) := hN
  clear hN MH'
  have w2c0 : w2.cell? ⟨w1.heap.size, 0, none⟩ = some (.int .u32 (so : Int)) := by rw [cell_of_row _ _ 0 _ _ _ Hw2.out.bx]; rfl
  have w2c1 : w2.cell? ⟨w1.heap.size, 1, none⟩ = some (.int .i64 (ce : Int)) := by rw [cell_of_row _ _ 1 _ _ _ Hw2.out.bx]; rfl
  have w2c2 : w2.cell? ⟨w1.heap.size, 2, none⟩ = some (.int .i64 (si : Int)) := by rw [cell_of_row _ _ 2 _ _ _ Hw2.out.bx]; rfl
  have w2c3 : w2.cell? ⟨w1.heap.size, 3, none⟩ = some (.bool pa) := by rw [cell_of_row _ _ 3 _ _ _ Hw2.out.bx]; rfl
  have w2c4 : w2.cell? ⟨w1.heap.size, 4, none⟩ = some (.int .u32 (su : Int)) := by rw [cell_of_row _ _ 4 _ _ _ Hw2.out.bx]; rfl
  have w2c5 : w2.cell? ⟨w1.heap.size, 5, none⟩ = some (.slice ap n n) := by rw [cell_of_row _ _ 5 _ _ _ Hw2.out.bx, Hn.out]; rfl
  have PY : Hid (Calls Tryz.prog 66 #[.pointer (some ⟨K, 0, none⟩), .int .i64 (si : Int)] w2 fun e w' => e = .returned (.bool true) ∧ NS w P B K nm kind opt rows lb F nx pages (left - si) st w1.heap.size ⟨so, ce, pa, si, su, bo⟩ ap w') := Hw2.out.payY hl hpy
  go_wp2_with fail
  refine PY.out.mono ?_
  rintro e w3 ⟨rfl, hN⟩
  have Hw3 : Hid (NS w P B K nm kind opt rows lb F nx pages (left - si) st w1.heap.size ⟨so, ce, pa, si, su, bo⟩ ap w3) := hN
  clear hN PY
  clear w2c0 w2c1 w2c2 w2c3 w2c4 w2c5
  have w3c0 : w3.cell? ⟨w1.heap.size, 0, none⟩ = some (.int .u32 (so : Int)) := by rw [cell_of_row _ _ 0 _ _ _ Hw3.out.bx]; rfl
  have w3c1 : w3.cell? ⟨w1.heap.size, 1, none⟩ = some (.int .i64 (ce : Int)) := by rw [cell_of_row _ _ 1 _ _ _ Hw3.out.bx]; rfl
  have w3c2 : w3.cell? ⟨w1.heap.size, 2, none⟩ = some (.int .i64 (si : Int)) := by rw [cell_of_row _ _ 2 _ _ _ Hw3.out.bx]; rfl
  have w3c3 : w3.cell? ⟨w1.heap.size, 3, none⟩ = some (.bool pa) := by rw [cell_of_row _ _ 3 _ _ _ Hw3.out.bx]; rfl
  have w3c4 : w3.cell? ⟨w1.heap.size, 4, none⟩ = some (.int .u32 (su : Int)) := by rw [cell_of_row _ _ 4 _ _ _ Hw3.out.bx]; rfl
  have w3c5 : w3.cell? ⟨w1.heap.size, 5, none⟩ = some (.slice ap n n) := by rw [cell_of_row _ _ 5 _ _ _ Hw3.out.bx, Hn.out]; rfl
  have BY : Hid (Calls Tryz.prog 67 #[.agg #[.int .u32 (so : Int), .int .i64 (ce : Int), .int .i64 (si : Int), .bool pa, .int .u32 (su : Int), .slice ap n n]] w3 fun e w' => ByAns w3 lb ⟨so, ce, pa, si, su, bo⟩ e w' ∧ NS w P B K nm kind opt rows lb F nx pages (left - si) st w1.heap.size ⟨so, ce, pa, si, su, bo⟩ ap w') := by
    have := Hw3.out.bytes hsum hpk hsize
    simp only at this
    rw [← Hn.out] at this
    exact this
  go_wp2_with fail
  refine BY.out.mono ?_
  rintro e w4 ⟨hby, hN⟩
  have Hw4 : Hid (NS w P B K nm kind opt rows lb F nx pages (left - si) st w1.heap.size ⟨so, ce, pa, si, su, bo⟩ ap w4) := hN
  clear hN BY
  rw [HBY.out] at hby
  clear w3c0 w3c1 w3c2 w3c3 w3c4 w3c5
  obtain ⟨ap', cap', lb', rfl, hr4, hlb4⟩ := hby
  obtain ⟨m, hm⟩ : ∃ m, m = L.length := ⟨_, rfl⟩
  have Hm : Hid (m = L.length) := hm
  have LA : Hid (Calls Tryz.prog 69 #[.pointer (some ⟨P, 0, none⟩), .agg #[.int .u32 (so : Int), .int .i64 (ce : Int), .int .i64 (si : Int), .bool pa, .int .u32 (su : Int), .slice ap n n]] w4 fun e w' => ∃ ad cd, e = .returned (.agg #[.int .i64 (kind : Int), .bool nu, .int .i64 (ce : Int), .bool ix, .slice ad d cd]) ∧ NS w P B K nm kind opt rows lb F nx pages (left - si) st w1.heap.size ⟨so, ce, pa, si, su, bo⟩ ap w' ∧ w'.ownsRow B 57 3 (.slice ad d cd) d (clsV st.dict) ∧ Rest w' lb' ap' cap' L ∧ lb' < w'.heap.size) := by
    have := Hw4.out.layout hsort hr4 hlb4.1
    simp only at this
    rw [← Hn.out] at this
    refine this.mono ?_
    rintro e w' ⟨ad, cd, he, h1, h2, h3, h4⟩
    simp only at he
    rw [← Hnu.out, ← Hix.out, ← Hd.out] at he
    rw [← Hd.out] at h2
    exact ⟨ad, cd, he, h1, h2, h3, h4⟩
  rw [← hm]
  clear hr4 hlb4 hm
  have w4c0 : w4.cell? ⟨w1.heap.size, 0, none⟩ = some (.int .u32 (so : Int)) := by rw [cell_of_row _ _ 0 _ _ _ Hw4.out.bx]; rfl
  have w4c1 : w4.cell? ⟨w1.heap.size, 1, none⟩ = some (.int .i64 (ce : Int)) := by rw [cell_of_row _ _ 1 _ _ _ Hw4.out.bx]; rfl
  have w4c2 : w4.cell? ⟨w1.heap.size, 2, none⟩ = some (.int .i64 (si : Int)) := by rw [cell_of_row _ _ 2 _ _ _ Hw4.out.bx]; rfl
  have w4c3 : w4.cell? ⟨w1.heap.size, 3, none⟩ = some (.bool pa) := by rw [cell_of_row _ _ 3 _ _ _ Hw4.out.bx]; rfl
  have w4c4 : w4.cell? ⟨w1.heap.size, 4, none⟩ = some (.int .u32 (su : Int)) := by rw [cell_of_row _ _ 4 _ _ _ Hw4.out.bx]; rfl
  have w4c5 : w4.cell? ⟨w1.heap.size, 5, none⟩ = some (.slice ap n n) := by rw [cell_of_row _ _ 5 _ _ _ Hw4.out.bx, Hn.out]; rfl
  go_wp2_with fail
  refine LA.out.mono ?_
  rintro e w5 ⟨ad, cd, rfl, hN, hd5, hr5, hlb5⟩
  have Hw5 : Hid (NS w P B K nm kind opt rows lb F nx pages (left - si) st w1.heap.size ⟨so, ce, pa, si, su, bo⟩ ap w5) := hN
  have RD : Hid (Calls Tryz.prog 68 #[.slice ap' m cap', .agg #[.int .i64 (kind : Int), .bool nu, .int .i64 (ce : Int), .bool ix, .slice ad d cd]] w5 fun e w' => RdAns w P B K nm kind opt rows lb F nx pages (left - si) st w1.heap.size ⟨so, ce, pa, si, su, bo⟩ ap (Pu.decT nu kind ix st.dict L ce) e w') := by
    rw [Hd.out] at hd5
    have := NS.cells (p := ⟨so, ce, pa, si, su, bo⟩) hN hd5 hr5 hlb5 hce hk (by rw [← Hd.out]; exact hdl)
    simp only at this
    rw [← Hm.out, ← Hnu.out, ← Hix.out, ← Hd.out] at this
    exact this
  rw [Hdec.out] at RD
  clear hN hd5 hr5 hlb5 LA
  go_wp2_with fail
  refine RD.out.mono ?_
  clear w4c0 w4c1 w4c2 w4c3 w4c4 w4c5
  rintro e w6 ⟨hN, rfl⟩
  have HF : Hid (Fr (fun j => j = K ∨ B ≤ j) w w6) := hN.fr
  clear hN RD
  go_wp2
  go_ret
  exact ⟨rfl, HF.out⟩

set_option maxHeartbeats 4000000 in
set_option maxRecDepth 100000 in
theorem next_cost (P K B : Nat) (nm : ByteArray) (kind : Nat) (opt : Bool) (rows lb : Nat) (F : List UInt8) (a nx pages left _budget _used : Nat) (st : Pu.Sta) (C : Array Value) (so ce : Nat) (pa : Bool) (si su : Nat) (bo : List UInt8) (n : Nat) (w : World) (HP : Hid (PSta w P B nm kind opt rows lb F a pages st)) (HC : Hid (w.heap[P]? = some (.cells C 90 (0, 0)))) (HK : Hid (w.heap[K]? = some (.cells #[.int .i64 (left : Int)] 81 (0, 0)))) (hKB : K < B) (hKl : K ≠ lb) (NX : Hid (Calls Tryz.prog 64 #[.pointer (some ⟨P, 4, none⟩)] w fun e w' => NxAns w P 4 C 90 lb F (some (⟨so, ce, pa, si, su, bo⟩, nx)) e w')) (Hn : Hid (n = bo.length)) (hl : left ≤ 1073741824) (hr : rows ≤ 100000) (hk : kind ≤ 2) (hpg : pages ≤ 1000) (hsort : so ≤ 2) (hcells : ce ≤ 4294967295) (hsize : si ≤ 4294967295) (hsum : su < 4294967296) (hpk : pa = true → si ≤ 1048576) (L : List UInt8) (l : List Pu.Cl) (nu ix : Bool) (d : Nat) (Hnu : Hid (nu = (opt && decide (so ≠ 1)))) (Hix : Hid (ix = decide (so = 2))) (Hd : Hid (d = st.dict.length)) (hmay : Pu.may ⟨so, ce, pa, si, su, bo⟩ kind st.left st.known (decide (pages = 0)) = true) (hpy : si ≤ left) (HBY : Hid (∀ w e w', ByAns w lb ⟨so, ce, pa, si, su, bo⟩ e w' = ∃ ap cap lb', e = .returned (.tuple #[.slice ap L.length cap, .int .i64 0]) ∧ Rest w' lb' ap cap L ∧ lb' < w'.heap.size ∧ (lb' = lb ∨ w.heap.size ≤ lb'))) (hce : ce ≤ 100000) (hdl : d ≤ 100000) (Hdec : Hid (Pu.decT nu kind ix st.dict L ce = .ok l)) (Hlm : Hid (l.length ≤ 100000)) (Hlt : Hid (∀ c ∈ l, c.s.length ≤ 1073741824)) (hco : left - si < Pu.cost l) :
    Calls Tryz.prog 50 #[.pointer (some ⟨P, 0, none⟩), .pointer (some ⟨K, 0, none⟩)] w fun e w' => e = .returned (.int .i64 10) ∧ Fr (fun j => j = K ∨ B ≤ j) w w' := by
  go_enter Tryz.func50, Tryz.ntmps50
  go_wp2_with fail
  refine NX.out.mono ?_
  rintro e w1 ⟨ap, rfl, hN1, hN2, hN3⟩
  have HN0 : Hid (NS w P B K nm kind opt rows lb F nx pages left st w1.heap.size ⟨so, ce, pa, si, su, bo⟩ ap (w1.alloc (.cells (pgRow so ce si pa su (.slice ap bo.length bo.length)) 146))) := NS.start HP.out HC.out HK.out hKB hKl hN1 hN2 hN3
  clear hN1 hN2 hN3
  have MH := HN0.out.may hr hsort hcells hk hpg
  rw [hmay] at MH
  simp only at MH HN0 ⊢
  rw [← Hn.out] at MH HN0 ⊢
  unfold pgRow at MH HN0 ⊢
  have MH' : Hid (Calls Tryz.prog 65 #[.pointer (some ⟨P, 0, none⟩), .agg #[.int .u32 (so : Int), .int .i64 (ce : Int), .int .i64 (si : Int), .bool pa, .int .u32 (su : Int), .slice ap n n]] (w1.alloc (.cells #[.int .u32 (so : Int), .int .i64 (ce : Int), .int .i64 (si : Int), .bool pa, .int .u32 (su : Int), .slice ap n n] 146)) fun e w' => e = .returned (.bool true) ∧ NS w P B K nm kind opt rows lb F nx pages left st w1.heap.size ⟨so, ce, pa, si, su, bo⟩ ap w') := MH
  clear MH
  go_wp2_with fail
  refine MH'.out.mono ?_
  rintro e w2 ⟨rfl, hN⟩
  have Hw2 : Hid (NS w P B K nm kind opt rows lb F nx pages left st w1.heap.size ⟨so, ce, pa, si, su, bo⟩ ap w2) := hN
  clear hN MH'
  have w2c0 : w2.cell? ⟨w1.heap.size, 0, none⟩ = some (.int .u32 (so : Int)) := by rw [cell_of_row _ _ 0 _ _ _ Hw2.out.bx]; rfl
  have w2c1 : w2.cell? ⟨w1.heap.size, 1, none⟩ = some (.int .i64 (ce : Int)) := by rw [cell_of_row _ _ 1 _ _ _ Hw2.out.bx]; rfl
  have w2c2 : w2.cell? ⟨w1.heap.size, 2, none⟩ = some (.int .i64 (si : Int)) := by rw [cell_of_row _ _ 2 _ _ _ Hw2.out.bx]; rfl
  have w2c3 : w2.cell? ⟨w1.heap.size, 3, none⟩ = some (.bool pa) := by rw [cell_of_row _ _ 3 _ _ _ Hw2.out.bx]; rfl
  have w2c4 : w2.cell? ⟨w1.heap.size, 4, none⟩ = some (.int .u32 (su : Int)) := by rw [cell_of_row _ _ 4 _ _ _ Hw2.out.bx]; rfl
  have w2c5 : w2.cell? ⟨w1.heap.size, 5, none⟩ = some (.slice ap n n) := by rw [cell_of_row _ _ 5 _ _ _ Hw2.out.bx, Hn.out]; rfl
  have PY : Hid (Calls Tryz.prog 66 #[.pointer (some ⟨K, 0, none⟩), .int .i64 (si : Int)] w2 fun e w' => e = .returned (.bool true) ∧ NS w P B K nm kind opt rows lb F nx pages (left - si) st w1.heap.size ⟨so, ce, pa, si, su, bo⟩ ap w') := Hw2.out.payY hl hpy
  go_wp2_with fail
  refine PY.out.mono ?_
  rintro e w3 ⟨rfl, hN⟩
  have Hw3 : Hid (NS w P B K nm kind opt rows lb F nx pages (left - si) st w1.heap.size ⟨so, ce, pa, si, su, bo⟩ ap w3) := hN
  clear hN PY
  clear w2c0 w2c1 w2c2 w2c3 w2c4 w2c5
  have w3c0 : w3.cell? ⟨w1.heap.size, 0, none⟩ = some (.int .u32 (so : Int)) := by rw [cell_of_row _ _ 0 _ _ _ Hw3.out.bx]; rfl
  have w3c1 : w3.cell? ⟨w1.heap.size, 1, none⟩ = some (.int .i64 (ce : Int)) := by rw [cell_of_row _ _ 1 _ _ _ Hw3.out.bx]; rfl
  have w3c2 : w3.cell? ⟨w1.heap.size, 2, none⟩ = some (.int .i64 (si : Int)) := by rw [cell_of_row _ _ 2 _ _ _ Hw3.out.bx]; rfl
  have w3c3 : w3.cell? ⟨w1.heap.size, 3, none⟩ = some (.bool pa) := by rw [cell_of_row _ _ 3 _ _ _ Hw3.out.bx]; rfl
  have w3c4 : w3.cell? ⟨w1.heap.size, 4, none⟩ = some (.int .u32 (su : Int)) := by rw [cell_of_row _ _ 4 _ _ _ Hw3.out.bx]; rfl
  have w3c5 : w3.cell? ⟨w1.heap.size, 5, none⟩ = some (.slice ap n n) := by rw [cell_of_row _ _ 5 _ _ _ Hw3.out.bx, Hn.out]; rfl
  have BY : Hid (Calls Tryz.prog 67 #[.agg #[.int .u32 (so : Int), .int .i64 (ce : Int), .int .i64 (si : Int), .bool pa, .int .u32 (su : Int), .slice ap n n]] w3 fun e w' => ByAns w3 lb ⟨so, ce, pa, si, su, bo⟩ e w' ∧ NS w P B K nm kind opt rows lb F nx pages (left - si) st w1.heap.size ⟨so, ce, pa, si, su, bo⟩ ap w') := by
    have := Hw3.out.bytes hsum hpk hsize
    simp only at this
    rw [← Hn.out] at this
    exact this
  go_wp2_with fail
  refine BY.out.mono ?_
  rintro e w4 ⟨hby, hN⟩
  have Hw4 : Hid (NS w P B K nm kind opt rows lb F nx pages (left - si) st w1.heap.size ⟨so, ce, pa, si, su, bo⟩ ap w4) := hN
  clear hN BY
  rw [HBY.out] at hby
  clear w3c0 w3c1 w3c2 w3c3 w3c4 w3c5
  obtain ⟨ap', cap', lb', rfl, hr4, hlb4⟩ := hby
  obtain ⟨m, hm⟩ : ∃ m, m = L.length := ⟨_, rfl⟩
  have Hm : Hid (m = L.length) := hm
  have LA : Hid (Calls Tryz.prog 69 #[.pointer (some ⟨P, 0, none⟩), .agg #[.int .u32 (so : Int), .int .i64 (ce : Int), .int .i64 (si : Int), .bool pa, .int .u32 (su : Int), .slice ap n n]] w4 fun e w' => ∃ ad cd, e = .returned (.agg #[.int .i64 (kind : Int), .bool nu, .int .i64 (ce : Int), .bool ix, .slice ad d cd]) ∧ NS w P B K nm kind opt rows lb F nx pages (left - si) st w1.heap.size ⟨so, ce, pa, si, su, bo⟩ ap w' ∧ w'.ownsRow B 57 3 (.slice ad d cd) d (clsV st.dict) ∧ Rest w' lb' ap' cap' L ∧ lb' < w'.heap.size) := by
    have := Hw4.out.layout hsort hr4 hlb4.1
    simp only at this
    rw [← Hn.out] at this
    refine this.mono ?_
    rintro e w' ⟨ad, cd, he, h1, h2, h3, h4⟩
    simp only at he
    rw [← Hnu.out, ← Hix.out, ← Hd.out] at he
    rw [← Hd.out] at h2
    exact ⟨ad, cd, he, h1, h2, h3, h4⟩
  rw [← hm]
  clear hr4 hlb4 hm
  have w4c0 : w4.cell? ⟨w1.heap.size, 0, none⟩ = some (.int .u32 (so : Int)) := by rw [cell_of_row _ _ 0 _ _ _ Hw4.out.bx]; rfl
  have w4c1 : w4.cell? ⟨w1.heap.size, 1, none⟩ = some (.int .i64 (ce : Int)) := by rw [cell_of_row _ _ 1 _ _ _ Hw4.out.bx]; rfl
  have w4c2 : w4.cell? ⟨w1.heap.size, 2, none⟩ = some (.int .i64 (si : Int)) := by rw [cell_of_row _ _ 2 _ _ _ Hw4.out.bx]; rfl
  have w4c3 : w4.cell? ⟨w1.heap.size, 3, none⟩ = some (.bool pa) := by rw [cell_of_row _ _ 3 _ _ _ Hw4.out.bx]; rfl
  have w4c4 : w4.cell? ⟨w1.heap.size, 4, none⟩ = some (.int .u32 (su : Int)) := by rw [cell_of_row _ _ 4 _ _ _ Hw4.out.bx]; rfl
  have w4c5 : w4.cell? ⟨w1.heap.size, 5, none⟩ = some (.slice ap n n) := by rw [cell_of_row _ _ 5 _ _ _ Hw4.out.bx, Hn.out]; rfl
  go_wp2_with fail
  refine LA.out.mono ?_
  rintro e w5 ⟨ad, cd, rfl, hN, hd5, hr5, hlb5⟩
  have Hw5 : Hid (NS w P B K nm kind opt rows lb F nx pages (left - si) st w1.heap.size ⟨so, ce, pa, si, su, bo⟩ ap w5) := hN
  have RD : Hid (Calls Tryz.prog 68 #[.slice ap' m cap', .agg #[.int .i64 (kind : Int), .bool nu, .int .i64 (ce : Int), .bool ix, .slice ad d cd]] w5 fun e w' => RdAns w P B K nm kind opt rows lb F nx pages (left - si) st w1.heap.size ⟨so, ce, pa, si, su, bo⟩ ap (Pu.decT nu kind ix st.dict L ce) e w') := by
    rw [Hd.out] at hd5
    have := NS.cells (p := ⟨so, ce, pa, si, su, bo⟩) hN hd5 hr5 hlb5 hce hk (by rw [← Hd.out]; exact hdl)
    simp only at this
    rw [← Hm.out, ← Hnu.out, ← Hix.out, ← Hd.out] at this
    exact this
  rw [Hdec.out] at RD
  clear hN hd5 hr5 hlb5 LA
  go_wp2_with fail
  refine RD.out.mono ?_
  clear w4c0 w4c1 w4c2 w4c3 w4c4 w4c5
  rintro e w6 ⟨hN, av, cv, B2, rfl, ho, hB2, hnv⟩
  have Hw6 : Hid (NS w P B K nm kind opt rows lb F nx pages (left - si) st w1.heap.size ⟨so, ce, pa, si, su, bo⟩ ap w6) := hN
  have HB2 : Hid (B ≤ B2) := hB2
  have PC : Hid (Calls Tryz.prog 70 #[.pointer (some ⟨K, 0, none⟩), .slice av l.length cv] w6 fun e w' => e = .returned (.bool false) ∧ Fr (fun j => j = K ∨ B ≤ j) w w') := (hN.payCells (by omega) ho hnv Hlm.out Hlt.out).mono (fun e w' he => by unfold PaAns at he; rw [if_pos hco] at he; exact he)
  clear hN ho hB2 hnv RD
  go_wp2_with fail
  refine PC.out.mono ?_
  rintro e w7 ⟨rfl, hF⟩
  have HF : Hid (Fr (fun j => j = K ∨ B ≤ j) w w7) := hF
  clear hF PC
  go_wp2
  go_ret
  exact ⟨rfl, HF.out⟩

set_option maxHeartbeats 4000000 in
set_option maxRecDepth 100000 in
theorem next_ok (P K B : Nat) (nm : ByteArray) (kind : Nat) (opt : Bool) (rows lb : Nat) (F : List UInt8) (a nx pages left _budget _used : Nat) (st : Pu.Sta) (C : Array Value) (so ce : Nat) (pa : Bool) (si su : Nat) (bo : List UInt8) (n : Nat) (w : World) (HP : Hid (PSta w P B nm kind opt rows lb F a pages st)) (HC : Hid (w.heap[P]? = some (.cells C 90 (0, 0)))) (HK : Hid (w.heap[K]? = some (.cells #[.int .i64 (left : Int)] 81 (0, 0)))) (hKB : K < B) (hKl : K ≠ lb) (NX : Hid (Calls Tryz.prog 64 #[.pointer (some ⟨P, 4, none⟩)] w fun e w' => NxAns w P 4 C 90 lb F (some (⟨so, ce, pa, si, su, bo⟩, nx)) e w')) (Hn : Hid (n = bo.length)) (hl : left ≤ 1073741824) (hr : rows ≤ 100000) (hk : kind ≤ 2) (hpg : pages ≤ 1000) (hsort : so ≤ 2) (hcells : ce ≤ 4294967295) (hsize : si ≤ 4294967295) (hsum : su < 4294967296) (hpk : pa = true → si ≤ 1048576) (L : List UInt8) (l : List Pu.Cl) (nu ix : Bool) (d : Nat) (Hnu : Hid (nu = (opt && decide (so ≠ 1)))) (Hix : Hid (ix = decide (so = 2))) (Hd : Hid (d = st.dict.length)) (hmay : Pu.may ⟨so, ce, pa, si, su, bo⟩ kind st.left st.known (decide (pages = 0)) = true) (hpy : si ≤ left) (HBY : Hid (∀ w e w', ByAns w lb ⟨so, ce, pa, si, su, bo⟩ e w' = ∃ ap cap lb', e = .returned (.tuple #[.slice ap L.length cap, .int .i64 0]) ∧ Rest w' lb' ap cap L ∧ lb' < w'.heap.size ∧ (lb' = lb ∨ w.heap.size ≤ lb'))) (hce : ce ≤ 100000) (hdl : d ≤ 100000) (Hdec : Hid (Pu.decT nu kind ix st.dict L ce = .ok l)) (Hlm : Hid (l.length ≤ 100000)) (Hlt : Hid (∀ c ∈ l, c.s.length ≤ 1073741824)) (hco : ¬ left - si < Pu.cost l) (Hle : Hid (so ≠ 1 → l.length ≤ st.left)) :
    Calls Tryz.prog 50 #[.pointer (some ⟨P, 0, none⟩), .pointer (some ⟨K, 0, none⟩)] w fun e w' => e = .returned (.int .i64 0) ∧ PSta w' P B nm kind opt rows lb F nx (pages + 1) (st.with so l) ∧ Fr (fun j => j = K ∨ B ≤ j) w w' ∧ w'.heap[K]? = some (.cells #[.int .i64 ((left - si - Pu.cost l : Nat) : Int)] 81 (0, 0)) := by
  go_enter Tryz.func50, Tryz.ntmps50
  go_wp2_with fail
  refine NX.out.mono ?_
  rintro e w1 ⟨ap, rfl, hN1, hN2, hN3⟩
  have HN0 : Hid (NS w P B K nm kind opt rows lb F nx pages left st w1.heap.size ⟨so, ce, pa, si, su, bo⟩ ap (w1.alloc (.cells (pgRow so ce si pa su (.slice ap bo.length bo.length)) 146))) := NS.start HP.out HC.out HK.out hKB hKl hN1 hN2 hN3
  clear hN1 hN2 hN3
  have MH := HN0.out.may hr hsort hcells hk hpg
  rw [hmay] at MH
  simp only at MH HN0 ⊢
  rw [← Hn.out] at MH HN0 ⊢
  unfold pgRow at MH HN0 ⊢
  have MH' : Hid (Calls Tryz.prog 65 #[.pointer (some ⟨P, 0, none⟩), .agg #[.int .u32 (so : Int), .int .i64 (ce : Int), .int .i64 (si : Int), .bool pa, .int .u32 (su : Int), .slice ap n n]] (w1.alloc (.cells #[.int .u32 (so : Int), .int .i64 (ce : Int), .int .i64 (si : Int), .bool pa, .int .u32 (su : Int), .slice ap n n] 146)) fun e w' => e = .returned (.bool true) ∧ NS w P B K nm kind opt rows lb F nx pages left st w1.heap.size ⟨so, ce, pa, si, su, bo⟩ ap w') := MH
  clear MH
  go_wp2_with fail
  refine MH'.out.mono ?_
  rintro e w2 ⟨rfl, hN⟩
  have Hw2 : Hid (NS w P B K nm kind opt rows lb F nx pages left st w1.heap.size ⟨so, ce, pa, si, su, bo⟩ ap w2) := hN
  clear hN MH'
  have w2c0 : w2.cell? ⟨w1.heap.size, 0, none⟩ = some (.int .u32 (so : Int)) := by rw [cell_of_row _ _ 0 _ _ _ Hw2.out.bx]; rfl
  have w2c1 : w2.cell? ⟨w1.heap.size, 1, none⟩ = some (.int .i64 (ce : Int)) := by rw [cell_of_row _ _ 1 _ _ _ Hw2.out.bx]; rfl
  have w2c2 : w2.cell? ⟨w1.heap.size, 2, none⟩ = some (.int .i64 (si : Int)) := by rw [cell_of_row _ _ 2 _ _ _ Hw2.out.bx]; rfl
  have w2c3 : w2.cell? ⟨w1.heap.size, 3, none⟩ = some (.bool pa) := by rw [cell_of_row _ _ 3 _ _ _ Hw2.out.bx]; rfl
  have w2c4 : w2.cell? ⟨w1.heap.size, 4, none⟩ = some (.int .u32 (su : Int)) := by rw [cell_of_row _ _ 4 _ _ _ Hw2.out.bx]; rfl
  have w2c5 : w2.cell? ⟨w1.heap.size, 5, none⟩ = some (.slice ap n n) := by rw [cell_of_row _ _ 5 _ _ _ Hw2.out.bx, Hn.out]; rfl
  have PY : Hid (Calls Tryz.prog 66 #[.pointer (some ⟨K, 0, none⟩), .int .i64 (si : Int)] w2 fun e w' => e = .returned (.bool true) ∧ NS w P B K nm kind opt rows lb F nx pages (left - si) st w1.heap.size ⟨so, ce, pa, si, su, bo⟩ ap w') := Hw2.out.payY hl hpy
  go_wp2_with fail
  refine PY.out.mono ?_
  rintro e w3 ⟨rfl, hN⟩
  have Hw3 : Hid (NS w P B K nm kind opt rows lb F nx pages (left - si) st w1.heap.size ⟨so, ce, pa, si, su, bo⟩ ap w3) := hN
  clear hN PY
  clear w2c0 w2c1 w2c2 w2c3 w2c4 w2c5
  have w3c0 : w3.cell? ⟨w1.heap.size, 0, none⟩ = some (.int .u32 (so : Int)) := by rw [cell_of_row _ _ 0 _ _ _ Hw3.out.bx]; rfl
  have w3c1 : w3.cell? ⟨w1.heap.size, 1, none⟩ = some (.int .i64 (ce : Int)) := by rw [cell_of_row _ _ 1 _ _ _ Hw3.out.bx]; rfl
  have w3c2 : w3.cell? ⟨w1.heap.size, 2, none⟩ = some (.int .i64 (si : Int)) := by rw [cell_of_row _ _ 2 _ _ _ Hw3.out.bx]; rfl
  have w3c3 : w3.cell? ⟨w1.heap.size, 3, none⟩ = some (.bool pa) := by rw [cell_of_row _ _ 3 _ _ _ Hw3.out.bx]; rfl
  have w3c4 : w3.cell? ⟨w1.heap.size, 4, none⟩ = some (.int .u32 (su : Int)) := by rw [cell_of_row _ _ 4 _ _ _ Hw3.out.bx]; rfl
  have w3c5 : w3.cell? ⟨w1.heap.size, 5, none⟩ = some (.slice ap n n) := by rw [cell_of_row _ _ 5 _ _ _ Hw3.out.bx, Hn.out]; rfl
  have BY : Hid (Calls Tryz.prog 67 #[.agg #[.int .u32 (so : Int), .int .i64 (ce : Int), .int .i64 (si : Int), .bool pa, .int .u32 (su : Int), .slice ap n n]] w3 fun e w' => ByAns w3 lb ⟨so, ce, pa, si, su, bo⟩ e w' ∧ NS w P B K nm kind opt rows lb F nx pages (left - si) st w1.heap.size ⟨so, ce, pa, si, su, bo⟩ ap w') := by
    have := Hw3.out.bytes hsum hpk hsize
    simp only at this
    rw [← Hn.out] at this
    exact this
  go_wp2_with fail
  refine BY.out.mono ?_
  rintro e w4 ⟨hby, hN⟩
  have Hw4 : Hid (NS w P B K nm kind opt rows lb F nx pages (left - si) st w1.heap.size ⟨so, ce, pa, si, su, bo⟩ ap w4) := hN
  clear hN BY
  rw [HBY.out] at hby
  clear w3c0 w3c1 w3c2 w3c3 w3c4 w3c5
  obtain ⟨ap', cap', lb', rfl, hr4, hlb4⟩ := hby
  obtain ⟨m, hm⟩ : ∃ m, m = L.length := ⟨_, rfl⟩
  have Hm : Hid (m = L.length) := hm
  have LA : Hid (Calls Tryz.prog 69 #[.pointer (some ⟨P, 0, none⟩), .agg #[.int .u32 (so : Int), .int .i64 (ce : Int), .int .i64 (si : Int), .bool pa, .int .u32 (su : Int), .slice ap n n]] w4 fun e w' => ∃ ad cd, e = .returned (.agg #[.int .i64 (kind : Int), .bool nu, .int .i64 (ce : Int), .bool ix, .slice ad d cd]) ∧ NS w P B K nm kind opt rows lb F nx pages (left - si) st w1.heap.size ⟨so, ce, pa, si, su, bo⟩ ap w' ∧ w'.ownsRow B 57 3 (.slice ad d cd) d (clsV st.dict) ∧ Rest w' lb' ap' cap' L ∧ lb' < w'.heap.size) := by
    have := Hw4.out.layout hsort hr4 hlb4.1
    simp only at this
    rw [← Hn.out] at this
    refine this.mono ?_
    rintro e w' ⟨ad, cd, he, h1, h2, h3, h4⟩
    simp only at he
    rw [← Hnu.out, ← Hix.out, ← Hd.out] at he
    rw [← Hd.out] at h2
    exact ⟨ad, cd, he, h1, h2, h3, h4⟩
  rw [← hm]
  clear hr4 hlb4 hm
  have w4c0 : w4.cell? ⟨w1.heap.size, 0, none⟩ = some (.int .u32 (so : Int)) := by rw [cell_of_row _ _ 0 _ _ _ Hw4.out.bx]; rfl
  have w4c1 : w4.cell? ⟨w1.heap.size, 1, none⟩ = some (.int .i64 (ce : Int)) := by rw [cell_of_row _ _ 1 _ _ _ Hw4.out.bx]; rfl
  have w4c2 : w4.cell? ⟨w1.heap.size, 2, none⟩ = some (.int .i64 (si : Int)) := by rw [cell_of_row _ _ 2 _ _ _ Hw4.out.bx]; rfl
  have w4c3 : w4.cell? ⟨w1.heap.size, 3, none⟩ = some (.bool pa) := by rw [cell_of_row _ _ 3 _ _ _ Hw4.out.bx]; rfl
  have w4c4 : w4.cell? ⟨w1.heap.size, 4, none⟩ = some (.int .u32 (su : Int)) := by rw [cell_of_row _ _ 4 _ _ _ Hw4.out.bx]; rfl
  have w4c5 : w4.cell? ⟨w1.heap.size, 5, none⟩ = some (.slice ap n n) := by rw [cell_of_row _ _ 5 _ _ _ Hw4.out.bx, Hn.out]; rfl
  go_wp2_with fail
  refine LA.out.mono ?_
  rintro e w5 ⟨ad, cd, rfl, hN, hd5, hr5, hlb5⟩
  have Hw5 : Hid (NS w P B K nm kind opt rows lb F nx pages (left - si) st w1.heap.size ⟨so, ce, pa, si, su, bo⟩ ap w5) := hN
  have RD : Hid (Calls Tryz.prog 68 #[.slice ap' m cap', .agg #[.int .i64 (kind : Int), .bool nu, .int .i64 (ce : Int), .bool ix, .slice ad d cd]] w5 fun e w' => RdAns w P B K nm kind opt rows lb F nx pages (left - si) st w1.heap.size ⟨so, ce, pa, si, su, bo⟩ ap (Pu.decT nu kind ix st.dict L ce) e w') := by
    rw [Hd.out] at hd5
    have := NS.cells (p := ⟨so, ce, pa, si, su, bo⟩) hN hd5 hr5 hlb5 hce hk (by rw [← Hd.out]; exact hdl)
    simp only at this
    rw [← Hm.out, ← Hnu.out, ← Hix.out, ← Hd.out] at this
    exact this
  rw [Hdec.out] at RD
  clear hN hd5 hr5 hlb5 LA
  go_wp2_with fail
  refine RD.out.mono ?_
  clear w4c0 w4c1 w4c2 w4c3 w4c4 w4c5
  rintro e w6 ⟨hN, av, cv, B2, rfl, ho, hB2, hnv⟩
  have Hw6 : Hid (NS w P B K nm kind opt rows lb F nx pages (left - si) st w1.heap.size ⟨so, ce, pa, si, su, bo⟩ ap w6) := hN
  have HB2 : Hid (B ≤ B2) := hB2
  have PC : Hid (Calls Tryz.prog 70 #[.pointer (some ⟨K, 0, none⟩), .slice av l.length cv] w6 fun e w' => e = .returned (.bool true) ∧ NS w P B K nm kind opt rows lb F nx pages (left - si - Pu.cost l) st w1.heap.size ⟨so, ce, pa, si, su, bo⟩ ap w' ∧ w'.ownsRow B2 57 3 (.slice av l.length cv) l.length (clsV l) ∧ NV w' P B2) := (hN.payCells (by omega) ho hnv Hlm.out Hlt.out).mono (fun e w' he => by unfold PaAns at he; rw [if_neg hco] at he; exact he)
  clear hN ho hB2 hnv RD
  go_wp2_with fail
  refine PC.out.mono ?_
  rintro e w7 ⟨rfl, hN, ho, hnv⟩
  have Hw7 : Hid (NS w P B K nm kind opt rows lb F nx pages (left - si - Pu.cost l) st w1.heap.size ⟨so, ce, pa, si, su, bo⟩ ap w7) := hN
  have KP : Hid (Calls Tryz.prog 71 #[.pointer (some ⟨P, 0, none⟩), .int .u32 (so : Int), .slice av l.length cv] w7 fun e w' => e = .returned (.tuple #[]) ∧ PSta w' P B nm kind opt rows lb F nx (pages + 1) (st.with so l) ∧ Fr (fun j => j = K ∨ B ≤ j) w w' ∧ w'.heap[K]? = some (.cells #[.int .i64 (((left - si - Pu.cost l) : Nat) : Int)] 81 (0, 0))) := NS.keep (p := ⟨so, ce, pa, si, su, bo⟩) hN ho HB2.out hnv hpg hr Hlm.out hsort Hle.out
  clear hN ho hnv PC
  have w7c0 : w7.cell? ⟨w1.heap.size, 0, none⟩ = some (.int .u32 (so : Int)) := by rw [cell_of_row _ _ 0 _ _ _ Hw7.out.bx]; rfl
  have w7c1 : w7.cell? ⟨w1.heap.size, 1, none⟩ = some (.int .i64 (ce : Int)) := by rw [cell_of_row _ _ 1 _ _ _ Hw7.out.bx]; rfl
  have w7c2 : w7.cell? ⟨w1.heap.size, 2, none⟩ = some (.int .i64 (si : Int)) := by rw [cell_of_row _ _ 2 _ _ _ Hw7.out.bx]; rfl
  have w7c3 : w7.cell? ⟨w1.heap.size, 3, none⟩ = some (.bool pa) := by rw [cell_of_row _ _ 3 _ _ _ Hw7.out.bx]; rfl
  have w7c4 : w7.cell? ⟨w1.heap.size, 4, none⟩ = some (.int .u32 (su : Int)) := by rw [cell_of_row _ _ 4 _ _ _ Hw7.out.bx]; rfl
  have w7c5 : w7.cell? ⟨w1.heap.size, 5, none⟩ = some (.slice ap n n) := by rw [cell_of_row _ _ 5 _ _ _ Hw7.out.bx, Hn.out]; rfl
  go_wp2_with fail
  refine KP.out.mono ?_
  rintro e w8 ⟨rfl, hA⟩
  have HA : Hid (PSta w8 P B nm kind opt rows lb F nx (pages + 1) (st.with so l) ∧ Fr (fun j => j = K ∨ B ≤ j) w w8 ∧ w8.heap[K]? = some (.cells #[.int .i64 (((left - si - Pu.cost l) : Nat) : Int)] 81 (0, 0))) := hA
  clear hA KP
  go_wp2
  go_ret
  exact ⟨rfl, HA.out⟩

end Go.Proofs.YtjobhlncllfdmaaGreat
