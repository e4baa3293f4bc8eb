/- strataref.Heads. -/
import Derived.Test.YtjobhlncllfdmaaM13
import Derived.Deep.DrawnRows
import Derived.Deep.DeepCutAuto
namespace Go.Proofs.Ytjobhlncllfdmaa
open Go.RowKit
attribute [local go_sem ↓] Go.wp_at_zero Go.wp_at_succ

/-- the byte that tells a column's kind -/
def kb (k : Int) (o : Bool) : Nat := (IntKind.u8.wrap (if o = true then IntKind.i64.wrap (k + 4) else k)).toNat
theorem kb_lt (k : Int) (o : Bool) : kb k o < 256 := by unfold kb; rw [IntKind.wrap_u8]; omega
theorem kb_eq (k : Int) (o : Bool) : IntKind.u8.wrap (if o = true then IntKind.i64.wrap (k + 4) else k) = (kb k o : Int) := by unfold kb; rw [IntKind.wrap_u8]; omega

abbrev RawC := ByteArray × Int × Bool
def hs1 (c : RawC) : List UInt8 := vb c.1.size ++ c.1.data.toList ++ [UInt8.ofNat (kb c.2.1 c.2.2)]
def heads (cl : List RawC) : List UInt8 := vb cl.length ++ cl.flatMap hs1

theorem heads_take (cl : List RawC) (n j : Nat) (h : j < cl.length) : vb n ++ (cl.take (j + 1)).flatMap hs1 = (vb n ++ (cl.take j).flatMap hs1) ++ vb (cl[j]).1.size ++ (cl[j]).1.data.toList ++ [UInt8.ofNat (kb (cl[j]).2.1 (cl[j]).2.2)] := by
  rw [List.take_succ_eq_append_getElem h, List.flatMap_append]
  simp [hs1]

/-- raw columns in memory -/
def RawAt (W : World) (gb go : Nat) (cl : List RawC) : Prop := gb < W.heap.size ∧ ∀ i, (h : i < cl.length) → W.cell? ⟨gb, go + i * 3, none⟩ = some (.string cl[i].1) ∧ W.cell? ⟨gb, go + i * 3 + 1, none⟩ = some (.int .i64 cl[i].2.1) ∧ W.cell? ⟨gb, go + i * 3 + 2, none⟩ = some (.bool cl[i].2.2)
theorem RawAt.below {W W' : World} {gb go : Nat} {cl : List RawC} (h : RawAt W gb go cl) (hb : Below W.heap.size W W') : RawAt W' gb go cl := by
  refine ⟨Nat.lt_of_lt_of_le h.1 hb.size, fun i hi => ?_⟩
  have c : ∀ k, W'.cell? ⟨gb, k, none⟩ = W.cell? ⟨gb, k, none⟩ := fun k => World.cell?_of_block (hb.block _ h.1)
  rw [c, c, c]
  exact h.2 i hi

set_option maxHeartbeats 4000000 in
set_option maxRecDepth 100000 in
theorem heads_any (gb go cap : Nat) (cl : List RawC) (w : World) (h : RawAt w gb go cl) (hn : cl.length ≤ 1048576) (hsum : (heads cl).length ≤ 10000000) :
    Calls Try.prog 31 #[.slice (some ⟨gb, go, none⟩) cl.length cap] w fun e w' => e = .returned (.string ⟨(heads cl).toArray⟩) ∧ Below w.heap.size w w' := by
  have HV : Hid (∀ (n : Nat) (W : World), n ≤ 140737488355328 → Calls Try.prog 32 #[.int .i64 (n : Int)] W fun e w' => e = .returned (.string ⟨(vb n).toArray⟩) ∧ Below W.heap.size W w') := fun n W h => varintB_any n W h
  obtain ⟨n, hnn⟩ : ∃ n, n = cl.length := ⟨_, rfl⟩
  obtain ⟨t0, ht0⟩ : ∃ t0 : ByteArray, t0 = ⟨(vb n).toArray⟩ := ⟨_, rfl⟩
  have HT0 : Hid (t0.data.toList = vb n ++ (cl.take 0).flatMap hs1) := by rw [Hid, ht0]; simp
  have HV0 : Hid (Calls Try.prog 32 #[.int .i64 (n : Int)] w fun e w' => e = .returned (.string t0) ∧ Below w.heap.size w w') := by rw [ht0]; exact varintB_any n w (by omega)
  have HR : Hid (RawAt w gb go cl) := h
  have Hn : Hid (n = cl.length) := hnn
  have HS : Hid ((heads cl).length ≤ 10000000) := hsum
  rw [← hnn] at hn ⊢
  clear h hnn ht0 hsum
  go_enter Try.func31, Try.ntmps31
  go_wp2_with fail
  refine HV0.out.mono ?_
  rintro e w1 ⟨rfl, hb1⟩
  have HB1 : Hid (Below w.heap.size w w1) := hb1
  clear hb1 HV0
  go_wp2
  go_loopw [3, 4] (fun s3 i wr => ∃ (j : Nat) (t : ByteArray), j ≤ n ∧ i = .int .i64 j ∧ s3 = .string t ∧ Hid (t.data.toList = vb n ++ (cl.take j).flatMap hs1) ∧ Hid (Below w.heap.size w wr)) (fun _ i _ => n - (intOf i).toNat)
  case atStart => exact ⟨0, t0, Nat.zero_le _, rfl, rfl, HT0, HB1⟩
  case round =>
    clear HT0 HB1
    obtain ⟨j, t, hj, rfl, rfl, HT, HB⟩ := hrel
    by_cases hj2 : j < n
    · have hjd : decide ((j : Int) < (n : Int)) = true := by simp; omega
      have hjl : j < cl.length := by rw [← Hn.out]; exact hj2
      obtain ⟨c0, c1, c2⟩ := (HR.out.below HB.out).2 j hjl
      have HTK := heads_take cl n j hjl
      obtain ⟨nm, hnm⟩ : ∃ nm, nm = cl[j].1 := ⟨_, rfl⟩
      obtain ⟨kd, hkd⟩ : ∃ kd, kd = cl[j].2.1 := ⟨_, rfl⟩
      obtain ⟨op, hop⟩ : ∃ op, op = cl[j].2.2 := ⟨_, rfl⟩
      rw [← hnm] at c0
      rw [← hkd] at c1
      rw [← hop] at c2
      rw [← hnm, ← hkd, ← hop] at HTK
      have HNM : Hid (t.data.toList ++ vb nm.size ++ nm.data.toList ++ [UInt8.ofNat (kb kd op)] = vb n ++ (cl.take (j + 1)).flatMap hs1) := by rw [Hid, HTK, HT.out]
      have HLE : Hid (t.size + nm.size ≤ 10000000) := by
        have h1 := HS.out
        have h2 : (heads cl).length = (vb n ++ (cl.take (j + 1)).flatMap hs1).length + ((cl.drop (j + 1)).flatMap hs1).length := by
          unfold heads
          rw [← Hn.out]
          conv => lhs; rw [← List.take_append_drop (j + 1) cl]
          rw [List.flatMap_append, List.length_append, List.length_append, List.length_append]; omega
        have h3 : (t.data.toList ++ vb nm.size ++ nm.data.toList ++ [UInt8.ofNat (kb kd op)]).length = t.size + (vb nm.size).length + nm.size + 1 := by
          rw [List.length_append, List.length_append, List.length_append, len_data, len_data]; rfl
        rw [h2, ← HNM.out, h3] at h1
        unfold Hid
        omega
      have hts : t.size ≤ 10000000 := by have := HLE.out; omega
      have hns : nm.size ≤ 10000000 := by have := HLE.out; omega
      have hboth : t.size + nm.size ≤ 10000000 := HLE.out
      obtain ⟨tv, htv⟩ : ∃ tv : ByteArray, tv = ⟨(vb nm.size).toArray⟩ := ⟨_, rfl⟩
      have htvs : tv.size ≤ 7 := by rw [htv, ← len_data]; simpa using length_vb8 (n := nm.size) (by omega)
      have HTV : Hid (tv.data.toList = vb nm.size) := by rw [Hid, htv]
      have HVN : Hid (∀ W : World, Calls Try.prog 32 #[.int .i64 (nm.size : Int)] W fun e w' => e = .returned (.string tv) ∧ Below W.heap.size W w') := fun W => by rw [htv]; exact varintB_any nm.size W (by omega)
      obtain ⟨x, hx⟩ : ∃ x, x = kb kd op := ⟨_, rfl⟩
      have hxl : x < 256 := by rw [hx]; exact kb_lt _ _
      obtain ⟨t1, ht1⟩ : ∃ t1 : ByteArray, t1 = ⟨#[UInt8.ofNat x]⟩ := ⟨_, rfl⟩
      have HT1 : Hid (t1 = ⟨#[UInt8.ofNat x]⟩) := ht1
      have h1s : t1.size = 1 := by rw [ht1]; rfl
      have HK := kb_eq kd op
      rw [← hx] at HK HNM
      have hcv2 : ∀ X : World, (convert 24 9 (.slice (some ⟨X.heap.size, 0, none⟩) 1 1)).run Try.prog (X.alloc (.cells #[.int .u8 (x : Int)] 5)).drew = .ok (.string t1) (X.alloc (.cells #[.int .u8 (x : Int)] 5)).drew := fun X => by rw [ht1]; exact text_one' hxl (heap_alloc_new X _)
      have hcv1 : ∀ X : World, (convert 24 9 (.slice (some ⟨X.heap.size, 0, none⟩) 1 1)).run Try.prog (X.alloc (.cells #[.int .u8 (x : Int)] 5)) = .ok (.string t1) (X.alloc (.cells #[.int .u8 (x : Int)] 5)) := fun X => by rw [ht1]; exact text_one X x hxl
      have hq1 : ¬ (9223372036854775807 < t.size + tv.size) := by omega
      have hq2 : ¬ (9223372036854775807 < t.size + tv.size + nm.size) := by omega
      have hq3 : ¬ (9223372036854775807 < t.size + tv.size + nm.size + 1) := by omega
      have BA : Hid (∀ (X : World) (o : Obj), Below wr.heap.size wr X → Below wr.heap.size wr (X.alloc o)) := fun X o h => h.alloc h.size o
      have CC : Hid (∀ W : World, Below wr.heap.size wr W → W.cell? ⟨gb, go + j * 3, none⟩ = some (.string nm) ∧ (∀ o, (W.alloc o).cell? ⟨gb, go + j * 3, none⟩ = some (.string nm)) ∧ Below wr.heap.size wr W) := fun W hW => by
        have hg := (HR.out.below HB.out).1
        have c : ∀ X : World, Below wr.heap.size wr X → X.cell? ⟨gb, go + j * 3, none⟩ = some (.string nm) := fun X hX => by rw [World.cell?_of_block (w := wr) (hX.block gb hg)]; exact c0
        exact ⟨c W hW, fun o => c _ (hW.alloc hW.size o), hW⟩
      have c0a : ∀ o, (wr.alloc o).cell? ⟨gb, go + j * 3, none⟩ = some (.string nm) := (CC.out wr (Below.refl _ _)).2.1
      have N5 : Hid (∀ (X W : World), Below (X.alloc (.cells #[.int .u8 (x : Int)] 5)).drew.heap.size (X.alloc (.cells #[.int .u8 (x : Int)] 5)).drew W → (convert 24 9 (.slice (some ⟨X.heap.size, 0, none⟩) 1 1)).run Try.prog W = .ok (.string t1) W) := fun X W hb => by rw [HT1.out]; exact text_one' hxl (by rw [hb.block _ (by show X.heap.size < (X.alloc _).heap.size; rw [size_alloc']; omega)]; exact heap_alloc_new X _)
      clear hx htv ht1 HTK hnm hkd hop hjl
      go_upto_region 6 with fail
      go_cut [5, 24] from 9 to 46 (fun s5 s24 wx => s5 = .int .i64 kd ∧ s24 = .bool op ∧ wx = wr)
      case first =>
        go_wp2_with fail
        go_meet
        exact ⟨rfl, rfl, rfl⟩
      case rest =>
      obtain ⟨rfl, rfl, rfl⟩ := hcut
      refine ‹∀ (a : Act) (w : World), Code.wp Try.prog _ _ a w → _› _ _ ?_
      go_cut [5] from 9 to 46 (fun s5 wx => ∃ y : Int, s5 = .int .i64 y ∧ IntKind.u8.wrap y = (x : Int) ∧ wx = wc)
      case first =>
        cases op with
        | true =>
          have e5 : IntKind.u8.wrap (wrap64 (kd + 4)) = (x : Int) := by rw [wrap64_eq]; simpa using HK
          go_wp2_with fail
          go_meet
          exact ⟨_, rfl, e5, rfl⟩
        | false =>
          have e5 : IntKind.u8.wrap kd = (x : Int) := by simpa using HK
          go_wp2_with fail
          go_meet
          exact ⟨_, rfl, e5, rfl⟩
      case rest =>
      obtain ⟨y, rfl, e5, rfl⟩ := hcut
      clear HK
      go_wp2
      go_region_with ((go_at_call 32; refine (HVN.out _).mono ?_; rintro e w' ⟨rfl, hbc⟩; have kc := CC.out w' (by repeat (first | with_reducible exact Below.refl _ _ | with_reducible refine bself ?_ hbc | with_reducible refine Below.drew ?_ | with_reducible refine BA.out _ _ ?_)); obtain ⟨kc1, kc2, kc3⟩ := kc; first | ((with_reducible have hcv3 := N5.out _ _ hbc)) | skip))
      all_goals
        go_wp2
        go_roundw
        case rel =>
          refine ⟨j + 1, _, by omega, by go_num, rfl, ?_, ?_⟩
          · rw [Hid, ← HNM.out]
            simp only [ByteArray.data_append, Array.toList_append]
            rw [HTV.out, HT1.out]
          · first
              | exact HB.out.trans (kc3.mono HB.out.size)
              | exact HB.out.trans ((BA.out _ _ kc3).mono HB.out.size)
        case measure => simp [intOf]; omega
    · obtain rfl : j = n := by omega
      have hjd : decide ((j : Int) < (j : Int)) = false := by simp
      go_wp2
      go_ret
      refine ⟨congrArg (fun t => Ending.returned (.string t)) (bytes_ext ?_), HB.out⟩
      rw [HT.out, Hn.out, List.take_length]
      rfl
end Go.Proofs.Ytjobhlncllfdmaa
