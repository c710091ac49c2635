/- Small functions of a match that goes, by the cells that they read: named, freeSeat, giveUp. -/
import Derived.Test.YtdianedehhecoaaGreatDoorMatchAts
import Derived.Test.YtdianedehhecoaaGreatDoorRefPure
namespace Go.Proofs.YtdianedehhecoaaGreatDoor
open Go.RowKit
set_option linter.unusedVariables false
set_option linter.unusedSimpArgs false

/-- all seats are taken, by the players a, b, .. in their order -/
structure Seated (w : World) (mb tb : Nat) (pbs : List Nat) : Prop where
  slice : w.cell? ⟨mb, 4, none⟩ = some (.slice (some ⟨tb, 0, none⟩) pbs.length pbs.length)
  seat : ∀ i : Nat, i < pbs.length → w.cell? ⟨tb, i, none⟩ = some (.pointer (some ⟨pbs.getD i 0, 0, none⟩))
  name : ∀ i : Nat, i < pbs.length → w.cell? ⟨pbs.getD i 0, 1, none⟩ = some (.string ⟨#[(97 + i).toUInt8]⟩)
theorem names_eq (i n : Nat) (hi : i < 4) (hn : n < 4) : ((⟨#[(97 + i).toUInt8]⟩ : ByteArray).toList == (⟨#[(97 + n).toUInt8]⟩ : ByteArray).toList) = decide (i = n) := by
  have h1 : n = 0 ∨ n = 1 ∨ n = 2 ∨ n = 3 := by omega
  have h2 : i = 0 ∨ i = 1 ∨ i = 2 ∨ i = 3 := by omega
  rw [ByteArray.toList_eq, ByteArray.toList_eq]
  rcases h1 with rfl | rfl | rfl | rfl <;> rcases h2 with rfl | rfl | rfl | rfl <;> first | rfl | kernel_rfl | decide
section
variable {w : World} {mb tb : Nat} {pbs : List Nat}
set_option maxHeartbeats 2000000 in
set_option maxRecDepth 20000 in
theorem named_at (h : Seated w mb tb pbs) (hP : pbs.length ≤ 4) (n : Nat) (hn : n < pbs.length) :
    Calls Pz.prog 96 #[.pointer (some ⟨mb, 0, none⟩), .string ⟨#[(97 + n).toUInt8]⟩] w fun e w' => e = .returned (.pointer (some ⟨pbs.getD n 0, 0, none⟩)) ∧ w' = w := by
  have HTH : Hid (∀ i : Nat, i < pbs.length → w.cell? ⟨tb, i, none⟩ = some (.pointer (some ⟨pbs.getD i 0, 0, none⟩)) ∧ w.cell? ⟨pbs.getD i 0, 1, none⟩ = some (.string ⟨#[(97 + i).toUInt8]⟩)) := fun i hi => ⟨h.seat i hi, h.name i hi⟩
  have h4 := h.slice
  clear h
  have HN : Hid (∀ i : Nat, i < pbs.length → ((⟨#[(97 + i).toUInt8]⟩ : ByteArray).toList == (⟨#[(97 + n).toUInt8]⟩ : ByteArray).toList) = decide (i = n)) := fun i hi => names_eq i n (by omega) (by omega)
  generalize hl : pbs.length = P at *
  generalize (⟨#[(97 + n).toUInt8]⟩ : ByteArray) = s at *
  generalize hv : pbs.getD n 0 = vb
  go_enter Pz.func96, Tryz.ntmps96
  go_wp2
  go_loop [12] (fun i => ∃ k : Nat, k ≤ n ∧ i = .int .i64 k) (fun i => P - (intOf i).toNat)
  case atStart => exact ⟨0, by omega, rfl⟩
  case round =>
    obtain ⟨k, hk, rfl⟩ := hrel
    have hlt : k < P := by omega
    obtain ⟨hc1, hc2⟩ := HTH.out k hlt
    have hs := HN.out k hlt
    by_cases hkn : k = n
    · subst hkn
      rw [decide_eq_true rfl] at hs
      rw [hv] at hc1 hc2
      generalize (⟨#[(97 + k).toUInt8]⟩ : ByteArray) = t at *
      go_wp2
      go_ret
      exact ⟨rfl, rfl⟩
    · rw [decide_eq_false hkn] at hs
      clear hv
      generalize pbs.getD k 0 = ub at *
      generalize (⟨#[(97 + k).toUInt8]⟩ : ByteArray) = t at *
      go_wp2
      go_round
      case rel => exact ⟨k + 1, by omega, by go_num⟩
      case measure => simp [intOf]; omega
set_option maxHeartbeats 2000000 in
set_option maxRecDepth 20000 in
theorem index_full (h : Seated w mb tb pbs) (hP : pbs.length ≤ 4) :
    Calls Pz.prog 171 #[.slice (some ⟨tb, 0, none⟩) pbs.length pbs.length, .pointer none] w fun e w' => e = .returned (.int .i64 (-1)) ∧ w' = w := by
  have HTH : Hid (∀ i : Nat, i < pbs.length → w.cell? ⟨tb, i, none⟩ = some (.pointer (some ⟨pbs.getD i 0, 0, none⟩))) := h.seat
  clear h
  generalize hl : pbs.length = P at *
  go_enter Pz.func171, Tryz.ntmps171
  go_wp2
  go_loop [8] (fun i => ∃ k : Nat, k ≤ P ∧ i = .int .i64 k) (fun i => P - (intOf i).toNat)
  case atStart => exact ⟨0, by omega, rfl⟩
  case round =>
    obtain ⟨k, hk, rfl⟩ := hrel
    by_cases hlt : k < P
    · have hcell := HTH.out k hlt
      generalize pbs.getD k 0 = ub at hcell
      have hne := eql_nil_some ⟨ub, 0, none⟩
      go_wp2
      go_round
      case rel => exact ⟨k + 1, by omega, by go_num⟩
      case measure => simp [intOf]; omega
    · go_wp2
      go_ret
      exact ⟨rfl, rfl⟩
set_option maxHeartbeats 2000000 in
set_option maxRecDepth 20000 in
theorem freeSeat_full (h : Seated w mb tb pbs) (hP : pbs.length ≤ 4) :
    Calls Pz.prog 116 #[.pointer (some ⟨mb, 0, none⟩)] w fun e w' => e = .returned (.int .i64 (-1)) ∧ w' = w := by
  have HI := (show Hid _ from index_full h hP)
  have h4 := h.slice
  clear h
  generalize pbs.length = P at *
  go_enter Pz.func116, Tryz.ntmps116
  go_wp2_with (go_at_call 171; refine Calls.mono HI.out ?_; rintro e w' ⟨rfl, rfl⟩)
  go_ret
  exact ⟨rfl, rfl⟩
/-- whether a match is over, by what its state says -/
theorem phase_full (h : Seated w mb tb pbs) (hP : pbs.length ≤ 4) {sb : Nat} {ov : Bool} (hs : w.cell? ⟨mb, 2, none⟩ = some (.pointer (some ⟨sb, 0, none⟩)))
    (hO : Calls Pz.prog 39 #[.pointer (some ⟨sb, 0, none⟩)] w fun e w' => e = .returned (.bool ov) ∧ Below w.heap.size w w') :
    Calls Pz.prog 91 #[.pointer (some ⟨mb, 0, none⟩)] w fun e w' => e = .returned (.int .i64 (if ov then 3 else 2)) ∧ Below w.heap.size w w' := by
  have HF := (show Hid _ from freeSeat_full h hP)
  have HO := (show Hid _ from hO)
  clear h hO
  go_enter Pz.func91, Tryz.ntmps91
  cases ov
  · go_wp2_with (first | (go_at_call 116; refine Calls.mono HF.out ?_; rintro e w' ⟨rfl, rfl⟩) | (go_at_call 39; refine Calls.mono HO.out ?_; rintro e w2 ⟨rfl, hb2⟩))
    go_ret
    exact ⟨rfl, hb2⟩
  · go_wp2_with (first | (go_at_call 116; refine Calls.mono HF.out ?_; rintro e w' ⟨rfl, rfl⟩) | (go_at_call 39; refine Calls.mono HO.out ?_; rintro e w2 ⟨rfl, hb2⟩))
    go_ret
    exact ⟨rfl, hb2⟩
set_option maxHeartbeats 1000000 in
theorem giveUp_first {pb : Nat} {x0 x1 x2 x3 x5 : Value} (hp : BlkAt w pb [x0, x1, x2, x3, .bool false, x5] 184) :
    Calls Pz.prog 97 #[.pointer (some ⟨pb, 0, none⟩)] w fun e w' => e = .returned (.int .i64 0) ∧ w' = (w.setCell ⟨pb, 4, none⟩ (.bool true)).setCell ⟨pb, 5, none⟩ (.bool true) := by
  have h4 : w.cell? ⟨pb, 4, none⟩ = some (.bool false) := hp.cell rfl
  have h5 : w.cell? ⟨pb, 5, none⟩ = some x5 := hp.cell rfl
  have f4 := hp.free 4
  have f5 := hp.free 5
  clear hp
  go_enter Pz.func97, Tryz.ntmps97
  go_wp2
  go_ret
  exact ⟨rfl, rfl⟩
set_option maxHeartbeats 1000000 in
theorem giveUp_again {pb : Nat} (h4 : w.cell? ⟨pb, 4, none⟩ = some (.bool true)) :
    Calls Pz.prog 97 #[.pointer (some ⟨pb, 0, none⟩)] w fun e w' => e = .returned (.int .i64 4) ∧ w' = w := by
  go_enter Pz.func97, Tryz.ntmps97
  go_wp2
  go_ret
  exact ⟨rfl, rfl⟩
theorem Seated.on {w' : World} (h : Seated w mb tb pbs) (hm : w'.cell? ⟨mb, 4, none⟩ = w.cell? ⟨mb, 4, none⟩) (ht : w'.heap[tb]? = w.heap[tb]?) (hp : ∀ i : Nat, i < pbs.length → w'.cell? ⟨pbs.getD i 0, 1, none⟩ = w.cell? ⟨pbs.getD i 0, 1, none⟩) : Seated w' mb tb pbs :=
  ⟨hm.trans h.slice, fun i hi => (World.cell?_of_block (w := w) ht).trans (h.seat i hi), fun i hi => (hp i hi).trans (h.name i hi)⟩
set_option maxHeartbeats 4000000 in
set_option maxRecDepth 20000 in
/-- a player of a match that goes gives up -/
theorem mleave_first {sb : Nat} {hv pv wv x0 x1 x2 x3 x5 : Value} (hm : BlkAt w mb [.int .i32 0, .int .u32 0, .pointer (some ⟨sb, 0, none⟩), hv, .slice (some ⟨tb, 0, none⟩) pbs.length pbs.length, pv, wv] 136) (h : Seated w mb tb pbs) (hP : pbs.length ≤ 4) (htb : tb ≠ mb) (hpm : ∀ i : Nat, i < pbs.length → pbs.getD i 0 ≠ mb)
    (hO : Calls Pz.prog 39 #[.pointer (some ⟨sb, 0, none⟩)] (w.setCell ⟨mb, 0, none⟩ (.int .i32 1)) fun e w' => e = .returned (.bool false) ∧ Below w.heap.size (w.setCell ⟨mb, 0, none⟩ (.int .i32 1)) w')
    (n : Nat) (hn : n < pbs.length) (hp : BlkAt w (pbs.getD n 0) [x0, x1, x2, x3, .bool false, x5] 184) :
    Calls Pz.prog 49 #[.pointer (some ⟨mb, 0, none⟩), .string ⟨#[(97 + n).toUInt8]⟩] w fun e w' => e = .returned (.int .i64 0) ∧
      ∃ w2, Below w.heap.size (w.setCell ⟨mb, 0, none⟩ (.int .i32 1)) w2 ∧ w' = ((w2.setCell ⟨pbs.getD n 0, 4, none⟩ (.bool true)).setCell ⟨pbs.getD n 0, 5, none⟩ (.bool true)).setCell ⟨mb, 0, none⟩ (.int .i32 0) := by
  have h0 : w.cell? ⟨mb, 0, none⟩ = some (.int .i32 0) := hm.cell rfl
  have f0 : w.frozen? ⟨mb, 0, none⟩ = false := hm.free 0
  have hm1 := hm.set 0 (.int .i32 1)
  have h1 : Seated (w.setCell ⟨mb, 0, none⟩ (.int .i32 1)) mb tb pbs := h.on ((hm1.cell rfl).trans (hm.cell rfl).symm) (Below.heap_setCell w _ _ _ htb) (fun i hi => World.cell?_of_block (w := w) (Below.heap_setCell w _ _ _ (hpm i hi)))
  have hp1 : BlkAt (w.setCell ⟨mb, 0, none⟩ (.int .i32 1)) (pbs.getD n 0) [x0, x1, x2, x3, .bool false, x5] 184 := hp.other (hpm n hn)
  have HL := (show Hid _ from lock_free muLib ⟨mb, 0, none⟩ w h0 f0)
  have hs1 : (w.setCell ⟨mb, 0, none⟩ (.int .i32 1)).heap.size = w.heap.size := by simp
  have hpn := hpm n hn
  have hpl := hp.lt
  have hml := hm.lt
  clear h0 f0 h hp hm
  generalize hw1 : w.setCell ⟨mb, 0, none⟩ (.int .i32 1) = w1 at *
  have HN := (show Hid _ from named_at h1 hP n hn)
  have HPh := (show Hid _ from phase_full h1 hP (hm1.cell rfl) (by rw [hs1]; exact hO))
  rw [if_neg (by simp), hs1] at HPh
  have HM := (show Hid _ from hm1)
  have HPB := (show Hid _ from hp1)
  clear hm1 h1 hp1 hO hw1
  generalize (⟨#[(97 + n).toUInt8]⟩ : ByteArray) = s at *
  generalize pbs.getD n 0 = pb at *
  clear hpm
  generalize pbs.length = P at *
  go_enter_defers Pz.func49, Tryz.ntmps49
  go_wp2_with (first | (go_at_call 89; refine Calls.mono HL.out ?_; rintro e w' ⟨rfl, rfl⟩) | (go_at_call 96; refine Calls.mono HN.out ?_; rintro e w' ⟨rfl, rfl⟩) | (go_at_call 91; refine Calls.mono HPh.out ?_; rintro e w2 ⟨rfl, hb2⟩; have hq := BlkAt.same (show BlkAt _ pb [x0, x1, x2, x3, .bool false, x5] 184 from HPB.out) (hb2.block _ hpl)) | (go_at_call 97; refine Calls.mono (giveUp_first hq) ?_; rintro e w3 ⟨rfl, hw3⟩; rw [hw3]; clear hw3))
  have hM0 : BlkAt _ mb [.int .i32 1, .int .u32 0, .pointer (some ⟨sb, 0, none⟩), hv, .slice (some ⟨tb, 0, none⟩) P P, pv, wv] 136 := HM.out
  have hm2 := ((hM0.same (hb2.block _ hml)).other (i := 4) (v := .bool true) (Ne.symm hpn)).other (i := 5) (v := .bool true) (Ne.symm hpn)
  refine leaves_cons (f := 90) (args := #[.pointer (some ⟨mb, 0, none⟩)]) (by simp) (by simp [go_sem]) ?_
  refine (unlock_deferred muLib ⟨mb, 0, none⟩ .returning _ (hm2.cell rfl) (hm2.free 0)).mono ?_
  rintro e u' w'' ⟨rfl, rfl, rfl⟩
  exact ⟨_, results_tmp rfl _ _ _, rfl, w2, hb2, rfl⟩
set_option maxHeartbeats 4000000 in
set_option maxRecDepth 20000 in
/-- and once more -/
theorem mleave_again {sb : Nat} {hv pv wv x0 x1 x2 x3 x5 : Value} (hm : BlkAt w mb [.int .i32 0, .int .u32 0, .pointer (some ⟨sb, 0, none⟩), hv, .slice (some ⟨tb, 0, none⟩) pbs.length pbs.length, pv, wv] 136) (h : Seated w mb tb pbs) (hP : pbs.length ≤ 4) (htb : tb ≠ mb) (hpm : ∀ i : Nat, i < pbs.length → pbs.getD i 0 ≠ mb)
    (hO : Calls Pz.prog 39 #[.pointer (some ⟨sb, 0, none⟩)] (w.setCell ⟨mb, 0, none⟩ (.int .i32 1)) fun e w' => e = .returned (.bool false) ∧ Below w.heap.size (w.setCell ⟨mb, 0, none⟩ (.int .i32 1)) w')
    (n : Nat) (hn : n < pbs.length) (hp : BlkAt w (pbs.getD n 0) [x0, x1, x2, x3, .bool true, x5] 184) :
    Calls Pz.prog 49 #[.pointer (some ⟨mb, 0, none⟩), .string ⟨#[(97 + n).toUInt8]⟩] w fun e w' => e = .returned (.int .i64 4) ∧ Below w.heap.size w w' := by
  have h0 : w.cell? ⟨mb, 0, none⟩ = some (.int .i32 0) := hm.cell rfl
  have f0 : w.frozen? ⟨mb, 0, none⟩ = false := hm.free 0
  have hm1 := hm.set 0 (.int .i32 1)
  have h1 : Seated (w.setCell ⟨mb, 0, none⟩ (.int .i32 1)) mb tb pbs := h.on ((hm1.cell rfl).trans (hm.cell rfl).symm) (Below.heap_setCell w _ _ _ htb) (fun i hi => World.cell?_of_block (w := w) (Below.heap_setCell w _ _ _ (hpm i hi)))
  have hp1 : BlkAt (w.setCell ⟨mb, 0, none⟩ (.int .i32 1)) (pbs.getD n 0) [x0, x1, x2, x3, .bool true, x5] 184 := hp.other (hpm n hn)
  have HL := (show Hid _ from lock_free muLib ⟨mb, 0, none⟩ w h0 f0)
  have hs1 : (w.setCell ⟨mb, 0, none⟩ (.int .i32 1)).heap.size = w.heap.size := by simp
  have hpn := hpm n hn
  have hpl := hp.lt
  have hml := hm.lt
  have HM0 := (show Hid _ from hm)
  have HW1 : Hid (∀ k, k ≠ mb → (w.setCell ⟨mb, 0, none⟩ (.int .i32 1)).heap[k]? = w.heap[k]?) := fun k hk => Below.heap_setCell w ⟨mb, 0, none⟩ _ k hk
  have HW2 : Hid ((w.setCell ⟨mb, 0, none⟩ (.int .i32 1)).os = w.os ∧ (w.setCell ⟨mb, 0, none⟩ (.int .i32 1)).tape = w.tape ∧ (w.setCell ⟨mb, 0, none⟩ (.int .i32 1)).output = w.output) := ⟨rfl, rfl, rfl⟩
  clear h0 f0 h hp hm
  generalize hw1 : w.setCell ⟨mb, 0, none⟩ (.int .i32 1) = w1 at *
  have HN := (show Hid _ from named_at h1 hP n hn)
  have HPh := (show Hid _ from phase_full h1 hP (hm1.cell rfl) (by rw [hs1]; exact hO))
  rw [if_neg (by simp), hs1] at HPh
  have HM := (show Hid _ from hm1)
  have HPB := (show Hid _ from hp1)
  clear hm1 h1 hp1 hO hw1
  generalize (⟨#[(97 + n).toUInt8]⟩ : ByteArray) = s at *
  generalize pbs.getD n 0 = pb at *
  clear hpm
  generalize pbs.length = P at *
  go_enter_defers Pz.func49, Tryz.ntmps49
  go_wp2_with (first | (go_at_call 89; refine Calls.mono HL.out ?_; rintro e w' ⟨rfl, rfl⟩) | (go_at_call 96; refine Calls.mono HN.out ?_; rintro e w' ⟨rfl, rfl⟩) | (go_at_call 91; refine Calls.mono HPh.out ?_; rintro e w2 ⟨rfl, hb2⟩; have hq := BlkAt.same (show BlkAt _ pb [x0, x1, x2, x3, .bool true, x5] 184 from HPB.out) (hb2.block _ hpl)) | (go_at_call 97; refine Calls.mono (giveUp_again (hq.cell rfl)) ?_; rintro e w3 ⟨rfl, hw3⟩; rw [hw3]; clear hw3))
  have hM0 : BlkAt _ mb [.int .i32 1, .int .u32 0, .pointer (some ⟨sb, 0, none⟩), hv, .slice (some ⟨tb, 0, none⟩) P P, pv, wv] 136 := HM.out
  have hm2 := hM0.same (hb2.block _ hml)
  refine leaves_cons (f := 90) (args := #[.pointer (some ⟨mb, 0, none⟩)]) (by simp) (by simp [go_sem]) ?_
  refine (unlock_deferred muLib ⟨mb, 0, none⟩ .returning _ (hm2.cell rfl) (hm2.free 0)).mono ?_
  rintro e u' w'' ⟨rfl, rfl, rfl⟩
  refine ⟨_, results_tmp rfl _ _ _, rfl, hb2.os.trans HW2.out.1, hb2.tape.trans HW2.out.2.1, hb2.output.trans HW2.out.2.2, by have := hb2.size; rw [World.heap_setCell_size]; omega, fun q hq => ?_⟩
  by_cases hne : q = mb
  · subst hne
    have hM1 : BlkAt w q [.int .i32 0, .int .u32 0, .pointer (some ⟨sb, 0, none⟩), hv, .slice (some ⟨tb, 0, none⟩) P P, pv, wv] 136 := HM0.out
    exact (show (w2.setCell ⟨q, 0, none⟩ (.int .i32 0)).heap[q]? = _ from hm2.set 0 (.int .i32 0)).trans (show w.heap[q]? = _ from hM1).symm
  · exact (Below.heap_setCell w2 ⟨mb, 0, none⟩ _ q hne).trans ((hb2.block q hq).trans (HW1.out q hne))
end
end Go.Proofs.YtdianedehhecoaaGreatDoor

/- handOver of a player for whom nothing waits. -/
namespace Go.Proofs.YtdianedehhecoaaGreatDoor
open Go.RowKit
set_option linter.unusedVariables false
set_option linter.unusedSimpArgs false
/-- nothing of the memory that was there has changed but block pb -/
structure But (w w' : World) (pb : Nat) : Prop where
  os : w'.os = w.os
  tape : w'.tape = w.tape
  output : w'.output = w.output
  size : w.heap.size ≤ w'.heap.size
  block : ∀ k : Nat, k < w.heap.size → k ≠ pb → w'.heap[k]? = w.heap[k]?
theorem cut_le (w : World) : (Question.appendCap 1 0 171).cut (w.tape w.drawn (Question.appendCap 1 0 171)) ≤ maxLen := by
  show 1 + _ % (2 ^ 63 - 1) ≤ 2 ^ 63 - 1
  have := Nat.mod_lt (w.tape w.drawn (Question.appendCap 1 0 171)) (show 0 < 2 ^ 63 - 1 by decide)
  omega
/-- a row of one command, in a new block -/
theorem row_one {w : World} {i : Int} {cap : Nat} (h1 : 1 ≤ cap) (h2 : cap ≤ maxLen) (o : Obj) : RowAt ((w.alloc o).alloc (.cells (#[.int .i64 i, .int .i64 0, .int .i64 0, .int .i64 0, .int .i64 0] ++ Builtin.zeroCells #[.int .i64 0, .int .i64 0, .int .i64 0, .int .i64 0, .int .i64 0] (cap - 1)) 171)).drew 171 5 (.slice (some ⟨w.heap.size + 1, 0, none⟩) 1 cap) 1 (rcCells [⟨i, 0, 0, 0, 0⟩]) := by
  refine ⟨by simp [rcCells, RC.cells], .inr ⟨w.heap.size + 1, cap, #[.int .i64 i, .int .i64 0, .int .i64 0, .int .i64 0, .int .i64 0] ++ Builtin.zeroCells #[.int .i64 0, .int .i64 0, .int .i64 0, .int .i64 0, .int .i64 0] (cap - 1), rfl, Nat.zero_le _, ?_, h1, h2, ?_, ?_⟩⟩
  · show ((w.heap.push o).push _)[w.heap.size + 1]? = _
    rw [Array.getElem?_push, if_pos (by rw [Array.size_push])]
  · simp only [Array.size_append, List.size_toArray, List.length_cons, List.length_nil, size_zeroCells]
    omega
  · simp [rcCells, RC.cells]
section
variable {w : World} {pb : Nat}
set_option maxHeartbeats 2000000 in
set_option maxRecDepth 20000 in
theorem handOver_not {x0 x1 x2 x4 : Value} (hp : BlkAt w pb [x0, x1, x2, .slice none 0 0, x4, .bool false] 184) :
    Calls Pz.prog 182 #[.pointer (some ⟨pb, 0, none⟩)] w fun e w' => e = .returned (.slice none 0 0) ∧ w' = (w.setCell ⟨pb, 5, none⟩ (.bool false)).setCell ⟨pb, 3, none⟩ (.slice none 0 0) := by
  have h0 : w.cell? ⟨pb, 0, none⟩ = some x0 := hp.cell rfl
  have h3 : w.cell? ⟨pb, 3, none⟩ = some (.slice none 0 0) := hp.cell rfl
  have h5 : w.cell? ⟨pb, 5, none⟩ = some (.bool false) := hp.cell rfl
  have f3 := hp.free 3
  have f5 := hp.free 5
  clear hp
  go_enter Pz.func182, Tryz.ntmps182
  go_wp2
  go_ret
  exact ⟨rfl, rfl⟩
set_option maxHeartbeats 2000000 in
set_option maxRecDepth 20000 in
theorem handOver_leaving {i : Int} {x1 x2 x4 : Value} (hp : BlkAt w pb [.int .i64 i, x1, x2, .slice none 0 0, x4, .bool true] 184) :
    Calls Pz.prog 182 #[.pointer (some ⟨pb, 0, none⟩)] w fun e w' => ∃ v, e = .returned v ∧ RowAt w' 171 5 v 1 (rcCells [⟨i, 0, 0, 0, 0⟩]) ∧ v.ownBlock = some (w.heap.size + 1) ∧ BlkAt w' pb [.int .i64 i, x1, x2, .slice none 0 0, x4, .bool false] 184 ∧ But w w' pb := by
  have h0 : w.cell? ⟨pb, 0, none⟩ = some (.int .i64 i) := hp.cell rfl
  have h3 : w.cell? ⟨pb, 3, none⟩ = some (.slice none 0 0) := hp.cell rfl
  have h5 : w.cell? ⟨pb, 5, none⟩ = some (.bool true) := hp.cell rfl
  have f3 := hp.free 3
  have f5 := hp.free 5
  have hl := hp.lt
  have HP := (show Hid _ from hp)
  have hcut : 1 ≤ (Question.appendCap 1 0 171).cut (w.tape w.drawn (Question.appendCap 1 0 171)) := Nat.le_add_right 1 _
  clear hp
  go_enter Pz.func182, Tryz.ntmps182
  go_wp2
  go_ret
  have hp0 : BlkAt w pb [.int .i64 i, x1, x2, .slice none 0 0, x4, .bool true] 184 := HP.out
  have hq := (hp0.set 5 (.bool false)).set 3 (.slice none 0 0)
  have hrow := row_one (w := (w.setCell ⟨pb, 5, none⟩ (.bool false)).setCell ⟨pb, 3, none⟩ (.slice none 0 0)) (i := i) hcut (cut_le w) (.cells #[.int .i64 i, .int .i64 0, .int .i64 0, .int .i64 0, .int .i64 0] 171)
  rw [show ((w.setCell ⟨pb, 5, none⟩ (.bool false)).setCell ⟨pb, 3, none⟩ (.slice none 0 0)).heap.size = w.heap.size by simp] at hrow
  refine ⟨_, rfl, hrow, rfl, ?_, ?_⟩
  · exact ((hq.alloc _).alloc _).same rfl
  · refine ⟨rfl, rfl, rfl, ?_, fun k hk hne => ?_⟩
    · show _ ≤ ((World.heap _).push _).size
      rw [Array.size_push]
      show _ ≤ ((World.heap _).push _).size + 1
      rw [Array.size_push]
      simp
      omega
    · show (((World.heap _).push _).push _)[k]? = _
      rw [Array.getElem?_push, if_neg (by rw [Array.size_push]; simp; omega), Array.getElem?_push, if_neg (by simp; omega)]
      rw [Below.heap_setCell _ _ _ _ hne, Below.heap_setCell _ _ _ _ hne]
end
end Go.Proofs.YtdianedehhecoaaGreatDoor

/- seal of a match of two, one of whom leaves, and for whom nothing waits. -/
namespace Go.Proofs.YtdianedehhecoaaGreatDoor
open Go.RowKit
set_option linter.unusedVariables false
set_option linter.unusedSimpArgs false
/-- nothing of the memory that was there has changed but two blocks -/
structure But2 (w w' : World) (a b : Nat) : Prop where
  os : w'.os = w.os
  tape : w'.tape = w.tape
  output : w'.output = w.output
  size : w.heap.size ≤ w'.heap.size
  block : ∀ k : Nat, k < w.heap.size → k ≠ a → k ≠ b → w'.heap[k]? = w.heap[k]?
theorem But.alloc {w w' : World} {pb : Nat} (h : But w w' pb) (o : Obj) : But w (w'.alloc o).drew pb := by
  refine ⟨h.os, h.tape, h.output, ?_, fun k hk hne => ?_⟩
  · show _ ≤ (w'.heap.push o).size
    rw [Array.size_push]
    have := h.size
    omega
  · show (w'.heap.push o)[k]? = _
    rw [Array.getElem?_push, if_neg (by have := h.size; omega)]
    exact h.block k hk hne
theorem But.two {w w' : World} {a b i j : Nat} {u v : Value} (h : But w w' a) : But2 w ((w'.setCell ⟨b, i, none⟩ u).setCell ⟨b, j, none⟩ v) a b := by
  refine ⟨h.os, h.tape, h.output, by simp; exact h.size, fun k hk h1 h2 => ?_⟩
  rw [Below.heap_setCell _ _ _ _ h2, Below.heap_setCell _ _ _ _ h2]
  exact h.block k hk h1
/-- a row of one command, in a new block -/
theorem row_one1 {w : World} {i : Int} {cap : Nat} (h1 : 1 ≤ cap) (h2 : cap ≤ maxLen) : RowAt (w.alloc (.cells (#[.int .i64 i, .int .i64 0, .int .i64 0, .int .i64 0, .int .i64 0] ++ Builtin.zeroCells #[.int .i64 0, .int .i64 0, .int .i64 0, .int .i64 0, .int .i64 0] (cap - 1)) 171)).drew 171 5 (.slice (some ⟨w.heap.size, 0, none⟩) 1 cap) 1 (rcCells [⟨i, 0, 0, 0, 0⟩]) := by
  refine ⟨by simp [rcCells, RC.cells], .inr ⟨w.heap.size, cap, #[.int .i64 i, .int .i64 0, .int .i64 0, .int .i64 0, .int .i64 0] ++ Builtin.zeroCells #[.int .i64 0, .int .i64 0, .int .i64 0, .int .i64 0, .int .i64 0] (cap - 1), rfl, Nat.zero_le _, ?_, h1, h2, ?_, ?_⟩⟩
  · show (w.heap.push _)[w.heap.size]? = _
    rw [Array.getElem?_push, if_pos rfl]
  · simp only [Array.size_append, List.size_toArray, List.length_cons, List.length_nil, size_zeroCells]
    omega
  · simp [rcCells, RC.cells]
section
variable {w : World} {mb tb p0 p1 : Nat}
set_option maxHeartbeats 4000000 in
set_option maxRecDepth 20000 in
theorem seal_first {n0 n1 t0 t1 g0 g1 : Value} (h4 : w.cell? ⟨mb, 4, none⟩ = some (.slice (some ⟨tb, 0, none⟩) 2 2)) (hs : BlkAt w tb [.pointer (some ⟨p0, 0, none⟩), .pointer (some ⟨p1, 0, none⟩)] 182)
    (hp0 : BlkAt w p0 [.int .i64 0, n0, t0, .slice none 0 0, g0, .bool true] 184) (hp1 : BlkAt w p1 [.int .i64 1, n1, t1, .slice none 0 0, g1, .bool false] 184) (d1 : p0 ≠ p1) (d2 : tb ≠ p0) (d3 : tb ≠ p1) (d4 : mb ≠ p0) (d5 : mb ≠ p1) :
    Calls Pz.prog 124 #[.pointer (some ⟨mb, 0, none⟩)] w fun e w' => ∃ v, e = .returned v ∧ RowAt w' 171 5 v 1 (rcCells [⟨0, 0, 0, 0, 0⟩]) ∧ (∃ k, v.ownBlock = some k ∧ w.heap.size ≤ k) ∧
      BlkAt w' p0 [.int .i64 0, n0, t0, .slice none 0 0, g0, .bool false] 184 ∧ BlkAt w' p1 [.int .i64 1, n1, t1, .slice none 0 0, g1, .bool false] 184 ∧ But2 w w' p0 p1 := by
  have s0 : w.cell? ⟨tb, 0, none⟩ = some (.pointer (some ⟨p0, 0, none⟩)) := hs.cell rfl
  have HS := (show Hid _ from hs)
  have HP0 := (show Hid _ from hp0)
  have HP1 := (show Hid _ from hp1)
  have l0 := hp0.lt
  have l1 := hp1.lt
  have lt := hs.lt
  clear hs hp0 hp1
  go_enter Pz.func124, Tryz.ntmps124
  go_wp2
  go_loopw [3, 11] (fun tv iv wr => (iv = .int .i64 0 ∧ tv = .slice none 0 0 ∧ wr = w) ∨
      (iv = .int .i64 1 ∧ RowAt wr 171 5 tv 1 (rcCells [⟨0, 0, 0, 0, 0⟩]) ∧ (∃ k, tv.ownBlock = some k ∧ w.heap.size ≤ k) ∧ BlkAt wr p0 [.int .i64 0, n0, t0, .slice none 0 0, g0, .bool false] 184 ∧ But w wr p0) ∨
      (iv = .int .i64 2 ∧ RowAt wr 171 5 tv 1 (rcCells [⟨0, 0, 0, 0, 0⟩]) ∧ (∃ k, tv.ownBlock = some k ∧ w.heap.size ≤ k) ∧ BlkAt wr p0 [.int .i64 0, n0, t0, .slice none 0 0, g0, .bool false] 184 ∧ BlkAt wr p1 [.int .i64 1, n1, t1, .slice none 0 0, g1, .bool false] 184 ∧ But2 w wr p0 p1)) (fun _ iv _ => 2 - (intOf iv).toNat)
  case atStart => exact .inl ⟨rfl, rfl, rfl⟩
  case round =>
    rcases hrel with ⟨rfl, rfl, rfl⟩ | ⟨rfl, hr, hk, hb, hB⟩ | ⟨rfl, hr, hk, hb0, hb1, hB⟩
    · go_wp2_with (go_at_call 182; refine Calls.mono (handOver_leaving (show BlkAt _ p0 [.int .i64 0, n0, t0, .slice none 0 0, g0, .bool true] 184 from HP0.out)) ?_; rintro e w1 ⟨v, rfl, hrow, hob, hpb, hbut⟩; obtain ⟨g, cap, rfl, -, hcap, hcm, hcells, -⟩ := hrow.form (by omega); have c0 := hcells 0 _ rfl; have c1 := hcells 1 _ rfl; have c2 := hcells 2 _ rfl; have c3 := hcells 3 _ rfl; have c4 := hcells 4 _ rfl; clear hcells hrow hob)
      exact ⟨.inr (.inl ⟨rfl, row_one1 (Nat.le_add_right 1 _) (cut_le w1), ⟨_, rfl, hbut.size⟩, (BlkAt.alloc (show BlkAt w1 p0 [.int .i64 0, n0, t0, .slice none 0 0, g0, .bool false] 184 from hpb) _).same rfl, hbut.alloc _⟩), by simp [intOf]⟩
    · have s1 : wr.cell? ⟨tb, 1, none⟩ = some (.pointer (some ⟨p1, 0, none⟩)) := (BlkAt.same (show BlkAt w tb [.pointer (some ⟨p0, 0, none⟩), .pointer (some ⟨p1, 0, none⟩)] 182 from HS.out) (hB.block _ lt d2)).cell rfl
      have hq := BlkAt.same (show BlkAt w p1 [.int .i64 1, n1, t1, .slice none 0 0, g1, .bool false] 184 from HP1.out) (hB.block _ l1 (Ne.symm d1))
      have HQ := (show Hid _ from handOver_not hq)
      obtain ⟨kk, hkk, hkk2⟩ := hk
      have hne : ∀ c : Nat, c < w.heap.size → Value.ownBlock _ ≠ some c := fun c hc => by
        rw [hkk]
        intro e
        cases e
        omega
      have hr2 := (hr.other (i := 5) (u := .bool false) (hne p1 l1)).other (i := 3) (u := .slice none 0 0) (hne p1 l1)
      have HR2 := (show Hid _ from hr2)
      have HQ2 := (show Hid _ from (hq.set 5 (.bool false)).set 3 (.slice none 0 0))
      have HB0 := (show Hid _ from (BlkAt.other (i := 3) (v := .slice none 0 0) (BlkAt.other (i := 5) (v := .bool false) hb d1) d1))
      have HB2 := (show Hid _ from (hB.two (b := p1) (i := 5) (j := 3) (u := .bool false) (v := .slice none 0 0)))
      obtain ⟨g, cap, rfl, -, hcap, hcm, hcells, -⟩ := hr.form (by omega)
      clear hr hr2 hq hcells hb
      go_wp2_with (go_at_call 182; refine Calls.mono HQ.out ?_; rintro e w2 ⟨rfl, hw2⟩; rw [hw2]; clear hw2)
      exact ⟨.inr (.inr ⟨rfl, HR2.out, ⟨kk, hkk, hkk2⟩, HB0.out, HQ2.out, HB2.out⟩), by simp [intOf]⟩
    · go_wp2
      go_ret
      exact ⟨_, rfl, hr, hk, hb0, hb1, hB⟩
theorem But2.of_first {w w1 : World} {a b i j : Nat} {u v : Value} (hab : a < w.heap.size) (h : But ((w.setCell ⟨a, i, none⟩ u).setCell ⟨a, j, none⟩ v) w1 b) : But2 w w1 a b := by
  refine ⟨h.os, h.tape, h.output, by have := h.size; simpa using this, fun k hk h1 h2 => ?_⟩
  rw [h.block k (by simpa using hk) h2, Below.heap_setCell _ _ _ _ h1, Below.heap_setCell _ _ _ _ h1]
set_option maxHeartbeats 4000000 in
set_option maxRecDepth 20000 in
theorem seal_second {n0 n1 t0 t1 g0 g1 : Value} (h4 : w.cell? ⟨mb, 4, none⟩ = some (.slice (some ⟨tb, 0, none⟩) 2 2)) (hs : BlkAt w tb [.pointer (some ⟨p0, 0, none⟩), .pointer (some ⟨p1, 0, none⟩)] 182)
    (hp0 : BlkAt w p0 [.int .i64 0, n0, t0, .slice none 0 0, g0, .bool false] 184) (hp1 : BlkAt w p1 [.int .i64 1, n1, t1, .slice none 0 0, g1, .bool true] 184) (d1 : p0 ≠ p1) (d2 : tb ≠ p0) (d3 : tb ≠ p1) (d4 : mb ≠ p0) (d5 : mb ≠ p1) :
    Calls Pz.prog 124 #[.pointer (some ⟨mb, 0, none⟩)] w fun e w' => ∃ v, e = .returned v ∧ RowAt w' 171 5 v 1 (rcCells [⟨1, 0, 0, 0, 0⟩]) ∧ (∃ k, v.ownBlock = some k ∧ w.heap.size ≤ k) ∧
      BlkAt w' p0 [.int .i64 0, n0, t0, .slice none 0 0, g0, .bool false] 184 ∧ BlkAt w' p1 [.int .i64 1, n1, t1, .slice none 0 0, g1, .bool false] 184 ∧ But2 w w' p0 p1 := by
  have s0 : w.cell? ⟨tb, 0, none⟩ = some (.pointer (some ⟨p0, 0, none⟩)) := hs.cell rfl
  have HQ := (show Hid _ from handOver_not hp0)
  have HS2 := (show Hid _ from (hs.other (i := 5) (v := .bool false) d2).other (i := 3) (v := .slice none 0 0) d2)
  have HQ0 := (show Hid _ from (hp0.set 5 (.bool false)).set 3 (.slice none 0 0))
  have HP1 := (show Hid _ from (hp1.other (i := 5) (v := .bool false) (Ne.symm d1)).other (i := 3) (v := .slice none 0 0) (Ne.symm d1))
  have l0 := hp0.lt
  have l1 := hp1.lt
  have lt := hs.lt
  clear hs hp0 hp1
  go_enter Pz.func124, Tryz.ntmps124
  go_wp2
  go_loopw [3, 11] (fun tv iv wr => (iv = .int .i64 0 ∧ tv = .slice none 0 0 ∧ wr = w) ∨
      (iv = .int .i64 1 ∧ tv = .slice none 0 0 ∧ wr = (w.setCell ⟨p0, 5, none⟩ (.bool false)).setCell ⟨p0, 3, none⟩ (.slice none 0 0)) ∨
      (iv = .int .i64 2 ∧ RowAt wr 171 5 tv 1 (rcCells [⟨1, 0, 0, 0, 0⟩]) ∧ (∃ k, tv.ownBlock = some k ∧ w.heap.size ≤ k) ∧ BlkAt wr p0 [.int .i64 0, n0, t0, .slice none 0 0, g0, .bool false] 184 ∧ BlkAt wr p1 [.int .i64 1, n1, t1, .slice none 0 0, g1, .bool false] 184 ∧ But2 w wr p0 p1)) (fun _ iv _ => 2 - (intOf iv).toNat)
  case atStart => exact .inl ⟨rfl, rfl, rfl⟩
  case round =>
    rcases hrel with ⟨rfl, rfl, rfl⟩ | ⟨rfl, rfl, hwr⟩ | ⟨rfl, hr, hk, hb0, hb1, hB⟩
    · go_wp2_with (go_at_call 182; refine Calls.mono HQ.out ?_; rintro e w2 ⟨rfl, hw2⟩; rw [hw2]; clear hw2)
      first | exact ⟨.inr (.inl ⟨rfl, rfl, rfl⟩), by simp [intOf]⟩ | exact ⟨.inr (.inl ⟨rfl, rfl, trivial⟩), by simp [intOf]⟩ | (refine ⟨.inr (.inl ?_), by simp [intOf]⟩; simp)
    · have s1 : wr.cell? ⟨tb, 1, none⟩ = some (.pointer (some ⟨p1, 0, none⟩)) := by
        rw [hwr]
        exact BlkAt.cell (show BlkAt _ tb [.pointer (some ⟨p0, 0, none⟩), .pointer (some ⟨p1, 0, none⟩)] 182 from HS2.out) rfl
      have hq : BlkAt wr p1 [.int .i64 1, n1, t1, .slice none 0 0, g1, .bool true] 184 := by
        rw [hwr]
        exact HP1.out
      have HL := (show Hid _ from handOver_leaving hq)
      have HW : Hid (wr = (w.setCell ⟨p0, 5, none⟩ (.bool false)).setCell ⟨p0, 3, none⟩ (.slice none 0 0)) := hwr
      clear hq hwr
      go_wp2_with (go_at_call 182; refine Calls.mono HL.out ?_; rintro e w1 ⟨v, rfl, hrow, hob, hpb, hbut⟩; obtain ⟨g, cap, rfl, -, hcap, hcm, hcells, -⟩ := hrow.form (by omega); have c0 := hcells 0 _ rfl; have c1 := hcells 1 _ rfl; have c2 := hcells 2 _ rfl; have c3 := hcells 3 _ rfl; have c4 := hcells 4 _ rfl; clear hcells hrow hob)
      have hwr := HW.out
      have hsz : wr.heap.size = w.heap.size := by rw [hwr]; simp
      have hp0' : BlkAt w1 p0 [.int .i64 0, n0, t0, .slice none 0 0, g0, .bool false] 184 := BlkAt.same (w := wr) (by rw [hwr]; exact HQ0.out) (hbut.block _ (by omega) d1)
      have hB2 : ∀ o : Obj, But2 w (w1.alloc o).drew p0 p1 := fun o => But2.of_first l0 (by rw [hwr] at hbut; exact hbut.alloc o)
      exact ⟨.inr (.inr ⟨rfl, row_one1 (Nat.le_add_right 1 _) (cut_le w1), ⟨_, rfl, Nat.le_trans (Nat.le_of_eq hsz.symm) hbut.size⟩, (hp0'.alloc _).same rfl, (BlkAt.alloc (show BlkAt w1 p1 [.int .i64 1, n1, t1, .slice none 0 0, g1, .bool false] 184 from hpb) _).same rfl, hB2 _⟩), by simp [intOf]⟩
    · go_wp2
      go_ret
      exact ⟨_, rfl, hr, hk, hb0, hb1, hB⟩
end
end Go.Proofs.YtdianedehhecoaaGreatDoor

/- tell, where one watches who has seen all. -/
namespace Go.Proofs.YtdianedehhecoaaGreatDoor
open Go.RowKit
set_option linter.unusedVariables false
set_option linter.unusedSimpArgs false
theorem cutS_le (w : World) : (Question.appendCap 1 0 9).cut (w.tape w.drawn (Question.appendCap 1 0 9)) ≤ maxLen := by
  show 1 + _ % (2 ^ 63 - 1) ≤ 2 ^ 63 - 1
  have := Nat.mod_lt (w.tape w.drawn (Question.appendCap 1 0 9)) (show 0 < 2 ^ 63 - 1 by decide)
  omega
theorem row_text {w : World} {t : ByteArray} {cap : Nat} (h1 : 1 ≤ cap) (h2 : cap ≤ maxLen) (o : Obj) : RowAt ((w.alloc o).alloc (.cells (#[.string t] ++ Builtin.zeroCells #[.string ⟨#[]⟩] (cap - 1)) 9)).drew 9 1 (.slice (some ⟨w.heap.size + 1, 0, none⟩) 1 cap) 1 [.string t] := by
  refine ⟨rfl, .inr ⟨w.heap.size + 1, cap, #[.string t] ++ Builtin.zeroCells #[.string ⟨#[]⟩] (cap - 1), rfl, Nat.zero_le _, ?_, h1, h2, ?_, ?_⟩⟩
  · show ((w.heap.push o).push _)[w.heap.size + 1]? = _
    rw [Array.getElem?_push, if_pos (by rw [Array.size_push])]
  · simp only [Array.size_append, List.size_toArray, List.length_cons, List.length_nil, size_zeroCells]
    omega
  · simp
section
variable {w : World} {mb wl wt c : Nat}
set_option maxHeartbeats 2000000 in
set_option maxRecDepth 20000 in
theorem tell_one {x0 : Value} (t : ByteArray) (h6 : w.cell? ⟨mb, 6, none⟩ = some (.slice (some ⟨wl, 0, none⟩) 1 c)) (hl : w.cell? ⟨wl, 0, none⟩ = some (.pointer (some ⟨wt, 0, none⟩))) (ht : BlkAt w wt [x0, .slice none 0 0] 187) :
    Calls Pz.prog 125 #[.pointer (some ⟨mb, 0, none⟩), .string t] w fun e w' => e = .returned (.tuple #[]) ∧ ∃ v, RowAt w' 9 1 v 1 [.string t] ∧ v.ownBlock = some (w.heap.size + 1) ∧ BlkAt w' wt [x0, v] 187 ∧ But w w' wt := by
  have u1 : w.cell? ⟨wt, 1, none⟩ = some (.slice none 0 0) := ht.cell rfl
  have f1 := ht.free 1
  have hlt := ht.lt
  have HT := (show Hid _ from ht)
  clear ht
  go_enter Pz.func125, Tryz.ntmps125
  go_wp2
  go_loopw [11] (fun iv wr => (iv = .int .i64 0 ∧ wr = w) ∨ (iv = .int .i64 1 ∧ ∃ v, RowAt wr 9 1 v 1 [.string t] ∧ v.ownBlock = some (w.heap.size + 1) ∧ BlkAt wr wt [x0, v] 187 ∧ But w wr wt)) (fun iv _ => 1 - (intOf iv).toNat)
  case atStart => exact .inl ⟨rfl, rfl⟩
  case round =>
    rcases hrel with ⟨rfl, rfl⟩ | ⟨rfl, hR⟩
    · go_wp2
      generalize hcc : (Question.appendCap 1 0 9).cut (wr.tape wr.drawn (Question.appendCap 1 0 9)) = cp
      have hc1 : 1 ≤ cp := by rw [← hcc]; exact Nat.le_add_right 1 _
      have hc2 : cp ≤ maxLen := by rw [← hcc]; exact cutS_le wr
      have ht0 : BlkAt wr wt [x0, .slice none 0 0] 187 := HT.out
      have hsz : (wr.setCell ⟨wt, 1, none⟩ (.slice (some ⟨wr.heap.size + 1, 0, none⟩) 1 cp)).heap.size = wr.heap.size := by simp
      have hr := row_text (w := wr.setCell ⟨wt, 1, none⟩ (.slice (some ⟨wr.heap.size + 1, 0, none⟩) 1 cp)) (t := t) hc1 hc2 (.cells #[.string t] 9)
      rw [hsz] at hr
      have hb0 : But wr (wr.setCell ⟨wt, 1, none⟩ (.slice (some ⟨wr.heap.size + 1, 0, none⟩) 1 cp)) wt := ⟨rfl, rfl, rfl, by rw [hsz]; exact Nat.le_refl _, fun k hk hne => Below.heap_setCell _ _ _ _ hne⟩
      have hb1 := hb0.alloc (.cells #[.string t] 9)
      refine ⟨.inr ⟨rfl, _, hr, rfl, (((ht0.set 1 _).alloc _).alloc _).same rfl, ?_⟩, by simp [intOf]⟩
      have h2 := hb1.alloc (.cells ((#[Value.string t] : Array Value) ++ Builtin.zeroCells #[Value.string ⟨#[]⟩] (cp - 1)) 9)
      exact ⟨rfl, rfl, rfl, h2.size, h2.block⟩
    · go_wp2
      go_end0
      exact ⟨rfl, hR⟩
end
end Go.Proofs.YtdianedehhecoaaGreatDoor
