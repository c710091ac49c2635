/- The document's answer's Hash: the sixteen digits of the FNV-1a hash of its text. -/
import Derived.Test.YtdianedehhecoaaDoorRefLeaf
import Derived.Test.YtdianedehhecoaaDoorBase
namespace Go.Proofs.YtdianedehhecoaaDoor
open Go.RowKit
set_option linter.unusedVariables false
set_option linter.unusedSimpArgs false

theorem i64_xor_nat (a b : Nat) (ha : a < 65536) (hb : b < 65536) : bits .xor .i64 (a : Int) (b : Int) = ((a ^^^ b : Nat) : Int) ∧ ((a ^^^ b : Nat) : Int) < 65536 := by
  have hx : a ^^^ b < 2 ^ 16 := Nat.xor_lt_two_pow (by omega) (by omega)
  refine ⟨?_, by omega⟩
  show IntKind.i64.wrap ((BitVec.ofInt 64 (a : Int) ^^^ BitVec.ofInt 64 (b : Int)).toNat : Int) = _
  rw [BitVec.toNat_xor, ofInt_u64 a (by omega), ofInt_u64 b (by omega)]
  simp [IntKind.wrap, IntKind.bits, IntKind.signed]
  omega

theorem xor_limb (h0 : Int) (c : UInt8) (a0 : 0 ≤ h0) (b0 : h0 < 65536) :
    bits BinOp.xor IntKind.i64 h0 (wrap64 ↑c.toNat) = ((h0.toNat ^^^ c.toNat : Nat) : Int) ∧ 0 ≤ ((h0.toNat ^^^ c.toNat : Nat) : Int) ∧ ((h0.toNat ^^^ c.toNat : Nat) : Int) < 65536 := by
  obtain ⟨n, rfl⟩ := Int.eq_ofNat_of_zero_le a0
  have hc := c.toNat_lt
  rw [Go.IntWalk.wrap64_in _ (by omega), Int.toNat_natCast]
  have := i64_xor_nat n c.toNat (by omega) (by omega)
  exact ⟨this.1, by omega, this.2⟩

/-- the four cells of block b hold the limbs of H, and may be written -/
def HoldsLm (w : World) (b H : Nat) : Prop :=
  w.cell? ⟨b, 0, none⟩ = some (.int .i64 (lm H 0)) ∧ w.cell? ⟨b, 1, none⟩ = some (.int .i64 (lm H 1)) ∧ w.cell? ⟨b, 2, none⟩ = some (.int .i64 (lm H 2)) ∧ w.cell? ⟨b, 3, none⟩ = some (.int .i64 (lm H 3)) ∧
  w.frozen? ⟨b, 0, none⟩ = false ∧ w.frozen? ⟨b, 1, none⟩ = false ∧ w.frozen? ⟨b, 2, none⟩ = false ∧ w.frozen? ⟨b, 3, none⟩ = false

theorem HoldsLm.drewN {w : World} {b H : Nat} (h : HoldsLm w b H) (n : Nat) : HoldsLm (w.drewN n) b H := by
  unfold HoldsLm at *
  simpa [go_sem] using h

theorem lm_first : lm fnvFirst 0 = 8997 ∧ lm fnvFirst 1 = 33826 ∧ lm fnvFirst 2 = 40164 ∧ lm fnvFirst 3 = 52210 := by
  refine ⟨by decide, by decide, by decide, by decide⟩

set_option maxHeartbeats 4000000 in
set_option maxRecDepth 100000 in
theorem hash_any (s : ByteArray) (w : World) (hs : s.size ≤ maxLen) :
    Calls Tryd.prog 20 #[.string s] w fun e w' => e = .returned (.string (hash16 s)) ∧ Below w.heap.size w w' := by
  unfold maxLen at hs
  go_enter Tryd.func20, Tryd.ntmps20
  go_wp2
  go_loopw [4] (fun i wr => ∃ k : Nat, k ≤ s.size ∧ i = .int .i64 k ∧ HoldsLm wr w.heap.size (fnv (s.data.toList.take k)) ∧ w.heap.size < wr.heap.size ∧ Below w.heap.size w wr)
    (fun i _ => s.size - (intOf i).toNat)
  case atStart =>
    refine ⟨0, Nat.zero_le _, rfl, ?_, by simp, (Below.refl _ _).alloc (Nat.le_refl _) _⟩
    have hl := lm_first
    have e : fnv (List.take 0 s.data.toList) = fnvFirst := rfl
    rw [e]
    unfold HoldsLm
    rw [hl.1, hl.2.1, hl.2.2.1, hl.2.2.2]
    simp [go_sem]
  case round =>
    obtain ⟨k, hk, rfl, hh, hz, hbel⟩ := hrel
    obtain ⟨a0, b0⟩ := lm_range (fnv (s.data.toList.take k)) 0
    obtain ⟨a1, b1⟩ := lm_range (fnv (s.data.toList.take k)) 1
    obtain ⟨a2, b2⟩ := lm_range (fnv (s.data.toList.take k)) 2
    obtain ⟨a3, b3⟩ := lm_range (fnv (s.data.toList.take k)) 3
    by_cases hlt : k < s.size
    · have hst := lm_step (fnv (s.data.toList.take k)) s[k].toNat (fnv_lt _) s[k].toNat_lt _ rfl
      have hxl := xor_limb (lm (fnv (s.data.toList.take k)) 0) s[k] a0 b0
      rw [← fnv_snoc, ← take_snoc s k hlt] at hst
      unfold HoldsLm at hh
      generalize hH' : fnv (List.take (k + 1) s.data.toList) = H' at hst
      have HH' : Hid (fnv (List.take (k + 1) s.data.toList) = H') := hH'
      clear hH'
      generalize lm (fnv (List.take k s.data.toList)) 1 = h1 at *
      generalize lm (fnv (List.take k s.data.toList)) 2 = h2 at *
      generalize lm (fnv (List.take k s.data.toList)) 3 = h3 at *
      generalize lm (fnv (List.take k s.data.toList)) 0 = h0 at *
      obtain ⟨c0, c1, c2, c3, f0, f1, f2, f3⟩ := hh
      generalize ((h0.toNat ^^^ s[k].toNat : Nat) : Int) = x0 at *
      obtain ⟨hx, hx0, hx1⟩ := hxl
      have Hst : Hid (435 * x0 % 65536 = lm H' 0 ∧ (435 * x0 / 65536 + 435 * h1) % 65536 = lm H' 1 ∧ ((435 * x0 / 65536 + 435 * h1) / 65536 + 435 * h2 + 256 * x0) % 65536 = lm H' 2 ∧
        (((435 * x0 / 65536 + 435 * h1) / 65536 + 435 * h2 + 256 * x0) / 65536 + 435 * h3 + 256 * h1) % 65536 = lm H' 3) := hst
      clear hst
      go_wp2
      go_region
      go_wp2
      refine wp_loop_rounds 5 ?_
      rw [rounds_succ]; go_wp2; go_region; go_wp2
      rw [rounds_succ]; go_wp2; go_region; go_wp2
      rw [rounds_succ]; go_wp2; go_region; go_wp2; go_region; go_wp2
      rw [rounds_succ]; go_wp2; go_region; go_wp2; go_region; go_wp2
      rw [rounds_succ]; go_wp2
      go_roundw
      case rel =>
        go_light
        refine ⟨k + 1, by omega, by go_num, ?_, ?_, ?_⟩
        · rw [HH'.out]
          obtain ⟨e0, e1, e2, e3⟩ := Hst.out
          unfold HoldsLm
          rw [← e0, ← e1, ← e2, ← e3]
          clear e0 e1 e2 e3 Hst HH'
          go_simp
        · simp; omega
        · (repeat first | with_reducible exact hbel | with_reducible refine Below.drew ?_ | with_reducible refine bel_set ?_ (Nat.le_refl _) | with_reducible refine bel_alloc ?_ (by simp; omega))
      case measure => simp [intOf]; omega
    · have hkk : k = s.size := by omega
      have hT : s.data.toList.take k = s.data.toList := List.take_of_length_le (by simp; omega)
      rw [hT] at hh a0 b0 a1 b1 a2 b2 a3 b3
      have HF : Hid (hash16 s = hexUpTo (fnv s.data.toList) 4) := rfl
      generalize fnv s.data.toList = H at *
      clear hkk hT
      go_wp2
      go_loopw [8, 9] (fun t n wq => ∃ j : Nat, j ≤ 4 ∧ n = .int .i64 (3 - j) ∧ t = .string (hexUpTo H j) ∧ HoldsLm wq w.heap.size H ∧ Below w.heap.size w wq) (fun _ n _ => (intOf n + 1).toNat)
      case atStart => exact ⟨0, by omega, rfl, rfl, hh, hbel⟩
      case round =>
        clear hh hbel
        obtain ⟨j, hj, rfl, rfl, hh, hbel⟩ := hrel
        have hT2 := hexUpTo_size H j
        by_cases hj4 : j < 4
        · have hT3 : (hexUpTo H j).size ≤ 16 := by omega
          have h4 := fun h : Int => app_hex4 (hexUpTo H j) h
          have h5 : hexUpTo H (j + 1) = hexUpTo H j ++ hex4 (lm H (3 - j)) := rfl
          have H4 : Hid (∀ h : Int, hexUpTo H j ++ hexd (h / 4096 % 16) ++ hexd (h / 256 % 16) ++ hexd (h / 16 % 16) ++ hexd (h % 16) = hexUpTo H j ++ hex4 h) := h4
          have H5 : Hid (hexUpTo H (j + 1) = hexUpTo H j ++ hex4 (lm H (3 - j))) := h5
          clear h4 h5 hT2
          generalize hexUpTo H j = T at *
          have Hh : Hid (HoldsLm wr w.heap.size H) := hh
          obtain ⟨c0, c1, c2, c3, -, -, -, -⟩ := hh
          have hjc : j = 0 ∨ j = 1 ∨ j = 2 ∨ j = 3 := by omega
          rcases hjc with rfl | rfl | rfl | rfl
          · have H6 : Hid (hexUpTo H 1 = T ++ hex4 (lm H 3)) := H5
            clear H5 hj hj4
            generalize lm H 3 = h at *
            go_wp2
            refine wp_loop_rounds 5 ?_
            rw [rounds_succ]; go_wp2; go_quiet (fail); go_wp2
            rw [rounds_succ]; go_wp2; go_quiet (fail); go_wp2
            rw [rounds_succ]; go_wp2; go_quiet (fail); go_wp2
            rw [rounds_succ]; go_wp2; go_quiet (fail); go_wp2
            rw [rounds_succ]; go_wp2
            go_roundw
            case rel =>
              go_light
              refine ⟨1, by omega, rfl, ?_, Hh.out.drewN _, bel_drewN hbel _⟩
              rw [H6.out, ← H4.out h]; rfl
            case measure => simp [intOf]
          · have H6 : Hid (hexUpTo H 2 = T ++ hex4 (lm H 2)) := H5
            clear H5 hj hj4
            generalize lm H 2 = h at *
            go_wp2
            refine wp_loop_rounds 5 ?_
            rw [rounds_succ]; go_wp2; go_quiet (fail); go_wp2
            rw [rounds_succ]; go_wp2; go_quiet (fail); go_wp2
            rw [rounds_succ]; go_wp2; go_quiet (fail); go_wp2
            rw [rounds_succ]; go_wp2; go_quiet (fail); go_wp2
            rw [rounds_succ]; go_wp2
            go_roundw
            case rel =>
              go_light
              refine ⟨2, by omega, rfl, ?_, Hh.out.drewN _, bel_drewN hbel _⟩
              rw [H6.out, ← H4.out h]; rfl
            case measure => simp [intOf]
          · have H6 : Hid (hexUpTo H 3 = T ++ hex4 (lm H 1)) := H5
            clear H5 hj hj4
            generalize lm H 1 = h at *
            go_wp2
            refine wp_loop_rounds 5 ?_
            rw [rounds_succ]; go_wp2; go_quiet (fail); go_wp2
            rw [rounds_succ]; go_wp2; go_quiet (fail); go_wp2
            rw [rounds_succ]; go_wp2; go_quiet (fail); go_wp2
            rw [rounds_succ]; go_wp2; go_quiet (fail); go_wp2
            rw [rounds_succ]; go_wp2
            go_roundw
            case rel =>
              go_light
              refine ⟨3, by omega, rfl, ?_, Hh.out.drewN _, bel_drewN hbel _⟩
              rw [H6.out, ← H4.out h]; rfl
            case measure => simp [intOf]
          · have H6 : Hid (hexUpTo H 4 = T ++ hex4 (lm H 0)) := H5
            clear H5 hj hj4
            generalize lm H 0 = h at *
            go_wp2
            refine wp_loop_rounds 5 ?_
            rw [rounds_succ]; go_wp2; go_quiet (fail); go_wp2
            rw [rounds_succ]; go_wp2; go_quiet (fail); go_wp2
            rw [rounds_succ]; go_wp2; go_quiet (fail); go_wp2
            rw [rounds_succ]; go_wp2; go_quiet (fail); go_wp2
            rw [rounds_succ]; go_wp2
            go_roundw
            case rel =>
              go_light
              refine ⟨4, by omega, rfl, ?_, Hh.out.drewN _, bel_drewN hbel _⟩
              rw [H6.out, ← H4.out h]; rfl
            case measure => simp [intOf]
        · have : j = 4 := by omega
          subst this
          go_wp2
          go_ret
          exact ⟨by rw [HF.out]; rfl, hbel⟩
end Go.Proofs.YtdianedehhecoaaDoor
