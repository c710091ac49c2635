/- Small functions of the statements without the document's answer: pick, bytes, worth. -/
import Derived.Test.YtdianedehhecoaaGreatDoorRefPure
import Derived.Test.YtdianedehhecoaaGreatDoorBase
namespace Go.Proofs.YtdianedehhecoaaGreatDoor
open Go.RowKit
set_option linter.unusedVariables false
set_option linter.unusedSimpArgs false

def pickF (c n : Int) : Int := (if c < 0 then -(c + 1) else c) % n
theorem pickF_range (c n : Int) (hn : 0 < n) : 0 ≤ pickF c n ∧ pickF c n < n := by
  unfold pickF
  exact ⟨Int.emod_nonneg _ (by omega), Int.emod_lt_of_pos _ hn⟩

set_option maxHeartbeats 1000000 in
theorem kpick_any (c n : Int) (w : World) (h0 : -9223372036854775808 ≤ c) (h1 : c ≤ 9223372036854775807) (hn : 0 < n) (hn2 : n ≤ 1099511627776) :
    Calls Tryz.prog 25 #[.int .i64 c, .int .i64 n] w fun e w' => e = .returned (.int .i64 (pickF c n)) ∧ w' = w := by
  by_cases hc : c < 0
  · have HP : Hid (pickF c n = -(c + 1) % n) := by unfold Hid pickF; rw [if_pos hc]
    have hne : n ≠ 0 := by omega
    have ht : Int.tmod (-(c + 1)) n = -(c + 1) % n := Int.tmod_eq_emod_of_nonneg (by omega)
    have hr0 : 0 ≤ -(c + 1) % n := Int.emod_nonneg _ hne
    have hr1 : -(c + 1) % n < n := Int.emod_lt_of_pos _ hn
    go_enter Tryz.func25, Tryz.ntmps25
    go_wp2
    go_ret
    exact ⟨by rw [HP.out]; rfl, rfl⟩
  · have HP : Hid (pickF c n = c % n) := by unfold Hid pickF; rw [if_neg hc]
    have hne : n ≠ 0 := by omega
    have ht : Int.tmod c n = c % n := Int.tmod_eq_emod_of_nonneg (by omega)
    have hr0 : 0 ≤ c % n := Int.emod_nonneg _ hne
    have hr1 : c % n < n := Int.emod_lt_of_pos _ hn
    go_enter Tryz.func25, Tryz.ntmps25
    go_wp2
    go_ret
    exact ⟨by rw [HP.out]; rfl, rfl⟩

/-- a command out of a raw number -/
def bytesK (p c : Int) : ByteArray := strOfNums [p, 1 + pickF c 1099511627776 % 10, 1 + pickF c 1099511627776 / 10 % 5, pickF c 1099511627776 / 50 % 8, pickF c 1099511627776 / 400 % 8]
theorem bytesK_size (p c : Int) : (bytesK p c).size = 5 := rfl
theorem kconv1 (w : World) (x : Int) :
    (convert 55 9 (.slice (some ⟨w.heap.size, 0, none⟩) 1 1)).run Tryz.prog (w.alloc (.cells #[.int .u8 x] 5)) = .ok (.string (strOfNums [x])) (w.alloc (.cells #[.int .u8 x] 5)) := by
  have h := run_convert_bytes_arg (P := Tryz.prog) (w.alloc (.cells #[.int .u8 x] 5)) 55 5 Tryz.underlying55 Tryz.underlying5 w.heap.size 0 1 1 [x] rfl (fun i hi => by
    have : i = 0 := by omega
    subst this
    simp [go_sem]) 9 Tryz.underlying9
  exact h
theorem conv5 (w : World) (a b c d e : Int) :
    (convert 55 9 (.slice (some ⟨w.heap.size, 0, none⟩) 5 5)).run Tryz.prog (w.alloc (.cells #[.int .u8 a, .int .u8 b, .int .u8 c, .int .u8 d, .int .u8 e] 5)) = .ok (.string (strOfNums [a, b, c, d, e])) (w.alloc (.cells #[.int .u8 a, .int .u8 b, .int .u8 c, .int .u8 d, .int .u8 e] 5)) := by
  have h := run_convert_bytes_arg (P := Tryz.prog) (w.alloc (.cells #[.int .u8 a, .int .u8 b, .int .u8 c, .int .u8 d, .int .u8 e] 5)) 55 5 Tryz.underlying55 Tryz.underlying5 w.heap.size 0 5 5 [a, b, c, d, e] rfl (fun i hi => by
    have : i = 0 ∨ i = 1 ∨ i = 2 ∨ i = 3 ∨ i = 4 := by omega
    rcases this with rfl | rfl | rfl | rfl | rfl <;> simp [go_sem]) 9 Tryz.underlying9
  exact h

set_option maxHeartbeats 2000000 in
theorem kbytes_any (p c : Int) (w : World) (p0 : 0 ≤ p) (p1 : p ≤ 3) (h0 : -9223372036854775808 ≤ c) (h1 : c ≤ 9223372036854775807) :
    Calls Tryz.prog 24 #[.int .i64 p, .int .i64 c] w fun e w' => e = .returned (.string (bytesK p c)) ∧ Below w.heap.size w w' := by
  have HP := (show Hid _ from kpick_any c 1099511627776 w h0 h1 (by omega) (by omega))
  obtain ⟨n0, n1⟩ := pickF_range c 1099511627776 (by omega)
  have HB : Hid (bytesK p c = strOfNums [p, 1 + pickF c 1099511627776 % 10, 1 + pickF c 1099511627776 / 10 % 5, pickF c 1099511627776 / 50 % 8, pickF c 1099511627776 / 400 % 8]) := rfl
  generalize pickF c 1099511627776 = n at *
  have kc := conv5
  have t1 : Int.tmod n 10 = n % 10 := Int.tmod_eq_emod_of_nonneg n0
  have t2 : Int.tdiv n 10 = n / 10 := Int.tdiv_eq_ediv_of_nonneg n0
  have t3 : Int.tmod (n / 10) 5 = n / 10 % 5 := Int.tmod_eq_emod_of_nonneg (by omega)
  have t4 : Int.tdiv n 50 = n / 50 := Int.tdiv_eq_ediv_of_nonneg n0
  have t5 : Int.tmod (n / 50) 8 = n / 50 % 8 := Int.tmod_eq_emod_of_nonneg (by omega)
  have t6 : Int.tdiv n 400 = n / 400 := Int.tdiv_eq_ediv_of_nonneg n0
  have t7 : Int.tmod (n / 400) 8 = n / 400 % 8 := Int.tmod_eq_emod_of_nonneg (by omega)
  clear h0 h1
  go_enter Tryz.func24, Tryz.ntmps24
  go_wp2_with (go_at_call 25; refine Calls.mono HP.out ?_; rintro e w' ⟨rfl, hx'⟩; rw [hx']; clear hx' w')
  go_ret
  exact ⟨by rw [HB.out]; rfl, (Below.refl _ _).alloc (Nat.le_refl _) _⟩

/-- what gold the first k players have by the bytes s -/
def goldB (s : ByteArray) : Nat → Int
  | 0 => 0
  | k + 1 => goldB s k + 256 * byt s (5 + 2 * k) + byt s (6 + 2 * k)
/-- and what ore lies in the first k cells, which begin at a -/
def oreB (s : ByteArray) (a : Nat) : Nat → Int
  | 0 => 0
  | k + 1 => oreB s a k + byt s (a + k)
theorem goldB_range (s : ByteArray) (k : Nat) : 0 ≤ goldB s k ∧ goldB s k ≤ 65535 * k := by
  induction k with
  | zero => simp [goldB]
  | succ k ih =>
    have h1 := byt_range s (5 + 2 * k)
    have h2 := byt_range s (6 + 2 * k)
    simp only [goldB]
    omega
theorem oreB_range (s : ByteArray) (a k : Nat) : 0 ≤ oreB s a k ∧ oreB s a k ≤ 255 * k := by
  induction k with
  | zero => simp [oreB]
  | succ k ih =>
    have h1 := byt_range s (a + k)
    simp only [oreB]
    omega

set_option maxHeartbeats 4000000 in
theorem kworth_any (s : ByteArray) (P : Nat) (w : World) (hP : P ≤ 4) (hs : 70 + 2 * P ≤ s.size) (hs2 : s.size ≤ 100000) :
    Calls Tryz.prog 23 #[.string s, .int .i64 P] w fun e w' => e = .returned (.tuple #[.int .i64 (goldB s P + oreB s (5 + 2 * P) 64), .int .i64 (256 * byt s 2 + byt s 3)]) ∧ Below w.heap.size w w' := by
  go_enter Tryz.func23, Tryz.ntmps23
  go_wp2
  go_loopw [6, 7] (fun n i wr => ∃ k : Nat, k ≤ P ∧ i = .int .i64 k ∧ n = .int .i64 (goldB s k) ∧ Below w.heap.size w wr) (fun n i _ => P - (intOf i).toNat)
  case atStart => exact ⟨0, Nat.zero_le _, rfl, rfl, Below.refl _ _⟩
  case round =>
    obtain ⟨k, hk, rfl, rfl, hbel⟩ := hrel
    obtain ⟨g0, g1⟩ := goldB_range s k
    by_cases hlt : k < P
    · have h1 : 5 + 2 * k < s.size := by omega
      have h2 : 6 + 2 * k < s.size := by omega
      have e1 := byt_get s (5 + 2 * k) h1
      have e2 := byt_get s (6 + 2 * k) h2
      obtain ⟨r1, r2⟩ := byt_range s (5 + 2 * k)
      obtain ⟨r3, r4⟩ := byt_range s (6 + 2 * k)
      have HG : Hid (goldB s (k + 1) = goldB s k + 256 * byt s (5 + 2 * k) + byt s (6 + 2 * k)) := rfl
      have HB := (show Hid _ from hbel)
      clear hbel
      have q1 : (5 + 2 * (k : Int)).toNat = 5 + 2 * k := by omega
      have q2 : (6 + 2 * (k : Int)).toNat = 6 + 2 * k := by omega
      generalize goldB s k = gk at *
      generalize byt s (5 + 2 * k) = b1' at *
      generalize byt s (6 + 2 * k) = b2' at *
      go_wp2
      go_quiet (fail)
      go_wp2
      go_roundw
      case rel =>
        go_light
        have hG := HG.out
        first
          | exact ⟨k + 1, by omega, by go_num, by rw [hG], bel_drewN HB.out _⟩
          | ((repeat apply Exists.intro); exact ⟨⟨k + 1, by omega, by go_num, by rw [hG], bel_drewN HB.out _⟩, rfl⟩)
      case measure => simp [intOf]; omega
    · have hkk : k = P := by omega
      subst hkk
      have HB := (show Hid _ from hbel)
      clear hbel
      go_wp2
      go_loopw [6, 8] (fun n i wq => ∃ j : Nat, j ≤ 64 ∧ i = .int .i64 j ∧ n = .int .i64 (goldB s k + oreB s (5 + 2 * k) j) ∧ Below w.heap.size w wq) (fun n i _ => 64 - (intOf i).toNat)
      case atStart => exact ⟨0, Nat.zero_le _, rfl, by simp [oreB], HB.out⟩
      case round =>
        clear HB
        obtain ⟨j, hj, rfl, rfl, hbel⟩ := hrel
        obtain ⟨o0, o1⟩ := oreB_range s (5 + 2 * k) j
        by_cases hlj : j < 64
        · have h1 : 5 + 2 * k + j < s.size := by omega
          have e1 := byt_get s (5 + 2 * k + j) h1
          obtain ⟨r1, r2⟩ := byt_range s (5 + 2 * k + j)
          have HG : Hid (oreB s (5 + 2 * k) (j + 1) = oreB s (5 + 2 * k) j + byt s (5 + 2 * k + j)) := rfl
          have HB := (show Hid _ from hbel)
          clear hbel
          have q1 : (5 + 2 * (k : Int) + (j : Int)).toNat = 5 + 2 * k + j := by omega
          have hji : (j : Int) < 64 := by omega
          generalize goldB s k = gk at *
          generalize oreB s (5 + 2 * k) j = oj at *
          generalize byt s (5 + 2 * k + j) = b1' at *
          go_wp2
          go_roundw
          case rel =>
            go_light
            have hG := HG.out
            first
              | exact ⟨j + 1, by omega, by go_num, by rw [hG, Int.add_assoc], HB.out⟩
              | ((repeat apply Exists.intro); exact ⟨⟨j + 1, by omega, by go_num, by rw [hG, Int.add_assoc], HB.out⟩, rfl⟩)
          case measure => simp [intOf]; omega
        · have hjj : j = 64 := by omega
          subst hjj
          have h1 : 2 < s.size := by omega
          have h2 : 3 < s.size := by omega
          have e1 := byt_get s 2 h1
          have e2 := byt_get s 3 h2
          obtain ⟨r1, r2⟩ := byt_range s 2
          obtain ⟨r3, r4⟩ := byt_range s 3
          have HB := (show Hid _ from hbel)
          clear hbel
          generalize ht : goldB s k + oreB s (5 + 2 * k) 64 = tot at *
          generalize h3 : byt s 2 = b1' at *
          generalize h4 : byt s 3 = b2' at *
          have HT := (show Hid _ from ht)
          have H3 := (show Hid _ from h3)
          have H4 := (show Hid _ from h4)
          clear ht h3 h4
          go_wp2
          go_quiet (fail)
          go_wp2
          go_ret2
          rw [HT.out, H3.out, H4.out]
          exact ⟨rfl, bel_drewN HB.out _⟩
end Go.Proofs.YtdianedehhecoaaGreatDoor
