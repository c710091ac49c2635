/- Small functions of the statements without the document's answer: pick, bytes, worth. -/
import Derived.Test.YtdianedehhecoaaGreatDoorRefPure
import Derived.Test.YtdianedehhecoaaGreatDoorBase
import Derived.ProofKit
import Derived.ChangeOld
import Derived.ChangeSlices
import Derived.SizedLaws
import Derived.DataShut
import Derived.Orders
import Derived.Tactics2
namespace Go.Proofs.YtdianedehhecoaaGreatDoor
open Go.RowKit
set_option linter.unusedVariables false
set_option linter.unusedSimpArgs false

def pickF (c n : Int) : Int := (if c < 0 then -(c + 1) else c) % n
theorem pickF_range (c n : Int) (hn : 0 < n) : 0 ≤ pickF c n ∧ pickF c n < n := by
  unfold pickF
  exact ⟨Int.emod_nonneg _ (by omega), Int.emod_lt_of_pos _ hn⟩

set_option maxHeartbeats 1000000 in
theorem kpick_any (c n : Int) (w : World) (h0 : -9223372036854775808 ≤ c) (h1 : c ≤ 9223372036854775807) (hn : 0 < n) (hn2 : n ≤ 1099511627776) :
    Calls Pz.prog 25 #[.int .i64 c, .int .i64 n] w fun e w' => e = .returned (.int .i64 (pickF c n)) ∧ w' = w := by
  by_cases hc : c < 0
  · have HP : Hid (pickF c n = -(c + 1) % n) := by unfold Hid pickF; rw [if_pos hc]
    have hne : n ≠ 0 := by omega
    have ht : Int.tmod (-(c + 1)) n = -(c + 1) % n := Int.tmod_eq_emod_of_nonneg (by omega)
    have hr0 : 0 ≤ -(c + 1) % n := Int.emod_nonneg _ hne
    have hr1 : -(c + 1) % n < n := Int.emod_lt_of_pos _ hn
    go_enter Pz.func25, Tryz.ntmps25
    go_wp2
    go_ret
    exact ⟨by rw [HP.out]; rfl, rfl⟩
  · have HP : Hid (pickF c n = c % n) := by unfold Hid pickF; rw [if_neg hc]
    have hne : n ≠ 0 := by omega
    have ht : Int.tmod c n = c % n := Int.tmod_eq_emod_of_nonneg (by omega)
    have hr0 : 0 ≤ c % n := Int.emod_nonneg _ hne
    have hr1 : c % n < n := Int.emod_lt_of_pos _ hn
    go_enter Pz.func25, Tryz.ntmps25
    go_wp2
    go_ret
    exact ⟨by rw [HP.out]; rfl, rfl⟩

/-- a command out of a raw number -/
def bytesK (p c : Int) : ByteArray := strOfNums [p, 1 + pickF c 1099511627776 % 10, 1 + pickF c 1099511627776 / 10 % 5, pickF c 1099511627776 / 50 % 8, pickF c 1099511627776 / 400 % 8]
theorem kconv1 (w : World) (x : Int) :
    (convert 55 9 (.slice (some ⟨w.heap.size, 0, none⟩) 1 1)).run Pz.prog (w.alloc (.cells #[.int .u8 x] 5)) = .ok (.string (strOfNums [x])) (w.alloc (.cells #[.int .u8 x] 5)) := by
  have h := run_convert_bytes_arg (P := Pz.prog) (w.alloc (.cells #[.int .u8 x] 5)) 55 5 ((Pz.gUnderlying 55).trans Tryz.underlying55) ((Pz.gUnderlying 5).trans Tryz.underlying5) w.heap.size 0 1 1 [x] rfl (fun i hi => by
    have : i = 0 := by omega
    subst this
    simp [go_sem]) 9 ((Pz.gUnderlying 9).trans Tryz.underlying9)
  exact h
theorem conv5 (w : World) (a b c d e : Int) :
    (convert 55 9 (.slice (some ⟨w.heap.size, 0, none⟩) 5 5)).run Pz.prog (w.alloc (.cells #[.int .u8 a, .int .u8 b, .int .u8 c, .int .u8 d, .int .u8 e] 5)) = .ok (.string (strOfNums [a, b, c, d, e])) (w.alloc (.cells #[.int .u8 a, .int .u8 b, .int .u8 c, .int .u8 d, .int .u8 e] 5)) := by
  have h := run_convert_bytes_arg (P := Pz.prog) (w.alloc (.cells #[.int .u8 a, .int .u8 b, .int .u8 c, .int .u8 d, .int .u8 e] 5)) 55 5 ((Pz.gUnderlying 55).trans Tryz.underlying55) ((Pz.gUnderlying 5).trans Tryz.underlying5) w.heap.size 0 5 5 [a, b, c, d, e] rfl (fun i hi => by
    have : i = 0 ∨ i = 1 ∨ i = 2 ∨ i = 3 ∨ i = 4 := by omega
    rcases this with rfl | rfl | rfl | rfl | rfl <;> simp [go_sem]) 9 ((Pz.gUnderlying 9).trans Tryz.underlying9)
  exact h

/-- what gold the first k players have by the bytes s -/
def goldB (s : ByteArray) : Nat → Int
  | 0 => 0
  | k + 1 => goldB s k + 256 * byt s (5 + 2 * k) + byt s (6 + 2 * k)
/-- and what ore lies in the first k cells, which begin at a -/
def oreB (s : ByteArray) (a : Nat) : Nat → Int
  | 0 => 0
  | k + 1 => oreB s a k + byt s (a + k)
theorem mayB_of (seed : Int) (P : Nat) (s0 : 0 ≤ seed) (s1 : seed ≤ 999) (p2 : 2 ≤ P) (p4 : P ≤ 4) : mayB seed P = true := by
  unfold mayB
  rw [decide_eq_true_eq]
  omega
theorem fold_ok {seed : Int} {P : Nat} {s : ByteArray} {css : List (List RC)} {S : RS} (hm : mayB seed P = true) (ht : turnsF s = some css) (hp : playF (startTo seed P) css = some S) : foldF seed P s = (bytesF S, hash16 (bytesF S), 0) := by
  unfold foldF
  rw [if_neg (by rw [hm]; simp), ht]
  simp only
  rw [show ((P : Int)).toNat = P by omega, hp]
end Go.Proofs.YtdianedehhecoaaGreatDoor

/- The turns of Strangers: commands that do nothing. -/
namespace Go.Proofs.YtdianedehhecoaaGreatDoor
open Go.RowKit
set_option linter.unusedVariables false
set_option linter.unusedSimpArgs false

/-- a command that does nothing, by a raw number -/
def kindsS (c : Int) : Int := if c / 16 % 4 = 0 then 1 else if c / 16 % 4 = 1 then 3 else if c / 16 % 4 = 2 then 6 else 255
def numsS (c : Int) : List Int :=
  if c / 2 % 4 = 0 then [c % 2, 3 - 2 * (c % 2) + c / 8 % 2, 1 + c / 16 % 5, c / 64 % 8, c / 512 % 8]
  else if c / 2 % 4 = 1 then [c % 2, 5 + c / 8 % 200, 1 + c / 16 % 5, c / 64 % 8, c / 512 % 8]
  else if c / 2 % 4 = 2 then [c % 2, 1 + 2 * (c % 2), 1 + c / 16 % 5, 7 * (c % 2), 7 * (c % 2) + 200 * (c / 8 % 2)]
  else [c % 2, 1 + 2 * (c % 2), kindsS c, 5 * (c % 2) + 1, 7 * (c % 2)]
theorem kindsS_is (c : Int) : kindsS c = 1 ∨ kindsS c = 3 ∨ kindsS c = 6 ∨ kindsS c = 255 := by
  unfold kindsS
  split
  · exact .inl rfl
  · split
    · exact .inr (.inl rfl)
    · split
      · exact .inr (.inr (.inl rfl))
      · exact .inr (.inr (.inr rfl))
theorem numsS_len (c : Int) : (numsS c).length = 5 := by
  unfold numsS
  split
  · rfl
  · split
    · rfl
    · split <;> rfl
theorem numsS_range (c : Int) (f : Nat) : 0 ≤ (numsS c).getD f 0 ∧ (numsS c).getD f 0 ≤ 255 := by
  have hk := kindsS_is c
  by_cases hf : f < 5
  · have h5 : f = 0 ∨ f = 1 ∨ f = 2 ∨ f = 3 ∨ f = 4 := by omega
    unfold numsS
    split
    · rcases h5 with rfl | rfl | rfl | rfl | rfl <;> simp <;> omega
    · split
      · rcases h5 with rfl | rfl | rfl | rfl | rfl <;> simp <;> omega
      · split
        · rcases h5 with rfl | rfl | rfl | rfl | rfl <;> simp <;> omega
        · rcases h5 with rfl | rfl | rfl | rfl | rfl <;> simp <;> omega
  · have : (numsS c).getD f 0 = 0 := by simp [List.getD, List.getElem?_eq_none (show (numsS c).length ≤ f by rw [numsS_len]; omega)]
    omega
def rcOf (l : List Int) : RC := ⟨l.getD 0 0, l.getD 1 0, l.getD 2 0, l.getD 3 0, l.getD 4 0⟩
/-- why a command does nothing -/
theorem cmd_same {S : RS} {p un wh x y : Int} (h0 : 0 < un) (h : (S.units.length : Int) < un ∨ (S.units.getD (un - 1).toNat ru0).own ≠ p ∨ nearB x y (S.units.getD (un - 1).toNat ru0).x (S.units.getD (un - 1).toNat ru0).y = false ∨ ((S.units.getD (un - 1).toNat ru0).kind = 1 ∧ (wh = 1 ∨ wh = 3 ∨ 5 < wh))) : commandF S p un wh x y = S := by
  unfold commandF
  rw [if_neg (by omega)]
  by_cases hl : un - 1 < 0 ∨ (S.units.length : Int) ≤ un - 1
  · rw [if_pos hl]
  · rw [if_neg hl]
    simp only
    generalize hu : S.units.getD (un - 1).toNat ru0 = u at *
    by_cases hc : u.hp ≤ 0 ∨ u.own ≠ p ∨ u.busy = true ∨ nearB x y u.x u.y = false
    · rw [if_pos hc]
    · rw [if_neg hc]
      have hk : u.kind = 1 ∧ (wh = 1 ∨ wh = 3 ∨ 5 < wh) := by
        rcases h with h | h | h | h
        · omega
        · exact absurd (.inr (.inl h)) hc
        · exact absurd (.inr (.inr (.inr h))) hc
        · exact h
      have hd : ∀ on, doesF S (un - 1).toNat wh x y on = (S, false) := by
        intro on
        unfold doesF
        simp only [hu]
        obtain ⟨hk, hw⟩ := hk
        rcases hw with rfl | rfl | hw
        · simp [hk]
        · simp [hk]
        · rw [if_neg (by omega), if_neg (by omega), if_neg (by omega), if_neg (by omega)]
      rw [hd]
      rfl
/-- the state in which the commands of the first turn are done -/
def begunS (sd : Int) : RS := { startTo sd 2 with units := clearTo (startTo sd 2).units (startTo sd 2).units.length }
theorem begunS_units (sd : Int) : (begunS sd).units = [⟨0, 1, 0, 0, 20, false⟩, ⟨0, 2, 1, 1, 5, false⟩, ⟨1, 1, 7, 7, 20, false⟩, ⟨1, 2, 6, 6, 5, false⟩] := by kernel_rfl
theorem strange_same (sd c : Int) : (rcOf (numsS c)).on (begunS sd) = begunS sd := by
  have hu := begunS_units sd
  have hp : c % 2 = 0 ∨ c % 2 = 1 := by omega
  have hb : c / 8 % 2 = 0 ∨ c / 8 % 2 = 1 := by omega
  unfold RC.on
  by_cases h0 : c / 2 % 4 = 0
  · have e : numsS c = [c % 2, 3 - 2 * (c % 2) + c / 8 % 2, 1 + c / 16 % 5, c / 64 % 8, c / 512 % 8] := by unfold numsS; rw [if_pos h0]
    rw [e]
    show commandF (begunS sd) (c % 2) (3 - 2 * (c % 2) + c / 8 % 2) (1 + c / 16 % 5) (c / 64 % 8) (c / 512 % 8) = _
    refine cmd_same (by omega) (.inr (.inl ?_))
    rw [hu]
    rcases hp with hp | hp <;> rcases hb with hb | hb <;> rw [hp, hb] <;> decide
  by_cases h1 : c / 2 % 4 = 1
  · have e : numsS c = [c % 2, 5 + c / 8 % 200, 1 + c / 16 % 5, c / 64 % 8, c / 512 % 8] := by unfold numsS; rw [if_neg h0, if_pos h1]
    rw [e]
    show commandF (begunS sd) (c % 2) (5 + c / 8 % 200) (1 + c / 16 % 5) (c / 64 % 8) (c / 512 % 8) = _
    refine cmd_same (by omega) (.inl ?_)
    rw [hu]
    show (4 : Int) < _
    omega
  by_cases h2 : c / 2 % 4 = 2
  · have e : numsS c = [c % 2, 1 + 2 * (c % 2), 1 + c / 16 % 5, 7 * (c % 2), 7 * (c % 2) + 200 * (c / 8 % 2)] := by unfold numsS; rw [if_neg h0, if_neg h1, if_pos h2]
    rw [e]
    show commandF (begunS sd) (c % 2) (1 + 2 * (c % 2)) (1 + c / 16 % 5) (7 * (c % 2)) (7 * (c % 2) + 200 * (c / 8 % 2)) = _
    refine cmd_same (by omega) (.inr (.inr (.inl ?_)))
    rw [hu]
    rcases hp with hp | hp <;> rcases hb with hb | hb <;> rw [hp, hb] <;> decide
  · have e : numsS c = [c % 2, 1 + 2 * (c % 2), kindsS c, 5 * (c % 2) + 1, 7 * (c % 2)] := by unfold numsS; rw [if_neg h0, if_neg h1, if_neg h2]
    have hk := kindsS_is c
    rw [e]
    show commandF (begunS sd) (c % 2) (1 + 2 * (c % 2)) (kindsS c) (5 * (c % 2) + 1) (7 * (c % 2)) = _
    refine cmd_same (by omega) (.inr (.inr (.inr ⟨?_, by omega⟩)))
    rw [hu]
    rcases hp with hp | hp <;> rw [hp] <;> decide
theorem run_same {S : RS} {cs : List RC} (h : ∀ c, c ∈ cs → c.on S = S) : runTo S cs = S := by
  unfold runTo
  induction cs with
  | nil => rfl
  | cons c cs ih =>
    rw [List.foldl_cons, h c (by simp)]
    exact ih fun d hd => h d (by simp [hd])
theorem do_same (sd : Int) {cs : List RC} (h : ∀ c, c ∈ cs → c.on (begunS sd) = begunS sd) : doF (startTo sd 2) cs = doF (startTo sd 2) [] := by
  have h1 : runTo (begunS sd) cs = begunS sd := run_same h
  show ({ runTo (begunS sd) cs with turn := (runTo (begunS sd) cs).turn + 1, units := dropTo (runTo (begunS sd) cs).units (runTo (begunS sd) cs).units.length } : RS) = _
  rw [h1]
  rfl
/-- the bytes of the turn's first k commands -/
def cmdsS (l : List Int) : Nat → ByteArray
  | 0 => ⟨#[]⟩
  | k + 1 => cmdsS l k ++ strOfNums (numsS (pickF (l.getD k 0) 1099511627776))
theorem strS_size (c : Int) : (strOfNums (numsS c)).size = 5 := by
  show (((numsS c).map fun n => UInt8.ofNat n.toNat).toArray).size = 5
  simp [numsS_len]
theorem cmdsS_size (l : List Int) (k : Nat) : (cmdsS l k).size = 5 * k := by
  induction k with
  | zero => rfl
  | succ k ih => simp only [cmdsS]; rw [ByteArray.size_append, ih, strS_size]; omega
theorem sbyt_left (s t : ByteArray) (i : Nat) (h : i < s.size) : byt (s ++ t) i = byt s i := by
  unfold byt
  have h' : i < s.data.toList.length := h
  simp only [ByteArray.data_append, Array.toList_append, List.getD]
  rw [List.getElem?_append_left h']
theorem sbyt_right (s t : ByteArray) (i : Nat) : byt (s ++ t) (s.size + i) = byt t i := by
  unfold byt
  have h' : s.size = s.data.toList.length := rfl
  simp only [ByteArray.data_append, Array.toList_append, List.getD]
  rw [h', List.getElem?_append_right (by omega)]
  rw [show s.data.toList.length + i - s.data.toList.length = i by omega]
theorem sbyt_str (l : List Int) (i : Nat) (h0 : 0 ≤ l.getD i 0) (h1 : l.getD i 0 ≤ 255) : byt (strOfNums l) i = l.getD i 0 := by
  unfold byt strOfNums
  by_cases hi : i < l.length
  · simp only [List.getD, List.getElem?_map, List.getElem?_eq_getElem hi, Option.map_some, Option.getD_some] at h0 h1 ⊢
    rw [UInt8.toNat_ofNat']
    omega
  · simp only [List.getD, List.getElem?_map, List.getElem?_eq_none (by omega : l.length ≤ i), Option.map_none, Option.getD_none]
    rfl
theorem cmdsS_byt (l : List Int) (n k f : Nat) (hk : k < n) (hf : f < 5) : byt (cmdsS l n) (5 * k + f) = (numsS (pickF (l.getD k 0) 1099511627776)).getD f 0 := by
  induction n with
  | zero => omega
  | succ n ih =>
    simp only [cmdsS]
    by_cases h : k < n
    · rw [sbyt_left _ _ _ (by rw [cmdsS_size]; omega)]
      exact ih h
    · obtain rfl : k = n := by omega
      have hr := numsS_range (pickF (l.getD k 0) 1099511627776) f
      rw [show 5 * k + f = (cmdsS l k).size + f by rw [cmdsS_size], sbyt_right, sbyt_str _ _ hr.1 hr.2]
def nS (l : List Int) : Nat := if 36 < l.length then 36 else l.length
theorem nS_le (l : List Int) : nS l ≤ 36 ∧ nS l ≤ l.length := by unfold nS; split <;> omega
def turnS (l : List Int) : ByteArray := strOfNums [(nS l : Int)] ++ cmdsS l (nS l)
theorem turnS_size (l : List Int) : (turnS l).size = 1 + 5 * nS l := by
  unfold turnS
  rw [ByteArray.size_append, cmdsS_size]
  rfl
theorem turnS_first (l : List Int) : byt (turnS l) 0 = nS l := by
  have h := (nS_le l).1
  unfold turnS
  rw [sbyt_left _ _ _ (by show 0 < 1; omega), sbyt_str _ _ (by show (0 : Int) ≤ (nS l : Int); omega) (by show (nS l : Int) ≤ 255; omega)]
  rfl
theorem turnS_byt (l : List Int) (k f : Nat) (hk : k < nS l) (hf : f < 5) : byt (turnS l) (1 + 5 * k + f) = (numsS (pickF (l.getD k 0) 1099511627776)).getD f 0 := by
  unfold turnS
  rw [show 1 + 5 * k + f = (strOfNums [(nS l : Int)]).size + (5 * k + f) by show _ = 1 + _; omega, sbyt_right]
  exact cmdsS_byt l _ k f hk hf
theorem cmdsAt_mem (s : ByteArray) (i n : Nat) (c : RC) (h : c ∈ cmdsAt s i n) : ∃ k, k < n ∧ c = cmdAt s (i + 5 * k) := by
  induction n with
  | zero => simp [cmdsAt] at h
  | succ n ih =>
    simp only [cmdsAt, List.mem_append, List.mem_singleton] at h
    rcases h with h | h
    · obtain ⟨k, hk, e⟩ := ih h
      exact ⟨k, by omega, e⟩
    · exact ⟨n, by omega, h⟩
theorem turnS_same (sd : Int) (l : List Int) : doF (startTo sd 2) (cmdsAt (turnS l) 1 (nS l)) = doF (startTo sd 2) [] := by
  refine do_same sd fun c hc => ?_
  obtain ⟨k, hk, rfl⟩ := cmdsAt_mem _ _ _ _ hc
  have e : cmdAt (turnS l) (1 + 5 * k) = rcOf (numsS (pickF (l.getD k 0) 1099511627776)) := by
    unfold cmdAt rcOf
    have b0 := turnS_byt l k 0 hk (by omega)
    have b1 := turnS_byt l k 1 hk (by omega)
    have b2 := turnS_byt l k 2 hk (by omega)
    have b3 := turnS_byt l k 3 hk (by omega)
    have b4 := turnS_byt l k 4 hk (by omega)
    rw [Nat.add_zero] at b0
    rw [b0, b1, b2, b3, b4]
  rw [e]
  exact strange_same sd _
theorem turnS_turns (l : List Int) : turnsF (turnS l) = some [cmdsAt (turnS l) 1 (nS l)] := by
  have hs := turnS_size l
  have hn := (nS_le l).1
  unfold turnsF
  rw [readF_next (turnS l) (turnS l).size 0 1000 (by omega) (nS l) (by rw [turnS_first]; omega) (by omega) (by omega) (by omega), hs]
  rw [show 1 + 5 * nS l = (5 * nS l) + 1 by omega, readF_end _ _ _ _ (by omega)]
  rfl
theorem begun_goes (sd : Int) : overB (startTo sd 2) = false := by kernel_rfl
/-- what Fold says of a turn of such commands, and of an empty turn -/
theorem fold_strange (sd : Int) (l : List Int) (s0 : 0 ≤ sd) (s1 : sd ≤ 999) : foldF sd (2 : Nat) (turnS l) = (bytesF (doF (startTo sd 2) []), hash16 (bytesF (doF (startTo sd 2) [])), 0) := by
  refine fold_ok (mayB_of sd 2 s0 s1 (by omega) (by omega)) (turnS_turns l) ?_
  show (if overB (startTo sd 2) then none else some (doF (startTo sd 2) (cmdsAt (turnS l) 1 (nS l)))) = _
  rw [begun_goes, turnS_same]
  rfl
theorem fold_empty (sd : Int) (s0 : 0 ≤ sd) (s1 : sd ≤ 999) : foldF sd (2 : Nat) ⟨#[0]⟩ = (bytesF (doF (startTo sd 2) []), hash16 (bytesF (doF (startTo sd 2) [])), 0) := by
  refine fold_ok (mayB_of sd 2 s0 s1 (by omega) (by omega)) (show turnsF ⟨#[0]⟩ = some [[]] by kernel_rfl) ?_
  show (if overB (startTo sd 2) then none else some (doF (startTo sd 2) [])) = _
  rw [begun_goes]
  rfl
end Go.Proofs.YtdianedehhecoaaGreatDoor

/- A list of numbers that comes in, opened. -/
namespace Go.Proofs.YtdianedehhecoaaGreatDoor
open Go.ChangeShapes Go.WideShapes Go.RowKit
set_option linter.unusedVariables false
set_option linter.unusedSimpArgs false

/-- the numbers that came in -/
def NArg (w : World) (v : Value) (L : List Int) : Prop :=
  ∃ a cap, v = .slice a L.length cap ∧ ∀ k, k < L.length → ∃ g o, a = some ⟨g, o, none⟩ ∧ g < w.heap.size ∧ w.cell? ⟨g, o + k, none⟩ = some (.int .i64 (L.getD k 0)) ∧ -9223372036854775808 ≤ L.getD k 0 ∧ L.getD k 0 ≤ 9223372036854775807
theorem NArg.on {w w' : World} {v : Value} {L : List Int} (h : NArg w v L) (hz : w.heap.size ≤ w'.heap.size) (hc : ∀ a x, w.cell? a = some x → w'.cell? a = some x) : NArg w' v L := by
  obtain ⟨a, cap, e, hk⟩ := h
  refine ⟨a, cap, e, fun k h => ?_⟩
  obtain ⟨g, o, h1, h2, h3, h4⟩ := hk k h
  exact ⟨g, o, h1, by omega, hc _ _ h3, h4⟩
theorem addr_none2 {w : World} {a : Addr} {v : Value} (h : w.cell? a = some v) : a = ⟨a.block, a.off, none⟩ := by
  have := World.cell?_spot h
  cases a
  simp at this
  subst this
  rfl
theorem add_none2 (g o i : Nat) : (⟨g, o, none⟩ : Addr).add i = ⟨g, o + i, none⟩ := by
  unfold Addr.add
  split
  · subst_vars; rfl
  · rfl
section
variable {H : Type} {enc : TypeId × Value → H} {P : Program} {w : World} {base : Nat} {spare : Nat → Bool} {held : Bool}
theorem nums_open {t e : TypeId} {fuel : Nat} {a0 : Option Addr} {l0 c0 : Nat} {x : DataW H × List MemPlace} (ht : P.underlying t = some (.slice e)) (he : P.underlying e = some (.int .i64)) (hc : P.cellsOf e = 1) (hb : P.bytesOf e = 8)
    (h : DataW.trod enc P w base spare held fuel t [.slice a0 l0 c0] = some x) (hz : ∀ n ∈ x.1.weights P t, n ≤ reachBytes) : ∃ L, NArg w (.slice a0 l0 c0) L ∧ L.length ≤ 140737488351232 := by
  rcases open_ints ht he hc h with ⟨hcs, hx⟩ | ⟨a, len, cap, zs, hcs, hbb, hl, hm, hzl, hx, hcell, hwf⟩
  · simp at hcs
    obtain ⟨rfl, rfl, rfl⟩ := hcs
    exact ⟨[], ⟨none, 0, rfl, fun k hk => by simp at hk⟩, by simp⟩
  · simp at hcs
    obtain ⟨rfl, rfl, rfl⟩ := hcs
    have hlz : l0 ≤ zs.length := by rw [hzl]; split <;> omega
    have hlen : (zs.take l0).length = l0 := by rw [List.length_take]; omega
    refine ⟨zs.take l0, ⟨some a, c0, by rw [hlen], fun k hk => ?_⟩, ?_⟩
    · rw [hlen] at hk
      have h0 := hcell 0 (by omega)
      rw [show a.add 0 = a from rfl] at h0
      have ea := addr_none2 h0
      have hk1 := hcell k (by omega)
      have eg : (zs.take l0).getD k 0 = zs.getD k 0 := by simp [List.getD, List.getElem?_take, hk]
      have hmem : zs.getD k 0 ∈ zs := by
        have : zs.getD k 0 = zs[k]'(by omega) := by simp [List.getD, show k < zs.length by omega]
        rw [this]
        exact List.getElem_mem _
      have hr := (Lit.wf_int_iff .i64 _).1 (hwf _ hmem)
      rw [ea, add_none2] at hk1
      refine ⟨a.block, a.off, congrArg some ea, World.block_lt_of_cell? w _ h0, ?_, ?_⟩
      · rw [eg]; exact hk1
      · rw [eg]; exact hr
    · have := hz ((lits (H := H) IntKind.i64 (zs.take l0)).length * 8 + (lits (H := H) IntKind.i64 (zs.drop l0)).length * 8) (by
        rw [hx, DataW.weights, ht]
        simp only [hb, Nat.add_mul, List.mem_cons, true_or])
      simp only [lits, List.length_map] at this
      have e : reachBytes = 140737488351232 := rfl
      omega
end
end Go.Proofs.YtdianedehhecoaaGreatDoor

/- Code that is walked alone up to a piece at which we stop; a region that draws its order, up to its last operations. -/
namespace Go.Proofs.YtdianedehhecoaaGreatDoor
set_option linter.unusedVariables false
set_option linter.unusedSimpArgs false

/-- alone, from the code x we come to the code rest -/
def Upto (p : Program) (x rest : Code) (Q : Act → World → Prop) (a : Act) (w : World) : Prop :=
  ∀ (b : Frame) (k : List Item) (cs : List Frame), ∃ a' w', Q a' w' ∧ Steps p (lone (b.at a (.code x :: k)) cs w) (lone (b.at a' (.code rest :: k)) cs w')
section
variable {p : Program} {x y z rest : Code} {Q Q' : Act → World → Prop} {a : Act} {w : World}
theorem Upto.here (e : x = rest) (h : Q a w) : Upto p x rest Q a w := fun b k cs => ⟨a, w, h, by rw [e]; exact .refl _ _⟩
theorem Upto.seq (h : y.wp p (fun e a w => e = .normal ∧ Upto p z rest Q a w) a w) : Upto p (.seq y z) rest Q a w := by
  intro b k cs
  obtain ⟨e, a', w', ⟨rfl, hU⟩, harr⟩ := h b (.code z :: k) cs
  obtain ⟨a2, w2, q, hs⟩ := hU b k cs
  exact ⟨a2, w2, q, .head step_seq (Steps.trans harr hs)⟩
theorem Upto.seq_k (h : ∀ K : Act → World → Prop, (∀ a w, Upto p z rest Q a w → K a w) → y.wp p (Exit.then K fun _ _ _ => False) a w) : Upto p (.seq y z) rest Q a w :=
  Upto.seq (wp_mono (h _ fun _ _ h => h) fun e a w q => by cases e <;> first | exact ⟨rfl, q⟩ | exact q.elim)
theorem Upto.mono (h : Upto p x rest Q a w) (hq : ∀ a w, Q a w → Q' a w) : Upto p x rest Q' a w := fun b k cs => by
  obtain ⟨a', w', q, hs⟩ := h b k cs
  exact ⟨a', w', hq _ _ q, hs⟩
theorem Upto.code {x' : Code} (e : x = x') (h : Upto p x' rest Q a w) : Upto p x rest Q a w := e ▸ h
theorem Upto.trans (h : Upto p x y Q a w) (hq : ∀ a w, Q a w → Upto p y rest Q' a w) : Upto p x rest Q' a w := fun b k cs => by
  obtain ⟨a', w', q, hs⟩ := h b k cs
  obtain ⟨a2, w2, q2, hs2⟩ := hq a' w' q b k cs
  exact ⟨a2, w2, q2, hs.trans hs2⟩
/-- the code behind so many pieces -/
def after : Nat → Code → Code
  | n + 1, .seq _ y => after n y
  | _, c => c
theorem tmps_lit {n : Nat} {tm : Array Value} (h : tm.size = n) : tm = ((List.range n).map fun i => tm.getD i undef).toArray := by
  apply Array.ext
  · simp [h]
  · intro i h1 h2
    simp [Array.getD, h1]
end
section
variable {P : Program} {md : Region.Mode} {ops : Array Oper} {K : Act → World → Prop} {last : Array Bool}
/-- so many operations of a region, in whatever order -/
def wpUp (P : Program) (md : Region.Mode) (ops : Array Oper) (K : Act → World → Prop) : Nat → Array Bool → Act → World → Prop
  | 0, listed, a, w => K a w
  | fuel + 1, listed, a, w => Region.ready md ops listed ≠ [] ∧ ∀ i ∈ Region.ready md ops listed, wpOp P ops (fun e a w => e = .normal ∧ K a w) i (wpUp P md ops K fuel (listed.setIfInBounds i true)) a w
/-- behind so many operations these are done -/
def endsUp (md : Region.Mode) (ops : Array Oper) (last : Array Bool) : Nat → Array Bool → Bool
  | 0, listed => listed == last
  | fuel + 1, listed => !(Region.ready md ops listed).isEmpty && (Region.ready md ops listed).all fun i => endsUp md ops last fuel (listed.setIfInBounds i true)
theorem go_pick {fuel t : Nat} {listed : Array Bool} (hne : Region.ready md ops listed ≠ []) : ∃ i, i ∈ Region.ready md ops listed ∧ ∀ fuel, Region.linearise.go md ops (fuel + 1) t listed [] = i :: Region.linearise.go md ops fuel (t / (Region.ready md ops listed).length) (listed.setIfInBounds i true) [] := by
  have hpos : 0 < (Region.ready md ops listed).length := List.length_pos_iff.2 hne
  have hlt := Nat.mod_lt t hpos
  refine ⟨_, List.getElem_mem hlt, fun fuel => ?_⟩
  have h1 : Region.linearise.go md ops (fuel + 1) t listed [] = (match (Region.ready md ops listed)[t % (Region.ready md ops listed).length]? with
      | some i => Region.linearise.go md ops fuel (t / (Region.ready md ops listed).length) (listed.setIfInBounds i true) [i]
      | none => [].reverse) := rfl
  rw [List.getElem?_eq_getElem hlt] at h1
  rw [h1]
  simp only []
  rw [linearise_go_acc, List.reverse_singleton, List.singleton_append]
theorem wpUp_sound : ∀ (fuel t : Nat) (listed : Array Bool) (a : Act) (w : World), wpUp P md ops K fuel listed a w → wpOps P ops (fun e a w => e = .normal ∧ K a w) (Region.linearise.go md ops fuel t listed []) a w := by
  intro fuel
  induction fuel with
  | zero => intro t listed a w h; exact ⟨rfl, h⟩
  | succ fuel ih =>
    intro t listed a w ⟨hne, hi⟩
    obtain ⟨i, hm, e⟩ := go_pick (fuel := fuel) (t := t) hne
    rw [e fuel, wpOps_cons]
    exact wpOp_mono (fun a w => ih _ _ a w) (hi i hm)
theorem go_split : ∀ (fuel t more : Nat) (listed : Array Bool), endsUp md ops last fuel listed = true → ∃ t', Region.linearise.go md ops (fuel + more) t listed [] = Region.linearise.go md ops fuel t listed [] ++ Region.linearise.go md ops more t' last [] := by
  intro fuel
  induction fuel with
  | zero =>
    intro t more listed h
    have h : listed = last := by simpa [endsUp] using h
    subst h
    exact ⟨t, by rw [Nat.zero_add]; rfl⟩
  | succ fuel ih =>
    intro t more listed h
    simp only [endsUp, Bool.and_eq_true, Bool.not_eq_true', List.isEmpty_eq_false_iff, List.all_eq_true] at h
    obtain ⟨i, hm, e⟩ := go_pick (fuel := fuel) (t := t) h.1
    rw [show fuel + 1 + more = fuel + more + 1 by omega, e (fuel + more), e fuel]
    obtain ⟨t', e2⟩ := ih (t / (Region.ready md ops listed).length) more _ (h.2 i hm)
    exact ⟨t', by rw [e2, List.cons_append]⟩
theorem go_one {fuel t i : Nat} {listed : Array Bool} (h : Region.ready md ops listed = [i]) : ∃ t', Region.linearise.go md ops (fuel + 1) t listed [] = i :: Region.linearise.go md ops fuel t' (listed.setIfInBounds i true) [] := by
  obtain ⟨j, hm, e⟩ := go_pick (md := md) (ops := ops) (fuel := fuel) (t := t) (listed := listed) (by rw [h]; simp)
  rw [h] at hm
  have : j = i := by simpa using hm
  subst this
  exact ⟨_, e fuel⟩
end
end Go.Proofs.YtdianedehhecoaaGreatDoor
