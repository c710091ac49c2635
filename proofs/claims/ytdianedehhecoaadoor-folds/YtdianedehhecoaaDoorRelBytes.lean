/- The bytes of the document's state and of the program's. No walk. -/
import Derived.Test.YtdianedehhecoaaDoorRels
import Derived.Test.YtdianedehhecoaaDoorRefPure
import Derived.Test.YtdianedehhecoaaDoorWires
namespace Go.Proofs.YtdianedehhecoaaDoor
open Go.RowKit
set_option linter.unusedVariables false
set_option linter.unusedSimpArgs false

def headN (S : PS) : List Int := [S.turn, S.last].flatMap twoOf ++ [(S.gold.length : Int)].map low ++ S.gold.flatMap twoOf
def unitN (u : PU) : List Int := [u.num].flatMap twoOf ++ [u.own, u.kind, u.x, u.y, u.hp].map low
/-- the bytes that the program writes -/
def bytesN (S : PS) : List Int := headN S ++ S.ore.map low ++ [(S.units.length : Int)].map low ++ S.units.flatMap unitN
theorem strOf_append (a b : List Int) : strOfNums (a ++ b) = strOfNums a ++ strOfNums b := by
  unfold strOfNums
  apply ByteArray.ext
  simp
theorem strOf_low (n : Int) : strOfNums [low n] = b1 n := rfl
theorem strOf_two (n : Int) : strOfNums (twoOf n) = b2 n := rfl
theorem gold_rel (S : RS) (k : Nat) (hk : k ≤ S.gold.length) : goldTo S k = headF S ++ strOfNums ((S.gold.take k).flatMap twoOf) := by
  induction k with
  | zero => simp only [goldTo, List.take_zero, List.flatMap_nil]; apply ByteArray.ext; simp [strOfNums]
  | succ k ih =>
    rw [List.take_succ_eq_append_getElem (by omega), List.flatMap_append, strOf_append, ← ByteArray.append_assoc, ← ih (by omega)]
    simp only [goldTo, List.flatMap_cons, List.flatMap_nil, List.append_nil, strOf_two]
    rw [show S.gold.getD k 0 = S.gold[k] by simp [List.getD, List.getElem?_eq_getElem (show k < S.gold.length by omega)]]
theorem ore_rel (S : RS) (k : Nat) (hk : k ≤ S.ore.length) : oreTo S k = goldTo S S.gold.length ++ strOfNums ((S.ore.take k).map low) := by
  induction k with
  | zero => simp only [oreTo, List.take_zero, List.map_nil]; apply ByteArray.ext; simp [strOfNums]
  | succ k ih =>
    rw [List.take_succ_eq_append_getElem (by omega), List.map_append, strOf_append, ← ByteArray.append_assoc, ← ih (by omega)]
    simp only [oreTo, List.map_cons, List.map_nil, strOf_low]
    rw [show S.ore.getD k 0 = S.ore[k] by simp [List.getD, List.getElem?_eq_getElem (show k < S.ore.length by omega)]]
theorem relU_dead (us : List RU) (u : RU) (h : ¬ 0 < u.hp) : relU (us ++ [u]) = relU us := by
  unfold relU
  rw [cv_push, List.filter_append]
  simp [liveP, cvU, h]
theorem strOf_unit (k : Nat) (u : RU) : strOfNums (unitN (cvU k u)) = b2 (k + 1) ++ b1 u.own ++ b1 u.kind ++ b1 u.x ++ b1 u.y ++ b1 u.hp := by
  apply ByteArray.ext
  simp [strOfNums, unitN, twoOf, low, cvU, b1, b2, byteOf]
theorem unit_rel (S : RS) (k : Nat) (hk : k ≤ S.units.length) : unitTo S k = oreTo S 64 ++ b1 (thereF S.units) ++ strOfNums ((relU (S.units.take k)).flatMap unitN) := by
  induction k with
  | zero => simp only [unitTo, List.take_zero, relU, cv, List.mapIdx_nil, List.filter_nil, List.flatMap_nil]; apply ByteArray.ext; simp [strOfNums]
  | succ k ih =>
    have hk' : k < S.units.length := by omega
    have ih := ih (by omega)
    have e : S.units.getD k ru0 = S.units[k] := by simp [List.getD, List.getElem?_eq_getElem hk']
    rw [List.take_succ_eq_append_getElem hk']
    simp only [unitTo, e]
    by_cases c : 0 < (S.units[k]).hp
    · rw [if_pos c, relU_push _ _ c, List.flatMap_append, strOf_append, ← ByteArray.append_assoc, ← ih]
      simp only [List.flatMap_cons, List.flatMap_nil, List.append_nil, strOf_unit]
      have : (S.units.take k).length = k := by simp; omega
      rw [this]
      simp only [ByteArray.append_assoc]
    · rw [if_neg c, relU_dead _ _ c, ih]
theorem bytes_rel (S : RS) (h : S.ore.length = 64) : strOfNums (bytesN (toPS S)) = bytesF S := by
  unfold bytesF bytesN headN
  rw [unit_rel S _ (Nat.le_refl _), ore_rel S 64 (by omega), gold_rel S _ (Nat.le_refl _)]
  rw [List.take_of_length_le (Nat.le_refl _), List.take_of_length_le (Nat.le_refl _), List.take_of_length_le (by omega)]
  simp only [toPS, strOf_append]
  rw [relU_len]
  have e1 : strOfNums (([S.turn, (S.units.length : Int)] : List Int).flatMap twoOf) = b2 S.turn ++ b2 S.units.length := by
    apply ByteArray.ext
    simp [strOfNums, twoOf, low, b2, byteOf]
  have e2 : strOfNums ([(S.gold.length : Int)].map low) = b1 S.gold.length := rfl
  have e3 : strOfNums ([(thereF S.units : Int)].map low) = b1 (thereF S.units) := rfl
  rw [e1, e2, e3]
  rfl
end Go.Proofs.YtdianedehhecoaaDoor
