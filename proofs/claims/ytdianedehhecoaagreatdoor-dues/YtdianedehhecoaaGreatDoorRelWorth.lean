/- What the bytes of a state tell of gold, ore and the last unit: for Dues. No walk. -/
import Derived.Test.YtdianedehhecoaaGreatDoorRelDues
import Derived.Test.YtdianedehhecoaaGreatDoorRelBytes
import Derived.Test.YtdianedehhecoaaGreatDoorKeepLeaf
namespace Go.Proofs.YtdianedehhecoaaGreatDoor
open Go.RowKit
set_option linter.unusedVariables false
set_option linter.unusedSimpArgs false

theorem byt_str (l : List Int) (i : Nat) (h0 : 0 ≤ l.getD i 0) (h1 : l.getD i 0 ≤ 255) : byt (strOfNums l) i = l.getD i 0 := by
  unfold byt strOfNums
  simp only [List.getD, List.getElem?_map] at *
  cases hl : l[i]? with
  | none => simp
  | some n =>
    rw [hl] at h0 h1
    simp only [Option.getD_some] at h0 h1
    simp only [Option.map_some, Option.getD_some]
    have : n.toNat < 256 := by omega
    simp only [UInt8.toNat_ofNat']
    omega
theorem getD_app_r (A B : List Int) (n i : Nat) (hn : A.length = n) : (A ++ B).getD (n + i) 0 = B.getD i 0 := by
  subst hn
  simp only [List.getD]
  rw [List.getElem?_append_right (by omega)]
  rw [show A.length + i - A.length = i by omega]
theorem getD_app_l (A B : List Int) (i : Nat) (hi : i < A.length) : (A ++ B).getD i 0 = A.getD i 0 := by
  simp only [List.getD]
  rw [List.getElem?_append_left hi]
theorem low_range (n : Int) : 0 ≤ low n ∧ low n ≤ 255 := by unfold low; omega
theorem two_get (g : List Int) (k : Nat) (hk : k < g.length) : (g.flatMap twoOf).getD (2 * k) 0 = low (g.getD k 0 / 256) ∧ (g.flatMap twoOf).getD (2 * k + 1) 0 = low (g.getD k 0) := by
  induction g generalizing k with
  | nil => simp at hk
  | cons a g ih =>
    cases k with
    | zero => exact ⟨rfl, rfl⟩
    | succ k =>
      have := ih k (by simpa using hk)
      rw [List.flatMap_cons, show 2 * (k + 1) = 2 + 2 * k by omega, show 2 + 2 * k + 1 = 2 + (2 * k + 1) by omega]
      rw [getD_app_r (twoOf a) _ 2 _ rfl, getD_app_r (twoOf a) _ 2 _ rfl]
      simpa using this
/-- what the bytes of a state tell of gold, ore and the last unit -/
theorem flat2_len (l : List Int) : (l.flatMap twoOf).length = 2 * l.length := by
  induction l with
  | nil => rfl
  | cons a l ih => simp [List.flatMap_cons, twoOf, ih]; omega
theorem bytes_gold (S : PS) (k : Nat) (hk : k < S.gold.length) (h0 : 0 ≤ S.gold.getD k 0) (h1 : S.gold.getD k 0 ≤ 65535) : 256 * byt (strOfNums (bytesN S)) (5 + 2 * k) + byt (strOfNums (bytesN S)) (6 + 2 * k) = S.gold.getD k 0 := by
  obtain ⟨e1, e2⟩ := two_get S.gold k hk
  have hl := flat2_len S.gold
  have hb : bytesN S = ([S.turn, S.last].flatMap twoOf ++ [(S.gold.length : Int)].map low) ++ (S.gold.flatMap twoOf ++ (S.ore.map low ++ [(S.units.length : Int)].map low ++ S.units.flatMap unitN)) := by
    unfold bytesN headN; simp only [List.append_assoc]
  have g1 : (bytesN S).getD (5 + 2 * k) 0 = low (S.gold.getD k 0 / 256) := by
    rw [hb, getD_app_r _ _ 5 _ rfl, getD_app_l _ _ _ (by omega), e1]
  have g2 : (bytesN S).getD (6 + 2 * k) 0 = low (S.gold.getD k 0) := by
    rw [hb, show 6 + 2 * k = 5 + (2 * k + 1) by omega, getD_app_r _ _ 5 _ rfl, getD_app_l _ _ _ (by omega), e2]
  have r1 := low_range (S.gold.getD k 0 / 256)
  have r2 := low_range (S.gold.getD k 0)
  rw [byt_str _ _ (by omega) (by omega), byt_str _ _ (by omega) (by omega), g1, g2]
  unfold low
  omega
theorem bytes_ore (S : PS) (k : Nat) (hk : k < S.ore.length) (h0 : 0 ≤ S.ore.getD k 0) (h1 : S.ore.getD k 0 ≤ 255) : byt (strOfNums (bytesN S)) (5 + 2 * S.gold.length + k) = S.ore.getD k 0 := by
  have hl := flat2_len S.gold
  have hb : bytesN S = headN S ++ (S.ore.map low ++ ([(S.units.length : Int)].map low ++ S.units.flatMap unitN)) := by
    unfold bytesN; simp only [List.append_assoc]
  have hh : (headN S).length = 5 + 2 * S.gold.length := by
    unfold headN
    simp only [List.length_append, flat2_len, List.length_map, List.length_cons, List.length_nil]
  have g1 : (bytesN S).getD (5 + 2 * S.gold.length + k) 0 = low (S.ore.getD k 0) := by
    rw [hb, getD_app_r _ _ _ _ hh, getD_app_l _ _ _ (by simpa using hk)]
    simp only [List.getD, List.getElem?_map, List.getElem?_eq_getElem hk, Option.map_some, Option.getD_some]
  have r1 := low_range (S.ore.getD k 0)
  rw [byt_str _ _ (by omega) (by omega), g1]
  unfold low
  omega
theorem bytes_last (S : PS) (h0 : 0 ≤ S.last) (h1 : S.last ≤ 65535) : 256 * byt (strOfNums (bytesN S)) 2 + byt (strOfNums (bytesN S)) 3 = S.last := by
  have hb : bytesN S = [S.turn, S.last].flatMap twoOf ++ ([(S.gold.length : Int)].map low ++ (S.gold.flatMap twoOf ++ (S.ore.map low ++ [(S.units.length : Int)].map low ++ S.units.flatMap unitN))) := by
    unfold bytesN headN; simp only [List.append_assoc]
  have g1 : (bytesN S).getD 2 0 = low (S.last / 256) := by rw [hb]; rfl
  have g2 : (bytesN S).getD 3 0 = low S.last := by rw [hb]; rfl
  have r1 := low_range (S.last / 256)
  have r2 := low_range S.last
  rw [byt_str _ _ (by omega) (by omega), byt_str _ _ (by omega) (by omega), g1, g2]
  unfold low
  omega
theorem goldB_sum (s : ByteArray) (g : List Int) (h : ∀ k, k < g.length → 256 * byt s (5 + 2 * k) + byt s (6 + 2 * k) = g.getD k 0) (k : Nat) (hk : k ≤ g.length) : goldB s k = (g.take k).sum := by
  induction k with
  | zero => rfl
  | succ k ih =>
    have e : g.getD k 0 = g[k] := by simp [List.getD, List.getElem?_eq_getElem (show k < g.length by omega)]
    have := h k (by omega)
    simp only [goldB]
    rw [ih (by omega), List.take_succ_eq_append_getElem (by omega), List.sum_append]
    simp only [List.sum_cons, List.sum_nil]
    omega
theorem oreB_sum (s : ByteArray) (a : Nat) (g : List Int) (h : ∀ k, k < g.length → byt s (a + k) = g.getD k 0) (k : Nat) (hk : k ≤ g.length) : oreB s a k = (g.take k).sum := by
  induction k with
  | zero => rfl
  | succ k ih =>
    have e : g.getD k 0 = g[k] := by simp [List.getD, List.getElem?_eq_getElem (show k < g.length by omega)]
    have := h k (by omega)
    simp only [oreB]
    rw [ih (by omega), List.take_succ_eq_append_getElem (by omega), List.sum_append]
    simp only [List.sum_cons, List.sum_nil]
    omega
def OreLe (S : RS) : Prop := ∀ i, S.ore.getD i 0 ≤ 3
theorem OreLe.of_eq {S S' : RS} (h : OreLe S) (e : S'.ore = S.ore) : OreLe S' := fun i => by rw [e]; exact h i
theorem does_ore {S : RS} (h : OreLe S) (k : Nat) (wh x y on : Int) : OreLe (doesF S k wh x y on).1 := by
  unfold doesF
  simp only
  repeat' split
  all_goals first
    | exact h
    | exact h.of_eq rfl
    | (intro i
       show (S.ore.set (8 * y + x).toNat (S.ore.getD (8 * y + x).toNat 0 - 1)).getD i 0 ≤ 3
       rw [getD_set_int]
       have h1 := h i
       have h2 := h (8 * y + x).toNat
       split <;> omega)
theorem on_ore {S : RS} (h : OreLe S) (c : RC) : OreLe (c.on S) := by
  unfold RC.on commandF
  simp only
  repeat' split
  all_goals first
    | exact h
    | exact h.of_eq rfl
    | exact (does_ore h _ _ _ _ _).of_eq rfl
    | exact does_ore h _ _ _ _ _
theorem run_ore {S : RS} (h : OreLe S) (cs : List RC) : OreLe (runTo S cs) := by
  induction cs generalizing S with
  | nil => exact h
  | cons c cs ih =>
    simp only [runTo, List.foldl_cons]
    exact ih (on_ore h c)
theorem do_ore {S : RS} (h : OreLe S) (cs : List RC) : OreLe (doF S cs) := by
  unfold doF
  simp only
  have h1 : OreLe { S with units := clearTo S.units S.units.length } := h.of_eq rfl
  exact (run_ore h1 cs).of_eq rfl
theorem worth_rel {S : RS} (hI : RInv S) (hO : OreLe S) : goldB (bytesF S) S.gold.length + oreB (bytesF S) (5 + 2 * S.gold.length) 64 = worthF S ∧ 256 * byt (bytesF S) 2 + byt (bytesF S) 3 = S.units.length := by
  have hP := hI.toP
  have ho := hI.ore
  have hb : bytesF S = strOfNums (bytesN (toPS S)) := (bytes_rel S hI.ore).symm
  have hg : ∀ k, k < S.gold.length → 256 * byt (bytesF S) (5 + 2 * k) + byt (bytesF S) (6 + 2 * k) = S.gold.getD k 0 := fun k hk => by
    have := hP.gold k
    rw [hb]
    exact bytes_gold (toPS S) k hk this.1 (by have := this.2; show S.gold.getD k 0 ≤ 65535; simp only [toPS] at this; omega)
  have hr : ∀ k, k < S.ore.length → byt (bytesF S) (5 + 2 * S.gold.length + k) = S.ore.getD k 0 := fun k hk => by
    have h1 := hI.opos k
    rw [hb]
    exact bytes_ore (toPS S) k hk h1 (by show S.ore.getD k 0 ≤ 255; have := hO k; omega)
  refine ⟨?_, ?_⟩
  · rw [goldB_sum _ S.gold hg _ (Nat.le_refl _), oreB_sum _ _ S.ore hr 64 (by omega), List.take_of_length_le (Nat.le_refl _), List.take_of_length_le (by omega)]
    rfl
  · rw [hb]
    exact bytes_last (toPS S) hP.l0 (by have := hP.l1; have h3 := hI.sum; show (S.units.length : Int) ≤ 65535; have h4 := (getD_le_sum S.gold hI.gpos 0).2; have h5 := (getD_le_sum S.ore hI.opos 0).2; omega)
end Go.Proofs.YtdianedehhecoaaGreatDoor
