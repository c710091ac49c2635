/- What is paid for units; a turn more: for Dues. No walk. -/
import Derived.Test.YtdianedehhecoaaGreatDoorRefPure
namespace Go.Proofs.YtdianedehhecoaaGreatDoor
open Go.RowKit
set_option linter.unusedVariables false
set_option linter.unusedSimpArgs false

/-- what gold and ore there is -/
def worthF (S : RS) : Int := S.gold.sum + S.ore.sum
/-- from S to S' so many units came, and so much was paid -/
def Paid (S S' : RS) : Prop := S.units.length ≤ S'.units.length ∧ S'.gold.length = S.gold.length ∧ 2 * ((S'.units.length : Int) - S.units.length) ≤ worthF S - worthF S' ∧ worthF S - worthF S' ≤ 3 * ((S'.units.length : Int) - S.units.length)
theorem Paid.same {S S' : RS} (hg : S'.gold = S.gold) (ho : S'.ore = S.ore) (hl : S'.units.length = S.units.length) : Paid S S' := by
  unfold Paid worthF
  rw [hg, ho, hl]
  omega
theorem Paid.trans {A B C : RS} (h : Paid A B) (k : Paid B C) : Paid A C := by
  unfold Paid at *
  omega
theorem does_paid {S : RS} (hI : RInv S) (k : Nat) (hk : k < S.units.length) (wh x y on : Int) (x0 : 0 ≤ x) (x7 : x ≤ 7) (y0 : 0 ≤ y) (y7 : y ≤ 7) : Paid S (doesF S k wh x y on).1 := by
  obtain ⟨-, -, o0, o1, -⟩ := hI.us k hk
  have hz : (8 * y + x).toNat < S.ore.length := by rw [hI.ore]; omega
  have ho : (S.units.getD k ru0).own.toNat < S.gold.length := by omega
  unfold doesF
  simp only
  split
  · split
    · exact Paid.same rfl rfl rfl
    · exact Paid.same rfl rfl (by simp)
  · split
    · split
      · exact Paid.same rfl rfl rfl
      · exact Paid.same rfl rfl (by simp)
    · split
      · split
        · exact Paid.same rfl rfl rfl
        · unfold Paid worthF
          simp only [List.length_set]
          rw [sum_set_int _ _ _ hz, sum_set_int _ _ _ ho]
          generalize S.ore.getD (8 * y + x).toNat 0 = o
          generalize S.gold.getD (S.units.getD k ru0).own.toNat 0 = g
          generalize S.gold.sum = a
          generalize S.ore.sum = b
          exact ⟨Nat.le_refl _, trivial, by omega, by omega⟩
      · split
        · rename_i hw
          split
          · exact Paid.same rfl rfl rfl
          · unfold Paid worthF
            simp only [List.length_set, List.length_append, List.length_singleton]
            rw [sum_set_int _ _ _ ho]
            generalize S.gold.getD (S.units.getD k ru0).own.toNat 0 = g
            generalize S.gold.sum = a
            generalize S.ore.sum = b
            exact ⟨by omega, trivial, by omega, by omega⟩
        · exact Paid.same rfl rfl rfl
theorem on_paid {S : RS} (hI : RInv S) (c : RC) : Paid S (c.on S) := by
  unfold RC.on commandF
  simp only
  split
  · exact Paid.same rfl rfl (by simp [giveTo_len])
  · split
    · exact Paid.same rfl rfl rfl
    · rename_i hr
      split
      · exact Paid.same rfl rfl rfl
      · rename_i hq
        have hn : nearB c.x c.y (S.units.getD (c.un - 1).toNat ru0).x (S.units.getD (c.un - 1).toNat ru0).y = true := by
          cases e : nearB c.x c.y (S.units.getD (c.un - 1).toNat ru0).x (S.units.getD (c.un - 1).toNat ru0).y
          · exact absurd (.inr (.inr (.inr e))) hq
          · rfl
        have hd := of_decide_eq_true hn
        have hp := does_paid hI (c.un - 1).toNat (by omega) c.wh c.x c.y (atF S.units c.x c.y) hd.1 hd.2.1 hd.2.2.1 hd.2.2.2.1
        split
        · exact hp.trans (Paid.same rfl rfl (by simp))
        · exact hp
theorem run_paid {S : RS} (hI : RInv S) (cs : List RC) : Paid S (runTo S cs) := by
  induction cs generalizing S with
  | nil => exact Paid.same rfl rfl rfl
  | cons c cs ih =>
    simp only [runTo, List.foldl_cons]
    exact (on_paid hI c).trans (ih (hI.on c))
theorem do_paid {S : RS} (hI : RInv S) (cs : List RC) : Paid S (doF S cs) := by
  unfold doF
  simp only
  have h1 : Paid S { S with units := clearTo S.units S.units.length } := Paid.same rfl rfl (by simp [clearTo_len])
  have h2 := run_paid (hI.clear _ (Nat.le_refl _)) cs
  exact (h1.trans h2).trans (Paid.same rfl rfl (by simp [dropTo_len]))
theorem play_snoc (S : RS) (css : List (List RC)) (cs : List RC) : playF S (css ++ [cs]) = (playF S css).bind fun S' => if overB S' then none else some (doF S' cs) := by
  induction css generalizing S with
  | nil => simp [playF]
  | cons c css ih =>
    simp only [List.cons_append, playF]
    split
    · rfl
    · exact ih _
theorem byt_left (s t : ByteArray) (i : Nat) (h : i < s.size) : byt (s ++ t) i = byt s i := by
  unfold byt
  have h' : i < s.data.toList.length := h
  simp only [ByteArray.data_append, Array.toList_append, List.getD]
  rw [List.getElem?_append_left h']
theorem byt_right (s t : ByteArray) (i : Nat) : byt (s ++ t) (s.size + i) = byt t i := by
  unfold byt
  have h' : s.size = s.data.toList.length := rfl
  simp only [ByteArray.data_append, Array.toList_append, List.getD]
  rw [h', List.getElem?_append_right (by omega)]
  rw [show s.data.toList.length + i - s.data.toList.length = i by omega]
theorem cmds_left (s t : ByteArray) (a n : Nat) (h : a + 5 * n ≤ s.size) : cmdsAt (s ++ t) a n = cmdsAt s a n := by
  induction n with
  | zero => rfl
  | succ n ih =>
    simp only [cmdsAt, cmdAt]
    rw [ih (by omega), byt_left _ _ _ (by omega), byt_left _ _ _ (by omega), byt_left _ _ _ (by omega), byt_left _ _ _ (by omega), byt_left _ _ _ (by omega)]
theorem cmds_right (s t : ByteArray) (a n : Nat) : cmdsAt (s ++ t) (s.size + a) n = cmdsAt t a n := by
  induction n with
  | zero => rfl
  | succ n ih =>
    simp only [cmdsAt, cmdAt]
    rw [ih]
    simp only [Nat.add_assoc, byt_right]
theorem read_snoc (s t : ByteArray) (n : Nat) (hn : n ≤ 36) (ht : t.size = 1 + 5 * n) (hb : byt t 0 = n) (fuel a left : Nat) (css : List (List RC)) (ha : a ≤ s.size) (h : readF s fuel a left = some css) (hl : css.length < left) (fuel' : Nat) (hf : fuel + 1 ≤ fuel') :
    readF (s ++ t) fuel' a left = some (css ++ [cmdsAt t 1 n]) := by
  have hsz : (s ++ t).size = s.size + t.size := ByteArray.size_append
  induction fuel generalizing a left css fuel' with
  | zero => simp [readF] at h
  | succ fuel ih =>
    obtain ⟨f', rfl⟩ : ∃ f', fuel' = f' + 1 := ⟨fuel' - 1, by omega⟩
    simp only [readF] at h ⊢
    by_cases c : a < s.size
    · rw [if_pos c] at h
      rw [if_pos (by omega), byt_left _ _ _ c]
      by_cases d : 36 < (byt s a).toNat ∨ s.size < a + 1 + 5 * (byt s a).toNat ∨ left = 0
      · rw [if_pos d] at h; cases h
      · rw [if_neg d] at h
        rw [if_neg (by omega)]
        obtain ⟨l, h1, rfl⟩ := Option.map_eq_some_iff.1 h
        have := ih (a + 1 + 5 * (byt s a).toNat) (left - 1) l (by omega) h1 (by simp at hl; omega) f' (by omega)
        rw [this]
        simp only [Option.map_some, List.cons_append]
        rw [cmds_left _ _ _ _ (by omega)]
    · rw [if_neg c] at h
      have hcss : css = [] := by cases h; rfl
      subst hcss
      have has : a = s.size := by omega
      subst has
      have e0 : byt (s ++ t) s.size = n := by have := byt_right s t 0; rw [Nat.add_zero] at this; rw [this, hb]
      have e1 : ((n : Int)).toNat = n := by omega
      simp only [List.length_nil] at hl
      rw [if_pos (by omega), e0, e1, if_neg (by omega), cmds_right]
      obtain ⟨g, rfl⟩ : ∃ g, f' = g + 1 := ⟨f' - 1, by omega⟩
      simp only [readF]
      rw [if_neg (by omega)]
      rfl
theorem turns_snoc (s t : ByteArray) (n : Nat) (hn : n ≤ 36) (ht : t.size = 1 + 5 * n) (hb : byt t 0 = n) (css : List (List RC)) (h : turnsF s = some css) (hl : css.length < 1000) :
    turnsF (s ++ t) = some (css ++ [cmdsAt t 1 n]) := by
  unfold turnsF at *
  have hsz : (s ++ t).size = s.size + t.size := ByteArray.size_append
  exact read_snoc s t n hn ht hb _ 0 1000 css (Nat.zero_le _) h hl _ (by omega)
end Go.Proofs.YtdianedehhecoaaGreatDoor
