/- The document's answer: Do, a turn. -/
import Derived.Test.YtodbocpeidagiaaDoorRefCommand2
namespace Go.Proofs.YtodbocpeidagiaaDoor
open Go.RowKit
set_option linter.unusedVariables false
set_option linter.unusedSimpArgs false

/-- a command as a number list -/
structure RC where
  p : Int
  un : Int
  wh : Int
  x : Int
  y : Int

def RC.ok (c : RC) : Prop := 0 ≤ c.p ∧ c.p ≤ 255 ∧ 0 ≤ c.un ∧ c.un ≤ 255 ∧ 0 ≤ c.wh ∧ c.wh ≤ 255 ∧ 0 ≤ c.x ∧ c.x ≤ 255 ∧ 0 ≤ c.y ∧ c.y ≤ 255
def RC.cells (c : RC) : List Value := [.int .i64 c.p, .int .i64 c.un, .int .i64 c.wh, .int .i64 c.x, .int .i64 c.y]
def rc0 : RC := ⟨0, 0, 0, 0, 0⟩
def RC.on (c : RC) (S : RS) : RS := commandF S c.p c.un c.wh c.x c.y

theorem command_any {w : World} {O : Nat → Prop} {b : Nat} {S : RS} {gv uv : Value} (c : RC) (hc : c.ok) (h : RefAt w O b S gv uv) (hI : RInv S) :
    Calls Tryd.prog 37 #[.pointer (some ⟨b, 0, none⟩), .agg #[.int .i64 c.p, .int .i64 c.un, .int .i64 c.wh, .int .i64 c.x, .int .i64 c.y]] w fun e w' => e = .returned (.tuple #[]) ∧ Moved O w b gv (c.on S) w' := by
  obtain ⟨p, un, wh, x, y⟩ := c
  obtain ⟨-, -, u0, u1, -⟩ := hc
  simp only [RC.on] at *
  by_cases hg : un = 0 ∧ wh = 0 ∧ x = 0 ∧ y = 0
  · obtain ⟨rfl, rfl, rfl, rfl⟩ := hg
    have e : commandF S p 0 0 0 0 = { S with units := giveTo S.units p S.units.length } := by simp [commandF]
    rw [e]
    exact command_give p h hI
  · by_cases hno : un - 1 < 0 ∨ (S.units.length : Int) ≤ un - 1
    · have e : commandF S p un wh x y = S := by unfold commandF; rw [if_neg hg, if_pos hno]
      rw [e]
      exact command_none p un wh x y h hI u0 u1 hg hno
    · obtain ⟨k, hk⟩ : ∃ k : Nat, un = (k : Int) + 1 := ⟨(un - 1).toNat, by omega⟩
      subst hk
      exact command_unit k p wh x y h hI (by omega)

def clearTo (us : List RU) : Nat → List RU
  | 0 => us
  | k + 1 => (clearTo us k).set k { (clearTo us k).getD k ru0 with busy := false }
theorem clearTo_len (us : List RU) (k : Nat) : (clearTo us k).length = us.length := by
  induction k with
  | zero => rfl
  | succ k ih => simp [clearTo, ih]
/-- the first k units whose player has no Base are gone -/
def dropTo (us : List RU) : Nat → List RU
  | 0 => us
  | k + 1 => if inF (dropTo us k) ((dropTo us k).getD k ru0).own then dropTo us k else (dropTo us k).set k { (dropTo us k).getD k ru0 with hp := 0 }
theorem dropTo_len (us : List RU) (k : Nat) : (dropTo us k).length = us.length := by
  induction k with
  | zero => rfl
  | succ k ih => simp only [dropTo]; split <;> simp [ih]

def runTo (S : RS) (cs : List RC) : RS := cs.foldl (fun S c => c.on S) S
def doF (S : RS) (cs : List RC) : RS :=
  let S1 := runTo { S with units := clearTo S.units S.units.length } cs
  { S1 with turn := S1.turn + 1, units := dropTo S1.units S1.units.length }
end Go.Proofs.YtodbocpeidagiaaDoor

/- The document's answer: what a command keeps. No walk. -/
namespace Go.Proofs.YtodbocpeidagiaaDoor
open Go.RowKit
set_option linter.unusedVariables false
set_option linter.unusedSimpArgs false

theorem getD_set_ru (l : List RU) (k i : Nat) (u : RU) : (l.set k u).getD i ru0 = if i = k ∧ k < l.length then u else l.getD i ru0 := by
  simp only [List.getD, List.getElem?_set]
  by_cases h : k = i
  · subst h
    by_cases h2 : k < l.length
    · simp [h2]
    · simp [h2, List.getElem?_eq_none (show l.length ≤ k by omega)]
  · have : ¬ i = k := fun e => h e.symm
    simp [h, this]
theorem getD_set_int (l : List Int) (k i : Nat) (u : Int) : (l.set k u).getD i 0 = if i = k ∧ k < l.length then u else l.getD i 0 := by
  simp only [List.getD, List.getElem?_set]
  by_cases h : k = i
  · subst h
    by_cases h2 : k < l.length
    · simp [h2]
    · simp [h2, List.getElem?_eq_none (show l.length ≤ k by omega)]
  · have : ¬ i = k := fun e => h e.symm
    simp [h, this]
theorem sum_set_int (l : List Int) (k : Nat) (v : Int) (hk : k < l.length) : (l.set k v).sum = l.sum - l.getD k 0 + v := by
  induction l generalizing k with
  | nil => simp at hk
  | cons a l ih =>
    cases k with
    | zero => simp; omega
    | succ k =>
      have := ih k (by simpa using hk)
      simp only [List.set_cons_succ, List.sum_cons, List.getD_cons_succ]
      omega

theorem RInv.setUnit {S : RS} (h : RInv S) (k : Nat) (u : RU) (hu : UInv S.gold.length u) : RInv { S with units := S.units.set k u } := by
  refine ⟨h.ore, h.g2, h.g4, h.gpos, h.opos, by simpa using h.sum, by simpa using h.u0, fun i hi => ?_⟩
  simp only [List.length_set] at hi
  simp only [getD_set_ru]
  split
  · exact hu
  · exact h.us i hi
theorem RInv.setTurn {S : RS} (h : RInv S) (n : Int) : RInv { S with turn := n } := ⟨h.ore, h.g2, h.g4, h.gpos, h.opos, h.sum, h.u0, h.us⟩

theorem RInv.clear {S : RS} (h : RInv S) (k : Nat) (hk : k ≤ S.units.length) : RInv { S with units := clearTo S.units k } := by
  induction k with
  | zero => exact h
  | succ k ih =>
    have h' := ih (by omega)
    have hu := h'.us k (by simp [clearTo_len]; omega)
    exact h'.setUnit k { (clearTo S.units k).getD k ru0 with busy := false } hu
theorem RInv.give {S : RS} (h : RInv S) (p : Int) (k : Nat) (hk : k ≤ S.units.length) : RInv { S with units := giveTo S.units p k } := by
  induction k with
  | zero => exact h
  | succ k ih =>
    have h' := ih (by omega)
    have hu := h'.us k (by simp [giveTo_len]; omega)
    simp only [giveTo]
    split
    · obtain ⟨a1, a2, a3, a4, a5, a6, a7, a8, a9, a10⟩ := hu
      exact h'.setUnit k { (giveTo S.units p k).getD k ru0 with hp := 0 } ⟨a1, a2, a3, a4, a5, a6, a7, a8, by show (-3 : Int) ≤ 0; omega, by show (0 : Int) ≤ 20; omega⟩
    · exact h'
theorem RInv.dropT {S : RS} (h : RInv S) (k : Nat) (hk : k ≤ S.units.length) : RInv { S with units := dropTo S.units k } := by
  induction k with
  | zero => exact h
  | succ k ih =>
    have h' := ih (by omega)
    have hu := h'.us k (by simp [dropTo_len]; omega)
    simp only [dropTo]
    split
    · exact h'
    · obtain ⟨a1, a2, a3, a4, a5, a6, a7, a8, a9, a10⟩ := hu
      exact h'.setUnit k { (dropTo S.units k).getD k ru0 with hp := 0 } ⟨a1, a2, a3, a4, a5, a6, a7, a8, by show (-3 : Int) ≤ 0; omega, by show (0 : Int) ≤ 20; omega⟩

theorem atF_alive (us : List RU) (x y : Int) (h : ¬ atF us x y < 0) : 0 < (us.getD (atF us x y).toNat ru0).hp := by
  unfold atF at *
  split at h
  · rename_i i hi
    obtain ⟨h1, h2, h3⟩ := List.findIdx?_eq_some_iff_getElem.1 hi
    simp only [Int.toNat_natCast, List.getD, List.getElem?_eq_getElem h1, Option.getD_some]
    unfold onB at h2
    simp at h2
    exact h2.1.1
  · omega

theorem hitOf_range (k : Int) : 0 ≤ hitOf k ∧ hitOf k ≤ 3 := by
  unfold hitOf; repeat' split
  all_goals omega

theorem RInv.does {S : RS} (h : RInv S) (k : Nat) (hk : k < S.units.length) (wh x y : Int) (hx0 : 0 ≤ x) (hx7 : x ≤ 7) (hy0 : 0 ≤ y) (hy7 : y ≤ 7) :
    RInv (doesF S k wh x y (atF S.units x y)).1 := by
  have hu := h.us k hk
  have hat := atF_lt S.units x y
  have hal := atF_alive S.units x y
  generalize atF S.units x y = on at *
  obtain ⟨a1, a2, a3, a4, a5, a6, a7, a8, a9, a10⟩ := hu
  have key : ∀ r : RS × Bool, r = doesF S k wh x y on → RInv r.1 := by
    intro r hr
    simp only [doesF] at hr
    split at hr
    · split at hr
      · subst hr; exact h
      · subst hr; exact h.setUnit k { S.units.getD k ru0 with x := x, y := y } ⟨a1, a2, a3, a4, hx0, hx7, hy0, hy7, a9, a10⟩
    split at hr
    · split at hr
      · subst hr; exact h
      · rename_i hno
        have hp := hal (fun e => hno (.inl e))
        have hv := h.us on.toNat (by omega)
        obtain ⟨b1, b2, b3, b4, b5, b6, b7, b8, b9, b10⟩ := hv
        have hh := hitOf_range (S.units.getD k ru0).kind
        subst hr
        exact h.setUnit on.toNat { S.units.getD on.toNat ru0 with hp := (S.units.getD on.toNat ru0).hp - hitOf (S.units.getD k ru0).kind } ⟨b1, b2, b3, b4, b5, b6, b7, b8, by show -3 ≤ _ - _; omega, by show _ - _ ≤ 20; omega⟩
    split at hr
    · split at hr
      · subst hr; exact h
      · rename_i hno
        have ho : ¬ S.ore.getD (8 * y + x).toNat 0 < 1 := fun e => hno (.inr e)
        have hz : (8 * y + x).toNat < S.ore.length := by have := h.ore; omega
        have hg : (S.units.getD k ru0).own.toNat < S.gold.length := by omega
        have e1 := sum_set_int S.ore (8 * y + x).toNat (S.ore.getD (8 * y + x).toNat 0 - 1) hz
        have e2 := sum_set_int S.gold (S.units.getD k ru0).own.toNat (S.gold.getD (S.units.getD k ru0).own.toNat 0 + 1) hg
        have hs := h.sum
        subst hr
        refine ⟨by simpa using h.ore, by simpa using h.g2, by simpa using h.g4, fun i => ?_, fun i => ?_, ?_, h.u0, fun i hi => ?_⟩
        · have := h.gpos i
          have := h.gpos (S.units.getD k ru0).own.toNat
          simp only [getD_set_int]; split <;> omega
        · have := h.opos i
          simp only [getD_set_int]; split <;> omega
        · simp only at *; omega
        · have := h.us i hi
          simpa using this
    split at hr
    · rename_i hw
      split at hr
      · subst hr; exact h
      · rename_i hno
        have hc : ¬ S.gold.getD (S.units.getD k ru0).own.toNat 0 < wh - 2 := fun e => hno (.inr (.inr (.inl e)))
        have hg : (S.units.getD k ru0).own.toNat < S.gold.length := by omega
        have e2 := sum_set_int S.gold (S.units.getD k ru0).own.toNat (S.gold.getD (S.units.getD k ru0).own.toNat 0 - (wh - 2)) hg
        have hs := h.sum
        subst hr
        refine ⟨h.ore, by simpa using h.g2, by simpa using h.g4, fun i => ?_, h.opos, ?_, by simp, fun i hi => ?_⟩
        · have := h.gpos i
          simp only [getD_set_int]; split <;> omega
        · simp only [List.length_append, List.length_singleton] at *; omega
        · simp only [List.length_append, List.length_singleton] at hi
          simp only [List.length_set]
          by_cases hi2 : i < S.units.length
          · have := h.us i hi2
            simpa [List.getD, List.getElem?_append_left hi2] using this
          · have : i = S.units.length := by omega
            subst this
            simp only [List.getD, List.getElem?_append_right (Nat.le_refl _), Nat.sub_self, List.getElem?_cons_zero, Option.getD_some]
            have hh : healthOf (wh - 2) = 5 ∨ healthOf (wh - 2) = 8 := by rcases hw with rfl | rfl; exact .inl rfl; exact .inr rfl
            refine ⟨by show 1 ≤ wh - 2; omega, by show wh - 2 ≤ 3; omega, a3, a4, hx0, hx7, hy0, hy7, by show -3 ≤ healthOf (wh - 2); omega, by show healthOf (wh - 2) ≤ 20; omega⟩
    · subst hr; exact h
  exact key _ rfl

theorem RInv.on {S : RS} (h : RInv S) (c : RC) : RInv (c.on S) := by
  unfold RC.on
  have key : ∀ r : RS, r = commandF S c.p c.un c.wh c.x c.y → RInv r := by
    intro r hr
    unfold commandF at hr
    split at hr
    · subst hr; exact h.give c.p _ (Nat.le_refl _)
    split at hr
    · subst hr; exact h
    rename_i hk
    have hk' : (c.un - 1).toNat < S.units.length := by omega
    simp only at hr
    split at hr
    · subst hr; exact h
    rename_i hn
    have hnear : nearB c.x c.y (S.units.getD (c.un - 1).toNat ru0).x (S.units.getD (c.un - 1).toNat ru0).y = true := by
      cases e : nearB c.x c.y (S.units.getD (c.un - 1).toNat ru0).x (S.units.getD (c.un - 1).toNat ru0).y
      · exact absurd (.inr (.inr (.inr e))) hn
      · rfl
    obtain ⟨rx0, rx7, ry0, ry7⟩ : 0 ≤ c.x ∧ c.x ≤ 7 ∧ 0 ≤ c.y ∧ c.y ≤ 7 := by unfold nearB at hnear; simp at hnear; omega
    have hd := h.does _ hk' c.wh c.x c.y rx0 rx7 ry0 ry7
    have hl := (doesF_len S (c.un - 1).toNat c.wh c.x c.y (atF S.units c.x c.y)).1
    generalize doesF S (c.un - 1).toNat c.wh c.x c.y (atF S.units c.x c.y) = q at *
    split at hr
    · subst hr
      exact hd.setUnit _ { q.1.units.getD (c.un - 1).toNat ru0 with busy := true } (hd.us _ (by omega))
    · subst hr; exact hd
  exact key _ rfl

theorem on_keeps (S : RS) (c : RC) : (c.on S).turn = S.turn ∧ (c.on S).gold.length = S.gold.length := by
  unfold RC.on
  have dk : ∀ k wh x y on, ∀ r : RS × Bool, r = doesF S k wh x y on → r.1.turn = S.turn ∧ r.1.gold.length = S.gold.length := by
    intro k wh x y on r hr
    simp only [doesF] at hr
    repeat' split at hr
    all_goals (subst hr; simp)
  have key : ∀ r : RS, r = commandF S c.p c.un c.wh c.x c.y → r.turn = S.turn ∧ r.gold.length = S.gold.length := by
    intro r hr
    unfold commandF at hr
    split at hr
    · subst hr; simp
    split at hr
    · subst hr; simp
    simp only at hr
    split at hr
    · subst hr; simp
    have hd := dk (c.un - 1).toNat c.wh c.x c.y (atF S.units c.x c.y) _ rfl
    generalize doesF S (c.un - 1).toNat c.wh c.x c.y (atF S.units c.x c.y) = q at *
    split at hr
    · subst hr; exact hd
    · subst hr; exact hd
  exact key _ rfl
theorem run_keeps (S : RS) (cs : List RC) : (runTo S cs).turn = S.turn ∧ (runTo S cs).gold.length = S.gold.length := by
  unfold runTo
  induction cs generalizing S with
  | nil => exact ⟨rfl, rfl⟩
  | cons c cs ih =>
    have h1 := on_keeps S c
    have h2 := ih (c.on S)
    exact ⟨h2.1.trans h1.1, h2.2.trans h1.2⟩

theorem RInv.run {S : RS} (h : RInv S) (cs : List RC) : RInv (runTo S cs) := by
  unfold runTo
  induction cs generalizing S with
  | nil => exact h
  | cons c cs ih => exact ih (h.on c)
theorem RInv.doF {S : RS} (h : RInv S) (cs : List RC) : RInv (doF S cs) := by
  have h1 := (h.clear _ (Nat.le_refl _)).run cs
  exact (h1.setTurn _).dropT _ (Nat.le_refl _)
end Go.Proofs.YtodbocpeidagiaaDoor
