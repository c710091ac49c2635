/- Dues: the lists of numbers that come in, opened. -/
import Derived.Test.YtdianedehhecoaaGreatDoorDuesWalk
import Derived.ProofKit
import Derived.ChangeOld
import Derived.ChangeSlices
import Derived.SizedLaws
import Derived.DataShut
namespace Go.Proofs.YtdianedehhecoaaGreatDoor
open Go.ChangeShapes Go.WideShapes Go.RowKit
set_option linter.unusedVariables false
set_option linter.unusedSimpArgs false

theorem addr_none {w : World} {a : Addr} {v : Value} (h : w.cell? a = some v) : a = ⟨a.block, a.off, none⟩ := by
  have := World.cell?_spot h
  cases a
  simp at this
  subst this
  rfl
theorem add_none (g o i : Nat) : (⟨g, o, none⟩ : Addr).add i = ⟨g, o + i, none⟩ := by
  unfold Addr.add
  split
  · subst_vars; rfl
  · rfl
theorem weights_in {H : Type} {P : Program} {e : TypeId} : ∀ {l : List (DataW H)} {d : DataW H}, d ∈ l → ∀ n ∈ d.weights P e, n ∈ DataW.weightsAll P e l
  | x :: l, d, h, n, hn => by
    rw [DataW.weightsAll, List.mem_append]
    rcases List.mem_cons.1 h with rfl | h
    · exact Or.inl hn
    · exact Or.inr (weights_in h n hn)
/-- one of the lists -/
def NumsAt (w : World) (g o i : Nat) (r : List Int) : Prop :=
  (∃ ra rcap, w.cell? ⟨g, o + i, none⟩ = some (.slice ra r.length rcap) ∧
    ∀ k, k < r.length → ∃ g2 o2, ra = some ⟨g2, o2, none⟩ ∧ g2 < w.heap.size ∧ w.cell? ⟨g2, o2 + k, none⟩ = some (.int .i64 (r.getD k 0)) ∧ -9223372036854775808 ≤ r.getD k 0 ∧ r.getD k 0 ≤ 9223372036854775807) ∧ r.length ≤ 140737488351232
section
variable {H : Type} {enc : TypeId × Value → H} {P : Program} {w : World} {base : Nat} {spare : Nat → Bool} {held : Bool}
theorem row_open {g o i : Nat} {t e : TypeId} {fuel : Nat} {v : Value} {x : DataW H × List MemPlace} (ht : P.underlying t = some (.slice e)) (he : P.underlying e = some (.int .i64)) (hc : P.cellsOf e = 1) (hb : P.bytesOf e = 8)
    (hv : w.cell? ⟨g, o + i, none⟩ = some v) (h : DataW.trod enc P w base spare held fuel t [v] = some x) (hz : ∀ n ∈ x.1.weights P t, n ≤ reachBytes) : ∃ r, NumsAt w g o i r := by
  rcases open_ints ht he hc h with ⟨hcs, hx⟩ | ⟨a, len, cap, zs, hcs, hbb, hl, hm, hzl, hx, hcell, hwf⟩
  · simp at hcs
    subst hcs
    exact ⟨[], ⟨none, 0, hv, fun k hk => by simp at hk⟩, by simp⟩
  · simp at hcs
    subst hcs
    have hlz : len ≤ zs.length := by rw [hzl]; split <;> omega
    have hlen : (zs.take len).length = len := by rw [List.length_take]; omega
    refine ⟨zs.take len, ⟨some a, cap, by rw [hlen]; exact hv, fun k hk => ?_⟩, ?_⟩
    · rw [hlen] at hk
      have h0 := hcell 0 (by omega)
      rw [show a.add 0 = a from rfl] at h0
      have ea := addr_none h0
      have hk1 := hcell k (by omega)
      have eg : (zs.take len).getD k 0 = zs.getD k 0 := by simp [List.getD, List.getElem?_take, hk]
      have hmem : zs.getD k 0 ∈ zs := by
        have : zs.getD k 0 = zs[k]'(by omega) := by simp [List.getD, show k < zs.length by omega]
        rw [this]
        exact List.getElem_mem _
      have hr := (Lit.wf_int_iff .i64 _).1 (hwf _ hmem)
      rw [ea, add_none] at hk1
      refine ⟨a.block, a.off, congrArg some ea, World.block_lt_of_cell? w _ h0, ?_, ?_⟩
      · rw [eg]; exact hk1
      · rw [eg]; exact hr
    · have := hz ((lits (H := H) IntKind.i64 (zs.take len)).length * 8 + (lits (H := H) IntKind.i64 (zs.drop len)).length * 8) (by
        rw [hx, DataW.weights, ht]
        simp only [hb, Nat.add_mul, List.mem_cons, true_or])
      simp only [lits, List.length_map] at this
      have e : reachBytes = 140737488351232 := rfl
      omega
theorem arg_open {t t2 e : TypeId} {fuel : Nat} {a0 : Option Addr} {l0 c0 : Nat} {x : DataW H × List MemPlace} (ht : P.underlying t = some (.slice t2)) (ht2 : P.underlying t2 = some (.slice e)) (he : P.underlying e = some (.int .i64)) (hc : P.cellsOf e = 1) (hb : P.bytesOf e = 8) (hc2 : P.cellsOf t2 = 1) (hb2 : 1 ≤ P.bytesOf t2)
    (h : DataW.trod enc P w base spare held fuel t [.slice a0 l0 c0] = some x) (hz : ∀ n ∈ x.1.weights P t, n ≤ reachBytes) : ∃ L, TArg w (.slice a0 l0 c0) L ∧ L.length ≤ 140737488351232 ∧ ∀ i, (L.getD i []).length ≤ 140737488351232 := by
  rcases DataW.trod_slice ht h with ⟨hcs, hx⟩ | ⟨a, len, cap, elems, rest, n, _, hcs, hx, hbb, hl, hm, hlen, hel, hsp, hns⟩
  · simp at hcs
    obtain ⟨rfl, rfl, rfl⟩ := hcs
    exact ⟨[], ⟨none, 0, rfl, fun i hi => by simp at hi⟩, by simp, fun i => by simp⟩
  · simp at hcs
    obtain ⟨rfl, rfl, rfl⟩ := hcs
    have hrow : ∀ i, i < l0 → w.cell? a = w.cell? ⟨a.block, a.off, none⟩ ∧ a = ⟨a.block, a.off, none⟩ ∧ a.block < w.heap.size ∧ ∃ r, NumsAt w a.block a.off i r := by
      intro i hi
      have hone : ∀ j, j < l0 → ∃ v y, elems[j]? = some y ∧ w.cell? (a.add j) = some v ∧ DataW.trod enc P w base spare held n t2 [v] = some y := by
        intro j hj
        have hy : elems[j]? = some (elems[j]'(by omega)) := List.getElem?_eq_getElem (by omega)
        have h1 := hel j hj
        rw [hy, hc2, Nat.mul_one, Option.bind_eq_some_iff] at h1
        obtain ⟨cs, hcs, hd⟩ := h1
        obtain ⟨_, hl1, hcc⟩ := World.cells?_some hcs
        match cs, hl1 with
        | [v], _ => exact ⟨v, _, hy, cell_of_cells?_one hcs, hd⟩
      obtain ⟨v0, y0, -, hv0, -⟩ := hone 0 (by omega)
      rw [show a.add 0 = a from rfl] at hv0
      have ea := addr_none hv0
      obtain ⟨v, y, hy, hv, hd⟩ := hone i hi
      rw [ea, add_none] at hv
      refine ⟨congrArg _ ea, ea, World.block_lt_of_cell? w _ hv0, row_open ht2 he hc hb hv hd fun m hm => hz m ?_⟩
      rw [hx, DataW.weights, ht]
      simp only [List.mem_cons, List.mem_append]
      exact Or.inr (Or.inl (weights_in (List.mem_map.2 ⟨y, List.mem_of_getElem? hy, rfl⟩) m hm))
    have hall : ∀ i, ∃ r, i < l0 → NumsAt w a.block a.off i r := fun i => by
      by_cases hi : i < l0
      · obtain ⟨-, -, -, r, hr⟩ := hrow i hi
        exact ⟨r, fun _ => hr⟩
      · exact ⟨[], fun h => absurd h hi⟩
    have hL : ((List.range l0).map fun i => Classical.choose (hall i)).length = l0 := by simp
    have hg : ∀ i, i < l0 → ((List.range l0).map fun i => Classical.choose (hall i)).getD i [] = Classical.choose (hall i) := fun i hi => by
      simp [List.getD, List.getElem?_map, List.getElem?_range, hi]
    have hr : ∀ i, i < l0 → NumsAt w a.block a.off i (((List.range l0).map fun i => Classical.choose (hall i)).getD i []) := fun i hi => by
      rw [hg i hi]
      exact Classical.choose_spec (hall i) hi
    generalize ((List.range l0).map fun i => Classical.choose (hall i)) = L at hL hr
    refine ⟨L, ⟨some a, c0, by rw [hL], fun i hi => ?_⟩, ?_, fun i => ?_⟩
    · rw [hL] at hi
      obtain ⟨-, ea, hlt, -⟩ := hrow i hi
      obtain ⟨⟨ra, rcap, h1, h2⟩, -⟩ := hr i hi
      exact ⟨a.block, a.off, congrArg some ea, hlt, ra, rcap, h1, h2⟩
    · have := hz ((elems.map (·.1)).length * P.bytesOf t2 + (rest.map (·.1)).length * P.bytesOf t2) (by
        rw [hx, DataW.weights, ht]
        simp only [Nat.add_mul, List.mem_cons, true_or])
      rw [List.length_map, hlen] at this
      have e : reachBytes = 140737488351232 := rfl
      have h2 : l0 * 1 ≤ l0 * P.bytesOf t2 := Nat.mul_le_mul_left _ hb2
      omega
    · by_cases hi : i < l0
      · exact (hr i hi).2
      · have : L.getD i [] = [] := by simp [List.getD, List.getElem?_eq_none (show L.length ≤ i by omega)]
        rw [this]; simp
end
end Go.Proofs.YtdianedehhecoaaGreatDoor
