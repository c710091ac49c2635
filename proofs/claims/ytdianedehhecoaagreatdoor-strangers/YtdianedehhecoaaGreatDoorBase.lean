/- Small facts that all walks of this seat use. -/
import Derived.Test.YtdianedehhecoaaGreatDoorRows
import Derived.Test.YtdianedehhecoaaGreatDoorBar
import Derived.WalkKit
import Derived.WalkSpells
import Derived.WalkSmall
import Derived.Below
import Derived.ProofKit
import Derived.BigRegion
import Derived.BigQuiet
import Derived.Deep.QuietTactic
import Derived.Deep.Light
import Derived.Laws.BitsAllLaws
import Derived.Maps.AppendAt
namespace Go.Proofs.YtdianedehhecoaaGreatDoor
open Go.RowKit
set_option linter.unusedVariables false
set_option linter.unusedSimpArgs false

theorem ret_bool {a b : Bool} (h : a = b) : Ending.returned (.bool a) = .returned (.bool b) := by rw [h]
theorem ret_int {k : IntKind} {a b : Int} (h : a = b) : Ending.returned (.int k a) = .returned (.int k b) := by rw [h]
theorem ret_str {a b : ByteArray} (h : a = b) : Ending.returned (.string a) = .returned (.string b) := by rw [h]
theorem bel_drewN {B : Nat} {a w : World} (h : Below B a w) (n : Nat) : Below B a (w.drewN n) := h.trans ⟨rfl, rfl, rfl, Nat.le_refl _, fun _ _ => rfl⟩
theorem bel_set {B b o : Nat} {a w : World} {v : Value} (h : Below B a w) (hp : B ≤ b) : Below B a (w.setCell ⟨b, o, none⟩ v) := h.setCell hp v
theorem bel_alloc {B : Nat} {a w : World} {o : Obj} (h : Below B a w) (hB : B ≤ w.heap.size) : Below B a (w.alloc o) := h.alloc hB o
end Go.Proofs.YtdianedehhecoaaGreatDoor

/- Blocks of memory as lists of cells; what a call may touch. Nothing of the program. -/
namespace Go.Proofs.YtdianedehhecoaaGreatDoor
open Go.RowKit
set_option linter.unusedVariables false
set_option linter.unusedSimpArgs false

/-- block b holds just these cells, and may be written -/
def BlkAt (w : World) (b : Nat) (xs : List Value) (e : TypeId) : Prop := w.heap[b]? = some (.cells xs.toArray e (0, 0))

theorem BlkAt.lt {w : World} {b : Nat} {xs : List Value} {e : TypeId} (h : BlkAt w b xs e) : b < w.heap.size := by
  unfold BlkAt at h
  exact (Array.getElem?_eq_some_iff.1 h).1
theorem BlkAt.cell {w : World} {b : Nat} {xs : List Value} {e : TypeId} (h : BlkAt w b xs e) {i : Nat} {v : Value} (hi : xs[i]? = some v) : w.cell? ⟨b, i, none⟩ = some v := by
  unfold BlkAt at h
  simp [World.cell?, h, hi]
theorem BlkAt.free {w : World} {b : Nat} {xs : List Value} {e : TypeId} (h : BlkAt w b xs e) (i : Nat) : w.frozen? ⟨b, i, none⟩ = false := by
  unfold BlkAt at h
  simp [World.frozen?, h]
theorem BlkAt.new (w : World) (xs : List Value) (e : TypeId) : BlkAt (w.alloc (.cells xs.toArray e)) w.heap.size xs e := by
  show (w.heap.push (.cells xs.toArray e))[w.heap.size]? = _
  simp
theorem BlkAt.same {w w' : World} {b : Nat} {xs : List Value} {e : TypeId} (h : BlkAt w b xs e) (hk : w'.heap[b]? = w.heap[b]?) : BlkAt w' b xs e := hk.trans h
theorem BlkAt.alloc {w : World} {b : Nat} {xs : List Value} {e : TypeId} (h : BlkAt w b xs e) (o : Obj) : BlkAt (w.alloc o) b xs e :=
  h.same (Below.heap_alloc _ _ _ h.lt)
theorem BlkAt.set {w : World} {b : Nat} {xs : List Value} {e : TypeId} (h : BlkAt w b xs e) (i : Nat) (v : Value) : BlkAt (w.setCell ⟨b, i, none⟩ v) b (xs.set i v) e := by
  unfold BlkAt at *
  simp [World.setCell, Array.getElem?_modify, h]
theorem BlkAt.other {w : World} {b c i : Nat} {xs : List Value} {e : TypeId} {v : Value} (h : BlkAt w b xs e) (hne : b ≠ c) : BlkAt (w.setCell ⟨c, i, none⟩ v) b xs e :=
  h.same (Below.heap_setCell _ _ _ _ hne)

/-- a slice's row: 'ownsRow' at any base -/
def RowAt (w : World) (e size : Nat) (v : Value) (n : Nat) (xs : List Value) : Prop := w.ownsRow 0 e size v n xs

theorem RowAt.len {w : World} {e size : Nat} {v : Value} {n : Nat} {xs : List Value} (h : RowAt w e size v n xs) : xs.length = n * size := h.1
theorem RowAt.lt {w : World} {e size : Nat} {v : Value} {n : Nat} {xs : List Value} (h : RowAt w e size v n xs) {k : Nat} (hk : v.ownBlock = some k) : k < w.heap.size := (World.ownsRow.lt h k hk).2
/-- a row that isn't empty: its block -/
theorem RowAt.form {w : World} {e size : Nat} {v : Value} {n : Nat} {xs : List Value} (h : RowAt w e size v n xs) (hn : 0 < n) :
    ∃ g cap, v = .slice (some ⟨g, 0, none⟩) n cap ∧ v.ownBlock = some g ∧ n ≤ cap ∧ cap ≤ maxLen ∧ (∀ i u, xs[i]? = some u → w.cell? ⟨g, i, none⟩ = some u) ∧ (∀ i, w.frozen? ⟨g, i, none⟩ = false) := by
  obtain ⟨hl, h | ⟨g, cap, cur, rfl, _, hb, hc, hm, hs, hx⟩⟩ := h
  · omega
  · refine ⟨g, cap, rfl, rfl, hc, hm, fun i u hi => ?_, fun i => by simp [World.frozen?, hb]⟩
    have : cur[i]? = some u := by
      have h2 : cur.toList[i]? = some u := by
        rw [← hx, List.getElem?_take] at hi
        split at hi
        · exact hi
        · cases hi
      simpa using h2
    simp [World.cell?, hb, this]
/-- a row that has a block, be it empty -/
theorem RowAt.form2 {w : World} {e size g : Nat} {v : Value} {n : Nat} {xs : List Value} (h : RowAt w e size v n xs) (hg : v.ownBlock = some g) :
    ∃ cap, v = .slice (some ⟨g, 0, none⟩) n cap ∧ n ≤ cap ∧ cap ≤ maxLen ∧ (∀ i u, xs[i]? = some u → w.cell? ⟨g, i, none⟩ = some u) ∧ (∀ i, w.frozen? ⟨g, i, none⟩ = false) := by
  obtain ⟨hl, ⟨rfl, _⟩ | ⟨g', cap, cur, rfl, h0, hb, hc, hm, hs, hx⟩⟩ := h
  · cases hg
  · have : g' = g := by simpa [Value.ownBlock] using hg
    subst this
    refine ⟨cap, rfl, hc, hm, fun i u hi => ?_, fun i => by simp [World.frozen?, hb]⟩
    have : cur[i]? = some u := by
      have h2 : cur.toList[i]? = some u := by
        rw [← hx, List.getElem?_take] at hi
        split at hi
        · exact hi
        · cases hi
      simpa using h2
    simp [World.cell?, hb, this]
theorem RowAt.same {w w' : World} {e size : Nat} {v : Value} {n : Nat} {xs : List Value} (h : RowAt w e size v n xs) (hk : ∀ k, v.ownBlock = some k → w'.heap[k]? = w.heap[k]?) : RowAt w' e size v n xs := by
  obtain ⟨hl, h | ⟨g, cap, cur, rfl, h0, hb, hc, hm, hs, hx⟩⟩ := h
  · exact ⟨hl, .inl h⟩
  · exact ⟨hl, .inr ⟨g, cap, cur, rfl, h0, (hk g rfl).trans hb, hc, hm, hs, hx⟩⟩
theorem RowAt.alloc {w : World} {e size : Nat} {v : Value} {n : Nat} {xs : List Value} (h : RowAt w e size v n xs) (o : Obj) : RowAt (w.alloc o) e size v n xs :=
  h.same fun k hk => Below.heap_alloc _ _ _ (h.lt hk)
theorem RowAt.other {w : World} {e size c i : Nat} {v u : Value} {n : Nat} {xs : List Value} (h : RowAt w e size v n xs) (hne : v.ownBlock ≠ some c) : RowAt (w.setCell ⟨c, i, none⟩ u) e size v n xs :=
  h.same fun k hk => Below.heap_setCell _ _ _ _ (fun e => hne (by rw [hk, e]))
theorem RowAt.set {w : World} {e size g : Nat} {v : Value} {n : Nat} {xs : List Value} (h : RowAt w e size v n xs) (hg : v.ownBlock = some g) (i : Nat) (u : Value) : RowAt (w.setCell ⟨g, i, none⟩ u) e size v n (xs.set i u) := by
  obtain ⟨hl, ⟨rfl, _⟩ | ⟨g', cap, cur, rfl, h0, hb, hc, hm, hs, hx⟩⟩ := h
  · cases hg
  · have : g' = g := by simpa [Value.ownBlock] using hg
    subst this
    refine ⟨by simpa using hl, .inr ⟨g', cap, cur.setIfInBounds i u, rfl, h0, ?_, hc, hm, by simpa using hs, ?_⟩⟩
    · simp [World.setCell, Array.getElem?_modify, hb]
    · rw [← hx]; simp [List.take_set]

/-- of the blocks that were there only those of O may have turned -/
structure Keep (O : Nat → Prop) (w w' : World) : Prop where
  os : w'.os = w.os
  tape : w'.tape = w.tape
  output : w'.output = w.output
  size : w.heap.size ≤ w'.heap.size
  block : ∀ k, k < w.heap.size → ¬ O k → w'.heap[k]? = w.heap[k]?

theorem Keep.refl (O : Nat → Prop) (w : World) : Keep O w w := ⟨rfl, rfl, rfl, Nat.le_refl _, fun _ _ _ => rfl⟩
theorem Keep.trans {O O' : Nat → Prop} {a b c : World} (h : Keep O a b) (k : Keep O' b c) (hO : ∀ j, O' j → O j ∨ a.heap.size ≤ j) : Keep O a c :=
  ⟨k.os.trans h.os, k.tape.trans h.tape, k.output.trans h.output, Nat.le_trans h.size k.size, fun i hi ho =>
    (k.block i (Nat.lt_of_lt_of_le hi h.size) (fun x => by rcases hO i x with y | y; exact ho y; omega)).trans (h.block i hi ho)⟩
theorem Keep.mono {O O' : Nat → Prop} {a b : World} (h : Keep O a b) (hO : ∀ j, O j → O' j ∨ a.heap.size ≤ j) : Keep O' a b :=
  (Keep.refl O' a).trans h hO
theorem Keep.ofBelow {B : Nat} {a b : World} (h : Below B a b) : Keep (fun k => B ≤ k) a b :=
  ⟨h.os, h.tape, h.output, h.size, fun k _ hk => h.block k (by omega)⟩
theorem Keep.below {B : Nat} {O : Nat → Prop} {a b : World} (h : Keep O a b) (hO : ∀ j, O j → B ≤ j) (hB : B ≤ a.heap.size) : Below B a b :=
  ⟨h.os, h.tape, h.output, h.size, fun k hk => h.block k (by omega) (fun x => by have := hO k x; omega)⟩
theorem Keep.drew {O : Nat → Prop} {a w : World} (h : Keep O a w) : Keep O a w.drew := ⟨h.os, h.tape, h.output, h.size, h.block⟩
theorem Keep.drewN {O : Nat → Prop} {a w : World} (h : Keep O a w) (n : Nat) : Keep O a (w.drewN n) :=
  ⟨h.os, h.tape, h.output, h.size, h.block⟩
theorem Keep.set {O : Nat → Prop} {a w : World} {b i : Nat} {v : Value} (h : Keep O a w) (hb : O b ∨ a.heap.size ≤ b) : Keep O a (w.setCell ⟨b, i, none⟩ v) :=
  h.trans (O' := fun k => k = b) ⟨rfl, rfl, rfl, by simp [World.setCell], fun k _ hk => Below.heap_setCell _ _ _ _ hk⟩ (fun j e => e ▸ hb)
theorem Keep.alloc {O : Nat → Prop} {a w : World} (h : Keep O a w) (o : Obj) : Keep O a (w.alloc o) :=
  h.trans (O' := fun _ => False) ⟨rfl, rfl, rfl, by simp, fun k hk _ => Below.heap_alloc _ _ _ hk⟩ (fun j e => e.elim)
theorem Keep.grown {O : Nat → Prop} {a w w' : World} {row : Option Nat} (h : Keep O a w) (hg : w.grownBy w' row) (hr : ∀ k, row = some k → O k ∨ a.heap.size ≤ k) : Keep O a w' :=
  h.trans (O' := fun k => row = some k) ⟨hg.os, hg.tape, hg.output, hg.size, fun k hk hn => hg.block k hk (fun e => hn e.symm)⟩ (fun j e => hr j e)
end Go.Proofs.YtdianedehhecoaaGreatDoor

/- Plain facts on the hash: FNV-1a of 64 bits in four limbs of 16 bits, and its sixteen digits. Nothing of the program. -/
namespace Go.Proofs.YtdianedehhecoaaGreatDoor
open Go.RowKit

def fnvStep (H c : Nat) : Nat := (H ^^^ c) * 1099511628211 % 18446744073709551616
def fnvFirst : Nat := 14695981039346656037
def fnv (l : List UInt8) : Nat := l.foldl (fun H c => fnvStep H c.toNat) fnvFirst
/-- limb i of H, of 16 bits -/
def lm (H i : Nat) : Int := ((H / 65536 ^ i % 65536 : Nat) : Int)

theorem fnv_lt (l : List UInt8) : fnv l < 18446744073709551616 := by
  unfold fnv
  have key : ∀ (l : List UInt8) (H : Nat), H < 18446744073709551616 → l.foldl (fun H c => fnvStep H c.toNat) H < 18446744073709551616 := by
    intro l
    induction l with
    | nil => intro H h; exact h
    | cons c l ih => intro H _; exact ih _ (Nat.mod_lt _ (by omega))
  exact key l _ (by unfold fnvFirst; omega)

theorem foldl_snoc {α β : Type} (f : β → α → β) (b : β) (l : List α) (c : α) : (l ++ [c]).foldl f b = f (l.foldl f b) c := by simp
theorem fnv_snoc (l : List UInt8) (c : UInt8) : fnv (l ++ [c]) = fnvStep (fnv l) c.toNat :=
  foldl_snoc (fun H (c : UInt8) => fnvStep H c.toNat) fnvFirst l c

theorem take_snoc (s : ByteArray) (k : Nat) (h : k < s.size) : s.data.toList.take (k + 1) = s.data.toList.take k ++ [s[k]] := by
  rw [List.take_succ_eq_append_getElem (by simpa using h)]; rfl

def hexd (d : Int) : ByteArray := (⟨#[48, 49, 50, 51, 52, 53, 54, 55, 56, 57, 97, 98, 99, 100, 101, 102]⟩ : ByteArray).extract d.toNat (d + 1).toNat
def hex4 (h : Int) : ByteArray := hexd (h / 4096 % 16) ++ hexd (h / 256 % 16) ++ hexd (h / 16 % 16) ++ hexd (h % 16)
def hexUpTo (H : Nat) : Nat → ByteArray
  | 0 => ⟨#[]⟩
  | j + 1 => hexUpTo H j ++ hex4 (lm H (3 - j))
def hexOf (H : Nat) : ByteArray := hexUpTo H 4
/-- the hash of a text -/
def hash16 (s : ByteArray) : ByteArray := hexOf (fnv s.data.toList)

theorem hexd_size (d : Int) (h0 : 0 ≤ d) (h1 : d < 16) : (hexd d).size = 1 := by
  unfold hexd
  rw [ByteArray.size_extract]
  have : (⟨#[48, 49, 50, 51, 52, 53, 54, 55, 56, 57, 97, 98, 99, 100, 101, 102]⟩ : ByteArray).size = 16 := rfl
  omega
theorem hex4_size (h : Int) : (hex4 h).size = 4 := by
  unfold hex4
  rw [ByteArray.size_append, ByteArray.size_append, ByteArray.size_append, hexd_size _ (by omega) (by omega), hexd_size _ (by omega) (by omega), hexd_size _ (by omega) (by omega), hexd_size _ (by omega) (by omega)]
theorem hexUpTo_size (H j : Nat) : (hexUpTo H j).size = 4 * j := by
  induction j with
  | zero => rfl
  | succ j ih => simp only [hexUpTo]; rw [ByteArray.size_append, ih, hex4_size]; omega
theorem hash16_size (s : ByteArray) : (hash16 s).size = 16 := hexUpTo_size _ 4
end Go.Proofs.YtdianedehhecoaaGreatDoor
