/- Dues: the walk, out of what begin leaves. -/
import Derived.Test.YtdianedehhecoaaGreatDoorRelWorth
import Derived.Test.YtdianedehhecoaaGreatDoorProgFold
import Derived.Deep.RegionHeld3
namespace Go.Proofs.YtdianedehhecoaaGreatDoor
open Go.RowKit
set_option linter.unusedVariables false
set_option linter.unusedSimpArgs false

theorem mayB_of (seed : Int) (P : Nat) (s0 : 0 ≤ seed) (s1 : seed ≤ 999) (p2 : 2 ≤ P) (p4 : P ≤ 4) : mayB seed P = true := by
  unfold mayB
  rw [decide_eq_true_eq]
  omega
theorem fold_ok {seed : Int} {P : Nat} {s : ByteArray} {css : List (List RC)} {S : RS} (hm : mayB seed P = true) (ht : turnsF s = some css) (hp : playF (startTo seed P) css = some S) : foldF seed P s = (bytesF S, hash16 (bytesF S), 0) := by
  unfold foldF
  rw [if_neg (by rw [hm]; simp), ht]
  simp only
  rw [show ((P : Int)).toNat = P by omega, hp]
theorem fold_over {seed : Int} {P : Nat} {s : ByteArray} {css : List (List RC)} (hm : mayB seed P = true) (ht : turnsF s = some css) (hp : playF (startTo seed P) css = none) : foldF seed P s = (⟨#[]⟩, ⟨#[]⟩, 9) := by
  unfold foldF
  rw [if_neg (by rw [hm]; simp), ht]
  simp only
  rw [show ((P : Int)).toNat = P by omega, hp]
theorem start_ore (seed : Int) (P : Nat) : OreLe (startTo seed P) := fun i => by
  rw [(startTo_ore seed P).1]
  exact (oreS_range seed 64 i).2
theorem bytes_long (S : RS) : 70 + 2 * S.gold.length ≤ (bytesF S).size := by
  unfold bytesF
  have h : ∀ k, 70 + 2 * S.gold.length ≤ (unitTo S k).size := by
    intro k
    induction k with
    | zero => simp only [unitTo]; rw [ByteArray.size_append, oreTo_size, b1_size]; omega
    | succ k ih =>
      simp only [unitTo]
      split
      · simp only [ByteArray.size_append, b1_size, b2_size]; omega
      · exact ih
  exact h _
theorem start_over (seed : Int) (P : Nat) (p2 : 2 ≤ P) (p4 : P ≤ 4) : overB (startTo seed P) = false := by
  have hc : P = 2 ∨ P = 3 ∨ P = 4 := by omega
  rcases hc with rfl | rfl | rfl <;> rfl
/-- the lists of numbers that came in -/
def TArg (w : World) (tv : Value) (L : List (List Int)) : Prop :=
  ∃ a cap, tv = .slice a L.length cap ∧ ∀ i, i < L.length → ∃ g o, a = some ⟨g, o, none⟩ ∧ g < w.heap.size ∧ ∃ ra rcap, w.cell? ⟨g, o + i, none⟩ = some (.slice ra (L.getD i []).length rcap) ∧
    ∀ k, k < (L.getD i []).length → ∃ g2 o2, ra = some ⟨g2, o2, none⟩ ∧ g2 < w.heap.size ∧ w.cell? ⟨g2, o2 + k, none⟩ = some (.int .i64 ((L.getD i []).getD k 0)) ∧ -9223372036854775808 ≤ (L.getD i []).getD k 0 ∧ (L.getD i []).getD k 0 ≤ 9223372036854775807
/-- what begin leaves for Dues: a Play with this seed and so many players -/
def Begun (w : World) (seed : Int) (P : Nat) (e : Ending) (w' : World) : Prop :=
  ∃ pb, e = .returned (.tuple #[.pointer (some ⟨pb, 0, none⟩), .bool true]) ∧ w.heap.size ≤ pb ∧ pb < w'.heap.size ∧ w'.cell? ⟨pb, 2, none⟩ = some (.int .i64 seed) ∧ w'.cell? ⟨pb, 3, none⟩ = some (.int .i64 P) ∧ Below w.heap.size w w'

/-- the commands of a turn, so far -/
def cmdB (P : Int) (L : List Int) : Nat → ByteArray
  | 0 => ⟨#[]⟩
  | k + 1 => cmdB P L k ++ bytesK (pickF (L.getD k 0) P) (Int.tdiv (L.getD k 0) 4)
theorem cmdB_size (P : Int) (L : List Int) (k : Nat) : (cmdB P L k).size = 5 * k := by
  induction k with
  | zero => rfl
  | succ k ih => simp only [cmdB]; rw [ByteArray.size_append, ih, bytesK_size]; omega
theorem tdiv4_range (c : Int) (h0 : -9223372036854775808 ≤ c) (h1 : c ≤ 9223372036854775807) : -9223372036854775808 ≤ Int.tdiv c 4 ∧ Int.tdiv c 4 ≤ 9223372036854775807 := by
  by_cases h : 0 ≤ c
  · rw [Int.tdiv_eq_ediv_of_nonneg h]; omega
  · have : Int.tdiv c 4 = -(Int.tdiv (-c) 4) := by rw [Int.neg_tdiv]; omega
    rw [this, Int.tdiv_eq_ediv_of_nonneg (by omega)]
    omega
def nOf (l : List Int) : Nat := if 36 < l.length then 36 else l.length
theorem nOf_le (l : List Int) : nOf l ≤ 36 ∧ nOf l ≤ l.length := by unfold nOf; split <;> omega
def turnB (P : Int) (l : List Int) : ByteArray := strOfNums [(nOf l : Int)] ++ cmdB P l (nOf l)
theorem turnB_size (P : Int) (l : List Int) : (turnB P l).size = 1 + 5 * nOf l := by
  unfold turnB
  rw [ByteArray.size_append, cmdB_size]
  rfl
theorem turnB_first (P : Int) (l : List Int) : byt (turnB P l) 0 = nOf l := by
  have h := (nOf_le l).1
  unfold turnB
  rw [byt_left _ _ _ (by show 0 < 1; omega), byt_str _ _ (by show (0 : Int) ≤ (nOf l : Int); omega) (by show (nOf l : Int) ≤ 255; omega)]
  rfl

theorem ba_nil (s : ByteArray) : s ++ (⟨#[]⟩ : ByteArray) = s := by
  apply ByteArray.ext
  simp
theorem worth_bounds {S : RS} (h : RInv S) : 0 ≤ worthF S ∧ worthF S ≤ 300 := by
  have h1 := (getD_le_sum S.gold h.gpos 0).2
  have h2 := (getD_le_sum S.ore h.opos 0).2
  have h3 := h.sum
  unfold worthF
  omega
structure DInv (sd : Int) (P k : Nat) (a : ByteArray) (S : RS) : Prop where
  size : a.size ≤ 181 * k
  most : k ≤ 1000
  turns : ∃ css, turnsF a = some css ∧ css.length = k ∧ playF (startTo sd P) css = some S
  inv : RInv S
  ore : OreLe S
  gold : S.gold.length = P
theorem DInv.start (sd : Int) (P : Nat) (p2 : 2 ≤ P) (p4 : P ≤ 4) : DInv sd P 0 ⟨#[]⟩ (startTo sd P) :=
  ⟨Nat.le_refl _, by omega, ⟨[], rfl, rfl, rfl⟩, startTo_inv sd P p2 p4, start_ore sd P, startTo_gold sd P⟩
theorem DInv.zero {sd : Int} {P : Nat} {a : ByteArray} {S : RS} (h : DInv sd P 0 a S) : S = startTo sd P := by
  obtain ⟨css, -, h2, h3⟩ := h.turns
  rw [List.length_eq_zero_iff.1 h2] at h3
  exact (Option.some.inj h3).symm
theorem DInv.over {sd : Int} {P k : Nat} {a : ByteArray} {S : RS} (h : DInv sd P k a S) (hk : k < 1000) (hm : mayB sd P = true) (l : List Int) (ho : overB S = true) : foldF sd P (a ++ turnB P l) = (⟨#[]⟩, ⟨#[]⟩, 9) := by
  obtain ⟨css, h1, h2, h3⟩ := h.turns
  have ht := turns_snoc a (turnB P l) (nOf l) (nOf_le l).1 (turnB_size _ _) (turnB_first _ _) css h1 (by omega)
  refine fold_over hm ht ?_
  rw [play_snoc, h3]
  simp [ho]
theorem DInv.next {sd : Int} {P k : Nat} {a : ByteArray} {S : RS} (h : DInv sd P k a S) (hk : k < 1000) (hm : mayB sd P = true) (l : List Int) (ho : overB S = false) :
    ∃ S', foldF sd P (a ++ turnB P l) = (bytesF S', hash16 (bytesF S'), 0) ∧ DInv sd P (k + 1) (a ++ turnB P l) S' ∧ Paid S S' := by
  obtain ⟨css, h1, h2, h3⟩ := h.turns
  have ht := turns_snoc a (turnB P l) (nOf l) (nOf_le l).1 (turnB_size _ _) (turnB_first _ _) css h1 (by omega)
  have hp : playF (startTo sd P) (css ++ [cmdsAt (turnB P l) 1 (nOf l)]) = some (doF S (cmdsAt (turnB P l) 1 (nOf l))) := by
    rw [play_snoc, h3]
    simp [ho]
  have hn := (nOf_le l).1
  have hs := h.size
  have hz := turnB_size P l
  refine ⟨_, fold_ok hm ht hp, ⟨?_, by omega, ⟨_, ht, by simp [h2], hp⟩, h.inv.doF _, do_ore h.ore _, by rw [(doF_turn S _).2, h.gold]⟩, do_paid h.inv _⟩
  rw [ByteArray.size_append, hz]
  omega

set_option maxHeartbeats 8000000 in
set_option maxRecDepth 100000 in
theorem Dues_any (seed players : Int) (tv : Value) (L : List (List Int)) (w : World) (hT : TArg w tv L) (hL : L.length ≤ 140737488351232) (hLr : ∀ i, (L.getD i []).length ≤ 140737488351232) (hC : Corners w) (hD : w.cell? ⟨4, 15, none⟩ = some (.int .u8 4))
    (P : Nat) (p2 : 2 ≤ P) (p4 : P ≤ 4) (sd : Int) (s0 : 0 ≤ sd) (s1 : sd ≤ 999)
    (hBeg : Calls Tryz.prog 12 #[.int .i64 seed, .int .i64 players, .int .i64 0] w (Begun w sd P)) :
    Calls Tryz.prog 9 #[.int .i64 seed, .int .i64 players, tv] w fun e w' => e = .returned (.bool true) ∧ Below w.heap.size w w' := by
  obtain ⟨ta, tcap, rfl, hTT⟩ := hT
  have HT := (show Hid _ from hTT)
  have HLr := (show Hid _ from hLr)
  have hDl := cell_lt hD
  have hmay := mayB_of sd P s0 s1 p2 p4
  have HF : Hid (∀ (W : World) (a : ByteArray), Below w.heap.size w W → a.size ≤ 1000000 → Calls Tryz.prog 17 #[.int .i64 sd, .int .i64 P, .string a] W fun e w' => foldSaid (foldF sd P a) e ∧ Below W.heap.size W w') := fun W a hW ha =>
    PFold_any sd P a W (by omega) (Corners.below hC hW) ((hW.cell (p := ⟨4, 15, none⟩) hDl).trans hD)
  have HBeg := (show Hid _ from hBeg)
  clear hTT hLr hC hD hBeg
  go_enter Tryz.func9, Tryz.ntmps9
  go_wp2_with fail
  refine Calls.mono HBeg.out ?_
  rintro e w1 ⟨pb, rfl, z1, z2, c2, c3, hb1⟩
  have HF0 : Hid (Calls Tryz.prog 17 #[.int .i64 sd, .int .i64 P, .string ⟨#[]⟩] w1.drew fun e w2 => e = .returned (.tuple #[.string (bytesF (startTo sd P)), .string (hash16 (bytesF (startTo sd P))), .int .i64 0]) ∧
      (w2.cell? ⟨pb, 2, none⟩ = some (.int .i64 sd) ∧ w2.cell? ⟨pb, 3, none⟩ = some (.int .i64 P)) ∧ Hid (Below w.heap.size w w2 ∧ Below w1.heap.size w1 w2)) := by
    refine (HF.out w1.drew ⟨#[]⟩ hb1.drew (by show 0 ≤ 1000000; omega)).mono ?_
    rintro e w2 ⟨he, hb2⟩
    have hf : foldF sd P ⟨#[]⟩ = (bytesF (startTo sd P), hash16 (bytesF (startTo sd P)), 0) := fold_ok (css := []) hmay rfl rfl
    rw [hf] at he
    have hb12 : Below w1.heap.size w1 w2 := (Below.refl _ _).drew.trans hb2
    exact ⟨he, ⟨(hb12.cell (p := ⟨pb, 2, none⟩) z2).trans c2, (hb12.cell (p := ⟨pb, 3, none⟩) z2).trans c3⟩, hb1.trans (hb12.mono hb1.size), hb12⟩
  have Hb1 := (show Hid _ from hb1)
  clear hb1 HBeg
  go_wp2_with fail
  go_region_held3 (fun w' => w'.cell? ⟨pb, 2, none⟩ = some (.int .i64 sd) ∧ w'.cell? ⟨pb, 3, none⟩ = some (.int .i64 P)) (first | assumption | go_keep) (first | (go_at_call 17; refine Calls.mono HF0.out ?_; rintro e w2 ⟨rfl, hqs, hqb⟩))
  all_goals
    have hI0 := startTo_inv sd P p2 p4
    have hg0 := startTo_gold sd P
    have hw0 := worth_rel hI0 (start_ore sd P)
    have hl0 := bytes_long (startTo sd P)
    have hl1 := bytesF_size (startTo sd P) hI0
    rw [hg0] at hw0 hl0
    have HW0 := (show Hid _ from kworth_any (bytesF (startTo sd P)) P w2 p4 hl0 (by omega))
    rw [hw0.1, hw0.2] at HW0
    obtain ⟨c2', c3'⟩ := hqs
    have z3 : pb < w2.heap.size := by have := hqb.out.2.size; omega
    go_wp2_with (go_at_call 23; refine Calls.mono HW0.out ?_; rintro e w3 ⟨rfl, hb3⟩)
    have HCell : Hid (∀ W, Below w2.heap.size w2 W → W.cell? ⟨pb, 2, none⟩ = some (.int .i64 sd) ∧ W.cell? ⟨pb, 3, none⟩ = some (.int .i64 P)) := fun W hW => ⟨(hW.cell (p := ⟨pb, 2, none⟩) z3).trans c2', (hW.cell (p := ⟨pb, 3, none⟩) z3).trans c3'⟩
    have Hb2 : Hid (Below w.heap.size w w2) := hqb.out.1
    have Hb3 := (show Hid _ from hb3)
    clear hb3 c2' c3' HW0 hw0 hl0 hl1 hg0 hI0 HF0 hqb c2 c3
    go_loopw [9, 13, 14, 15] (fun all gd ls i wr => ∃ (k : Nat) (a : ByteArray) (S : RS), i = .int .i64 k ∧ all = .string a ∧ gd = .int .i64 (worthF S) ∧ ls = .int .i64 S.units.length ∧ k ≤ L.length ∧ DInv sd P k a S ∧ Below w2.heap.size w2 wr) (fun _ _ _ i _ => 1000 - (intOf i).toNat)
    case atStart => exact ⟨0, _, _, rfl, rfl, rfl, rfl, Nat.zero_le _, DInv.start sd P p2 p4, Hb3.out⟩
    case round =>
      clear Hb3
      obtain ⟨k, a, S, rfl, rfl, rfl, rfl, hkL, hd, hbel⟩ := hrel
      by_cases hlt : k < L.length
      · by_cases h1000 : k < 1000
        · have hki : (k : Int) < L.length := by omega
          have hk1 : (k : Int) < 1000 := by omega
          obtain ⟨tg, to, rfl, htg, ra, rcap, hc, hcs⟩ := HT.out k hlt
          have hb02 : Below w.heap.size w wr := Hb2.out.trans (hbel.mono Hb2.out.size)
          have hcw := (hb02.cell (p := ⟨tg, to + k, none⟩) htg).trans hc
          have hlr := HLr.out k
          have Hcs := (show Hid _ from hcs)
          have Hc := (show Hid _ from hc)
          have Hbel := (show Hid _ from hbel)
          generalize L.getD k [] = l at *
          clear hcs hc hbel hb02
          by_cases h36 : 36 < l.length
          · have h36i : (36 : Int) < l.length := by omega
            have HNL : Hid ((nOf l : Int) = 36) := by unfold Hid nOf; rw [if_pos h36]; rfl
            have hnl := nOf_le l
            have kc1 := kconv1
            have hsz := hd.size
            have hm0 := hd.most
            have Q0 : Hid (a ++ strOfNums [(36 : Int)] ++ cmdB P l (nOf l) = a ++ turnB P l) := by unfold Hid turnB; rw [HNL.out, ByteArray.append_assoc]
            have r1 : ∀ W : World, (Op.stringOp .add a (strOfNums [(36 : Int)])).run Tryz.prog W = .ok (.string (a ++ strOfNums [(36 : Int)])) W := fun W => run_string_add_sum W _ _ (by show a.size + 1 ≤ 9223372036854775807; omega)
            have Hd := (show Hid _ from hd)
            have hz1 : (a ++ strOfNums [(36 : Int)]).size = a.size + 1 := by rw [ByteArray.size_append]; rfl
            clear hd
            go_wp2
            go_loopw [9, 17] (fun all kq wq => ∃ q : Nat, q ≤ nOf l ∧ kq = .int .i64 q ∧ all = .string (a ++ strOfNums [(36 : Int)] ++ cmdB P l q) ∧ Below w2.heap.size w2 wq) (fun _ kq _ => 36 - (intOf kq).toNat)
            case atStart => exact ⟨0, Nat.zero_le _, rfl, by rw [show cmdB P l 0 = ⟨#[]⟩ from rfl, ba_nil], (Hbel.out.alloc Hbel.out.size _)⟩
            case round =>
              clear Hbel r1
              obtain ⟨q, hq, rfl, rfl, hbq⟩ := hrel
              have hb0q : Below w.heap.size w wr := Hb2.out.trans (hbq.mono Hb2.out.size)
              obtain ⟨e2, e3⟩ := HCell.out wr hbq
              have hcz := cmdB_size P l q
              by_cases hlq : q < nOf l
              · have hqi : (q : Int) < 36 := by rw [← HNL.out]; omega
                have hql : q < l.length := by omega
                obtain ⟨g2, o2, rfl, hg2, hc2, r0, r1'⟩ := Hcs.out q hql
                have d1 := (hb0q.cell (p := ⟨tg, to + k, none⟩) htg).trans Hc.out
                have d2 := (hb0q.cell (p := ⟨g2, o2 + q, none⟩) hg2).trans hc2
                have HCm : Hid (cmdB P l (q + 1) = cmdB P l q ++ bytesK (pickF (l.getD q 0) P) (Int.tdiv (l.getD q 0) 4)) := rfl
                obtain ⟨t0, t1⟩ := tdiv4_range (l.getD q 0) r0 r1'
                obtain ⟨k0, k1⟩ := pickF_range (l.getD q 0) P (by omega)
                have HPk := (show Hid _ from kpick_any (l.getD q 0) P wr r0 r1' (by omega) (by omega))
                have HBy : Hid (∀ W, Calls Tryz.prog 24 #[.int .i64 (pickF (l.getD q 0) P), .int .i64 (Int.tdiv (l.getD q 0) 4)] W fun e w' => e = .returned (.string (bytesK (pickF (l.getD q 0) P) (Int.tdiv (l.getD q 0) 4))) ∧ Below W.heap.size W w') := fun W => kbytes_any _ _ W k0 (by omega) t0 t1
                have r2 : ∀ W : World, (Op.stringOp .add (a ++ strOfNums [(36 : Int)] ++ cmdB P l q) (bytesK (pickF (l.getD q 0) P) (Int.tdiv (l.getD q 0) 4))).run Tryz.prog W = .ok (.string (a ++ strOfNums [(36 : Int)] ++ cmdB P l q ++ bytesK (pickF (l.getD q 0) P) (Int.tdiv (l.getD q 0) 4))) W := fun W => run_string_add_sum W _ _ (by rw [ByteArray.size_append, hcz, hz1, bytesK_size]; omega)
                have Hbq := (show Hid _ from hbq)
                clear hbq hb0q hc2
                generalize l.getD q 0 = c at *
                generalize pickF c P = pk at *
                generalize hX : a ++ strOfNums [(36 : Int)] ++ cmdB P l q = X at *
                have HX := (show Hid _ from hX)
                clear hX
                go_wp2_with (first | (go_at_call 25; refine Calls.mono HPk.out ?_; rintro e w' ⟨rfl, hx'⟩; rw [hx']; clear hx' w') | (go_at_call 24; refine Calls.mono (HBy.out _) ?_; rintro e w5 ⟨rfl, hb5⟩))
                go_light
                have hCm := HCm.out
                have hXX := HX.out
                exact ⟨⟨q + 1, by omega, by go_num, by rw [hCm, ← hXX, ByteArray.append_assoc], Hbq.out.trans (hb5.mono Hbq.out.size)⟩, by simp [intOf]; omega⟩
              · obtain rfl : q = nOf l := by omega
                have hqi : (36 : Int) ≤ (nOf l : Int) := by rw [HNL.out]; omega
                have hXs : (a ++ strOfNums [(36 : Int)] ++ cmdB P l (nOf l)).size ≤ 1000000 := by rw [ByteArray.size_append, hcz, hz1]; omega
                have HQ := Q0
                have Hbq := (show Hid _ from hbq)
                have Hb0q := (show Hid _ from hb0q)
                clear hbq hb0q hcz hz1 Q0 Hcs
                generalize a ++ strOfNums [(36 : Int)] ++ cmdB P l (nOf l) = X at *
                have HFq : Hid (Calls Tryz.prog 17 #[.int .i64 sd, .int .i64 P, .string X] wr.drew fun e w6 => e = .returned (.tuple #[.string (foldF sd P X).1, .string (foldF sd P X).2.1, .int .i64 (foldF sd P X).2.2]) ∧
                    (w6.cell? ⟨pb, 2, none⟩ = some (.int .i64 sd) ∧ w6.cell? ⟨pb, 3, none⟩ = some (.int .i64 P)) ∧ Hid (Below w2.heap.size w2 w6)) := by
                  refine (HF.out wr.drew X Hb0q.out.drew hXs).mono ?_
                  rintro e w6 ⟨he, hb6⟩
                  have hb26 : Below w2.heap.size w2 w6 := Hbq.out.trans (((Below.refl _ _).drew.trans hb6).mono Hbq.out.size)
                  exact ⟨he, HCell.out w6 hb26, hb26⟩
                have Hd2 := (show Hid _ from Hd)
                cases ho : overB S
                · obtain ⟨S', f1, f2, f3⟩ := Hd.out.next h1000 hmay l ho
                  rw [← HQ.out] at f1 f2
                  rw [f1] at HFq
                  simp only at HFq
                  have hI' := f2.inv
                  have hg' := f2.gold
                  have hw' := worth_rel hI' f2.ore
                  have hl' := bytes_long S'
                  have hl2 := bytesF_size S' hI'
                  rw [hg'] at hw' hl'
                  obtain ⟨y1, -, y2, y3⟩ := f3
                  obtain ⟨v1, v2⟩ := worth_bounds Hd.out.inv
                  obtain ⟨v3, v4⟩ := worth_bounds hI'
                  have v5 := hI'.bounds.1
                  have HWq : Hid (∀ W, Calls Tryz.prog 23 #[.string (bytesF S'), .int .i64 P] W fun e w' => e = .returned (.tuple #[.int .i64 (worthF S'), .int .i64 S'.units.length]) ∧ Below W.heap.size W w') := fun W => by
                    have := kworth_any (bytesF S') P W p4 hl' (by omega)
                    rw [hw'.1, hw'.2] at this
                    exact this
                  have F2 := (show Hid _ from f2)
                  have hlen' : (70 : Int) + 2 * (P : Int) ≤ ((bytesF S').size : Int) := by omega
                  have hl2i : ((bytesF S').size : Int) ≤ 2000 := by omega
                  clear f1 f2 hI' hg' hw' hl' hl2 ho hXs
                  generalize hash16 (bytesF S') = hs at *
                  generalize bytesF S' = B' at *
                  generalize hW0 : worthF S = W0 at *
                  generalize hW1 : worthF S' = W1 at *
                  have HW1 := (show Hid _ from hW1)
                  clear hW0 hW1
                  go_wp2_with fail
                  go_region_held3 (fun w' => w'.cell? ⟨pb, 2, none⟩ = some (.int .i64 sd) ∧ w'.cell? ⟨pb, 3, none⟩ = some (.int .i64 P)) (first | assumption | go_keep) (first | (go_at_call 17; refine Calls.mono HFq.out ?_; rintro e w2' ⟨rfl, hqs', hqb'⟩))
                  all_goals
                    obtain ⟨e2', e3'⟩ := hqs'
                    go_wp2_with (go_at_call 23; refine Calls.mono (HWq.out _) ?_; rintro e w7 ⟨rfl, hb7⟩)
                    go_light
                    have hw1 := HW1.out
                    exact ⟨⟨k + 1, X, S', by go_num, rfl, by rw [hw1], rfl, by omega, F2.out, hqb'.out.trans (hb7.mono hqb'.out.size)⟩, by simp [intOf]; omega⟩
                · have hov := Hd.out.over h1000 hmay l ho
                  rw [← HQ.out] at hov
                  rw [hov] at HFq
                  simp only at HFq
                  have hk0 : 0 < k := Nat.pos_of_ne_zero (fun e => by
                    subst e
                    rw [Hd.out.zero, start_over sd P p2 p4] at ho
                    cases ho)
                  have hk0i : (0 : Int) < k := by omega
                  clear hov ho hXs
                  go_wp2_with fail
                  go_region_held3 (fun w' => w'.cell? ⟨pb, 2, none⟩ = some (.int .i64 sd) ∧ w'.cell? ⟨pb, 3, none⟩ = some (.int .i64 P)) (first | assumption | go_keep) (first | (go_at_call 17; refine Calls.mono HFq.out ?_; rintro e w2' ⟨rfl, hqs', hqb'⟩))
                  all_goals
                    obtain ⟨e2', e3'⟩ := hqs'
                    have Hqb := hqb'
                    go_wp2
                    go_ret
                    exact ⟨rfl, Hb2.out.trans (Hqb.out.mono Hb2.out.size)⟩
          · have h36i : (l.length : Int) ≤ 36 := by omega
            have HNL : Hid ((nOf l : Int) = (l.length : Int)) := by unfold Hid nOf; rw [if_neg h36]
            have hnl := nOf_le l
            have kc1 := kconv1
            have hsz := hd.size
            have hm0 := hd.most
            have Q0 : Hid (a ++ strOfNums [((l.length : Int) : Int)] ++ cmdB P l (nOf l) = a ++ turnB P l) := by unfold Hid turnB; rw [HNL.out, ByteArray.append_assoc]
            have r1 : ∀ W : World, (Op.stringOp .add a (strOfNums [((l.length : Int) : Int)])).run Tryz.prog W = .ok (.string (a ++ strOfNums [((l.length : Int) : Int)])) W := fun W => run_string_add_sum W _ _ (by show a.size + 1 ≤ 9223372036854775807; omega)
            have Hd := (show Hid _ from hd)
            have hz1 : (a ++ strOfNums [((l.length : Int) : Int)]).size = a.size + 1 := by rw [ByteArray.size_append]; rfl
            clear hd
            go_wp2
            go_loopw [9, 17] (fun all kq wq => ∃ q : Nat, q ≤ nOf l ∧ kq = .int .i64 q ∧ all = .string (a ++ strOfNums [((l.length : Int) : Int)] ++ cmdB P l q) ∧ Below w2.heap.size w2 wq) (fun _ kq _ => 36 - (intOf kq).toNat)
            case atStart => exact ⟨0, Nat.zero_le _, rfl, by rw [show cmdB P l 0 = ⟨#[]⟩ from rfl, ba_nil], (Hbel.out.alloc Hbel.out.size _)⟩
            case round =>
              clear Hbel r1
              obtain ⟨q, hq, rfl, rfl, hbq⟩ := hrel
              have hb0q : Below w.heap.size w wr := Hb2.out.trans (hbq.mono Hb2.out.size)
              obtain ⟨e2, e3⟩ := HCell.out wr hbq
              have hcz := cmdB_size P l q
              by_cases hlq : q < nOf l
              · have hqi : (q : Int) < (l.length : Int) := by rw [← HNL.out]; omega
                have hql : q < l.length := by omega
                obtain ⟨g2, o2, rfl, hg2, hc2, r0, r1'⟩ := Hcs.out q hql
                have d1 := (hb0q.cell (p := ⟨tg, to + k, none⟩) htg).trans Hc.out
                have d2 := (hb0q.cell (p := ⟨g2, o2 + q, none⟩) hg2).trans hc2
                have HCm : Hid (cmdB P l (q + 1) = cmdB P l q ++ bytesK (pickF (l.getD q 0) P) (Int.tdiv (l.getD q 0) 4)) := rfl
                obtain ⟨t0, t1⟩ := tdiv4_range (l.getD q 0) r0 r1'
                obtain ⟨k0, k1⟩ := pickF_range (l.getD q 0) P (by omega)
                have HPk := (show Hid _ from kpick_any (l.getD q 0) P wr r0 r1' (by omega) (by omega))
                have HBy : Hid (∀ W, Calls Tryz.prog 24 #[.int .i64 (pickF (l.getD q 0) P), .int .i64 (Int.tdiv (l.getD q 0) 4)] W fun e w' => e = .returned (.string (bytesK (pickF (l.getD q 0) P) (Int.tdiv (l.getD q 0) 4))) ∧ Below W.heap.size W w') := fun W => kbytes_any _ _ W k0 (by omega) t0 t1
                have r2 : ∀ W : World, (Op.stringOp .add (a ++ strOfNums [((l.length : Int) : Int)] ++ cmdB P l q) (bytesK (pickF (l.getD q 0) P) (Int.tdiv (l.getD q 0) 4))).run Tryz.prog W = .ok (.string (a ++ strOfNums [((l.length : Int) : Int)] ++ cmdB P l q ++ bytesK (pickF (l.getD q 0) P) (Int.tdiv (l.getD q 0) 4))) W := fun W => run_string_add_sum W _ _ (by rw [ByteArray.size_append, hcz, hz1, bytesK_size]; omega)
                have Hbq := (show Hid _ from hbq)
                clear hbq hb0q hc2
                generalize l.getD q 0 = c at *
                generalize pickF c P = pk at *
                generalize hX : a ++ strOfNums [((l.length : Int) : Int)] ++ cmdB P l q = X at *
                have HX := (show Hid _ from hX)
                clear hX
                go_wp2_with (first | (go_at_call 25; refine Calls.mono HPk.out ?_; rintro e w' ⟨rfl, hx'⟩; rw [hx']; clear hx' w') | (go_at_call 24; refine Calls.mono (HBy.out _) ?_; rintro e w5 ⟨rfl, hb5⟩))
                go_light
                have hCm := HCm.out
                have hXX := HX.out
                exact ⟨⟨q + 1, by omega, by go_num, by rw [hCm, ← hXX, ByteArray.append_assoc], Hbq.out.trans (hb5.mono Hbq.out.size)⟩, by simp [intOf]; omega⟩
              · obtain rfl : q = nOf l := by omega
                have hqi : ((l.length : Int) : Int) ≤ (nOf l : Int) := by rw [HNL.out]; omega
                have hXs : (a ++ strOfNums [((l.length : Int) : Int)] ++ cmdB P l (nOf l)).size ≤ 1000000 := by rw [ByteArray.size_append, hcz, hz1]; omega
                have HQ := Q0
                have Hbq := (show Hid _ from hbq)
                have Hb0q := (show Hid _ from hb0q)
                clear hbq hb0q hcz hz1 Q0 Hcs
                generalize a ++ strOfNums [((l.length : Int) : Int)] ++ cmdB P l (nOf l) = X at *
                have HFq : Hid (Calls Tryz.prog 17 #[.int .i64 sd, .int .i64 P, .string X] wr.drew fun e w6 => e = .returned (.tuple #[.string (foldF sd P X).1, .string (foldF sd P X).2.1, .int .i64 (foldF sd P X).2.2]) ∧
                    (w6.cell? ⟨pb, 2, none⟩ = some (.int .i64 sd) ∧ w6.cell? ⟨pb, 3, none⟩ = some (.int .i64 P)) ∧ Hid (Below w2.heap.size w2 w6)) := by
                  refine (HF.out wr.drew X Hb0q.out.drew hXs).mono ?_
                  rintro e w6 ⟨he, hb6⟩
                  have hb26 : Below w2.heap.size w2 w6 := Hbq.out.trans (((Below.refl _ _).drew.trans hb6).mono Hbq.out.size)
                  exact ⟨he, HCell.out w6 hb26, hb26⟩
                have Hd2 := (show Hid _ from Hd)
                cases ho : overB S
                · obtain ⟨S', f1, f2, f3⟩ := Hd.out.next h1000 hmay l ho
                  rw [← HQ.out] at f1 f2
                  rw [f1] at HFq
                  simp only at HFq
                  have hI' := f2.inv
                  have hg' := f2.gold
                  have hw' := worth_rel hI' f2.ore
                  have hl' := bytes_long S'
                  have hl2 := bytesF_size S' hI'
                  rw [hg'] at hw' hl'
                  obtain ⟨y1, -, y2, y3⟩ := f3
                  obtain ⟨v1, v2⟩ := worth_bounds Hd.out.inv
                  obtain ⟨v3, v4⟩ := worth_bounds hI'
                  have v5 := hI'.bounds.1
                  have HWq : Hid (∀ W, Calls Tryz.prog 23 #[.string (bytesF S'), .int .i64 P] W fun e w' => e = .returned (.tuple #[.int .i64 (worthF S'), .int .i64 S'.units.length]) ∧ Below W.heap.size W w') := fun W => by
                    have := kworth_any (bytesF S') P W p4 hl' (by omega)
                    rw [hw'.1, hw'.2] at this
                    exact this
                  have F2 := (show Hid _ from f2)
                  have hlen' : (70 : Int) + 2 * (P : Int) ≤ ((bytesF S').size : Int) := by omega
                  have hl2i : ((bytesF S').size : Int) ≤ 2000 := by omega
                  clear f1 f2 hI' hg' hw' hl' hl2 ho hXs
                  generalize hash16 (bytesF S') = hs at *
                  generalize bytesF S' = B' at *
                  generalize hW0 : worthF S = W0 at *
                  generalize hW1 : worthF S' = W1 at *
                  have HW1 := (show Hid _ from hW1)
                  clear hW0 hW1
                  go_wp2_with fail
                  go_region_held3 (fun w' => w'.cell? ⟨pb, 2, none⟩ = some (.int .i64 sd) ∧ w'.cell? ⟨pb, 3, none⟩ = some (.int .i64 P)) (first | assumption | go_keep) (first | (go_at_call 17; refine Calls.mono HFq.out ?_; rintro e w2' ⟨rfl, hqs', hqb'⟩))
                  all_goals
                    obtain ⟨e2', e3'⟩ := hqs'
                    go_wp2_with (go_at_call 23; refine Calls.mono (HWq.out _) ?_; rintro e w7 ⟨rfl, hb7⟩)
                    go_light
                    have hw1 := HW1.out
                    exact ⟨⟨k + 1, X, S', by go_num, rfl, by rw [hw1], rfl, by omega, F2.out, hqb'.out.trans (hb7.mono hqb'.out.size)⟩, by simp [intOf]; omega⟩
                · have hov := Hd.out.over h1000 hmay l ho
                  rw [← HQ.out] at hov
                  rw [hov] at HFq
                  simp only at HFq
                  have hk0 : 0 < k := Nat.pos_of_ne_zero (fun e => by
                    subst e
                    rw [Hd.out.zero, start_over sd P p2 p4] at ho
                    cases ho)
                  have hk0i : (0 : Int) < k := by omega
                  clear hov ho hXs
                  go_wp2_with fail
                  go_region_held3 (fun w' => w'.cell? ⟨pb, 2, none⟩ = some (.int .i64 sd) ∧ w'.cell? ⟨pb, 3, none⟩ = some (.int .i64 P)) (first | assumption | go_keep) (first | (go_at_call 17; refine Calls.mono HFq.out ?_; rintro e w2' ⟨rfl, hqs', hqb'⟩))
                  all_goals
                    obtain ⟨e2', e3'⟩ := hqs'
                    have Hqb := hqb'
                    go_wp2
                    go_ret
                    exact ⟨rfl, Hb2.out.trans (Hqb.out.mono Hb2.out.size)⟩
        · have hk1 : ¬ (k : Int) < 1000 := by omega
          have hki : (k : Int) < L.length := by omega
          have Hbel := (show Hid _ from hbel)
          clear hbel
          go_wp2
          go_ret
          exact ⟨rfl, Hb2.out.trans (Hbel.out.mono Hb2.out.size)⟩
      · have hki : ¬ (k : Int) < L.length := by omega
        have Hbel := (show Hid _ from hbel)
        clear hbel
        go_wp2
        go_ret
        exact ⟨rfl, Hb2.out.trans (Hbel.out.mono Hb2.out.size)⟩
end Go.Proofs.YtdianedehhecoaaGreatDoor
