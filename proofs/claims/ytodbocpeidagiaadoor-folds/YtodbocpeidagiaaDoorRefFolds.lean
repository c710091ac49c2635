/- The document's answer: Fold, as a Lean function, and what it leans on. No walk. -/
import Derived.Test.YtodbocpeidagiaaDoorRefTurns
import Derived.Test.YtodbocpeidagiaaDoorRefStart
import Derived.Test.YtodbocpeidagiaaDoorRefBytes
import Derived.Test.YtodbocpeidagiaaDoorRefHash
import Derived.OwnWalk
namespace Go.Proofs.YtodbocpeidagiaaDoor
open Go.RowKit
set_option linter.unusedVariables false
set_option linter.unusedSimpArgs false

def playF (S : RS) : List (List RC) → Option RS
  | [] => some S
  | cs :: r => if overB S then none else playF (doF S cs) r

def foldF (seed players : Int) (s : ByteArray) : ByteArray × ByteArray × Int :=
  if mayB seed players = false then (⟨#[]⟩, ⟨#[]⟩, 1)
  else match turnsF s with
    | none => (⟨#[]⟩, ⟨#[]⟩, 6)
    | some css => match playF (startTo seed players.toNat) css with
      | none => (⟨#[]⟩, ⟨#[]⟩, 9)
      | some S => (bytesF S, hash16 (bytesF S), 0)

theorem readF_some (s : ByteArray) (fuel a left : Nat) (css : List (List RC)) (h : readF s fuel a left = some css) :
    css.length ≤ left ∧ ∀ cs ∈ css, cs.length ≤ 36 ∧ ∃ i n, cs = cmdsAt s i n := by
  induction fuel generalizing a left css with
  | zero => simp [readF] at h
  | succ fuel ih =>
    simp only [readF] at h
    split at h
    · split at h
      · cases h
      · rename_i hb
        cases hr : readF s fuel (a + 1 + 5 * (byt s a).toNat) (left - 1) with
        | none => rw [hr] at h; cases h
        | some l =>
          rw [hr] at h
          simp at h
          subst h
          have := ih _ _ _ hr
          refine ⟨by simp; omega, fun cs hcs => ?_⟩
          simp at hcs
          rcases hcs with rfl | hcs
          · exact ⟨by rw [cmdsAt_len]; omega, _, _, rfl⟩
          · exact this.2 cs hcs
    · simp at h; subst h; simp

theorem cmdsAt_ok (s : ByteArray) (i n k : Nat) (hk : k < n) : ((cmdsAt s i n).getD k rc0).ok := by
  induction n with
  | zero => omega
  | succ n ih =>
    simp only [cmdsAt]
    by_cases h : k < n
    · have := ih h
      simpa [List.getD, List.getElem?_append_left (show k < (cmdsAt s i n).length by rw [cmdsAt_len]; exact h)] using this
    · have hkn : k = n := by omega
      subst hkn
      have e : (cmdsAt s i k ++ [cmdAt s (i + 5 * k)]).getD k rc0 = cmdAt s (i + 5 * k) := by
        have := cmdsAt_len s i k
        simp [List.getD, List.getElem?_append_right (show (cmdsAt s i k).length ≤ k by omega), this]
      rw [e]
      exact cmdAt_ok _ _

theorem turnsF_some (s : ByteArray) (css : List (List RC)) (h : turnsF s = some css) :
    css.length ≤ 1000 ∧ ∀ i, i < css.length → (css.getD i []).length ≤ 36 ∧ ∀ k, k < (css.getD i []).length → ((css.getD i []).getD k rc0).ok := by
  obtain ⟨h1, h2⟩ := readF_some _ _ _ _ _ h
  refine ⟨h1, fun i hi => ?_⟩
  have hm : css.getD i [] ∈ css := by simp [List.getD, List.getElem?_eq_getElem hi]
  obtain ⟨h3, j, n, h4⟩ := h2 _ hm
  refine ⟨h3, fun k hk => ?_⟩
  rw [h4] at hk ⊢
  rw [cmdsAt_len] at hk
  exact cmdsAt_ok s j n k hk

theorem sum_le (l : List Int) (c : Int) (hc : 0 ≤ c) (h : ∀ i, l.getD i 0 ≤ c) : l.sum ≤ c * l.length := by
  induction l with
  | nil => simp
  | cons a l ih =>
    have h1 := ih (fun i => by simpa using h (i + 1))
    have h2 : a ≤ c := by simpa using h 0
    simp only [List.sum_cons, List.length_cons]
    have : c * ((l.length + 1 : Nat) : Int) = c * l.length + c := by rw [Int.natCast_add, Int.mul_add]; simp
    omega

theorem oreS_range (seed : Int) (k i : Nat) : 0 ≤ (oreS seed k).getD i 0 ∧ (oreS seed k).getD i 0 ≤ 3 := by
  induction k with
  | zero =>
    have : (List.replicate 64 (0 : Int)).getD i 0 = 0 := by
      simp only [List.getD, List.getElem?_replicate]; split <;> rfl
    simp only [oreS]; rw [this]; omega
  | succ k ih =>
    simp only [oreS]
    split
    · rename_i hp
      rw [getD_set_int]
      split
      · have : oreN seed k ≤ 3 := by unfold oreN; omega
        omega
      · exact ih
    · exact ih

theorem startTo_ore (seed : Int) (p : Nat) : (startTo seed p).ore = oreS seed 64 ∧ (startTo seed p).turn = 0 := by
  induction p with
  | zero => exact ⟨rfl, rfl⟩
  | succ p ih => simp only [startTo]; exact ih

theorem startTo_inv (seed : Int) (p : Nat) (h2 : 2 ≤ p) (h4 : p ≤ 4) : RInv (startTo seed p) := by
  have hore := startTo_ore seed p
  have hgl := startTo_gold seed p
  have hul := startTo_units seed p
  have hos : (oreS seed 64).sum ≤ 192 := by
    have := sum_le (oreS seed 64) 3 (by omega) (fun i => (oreS_range seed 64 i).2)
    rw [oreS_len] at this
    omega
  have hcase : p = 2 ∨ p = 3 ∨ p = 4 := by omega
  have hg : (startTo seed p).gold.sum ≤ 8 ∧ ∀ i, 0 ≤ (startTo seed p).gold.getD i 0 := by
    have : (startTo seed p).gold = List.replicate p 2 := by
      clear hore hgl hul hos hcase h2 h4
      induction p with
      | zero => rfl
      | succ p ih => simp only [startTo]; rw [ih, List.replicate_succ']
    rw [this]
    constructor
    · rcases hcase with rfl | rfl | rfl <;> decide
    · intro i
      simp only [List.getD, List.getElem?_replicate]; split <;> simp
  refine ⟨by rw [hore.1, oreS_len], by omega, by omega, hg.2, fun i => by rw [hore.1]; exact (oreS_range seed 64 i).1, by rw [hore.1, hul]; have := hg.1; omega, by omega, ?_⟩
  rw [hgl, hul]
  intro i hi
  have key : ∀ q : Nat, q ≤ 4 → ∀ i, i < 2 * q → UInv q ((startTo seed q).units.getD i ru0) := by
    intro q
    induction q with
    | zero => intro _ i hi; omega
    | succ q ih =>
      intro hq i hi
      have hlen := startTo_units seed q
      simp only [startTo]
      by_cases h1 : i < 2 * q
      · have := ih (by omega) i h1
        have e : ((startTo seed q).units ++ [⟨q, 1, cornerX q, cornerY q, 20, true⟩] ++ [⟨q, 2, cornerX q + 1 - cornerX q / 7 * 2, cornerY q + 1 - cornerY q / 7 * 2, 5, true⟩] : List RU).getD i ru0 = (startTo seed q).units.getD i ru0 := by
          simp only [List.getD]
          rw [List.getElem?_append_left (by simp; omega), List.getElem?_append_left (by omega)]
        rw [e]
        obtain ⟨a1, a2, a3, a4, a5⟩ := this
        exact ⟨a1, a2, a3, by omega, a5⟩
      · have hqc : q = 0 ∨ q = 1 ∨ q = 2 ∨ q = 3 := by omega
        have hi2 : i = 2 * q ∨ i = 2 * q + 1 := by omega
        rcases hi2 with rfl | rfl
        · have e : ((startTo seed q).units ++ [⟨q, 1, cornerX q, cornerY q, 20, true⟩] ++ [⟨q, 2, cornerX q + 1 - cornerX q / 7 * 2, cornerY q + 1 - cornerY q / 7 * 2, 5, true⟩] : List RU).getD (2 * q) ru0 = ⟨q, 1, cornerX q, cornerY q, 20, true⟩ := by
            simp only [List.getD]
            rw [List.getElem?_append_left (by simp; omega), List.getElem?_append_right (by omega), hlen]
            simp
          rw [e]
          unfold UInv
          rcases hqc with rfl | rfl | rfl | rfl <;> simp [cornerX, cornerY]
        · have e : ((startTo seed q).units ++ [⟨q, 1, cornerX q, cornerY q, 20, true⟩] ++ [⟨q, 2, cornerX q + 1 - cornerX q / 7 * 2, cornerY q + 1 - cornerY q / 7 * 2, 5, true⟩] : List RU).getD (2 * q + 1) ru0 = ⟨q, 2, cornerX q + 1 - cornerX q / 7 * 2, cornerY q + 1 - cornerY q / 7 * 2, 5, true⟩ := by
            simp only [List.getD]
            rw [List.getElem?_append_right (by simp; omega)]
            simp [hlen]
          rw [e]
          unfold UInv
          rcases hqc with rfl | rfl | rfl | rfl <;> simp [cornerX, cornerY]
  exact key p h4 i hi

theorem doF_turn (S : RS) (cs : List RC) : (doF S cs).turn = S.turn + 1 ∧ (doF S cs).gold.length = S.gold.length := by
  have := run_keeps { S with units := clearTo S.units S.units.length } cs
  exact ⟨by show (runTo _ cs).turn + 1 = _; rw [this.1], this.2⟩

theorem bytesF_size (S : RS) (h : RInv S) : (bytesF S).size ≤ 2000 := by
  have := unitTo_size S S.units.length
  have := h.bounds.1
  have := h.g4
  unfold bytesF
  omega
end Go.Proofs.YtodbocpeidagiaaDoor

/- The document's answer: Fold, walked. -/
namespace Go.Proofs.YtodbocpeidagiaaDoor
open Go.RowKit
set_option linter.unusedVariables false
set_option linter.unusedSimpArgs false

def foldSaid (r : ByteArray × ByteArray × Int) (e : Ending) : Prop := e = .returned (.tuple #[.string r.1, .string r.2.1, .int .i64 r.2.2])

theorem turns_cell {w : World} {N i : Nat} {ov : Value} {css : List (List RC)} {tvs : List Value} (h : TurnsAt w N ov css tvs) (hi : i < css.length) :
    ∃ og ocap ta tn tcap, ov = .slice (some ⟨og, 0, none⟩) css.length ocap ∧ og < w.heap.size ∧ tvs.getD i (.slice none 0 0) = .slice ta tn tcap ∧ w.cell? ⟨og, i, none⟩ = some (.slice ta tn tcap) := by
  obtain ⟨og, ocap, he, ho, -, -, hc, -⟩ := h.row.form (by omega)
  have hl := h.len
  have hget : tvs[i]? = some (tvs.getD i (.slice none 0 0)) := by simp [List.getD, List.getElem?_eq_getElem (show i < tvs.length by omega)]
  obtain ⟨ta, tn, tcap, htv⟩ : ∃ ta tn tcap, tvs.getD i (.slice none 0 0) = .slice ta tn tcap := by
    rcases (h.each i hi).1.row.2 with ⟨h1, h2⟩ | ⟨g, cap, cur, h1, _⟩
    · exact ⟨_, _, _, h1⟩
    · exact ⟨_, _, _, h1⟩
  exact ⟨og, ocap, ta, tn, tcap, he, h.row.lt ho, htv, by rw [hc _ _ hget, htv]⟩

theorem turn_in {w w' : World} {N : Nat} {tv : Value} {cs : List RC} (h : TurnAt w N tv cs) (hb : Below w.heap.size w w') :
    tv = .slice none 0 0 ∧ cs = [] ∨ 0 < cs.length ∧ RowAt w' 82 5 tv cs.length (rcCells cs) ∧ ∀ k, tv.ownBlock = some k → ¬ w.heap.size ≤ k := by
  by_cases e : cs = []
  · exact .inl ⟨h.nil e, e⟩
  · refine .inr ⟨List.length_pos_iff.2 e, (h.below hb).row, fun k hk => ?_⟩
    have := h.row.lt hk
    omega

set_option maxHeartbeats 4000000 in
set_option maxRecDepth 100000 in
theorem RefFold_any (seed players : Int) (s : ByteArray) (w : World) (hs : s.size ≤ 140737488351232) :
    Calls Tryd.prog 5 #[.int .i64 seed, .int .i64 players, .string s] w fun e w' => foldSaid (foldF seed players s) e ∧ Below w.heap.size w w' := by
  cases hmay : mayB seed players with
  | false =>
    have Hm : Hid (mayB seed players = false) := hmay
    have HF : Hid (foldF seed players s = (⟨#[]⟩, ⟨#[]⟩, 1)) := by unfold Hid foldF; rw [if_pos hmay]
    clear hmay
    go_enter Tryd.func5, Tryd.ntmps5
    go_wp2_with (go_at_call 14; refine (may_any _ _ _).mono ?_; rintro e w1 ⟨rfl, hw⟩; rw [hw, Hm.out]; clear hw w1)
    go_ret3
    refine ⟨?_, Below.refl _ _⟩
    rw [HF.out]
    exact rfl
  | true =>
    have Hm : Hid (mayB seed players = true) := hmay
    obtain ⟨s0, s1, p2, p4⟩ : 0 ≤ seed ∧ seed ≤ 999 ∧ 2 ≤ players ∧ players ≤ 4 := by unfold mayB at hmay; simpa using hmay
    obtain ⟨P, rfl⟩ := Int.eq_ofNat_of_zero_le (show 0 ≤ players by omega)
    have HF : Hid (foldF seed P s = match turnsF s with
      | none => (⟨#[]⟩, ⟨#[]⟩, 6)
      | some css => match playF (startTo seed P) css with
        | none => (⟨#[]⟩, ⟨#[]⟩, 9)
        | some S => (bytesF S, hash16 (bytesF S), 0)) := by unfold Hid foldF; rw [if_neg (by rw [hmay]; simp)]; rfl
    clear hmay
    go_enter Tryd.func5, Tryd.ntmps5
    go_wp2_with (go_at_call 14; refine (may_any _ _ _).mono ?_; rintro e w1 ⟨rfl, hw⟩; rw [hw, Hm.out]; clear hw w1)
    refine (Turns_any s _ hs).mono ?_
    rintro e w1 ⟨hts, hb1⟩
    cases htu : turnsF s with
    | none =>
      rw [htu] at hts
      have he : e = .returned (.tuple #[.slice none 0 0, .bool false]) := hts
      subst he
      have HF2 : Hid (foldF seed P s = (⟨#[]⟩, ⟨#[]⟩, 6)) := by unfold Hid; rw [HF.out, htu]
      clear htu hts HF
      go_wp2
      go_ret3
      refine ⟨?_, hb1⟩
      rw [HF2.out]
      exact rfl
    | some css =>
      rw [htu] at hts
      obtain ⟨ov, tvs, he, hta⟩ := hts
      subst he
      obtain ⟨hcl, hck⟩ := turnsF_some s css htu
      have HF2 : Hid (foldF seed P s = match playF (startTo seed P) css with
        | none => (⟨#[]⟩, ⟨#[]⟩, 9)
        | some S => (bytesF S, hash16 (bytesF S), 0)) := by unfold Hid; rw [HF.out, htu]
      have HCK := (show Hid _ from hck)
      have Hta : Hid (TurnsAt w1 w.heap.size ov css tvs) := hta
      have Hb1 : Hid (Below w.heap.size w w1) := hb1
      obtain ⟨oa, ocap, hov⟩ : ∃ oa ocap, ov = .slice oa css.length ocap := by
        rcases hta.row.2 with ⟨h1, h2⟩ | ⟨g, cap, cur, h1, _⟩
        · exact ⟨none, 0, by rw [h1, h2]⟩
        · exact ⟨_, _, h1⟩
      subst hov
      have hsz1 := hb1.size
      clear htu hck hta hb1 HF
      go_wp2_with (go_at_call 16; refine (Start_any seed P _ s0 s1 (by omega)).mono ?_; rintro e w2 ⟨rfl, ⟨gv, uv, hr2⟩, hb2⟩)
      have H2 : Hid (RefAt w2 (fun k => w1.heap.size ≤ k) w1.heap.size (startTo seed P) gv uv) := hr2
      have Hb2 : Hid (Below w1.heap.size w1 w2) := hb2
      have hsz2 := hb2.size
      clear hr2 hb2
      go_loopw [13] (fun iv wr => ∃ (i : Nat) (S : RS), i ≤ css.length ∧ iv = .int .i64 i ∧ (∃ gv uv, RefAt wr (fun k => w1.heap.size ≤ k) w1.heap.size S gv uv) ∧ RInv S ∧ S.turn = i ∧ playF (startTo seed P) css = playF S (css.drop i) ∧ Below w1.heap.size w1 wr) (fun iv _ => css.length - (intOf iv).toNat)
      case atStart => exact ⟨0, startTo seed P, Nat.zero_le _, rfl, ⟨_, _, H2.out⟩, startTo_inv seed P (by omega) (by omega), (startTo_ore seed P).2, rfl, Hb2.out⟩
      case round =>
        clear H2 Hb2
        obtain ⟨i, S, hi, rfl, ⟨gv, uv, hr⟩, hI, htn, hpl, hbel⟩ := hrel
        have hu0 := hI.u0
        have hnu : S.units.length ≤ 1000000 := by have := hI.bounds.1; omega
        have hg0 : 0 < S.gold.length := by have := hI.g2; omega
        have hg4 := hI.g4
        have Hr : Hid (RefAt wr (fun k => w1.heap.size ≤ k) w1.heap.size S gv uv) := hr
        have HI : Hid (RInv S) := hI
        have Hpl : Hid (playF (startTo seed P) css = playF S (css.drop i)) := hpl
        have Htn : Hid (S.turn = i) := htn
        have Hbel : Hid (Below w1.heap.size w1 wr) := hbel
        have hszr := hbel.size
        clear hr hI htn hpl hbel
        by_cases hlt : i < css.length
        · have hdrop : css.drop i = css.getD i [] :: css.drop (i + 1) := by
            rw [List.drop_eq_getElem_cons hlt]; simp [List.getD, List.getElem?_eq_getElem hlt]
          cases hov : overB S with
          | true =>
            have HF3 : Hid (foldF seed P s = (⟨#[]⟩, ⟨#[]⟩, 9)) := by
              unfold Hid; rw [HF2.out, Hpl.out, hdrop]
              simp [playF, hov]
            have Hov : Hid (overB S = true) := hov
            clear hov hdrop HF2
            go_wp2_with (go_at_call 17; refine (over_any Hr.out hu0 hnu hg0 hg4).mono ?_; rintro e w3 ⟨rfl, hb3⟩; rw [Hov.out])
            go_ret3
            refine ⟨?_, Hb1.out.trans ((Hbel.out.trans (hb3.mono hszr)).mono hsz1)⟩
            rw [HF3.out]
            exact rfl
          | false =>
            have Hp2 : Hid (playF (startTo seed P) css = playF (doF S (css.getD i [])) (css.drop (i + 1))) := by
              unfold Hid; rw [Hpl.out, hdrop]; simp [playF, hov]
            have Hov : Hid (overB S = false) := hov
            clear hov hdrop
            obtain ⟨og, ocap', ta, tn, tcap, hoe, hog, htve, hcell⟩ := turns_cell Hta.out hlt
            have hoa : oa = some ⟨og, 0, none⟩ := by injection hoe
            subst hoa
            have cwr := (Hbel.out.cell (p := ⟨og, i, none⟩) hog).trans hcell
            obtain ⟨hck1, hck2⟩ := HCK.out i hlt
            have heach := (Hta.out.each i hlt).1
            rw [htve] at heach
            have Heach := (show Hid _ from heach)
            have Hck2 := (show Hid _ from hck2)
            have hwlt : og < wr.heap.size := by omega
            clear hoe htve hcell heach hck2
            have ht0 : 0 ≤ S.turn := by rw [Htn.out]; omega
            have ht1 : S.turn ≤ 1000 := by rw [Htn.out]; omega
            go_wp2_with (first
              | (go_at_call 17; refine (over_any Hr.out hu0 hnu hg0 hg4).mono ?_; rintro e w3 ⟨rfl, hb3⟩; rw [Hov.out]; have ce := (hb3.cell (p := ⟨og, i, none⟩) hwlt).trans cwr)
              | (go_at_call 18; refine (Do_any (css.getD i []) Hck2.out hck1 (Hr.out.below hb3) HI.out ht0 ht1 (turn_in Heach.out (Hbel.out.trans (hb3.mono hszr)))).mono ?_; rintro e w4 ⟨rfl, hm4⟩))
            go_light
            obtain ⟨⟨uv4, h4⟩, hk4⟩ := hm4
            have hsz3 := hb3.size
            refine ⟨⟨i + 1, doF S (css.getD i []), by omega, by go_num, ⟨gv, uv4, h4.grow (fun k hk => ?_)⟩, HI.out.doF _, ?_, Hp2.out, (Hbel.out.trans (hb3.mono hszr)).trans (hk4.below (B := w1.heap.size) (fun j hj => hj) (by omega))⟩, by simp [intOf]; omega⟩
            · rcases hk with hk | hk
              · exact hk
              · omega
            · rw [(doF_turn S _).1, Htn.out]; omega
        · have hdrop : css.drop i = [] := List.drop_of_length_le (by omega)
          have HF3 : Hid (foldF seed P s = (bytesF S, hash16 (bytesF S), 0)) := by
            unfold Hid; rw [HF2.out, Hpl.out, hdrop]; simp [playF]
          clear hdrop HF2
          have ht0 : 0 ≤ S.turn := by rw [Htn.out]; omega
          have ht1 : S.turn ≤ 2000 := by rw [Htn.out]; omega
          have hbs : (bytesF S).size ≤ maxLen := by have := bytesF_size S HI.out; unfold maxLen; omega
          go_wp2_with (first
            | (go_at_call 19; refine (Bytes_any Hr.out HI.out ht0 ht1).mono ?_; rintro e w3 ⟨rfl, hb3⟩; have hsz3 := hb3.size)
            | (go_at_call 20; refine (hash_any _ _ hbs).mono ?_; rintro e w4 ⟨rfl, hb4⟩))
          go_ret3
          refine ⟨?_, Hb1.out.trans (((Hbel.out.trans (hb3.mono hszr)).trans (hb4.mono (by omega))).mono hsz1)⟩
          rw [HF3.out]
          exact rfl
end Go.Proofs.YtodbocpeidagiaaDoor
