/- The document's answer: Fold, walked. -/
import Derived.Test.YtdianedehhecoaaDoorRefTurns
import Derived.Test.YtdianedehhecoaaDoorRefStart
import Derived.Test.YtdianedehhecoaaDoorRefBytes
import Derived.Test.YtdianedehhecoaaDoorRefHash
import Derived.Test.YtdianedehhecoaaDoorProgFold
import Derived.OwnWalk
namespace Go.Proofs.YtdianedehhecoaaDoor
open Go.RowKit
set_option linter.unusedVariables false
set_option linter.unusedSimpArgs false


theorem turns_cell {w : World} {N i : Nat} {ov : Value} {css : List (List RC)} {tvs : List Value} (h : TurnsAt w N ov css tvs) (hi : i < css.length) :
    ∃ og ocap ta tn tcap, ov = .slice (some ⟨og, 0, none⟩) css.length ocap ∧ og < w.heap.size ∧ tvs.getD i (.slice none 0 0) = .slice ta tn tcap ∧ w.cell? ⟨og, i, none⟩ = some (.slice ta tn tcap) := by
  obtain ⟨og, ocap, he, ho, -, -, hc, -⟩ := h.row.form (by omega)
  have hl := h.len
  have hget : tvs[i]? = some (tvs.getD i (.slice none 0 0)) := by simp [List.getD, List.getElem?_eq_getElem (show i < tvs.length by omega)]
  obtain ⟨ta, tn, tcap, htv⟩ : ∃ ta tn tcap, tvs.getD i (.slice none 0 0) = .slice ta tn tcap := by
    rcases (h.each i hi).1.row.2 with ⟨h1, h2⟩ | ⟨g, cap, cur, h1, _⟩
    · exact ⟨_, _, _, h1⟩
    · exact ⟨_, _, _, h1⟩
  exact ⟨og, ocap, ta, tn, tcap, he, h.row.lt ho, htv, by rw [hc _ _ hget, htv]⟩

theorem turn_in {w w' : World} {N : Nat} {tv : Value} {cs : List RC} (h : TurnAt w N tv cs) (hb : Below w.heap.size w w') :
    tv = .slice none 0 0 ∧ cs = [] ∨ 0 < cs.length ∧ RowAt w' 82 5 tv cs.length (rcCells cs) ∧ ∀ k, tv.ownBlock = some k → ¬ w.heap.size ≤ k := by
  by_cases e : cs = []
  · exact .inl ⟨h.nil e, e⟩
  · refine .inr ⟨List.length_pos_iff.2 e, (h.below hb).row, fun k hk => ?_⟩
    have := h.row.lt hk
    omega

set_option maxHeartbeats 4000000 in
set_option maxRecDepth 100000 in
theorem RefFold_any (seed players : Int) (s : ByteArray) (w : World) (hs : s.size ≤ 140737488351232) :
    Calls Tryd.prog 5 #[.int .i64 seed, .int .i64 players, .string s] w fun e w' => foldSaid (foldF seed players s) e ∧ Below w.heap.size w w' := by
  cases hmay : mayB seed players with
  | false =>
    have Hm : Hid (mayB seed players = false) := hmay
    have HF : Hid (foldF seed players s = (⟨#[]⟩, ⟨#[]⟩, 1)) := by unfold Hid foldF; rw [if_pos hmay]
    clear hmay
    go_enter Tryd.func5, Tryd.ntmps5
    go_wp2_with (go_at_call 14; refine (may_any _ _ _).mono ?_; rintro e w1 ⟨rfl, hw⟩; rw [hw, Hm.out]; clear hw w1)
    go_ret3
    refine ⟨?_, Below.refl _ _⟩
    rw [HF.out]
    exact rfl
  | true =>
    have Hm : Hid (mayB seed players = true) := hmay
    obtain ⟨s0, s1, p2, p4⟩ : 0 ≤ seed ∧ seed ≤ 999 ∧ 2 ≤ players ∧ players ≤ 4 := by unfold mayB at hmay; simpa using hmay
    obtain ⟨P, rfl⟩ := Int.eq_ofNat_of_zero_le (show 0 ≤ players by omega)
    have HF : Hid (foldF seed P s = match turnsF s with
      | none => (⟨#[]⟩, ⟨#[]⟩, 6)
      | some css => match playF (startTo seed P) css with
        | none => (⟨#[]⟩, ⟨#[]⟩, 9)
        | some S => (bytesF S, hash16 (bytesF S), 0)) := by unfold Hid foldF; rw [if_neg (by rw [hmay]; simp)]; rfl
    clear hmay
    go_enter Tryd.func5, Tryd.ntmps5
    go_wp2_with (go_at_call 14; refine (may_any _ _ _).mono ?_; rintro e w1 ⟨rfl, hw⟩; rw [hw, Hm.out]; clear hw w1)
    refine (Turns_any s _ hs).mono ?_
    rintro e w1 ⟨hts, hb1⟩
    cases htu : turnsF s with
    | none =>
      rw [htu] at hts
      have he : e = .returned (.tuple #[.slice none 0 0, .bool false]) := hts
      subst he
      have HF2 : Hid (foldF seed P s = (⟨#[]⟩, ⟨#[]⟩, 6)) := by unfold Hid; rw [HF.out, htu]
      clear htu hts HF
      go_wp2
      go_ret3
      refine ⟨?_, hb1⟩
      rw [HF2.out]
      exact rfl
    | some css =>
      rw [htu] at hts
      obtain ⟨ov, tvs, he, hta⟩ := hts
      subst he
      obtain ⟨hcl, hck⟩ := turnsF_some s css htu
      have HF2 : Hid (foldF seed P s = match playF (startTo seed P) css with
        | none => (⟨#[]⟩, ⟨#[]⟩, 9)
        | some S => (bytesF S, hash16 (bytesF S), 0)) := by unfold Hid; rw [HF.out, htu]
      have HCK := (show Hid _ from hck)
      have Hta : Hid (TurnsAt w1 w.heap.size ov css tvs) := hta
      have Hb1 : Hid (Below w.heap.size w w1) := hb1
      obtain ⟨oa, ocap, hov⟩ : ∃ oa ocap, ov = .slice oa css.length ocap := by
        rcases hta.row.2 with ⟨h1, h2⟩ | ⟨g, cap, cur, h1, _⟩
        · exact ⟨none, 0, by rw [h1, h2]⟩
        · exact ⟨_, _, h1⟩
      subst hov
      have hsz1 := hb1.size
      clear htu hck hta hb1 HF
      go_wp2_with (go_at_call 16; refine (Start_any seed P _ s0 s1 (by omega)).mono ?_; rintro e w2 ⟨rfl, ⟨gv, uv, hr2⟩, hb2⟩)
      have H2 : Hid (RefAt w2 (fun k => w1.heap.size ≤ k) w1.heap.size (startTo seed P) gv uv) := hr2
      have Hb2 : Hid (Below w1.heap.size w1 w2) := hb2
      have hsz2 := hb2.size
      clear hr2 hb2
      go_loopw [13] (fun iv wr => ∃ (i : Nat) (S : RS), i ≤ css.length ∧ iv = .int .i64 i ∧ (∃ gv uv, RefAt wr (fun k => w1.heap.size ≤ k) w1.heap.size S gv uv) ∧ RInv S ∧ S.turn = i ∧ playF (startTo seed P) css = playF S (css.drop i) ∧ Below w1.heap.size w1 wr) (fun iv _ => css.length - (intOf iv).toNat)
      case atStart => exact ⟨0, startTo seed P, Nat.zero_le _, rfl, ⟨_, _, H2.out⟩, startTo_inv seed P (by omega) (by omega), (startTo_ore seed P).2, rfl, Hb2.out⟩
      case round =>
        clear H2 Hb2
        obtain ⟨i, S, hi, rfl, ⟨gv, uv, hr⟩, hI, htn, hpl, hbel⟩ := hrel
        have hu0 := hI.u0
        have hnu : S.units.length ≤ 1000000 := by have := hI.bounds.1; omega
        have hg0 : 0 < S.gold.length := by have := hI.g2; omega
        have hg4 := hI.g4
        have Hr : Hid (RefAt wr (fun k => w1.heap.size ≤ k) w1.heap.size S gv uv) := hr
        have HI : Hid (RInv S) := hI
        have Hpl : Hid (playF (startTo seed P) css = playF S (css.drop i)) := hpl
        have Htn : Hid (S.turn = i) := htn
        have Hbel : Hid (Below w1.heap.size w1 wr) := hbel
        have hszr := hbel.size
        clear hr hI htn hpl hbel
        by_cases hlt : i < css.length
        · have hdrop : css.drop i = css.getD i [] :: css.drop (i + 1) := by
            rw [List.drop_eq_getElem_cons hlt]; simp [List.getD, List.getElem?_eq_getElem hlt]
          cases hov : overB S with
          | true =>
            have HF3 : Hid (foldF seed P s = (⟨#[]⟩, ⟨#[]⟩, 9)) := by
              unfold Hid; rw [HF2.out, Hpl.out, hdrop]
              simp [playF, hov]
            have Hov : Hid (overB S = true) := hov
            clear hov hdrop HF2
            go_wp2_with (go_at_call 17; refine (over_any Hr.out hu0 hnu hg0 hg4).mono ?_; rintro e w3 ⟨rfl, hb3⟩; rw [Hov.out])
            go_ret3
            refine ⟨?_, Hb1.out.trans ((Hbel.out.trans (hb3.mono hszr)).mono hsz1)⟩
            rw [HF3.out]
            exact rfl
          | false =>
            have Hp2 : Hid (playF (startTo seed P) css = playF (doF S (css.getD i [])) (css.drop (i + 1))) := by
              unfold Hid; rw [Hpl.out, hdrop]; simp [playF, hov]
            have Hov : Hid (overB S = false) := hov
            clear hov hdrop
            obtain ⟨og, ocap', ta, tn, tcap, hoe, hog, htve, hcell⟩ := turns_cell Hta.out hlt
            have hoa : oa = some ⟨og, 0, none⟩ := by injection hoe
            subst hoa
            have cwr := (Hbel.out.cell (p := ⟨og, i, none⟩) hog).trans hcell
            obtain ⟨hck1, hck2⟩ := HCK.out i hlt
            have heach := (Hta.out.each i hlt).1
            rw [htve] at heach
            have Heach := (show Hid _ from heach)
            have Hck2 := (show Hid _ from hck2)
            have hwlt : og < wr.heap.size := by omega
            clear hoe htve hcell heach hck2
            have ht0 : 0 ≤ S.turn := by rw [Htn.out]; omega
            have ht1 : S.turn ≤ 1000 := by rw [Htn.out]; omega
            go_wp2_with (first
              | (go_at_call 17; refine (over_any Hr.out hu0 hnu hg0 hg4).mono ?_; rintro e w3 ⟨rfl, hb3⟩; rw [Hov.out]; have ce := (hb3.cell (p := ⟨og, i, none⟩) hwlt).trans cwr)
              | (go_at_call 18; refine (Do_any (css.getD i []) Hck2.out hck1 (Hr.out.below hb3) HI.out ht0 ht1 (turn_in Heach.out (Hbel.out.trans (hb3.mono hszr)))).mono ?_; rintro e w4 ⟨rfl, hm4⟩))
            go_light
            obtain ⟨⟨uv4, h4⟩, hk4⟩ := hm4
            have hsz3 := hb3.size
            refine ⟨⟨i + 1, doF S (css.getD i []), by omega, by go_num, ⟨gv, uv4, h4.grow (fun k hk => ?_)⟩, HI.out.doF _, ?_, Hp2.out, (Hbel.out.trans (hb3.mono hszr)).trans (hk4.below (B := w1.heap.size) (fun j hj => hj) (by omega))⟩, by simp [intOf]; omega⟩
            · rcases hk with hk | hk
              · exact hk
              · omega
            · rw [(doF_turn S _).1, Htn.out]; omega
        · have hdrop : css.drop i = [] := List.drop_of_length_le (by omega)
          have HF3 : Hid (foldF seed P s = (bytesF S, hash16 (bytesF S), 0)) := by
            unfold Hid; rw [HF2.out, Hpl.out, hdrop]; simp [playF]
          clear hdrop HF2
          have ht0 : 0 ≤ S.turn := by rw [Htn.out]; omega
          have ht1 : S.turn ≤ 2000 := by rw [Htn.out]; omega
          have hbs : (bytesF S).size ≤ maxLen := by have := bytesF_size S HI.out; unfold maxLen; omega
          go_wp2_with (first
            | (go_at_call 19; refine (Bytes_any Hr.out HI.out ht0 ht1).mono ?_; rintro e w3 ⟨rfl, hb3⟩; have hsz3 := hb3.size)
            | (go_at_call 20; refine (hash_any _ _ hbs).mono ?_; rintro e w4 ⟨rfl, hb4⟩))
          go_ret3
          refine ⟨?_, Hb1.out.trans (((Hbel.out.trans (hb3.mono hszr)).trans (hb4.mono (by omega))).mono hsz1)⟩
          rw [HF3.out]
          exact rfl
end Go.Proofs.YtdianedehhecoaaDoor

/- Folds: the program's Fold answers as the document's, whatever the seed, the number of players and the bytes. The walk. -/
namespace Go.Proofs.YtdianedehhecoaaDoor
open Go.RowKit
set_option linter.unusedVariables false
set_option linter.unusedSimpArgs false

def firstB : ByteArray := ⟨#[1, 0, 2, 1, 2, 2]⟩
theorem first_err : (foldF 0 2 firstB).2.2 = 0 := by decide +kernel
theorem first_len : (foldF 0 2 firstB).1.size = 102 := by decide +kernel
theorem first_one : (foldF 0 2 firstB).1[1]? = some 1 := by decide +kernel

theorem num_any (n : Int) (w : World) : Calls Tryd.prog 6 #[.int .i64 n] w fun e w' => e = .returned (.int .i64 n) ∧ w' = w := by
  go_enter Tryd.func6, Tryd.ntmps6
  go_wp2
  go_ret
  exact ⟨rfl, rfl⟩

theorem foldSaid_eq {r : ByteArray × ByteArray × Int} {e : Ending} (h : foldSaid r e) : e = .returned (.tuple #[.string r.1, .string r.2.1, .int .i64 r.2.2]) := h

set_option maxHeartbeats 4000000 in
set_option maxRecDepth 100000 in
theorem Folds_any (seed players : Int) (s : ByteArray) (w : World) (hs : s.size ≤ 140737488351232) (hC : Corners w) (hD : w.cell? ⟨4, 15, none⟩ = some (.int .u8 4)) :
    Calls Tryd.prog 3 #[.int .i64 seed, .int .i64 players, .string s] w fun e w' => e = .returned (.bool true) ∧ Below w.heap.size w w' := by
  have HCor : Hid (Corners w) := hC
  have hDl := cell_lt hD
  have H1 := (show Hid _ from PFold_any 0 2 firstB w (by decide) hC hD)
  have HP : Hid (∀ W, Below w.heap.size w W → Calls Tryd.prog 4 #[.int .i64 seed, .int .i64 players, .string s] W fun e w' => foldSaid (foldF seed players s) e ∧ Below W.heap.size W w') := fun W hW =>
    PFold_any seed players s W hs (Corners.below hC hW) ((hW.cell (p := ⟨4, 15, none⟩) hDl).trans hD)
  have HR : Hid (∀ W, Calls Tryd.prog 5 #[.int .i64 seed, .int .i64 players, .string s] W fun e w' => foldSaid (foldF seed players s) e ∧ Below W.heap.size W w') := fun W =>
    RefFold_any seed players s W hs
  have e1 := first_err
  have e2 := first_len
  have e3 := first_one
  clear hC hD hs
  unfold firstB at *
  generalize foldF 0 2 ⟨#[1, 0, 2, 1, 2, 2]⟩ = r1 at *
  generalize foldF seed players s = r at *
  obtain ⟨b1, h1, k1⟩ := r1
  obtain ⟨B, H, K⟩ := r
  simp only at e1 e2 e3
  subst e1
  have e2i : (b1.size : Int) = 102 := by omega
  have hlt1 : 1 < b1.size := by omega
  have e5 : b1[1] = 1 := by
    have q := e3
    rw [getElem?_pos b1 1 hlt1] at q
    exact Option.some.inj q
  have e4 : ((b1[1].toNat : Int) != 1) = false := by rw [e5]; rfl
  clear e3 e5
  go_enter Tryd.func3, Tryd.ntmps3
  go_wp2_with fail
  refine Calls.mono H1.out ?_
  rintro e w1 ⟨he, hb1⟩
  have he' : e = .returned (.tuple #[.string b1, .string h1, .int .i64 0]) := he
  subst he'
  clear he H1
  have HB1 := (show Hid _ from hb1)
  clear hb1
  go_wp2_with (go_at_call 4; refine Calls.mono (HP.out _ HB1.out) ?_; rintro e w2 ⟨he, hb2⟩; obtain rfl := foldSaid_eq he)
  refine Calls.mono (HR.out _) ?_
  rintro e w3 ⟨he3, hb3⟩
  obtain rfl := foldSaid_eq he3
  have HB2 := (show Hid _ from hb2)
  have HB3 := (show Hid _ from hb3)
  clear hb2 hb3 he he3
  go_wp2_with (go_at_call 6; refine (num_any _ _).mono ?_; rintro e w' ⟨rfl, hx'⟩; rw [hx']; clear hx' w')
  go_ret
  have q2 := HB1.out.trans (HB2.out.mono HB1.out.size)
  exact ⟨rfl, q2.trans (HB3.out.mono q2.size)⟩
end Go.Proofs.YtdianedehhecoaaDoor
