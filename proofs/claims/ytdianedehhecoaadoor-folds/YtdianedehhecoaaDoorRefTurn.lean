/- The document's answer: Do, walked. -/
import Derived.Test.YtdianedehhecoaaDoorRefDos
namespace Go.Proofs.YtdianedehhecoaaDoor
open Go.RowKit
set_option linter.unusedVariables false
set_option linter.unusedSimpArgs false

theorem rc_cells {w : World} {tv : Value} {cs : List RC} (h : RowAt w 82 5 tv cs.length (rcCells cs)) (h0 : 0 < cs.length) :
    ∃ g cap, tv = .slice (some ⟨g, 0, none⟩) cs.length cap ∧ tv.ownBlock = some g ∧
      ∀ k, k < cs.length → w.cell? ⟨g, k * 5, none⟩ = some (.int .i64 (cs.getD k rc0).p) ∧ w.cell? ⟨g, k * 5 + 1, none⟩ = some (.int .i64 (cs.getD k rc0).un) ∧
        w.cell? ⟨g, k * 5 + 2, none⟩ = some (.int .i64 (cs.getD k rc0).wh) ∧ w.cell? ⟨g, k * 5 + 3, none⟩ = some (.int .i64 (cs.getD k rc0).x) ∧ w.cell? ⟨g, k * 5 + 4, none⟩ = some (.int .i64 (cs.getD k rc0).y) := by
  obtain ⟨g, cap, he, ho, -, -, hc, hf⟩ := h.form h0
  refine ⟨g, cap, he, ho, fun k hk => ?_⟩
  have hg : cs[k]? = some (cs.getD k rc0) := by simp [List.getD, List.getElem?_eq_getElem hk]
  exact ⟨hc _ _ (rcCells_get _ k 0 _ _ hg rfl), hc _ _ (rcCells_get _ k 1 _ _ hg rfl), hc _ _ (rcCells_get _ k 2 _ _ hg rfl), hc _ _ (rcCells_get _ k 3 _ _ hg rfl), hc _ _ (rcCells_get _ k 4 _ _ hg rfl)⟩

theorem Moved.get {O : Nat → Prop} {w w' : World} {b : Nat} {gv : Value} {S : RS} (h : Moved O w b gv S w') : ∃ uv, RefAt w' (fun k => O k ∨ w.heap.size ≤ k) b S gv uv := h.1

set_option maxHeartbeats 4000000 in
set_option maxRecDepth 100000 in
theorem Do_any {w : World} {O : Nat → Prop} {b : Nat} {S : RS} {gv uv tv : Value} (cs : List RC) (hcs : ∀ k, k < cs.length → (cs.getD k rc0).ok) (hcl : cs.length ≤ 36) (h : RefAt w O b S gv uv) (hI : RInv S) (ht0 : 0 ≤ S.turn) (ht1 : S.turn ≤ 1000)
    (htv : tv = .slice none 0 0 ∧ cs = [] ∨ 0 < cs.length ∧ RowAt w 82 5 tv cs.length (rcCells cs) ∧ ∀ k, tv.ownBlock = some k → ¬ O k) :
    Calls Tryd.prog 18 #[.pointer (some ⟨b, 0, none⟩), tv] w fun e w' => e = .returned (.tuple #[]) ∧ Moved O w b gv (doF S cs) w' := by
  have hn := hI.bounds.1
  have hu0 := hI.u0
  obtain ⟨g, cap, hv, hob, -, -⟩ := unit_cells h hI.u0
  subst hv
  have hO := (h.ou g hob).1
  have hgne := (h.ou g hob).2.1
  have hbl := h.lt
  have hgl := h.units.lt hob
  have H0 : Hid (RefAt w O b S gv _) := h
  have HI : Hid (RInv S) := hI
  obtain ⟨ta, tcap, htv', hTT⟩ : ∃ ta tcap, tv = .slice ta cs.length tcap ∧ ∀ k, k < cs.length → ∃ tg, ta = some ⟨tg, 0, none⟩ ∧ tg < w.heap.size ∧ ¬ O tg ∧
      (w.cell? ⟨tg, k * 5, none⟩ = some (.int .i64 (cs.getD k rc0).p) ∧ w.cell? ⟨tg, k * 5 + 1, none⟩ = some (.int .i64 (cs.getD k rc0).un) ∧
        w.cell? ⟨tg, k * 5 + 2, none⟩ = some (.int .i64 (cs.getD k rc0).wh) ∧ w.cell? ⟨tg, k * 5 + 3, none⟩ = some (.int .i64 (cs.getD k rc0).x) ∧ w.cell? ⟨tg, k * 5 + 4, none⟩ = some (.int .i64 (cs.getD k rc0).y)) := by
    rcases htv with ⟨rfl, rfl⟩ | ⟨h0, hrow, hno⟩
    · exact ⟨none, 0, rfl, fun k hk => by simp at hk⟩
    · obtain ⟨tg, tcap, rfl, hob, hc⟩ := rc_cells hrow h0
      exact ⟨_, tcap, rfl, fun k hk => ⟨tg, rfl, hrow.lt hob, hno tg hob, hc k hk⟩⟩
  subst htv'
  have HT : Hid (∀ k, k < cs.length → ∃ tg, ta = some ⟨tg, 0, none⟩ ∧ tg < w.heap.size ∧ ¬ O tg ∧
      (w.cell? ⟨tg, k * 5, none⟩ = some (.int .i64 (cs.getD k rc0).p) ∧ w.cell? ⟨tg, k * 5 + 1, none⟩ = some (.int .i64 (cs.getD k rc0).un) ∧
        w.cell? ⟨tg, k * 5 + 2, none⟩ = some (.int .i64 (cs.getD k rc0).wh) ∧ w.cell? ⟨tg, k * 5 + 3, none⟩ = some (.int .i64 (cs.getD k rc0).x) ∧ w.cell? ⟨tg, k * 5 + 4, none⟩ = some (.int .i64 (cs.getD k rc0).y))) := hTT
  have HC : Hid (∀ k, k < cs.length → (cs.getD k rc0).ok) := hcs
  clear h hI htv hcs hTT
  go_enter Tryd.func18, Tryd.ntmps18
  go_wp2
  go_loopw [4] (fun i wr => ∃ k : Nat, k ≤ S.units.length ∧ i = .int .i64 k ∧ RefAt wr O b { S with units := clearTo S.units k } gv (.slice (some ⟨g, 0, none⟩) S.units.length cap) ∧ Keep O w wr) (fun i _ => S.units.length - (intOf i).toNat)
  case atStart => exact ⟨0, Nat.zero_le _, rfl, H0.out, Keep.refl _ _⟩
  case round =>
    obtain ⟨k, hk, rfl, hr, hkp⟩ := hrel
    have hlen := clearTo_len S.units k
    have hu := hr.cUnits
    by_cases hlt : k < S.units.length
    · have hkl : k < (clearTo S.units k).length := by omega
      obtain ⟨g', cap', hv', hob', hfr, hc⟩ := unit_cells hr (show 0 < (clearTo S.units k).length by omega)
      have hgg : g' = g := by injection hv' with e1 e2 e3; injection e1 with e1; injection e1 with e1; exact e1.symm
      subst hgg
      obtain ⟨c0, c1, c2, c3, c4, c5⟩ := hc k hkl
      have f5 := hfr (k * 6 + 5)
      have Hgs : Hid ((clearTo S.units k)[k]? = some ((clearTo S.units k).getD k ru0)) := getD_some _ k hkl
      have Hr : Hid (RefAt wr O b { S with units := clearTo S.units k } gv (.slice (some ⟨g', 0, none⟩) S.units.length cap)) := hr
      have Hkp : Hid (Keep O w wr) := hkp
      clear hc hr hfr hkp hv' hob' hlen hkl c0 c1 c2 c3 c4
      have Hcl : Hid (clearTo S.units (k + 1) = (clearTo S.units k).set k { (clearTo S.units k).getD k ru0 with busy := false }) := rfl
      generalize clearTo S.units k = us at *
      generalize us.getD k ru0 = u at *
      go_wp2
      go_roundw
      case rel =>
        go_light
        refine ⟨k + 1, by omega, by go_num, ?_, Hkp.out.set (.inl hO)⟩
        rw [Hcl.out]
        exact Hr.out.setBusy hob Hgs.out false
      case measure => simp [intOf]; omega
    · have : k = S.units.length := by omega
      subst this
      clear hlen
      have HI1 : Hid (RInv { S with units := clearTo S.units S.units.length }) := HI.out.clear _ (Nat.le_refl _)
      have HM : Hid (Moved O w b gv { S with units := clearTo S.units S.units.length } wr) := Moved.mk hr hkp
      have HD : Hid (doF S cs = { runTo { S with units := clearTo S.units S.units.length } cs with turn := (runTo { S with units := clearTo S.units S.units.length } cs).turn + 1, units := dropTo (runTo { S with units := clearTo S.units S.units.length } cs).units (runTo { S with units := clearTo S.units S.units.length } cs).units.length }) := rfl
      have hturn : (runTo { S with units := clearTo S.units S.units.length } cs).turn = S.turn  := (run_keeps _ _).1
      generalize ({ S with units := clearTo S.units S.units.length } : RS) = S1 at *
      clear hr hkp
      have hlt' : ¬ ((S.units.length : Int) < S.units.length) := by omega
      go_wp2
      go_loopw [5] (fun i wq => ∃ j : Nat, j ≤ cs.length ∧ i = .int .i64 j ∧ Moved O w b gv (runTo S1 (cs.take j)) wq) (fun i _ => cs.length - (intOf i).toNat)
      case atStart => exact ⟨0, Nat.zero_le _, rfl, HM.out⟩
      case round =>
        clear HM
        obtain ⟨j, hj, rfl, hm⟩ := hrel
        by_cases hlt2 : j < cs.length
        · obtain ⟨tg, rfl, htg, hnO, d0, d1, d2, d3, d4⟩ := HT.out j hlt2
          have hck := HC.out j hlt2
          have hblk := hm.2.block tg htg hnO
          have e0 := (World.cell?_of_block (w := w) (w' := wr) (a := ⟨tg, j * 5, none⟩) hblk).trans d0
          have e1 := (World.cell?_of_block (w := w) (w' := wr) (a := ⟨tg, j * 5 + 1, none⟩) hblk).trans d1
          have e2 := (World.cell?_of_block (w := w) (w' := wr) (a := ⟨tg, j * 5 + 2, none⟩) hblk).trans d2
          have e3 := (World.cell?_of_block (w := w) (w' := wr) (a := ⟨tg, j * 5 + 3, none⟩) hblk).trans d3
          have e4 := (World.cell?_of_block (w := w) (w' := wr) (a := ⟨tg, j * 5 + 4, none⟩) hblk).trans d4
          have HS : Hid (runTo S1 (cs.take (j + 1)) = (cs.getD j rc0).on (runTo S1 (cs.take j))) := runTo_snoc S1 cs j hlt2
          obtain ⟨uvr, hr⟩ := hm.get
          have HIr : Hid (RInv (runTo S1 (cs.take j))) := HI1.out.run _
          have Hm : Hid (Moved O w b gv (runTo S1 (cs.take j)) wr) := hm
          have Hr : Hid (RefAt wr (fun k => O k ∨ w.heap.size ≤ k) b (runTo S1 (cs.take j)) gv uvr) := hr
          have Hck : Hid ((cs.getD j rc0).ok) := hck
          clear hblk d0 d1 d2 d3 d4 hm hr hck
          generalize runTo S1 (cs.take j) = Sj at *
          generalize cs.getD j rc0 = c at *
          go_wp2_with (go_at_call 37; refine (command_any c Hck.out Hr.out HIr.out).mono ?_; rintro e w2 ⟨rfl, hm2⟩)
          go_roundw
          case rel =>
            go_light
            refine ⟨j + 1, by omega, by go_num, ?_⟩
            rw [HS.out]
            exact Moved.trans Hm.out hm2
          case measure => simp [intOf]; omega
        · have hT2 : cs.take j = cs := List.take_of_length_le (by omega)
          rw [hT2] at hm
          have HI2 : Hid (RInv (runTo S1 cs)) := HI1.out.run _
          clear HI1 hT2
          generalize runTo S1 cs = S2 at *
          obtain ⟨uv2, hr2⟩ := hm.get
          have ct := hr2.cTurn
          have ft := hr2.st.free 0
          have Hm : Hid (Moved O w b gv S2 wr) := hm
          have H2 : Hid (RefAt wr (fun k => O k ∨ w.heap.size ≤ k) b S2 gv uv2) := hr2
          clear hm hr2
          have ht2 : 0 ≤ S2.turn ∧ S2.turn ≤ 1000 := by rw [hturn]; omega
          obtain ⟨hta, htb⟩ := ht2
          clear hturn
          have hn2 := HI2.out.bounds.1
          have hu2 := HI2.out.u0
          obtain ⟨g2, cap2, hv2, hob2, -, -⟩ := unit_cells H2.out HI2.out.u0
          subst hv2
          have hO2 := (H2.out.ou g2 hob2).1
          have hb2 := H2.out.lt
          have hg2 := H2.out.units.lt hob2
          have hne2 := (H2.out.ou g2 hob2).2.1
          have hsz := Hm.out.2.size
          go_wp2
          go_loopw [6] (fun i wq => ∃ j : Nat, j ≤ S2.units.length ∧ i = .int .i64 j ∧ RefAt wq (fun k => O k ∨ w.heap.size ≤ k) b { S2 with turn := S2.turn + 1, units := dropTo S2.units j } gv (.slice (some ⟨g2, 0, none⟩) S2.units.length cap2) ∧ Keep O w wq) (fun i _ => S2.units.length - (intOf i).toNat)
          case atStart => exact ⟨0, Nat.zero_le _, rfl, H2.out.setTurn _, Hm.out.2.set (.inl (by rcases H2.out.ob with e | e; exact e; omega))⟩
          case round =>
            obtain ⟨q, hq, rfl, hr, hkp⟩ := hrel
            have hlen := dropTo_len S2.units q
            have hu := hr.cUnits
            have hI3 : RInv { S2 with turn := S2.turn + 1, units := dropTo S2.units q } := (HI2.out.setTurn (S2.turn + 1)).dropT q hq
            by_cases hlt3 : q < S2.units.length
            · have hkl : q < (dropTo S2.units q).length := by omega
              obtain ⟨g', cap', hv', hob', hfr, hc⟩ := unit_cells hr (show 0 < (dropTo S2.units q).length by omega)
              have hgg : g' = g2 := by injection hv' with e1 e2 e3; injection e1 with e1; injection e1 with e1; exact e1.symm
              subst hgg
              obtain ⟨c0, c1, c2, c3, c4, c5⟩ := hc q hkl
              have Hgs : Hid ((dropTo S2.units q)[q]? = some ((dropTo S2.units q).getD q ru0)) := getD_some _ q hkl
              have Hr : Hid (RefAt wr (fun k => O k ∨ w.heap.size ≤ k) b { S2 with turn := S2.turn + 1, units := dropTo S2.units q } gv (.slice (some ⟨g', 0, none⟩) S2.units.length cap2)) := hr
              have Hkp : Hid (Keep O w wr) := hkp
              have Hd : Hid (dropTo S2.units (q + 1) = if inF (dropTo S2.units q) ((dropTo S2.units q).getD q ru0).own then dropTo S2.units q else (dropTo S2.units q).set q { (dropTo S2.units q).getD q ru0 with hp := 0 }) := rfl
              have hl0 : 0 < (dropTo S2.units q).length := by omega
              have hql : q < (dropTo S2.units q).length := hkl
              have hl1 : (dropTo S2.units q).length ≤ 1000000 := by omega
              clear hc hr hfr hkp hv' hob' hlen hkl c1 c2 c3 c4 c5 hI3
              generalize dropTo S2.units q = us at *
              generalize us.getD q ru0 = u at *
              cases hin : inF us u.own with
              | true =>
                rw [hin, if_pos rfl] at Hd
                have Hin : Hid (inF (RS.units { S2 with turn := S2.turn + 1, units := us }) u.own = true) := hin
                clear hin
                go_wp2_with (go_at_call 38; refine (In_any _ Hr.out hl0 hl1).mono ?_; rintro e w3 ⟨rfl, hb3⟩; rw [Hin.out])
                have hfin : ∃ j : Nat, j ≤ S2.units.length ∧ Value.int .i64 (↑q + 1) = .int .i64 j ∧ RefAt w3 (fun k => O k ∨ w.heap.size ≤ k) b { S2 with turn := S2.turn + 1, units := dropTo S2.units j } gv (.slice (some ⟨g', 0, none⟩) S2.units.length cap2) ∧ Keep O w w3 := by
                  refine ⟨q + 1, by omega, by go_num, ?_, Hkp.out.trans (Keep.ofBelow hb3) (fun j hj => .inr (by have := Hkp.out.size; omega))⟩
                  rw [Hd.out]
                  exact Hr.out.below hb3
                have Hfin := (show Hid _ from hfin)
                clear hfin
                go_roundw
                case rel =>
                  go_light
                  first | exact Hfin.out | ((repeat apply Exists.intro); exact ⟨Hfin.out, rfl⟩)
                case measure => simp [intOf]; omega
              | false =>
                rw [hin, if_neg (by simp)] at Hd
                have Hin : Hid (inF (RS.units { S2 with turn := S2.turn + 1, units := us }) u.own = false) := hin
                clear hin
                go_wp2_with (go_at_call 38; refine (In_any _ Hr.out hl0 hl1).mono ?_; rintro e w3 ⟨rfl, hb3⟩; rw [Hin.out]; have hr3 := Hr.out.below hb3; have hu3 := hr3.cUnits; obtain ⟨g4, cap4, hv4, hob4, hfr4, hc4⟩ := unit_cells hr3 hl0; obtain ⟨-, -, -, -, d4, -⟩ := hc4 q hql; have f4 := hfr4 (q * 6 + 4))
                have hgg : g4 = g' := by injection hv4 with e1 e2 e3; injection e1 with e1; injection e1 with e1; exact e1.symm
                subst hgg
                have hfin : ∃ j : Nat, j ≤ S2.units.length ∧ Value.int .i64 (↑q + 1) = .int .i64 j ∧ RefAt (w3.setCell ⟨g4, q * 6 + 4, none⟩ (.int .i64 0)) (fun k => O k ∨ w.heap.size ≤ k) b { S2 with turn := S2.turn + 1, units := dropTo S2.units j } gv (.slice (some ⟨g4, 0, none⟩) S2.units.length cap2) ∧ Keep O w (w3.setCell ⟨g4, q * 6 + 4, none⟩ (.int .i64 0)) := by
                  refine ⟨q + 1, by omega, by go_num, ?_, (Hkp.out.trans (Keep.ofBelow hb3) (fun j hj => .inr (by have := Hkp.out.size; omega))).set ?_⟩
                  · rw [Hd.out]
                    exact (Hr.out.below hb3).setHp hob2 Hgs.out 0
                  · exact hO2
                have Hfin := (show Hid _ from hfin)
                clear hfin hr3 hv4 hob4 hfr4 hc4
                go_wp2
                go_roundw
                case rel =>
                  go_light
                  first | exact Hfin.out | ((repeat apply Exists.intro); exact ⟨Hfin.out, rfl⟩)
                case measure => simp [intOf]; omega
            · have hqq : q = S2.units.length := by omega
              have Hr : Hid (RefAt wr (fun k => O k ∨ w.heap.size ≤ k) b { S2 with turn := S2.turn + 1, units := dropTo S2.units S2.units.length } gv (.slice (some ⟨g2, 0, none⟩) S2.units.length cap2)) := by rw [← hqq]; rw [hqq] at hr ⊢; exact hr
              have Hkp : Hid (Keep O w wr) := hkp
              clear hr hkp hlen hI3
              go_wp2
              go_end0
              refine ⟨rfl, ?_⟩
              rw [HD.out]
              exact ⟨⟨_, Hr.out⟩, Hkp.out⟩

end Go.Proofs.YtdianedehhecoaaDoor
