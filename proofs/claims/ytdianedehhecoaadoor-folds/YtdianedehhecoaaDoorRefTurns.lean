/- The document's answer: Turns: bytes as lists of commands. -/
import Derived.Test.YtdianedehhecoaaDoorRefTurn
namespace Go.Proofs.YtdianedehhecoaaDoor
open Go.RowKit
set_option linter.unusedVariables false
set_option linter.unusedSimpArgs false

/-- a slice of commands that lies in blocks from N on -/
structure TurnAt (w : World) (N : Nat) (tv : Value) (cs : List RC) : Prop where
  row : RowAt w 82 5 tv cs.length (rcCells cs)
  nil : cs = [] → tv = .slice none 0 0
  blk : ∀ k, tv.ownBlock = some k → N ≤ k

/-- a slice of such slices -/
structure TurnsAt (w : World) (N : Nat) (ov : Value) (css : List (List RC)) (tvs : List Value) : Prop where
  len : tvs.length = css.length
  row : RowAt w 46 1 ov css.length tvs
  blk : ∀ k, ov.ownBlock = some k → N ≤ k
  each : ∀ i, i < css.length → TurnAt w N (tvs.getD i (.slice none 0 0)) (css.getD i []) ∧ ∀ k, (tvs.getD i (.slice none 0 0)).ownBlock = some k → ov.ownBlock ≠ some k

theorem TurnAt.below {w w' : World} {N : Nat} {tv : Value} {cs : List RC} (h : TurnAt w N tv cs) (hb : Below w.heap.size w w') : TurnAt w' N tv cs :=
  ⟨h.row.same fun k e => hb.block k (h.row.lt e), h.nil, h.blk⟩

theorem TurnsAt.below {w w' : World} {N : Nat} {ov : Value} {css : List (List RC)} {tvs : List Value} (h : TurnsAt w N ov css tvs) (hb : Below w.heap.size w w') : TurnsAt w' N ov css tvs :=
  ⟨h.len, h.row.same fun k e => hb.block k (h.row.lt e), h.blk, fun i hi => ⟨(h.each i hi).1.below hb, (h.each i hi).2⟩⟩

theorem infoCmd : (Tryd.prog.info? 82).map (fun i => (i.zero, i.size, i.bytes)) = some (some (.agg #[.int .i64 0, .int .i64 0, .int .i64 0, .int .i64 0, .int .i64 0]), 5, 40) := by kernel_rfl

theorem infoTurn : (Tryd.prog.info? 46).map (fun i => (i.zero, i.size, i.bytes)) = some (some (.slice none 0 0), 1, 24) := by kernel_rfl

theorem turn_step {wo w w2 : World} {M : Nat} {tv v' : Value} {cs : List RC} {c : RC} {o1 o2 : Obj} (h : TurnAt w M tv cs) (hb : Below M wo w)
    (hown : w2.ownsRow 0 82 5 v' (cs.length + 1) (rcCells cs ++ [.int .i64 c.p, .int .i64 c.un, .int .i64 c.wh, .int .i64 c.x, .int .i64 c.y])) (hg : ((w.alloc o1).alloc o2).grownBy w2 tv.ownBlock)
    (hob : v'.ownBlock = tv.ownBlock ∨ v'.ownBlock = some (w.heap.size + 1 + 1)) (hM : M ≤ wo.heap.size) : TurnAt w2 M v' (cs ++ [c]) ∧ Below M wo w2 := by
  have hsz := hb.size
  refine ⟨⟨?_, fun e => by simp at e, fun k e => ?_⟩, ((hb.alloc (by omega) _).alloc (by simp; omega) _).grown hg (by simp; omega) h.blk⟩
  · have e1 : rcCells (cs ++ [c]) = rcCells cs ++ [.int .i64 c.p, .int .i64 c.un, .int .i64 c.wh, .int .i64 c.x, .int .i64 c.y] := by simp [rcCells, RC.cells]
    rw [e1, List.length_append]
    exact hown
  · rcases hob with e2 | e2
    · rw [e2] at e; exact h.blk k e
    · rw [e2] at e
      have : k = w.heap.size + 1 + 1 := by injection e with e; exact e.symm
      omega

theorem turns_step {w0 wr wq w2 : World} {N : Nat} {ov tv v' : Value} {css : List (List RC)} {cs : List RC} {tvs : List Value} {o : Obj} (h : TurnsAt wr N ov css tvs) (h0 : Below N w0 wr) (hN : N ≤ w0.heap.size)
    (hb : Below wr.heap.size wr wq) (ht : TurnAt wq wr.heap.size tv cs) (hown : w2.ownsRow 0 46 1 v' (css.length + 1) (tvs ++ [tv])) (hg : (wq.alloc o).grownBy w2 ov.ownBlock)
    (hob : v'.ownBlock = ov.ownBlock ∨ v'.ownBlock = some (wq.heap.size + 1)) : TurnsAt w2 N v' (css ++ [cs]) (tvs ++ [tv]) ∧ Below N w0 w2 := by
  have z0 := h0.size
  have z1 := hb.size
  have hlt : ∀ k, ov.ownBlock = some k → k < wr.heap.size := fun k e => h.row.lt e
  have hself : ∀ k, k < wq.heap.size → ov.ownBlock ≠ some k → w2.heap[k]? = wq.heap[k]? := fun k hk hne => by
    rw [hg.block k (by simp; omega) (fun e => hne e.symm), Below.heap_alloc _ _ _ hk]
  refine ⟨⟨by simp [h.len], by rw [List.length_append]; exact hown, fun k e => ?_, fun i hi => ?_⟩, ((h0.trans (hb.mono (by omega))).alloc (by omega) _).grown hg (by simp; omega) h.blk⟩
  · rcases hob with e2 | e2
    · rw [e2] at e; exact h.blk k e
    · rw [e2] at e
      have : k = wq.heap.size + 1 := by injection e with e; exact e.symm
      omega
  · simp only [List.length_append, List.length_singleton] at hi
    by_cases hi2 : i < css.length
    · have e1 : (tvs ++ [tv]).getD i (.slice none 0 0) = tvs.getD i (.slice none 0 0) := by simp [List.getD, List.getElem?_append_left (show i < tvs.length by rw [h.len]; exact hi2)]
      have e2 : (css ++ [cs]).getD i [] = css.getD i [] := by simp [List.getD, List.getElem?_append_left hi2]
      rw [e1, e2]
      obtain ⟨ha, hn⟩ := h.each i hi2
      refine ⟨⟨ha.row.same fun k e => ?_, ha.nil, ha.blk⟩, fun k e => ?_⟩
      · have hk := ha.row.lt e
        rw [hself k (by omega) (hn k e), hb.block k hk]
      · have hk := ha.row.lt e
        rcases hob with q | q
        · rw [q]; exact hn k e
        · rw [q]; intro q2; injection q2 with q2; omega
    · have hie : i = css.length := by omega
      subst hie
      have e1 : (tvs ++ [tv]).getD css.length (.slice none 0 0) = tv := by rw [← h.len]; simp [List.getD]
      have e2 : (css ++ [cs]).getD css.length [] = cs := by simp [List.getD]
      rw [e1, e2]
      refine ⟨⟨ht.row.same fun k e => ?_, ht.nil, fun k e => by have := ht.blk k e; omega⟩, fun k e => ?_⟩
      · exact hself k (ht.row.lt e) (fun q => by have := hlt k q; have := ht.blk k e; omega)
      · have hk := ht.row.lt e
        have hk2 := ht.blk k e
        rcases hob with q | q
        · rw [q]; intro q2; have := hlt k q2; omega
        · rw [q]; intro q2; injection q2 with q2; omega

def TurnsSaid (N : Nat) (r : Option (List (List RC))) (e : Ending) (w' : World) : Prop :=
  match r with
  | none => e = .returned (.tuple #[.slice none 0 0, .bool false])
  | some css => ∃ ov tvs, e = .returned (.tuple #[ov, .bool true]) ∧ TurnsAt w' N ov css tvs

set_option maxHeartbeats 4000000 in
set_option maxRecDepth 100000 in
theorem Turns_any (s : ByteArray) (w : World) (hs : s.size ≤ 140737488351232) :
    Calls Tryd.prog 15 #[.string s] w fun e w' => TurnsSaid w.heap.size (turnsF s) e w' ∧ Below w.heap.size w w' := by
  go_enter Tryd.func15, Tryd.ntmps15
  go_wp2
  go_loopw [4, 5] (fun o a wr => ∃ (at_ left fuel : Nat) (css : List (List RC)) (tvs : List Value), at_ ≤ s.size ∧ a = .int .i64 at_ ∧ css.length + left = 1000 ∧ s.size < at_ + fuel ∧ turnsF s = (readF s fuel at_ left).map (fun l => css ++ l) ∧ TurnsAt wr w.heap.size o css tvs ∧ Below w.heap.size w wr) (fun _ a _ => s.size - (intOf a).toNat)
  case atStart =>
    refine ⟨0, 1000, s.size + 1, [], [], Nat.zero_le _, rfl, rfl, by omega, ?_, ⟨rfl, ⟨rfl, .inl ⟨rfl, rfl⟩⟩, fun k e => (by cases e), fun i hi => (by simp at hi)⟩, Below.refl _ _⟩
    unfold turnsF; simp
  case round =>
    obtain ⟨a, left, fuel, css, tvs, ha, rfl, hl, hf, hrd, hta, hbel⟩ := hrel
    obtain ⟨fuel, rfl⟩ : ∃ f, fuel = f + 1 := ⟨fuel - 1, by omega⟩
    obtain ⟨oa, ocap, hov⟩ : ∃ oa ocap, u4 = .slice oa css.length ocap := by
      rcases hta.row.2 with ⟨h1, h2⟩ | ⟨g, cap, cur, h1, _⟩
      · exact ⟨none, 0, by rw [h1, h2]⟩
      · exact ⟨_, _, h1⟩
    subst hov
    have Hta : Hid (TurnsAt wr w.heap.size (.slice oa css.length ocap) css tvs) := hta
    have Hrd : Hid (turnsF s = (readF s (fuel + 1) a left).map (fun l => css ++ l)) := hrd
    clear hta hrd
    by_cases hlt : a < s.size
    · have hby : ((s[a].toNat : Nat) : Int) ≤ 255 := by have := s[a].toNat_lt; omega
      have hby0 : 0 ≤ ((s[a].toNat : Nat) : Int) := by omega
      have HB : Hid (byt s a = s[a].toNat) := (byt_get s a hlt).symm
      by_cases hbad : 36 < s[a].toNat ∨ s.size < a + 1 + 5 * s[a].toNat ∨ left = 0
      · have Hn : Hid (turnsF s = none) := by
          unfold Hid
          rw [Hrd.out, readF_bad s fuel a left hlt (by rw [HB.out]; simpa using hbad)]; rfl
        have Hbad : Hid (36 < s[a].toNat ∨ s.size < a + 1 + 5 * s[a].toNat ∨ left = 0) := hbad
        clear hbad HB Hrd
        go_wp2
        all_goals first
          | (go_ret2; go_light; refine ⟨?_, hbel⟩; rw [Hn.out]; exact rfl)
          | (exfalso; go_light; have hb := Hbad.out; simp at *; omega)
      · have hn1 : ((s[a].toNat : Nat) : Int) ≤ 36 := by omega
        have hn2 : (a : Int) + 1 + 5 * ((s[a].toNat : Nat) : Int) ≤ s.size := by omega
        have hn3 : ((css.length : Int) == 1000) = false := by simp; omega
        have HN := (show Hid _ from readF_next s fuel a left hlt s[a].toNat (by rw [HB.out]; simp) (by omega) (by omega) (by omega))
        have Hl0 : Hid (¬ left = 0) := by unfold Hid; omega
        clear hbad HB
        have hu8 : s[a].toNat ≤ 36 := by omega
        have hd1 : decide (36 < ((s[a].toNat : Nat) : Int)) = false := by simp; omega
        have hd2 : decide ((s.size : Int) < (a : Int) + 1 + 5 * ((s[a].toNat : Nat) : Int)) = false := by simp; omega
        go_wp2
        generalize s[a].toNat = n at *
        clear hd1 hd2 hn3
        have hsz := hbel.size
        have Hbel : Hid (Below w.heap.size w wr) := hbel
        clear hbel
        obtain ⟨i0, hi, hz0, hz1, hz2⟩ := info_parts infoCmd
        go_loopw [5, 7, 8] (fun av tv iv wq => ∃ i m : Nat, i ≤ n ∧ iv = .int .i64 i ∧ m = a + 1 + 5 * i ∧ av = .int .i64 m ∧ TurnAt wq wr.heap.size tv (cmdsAt s (a + 1) i) ∧ Below wr.heap.size wr wq) (fun _ _ iv _ => n - (intOf iv).toNat)
        case atStart => exact ⟨0, a + 1, Nat.zero_le _, rfl, rfl, by go_num, ⟨⟨rfl, .inl ⟨rfl, rfl⟩⟩, fun _ => rfl, fun k e => (by cases e)⟩, Below.refl _ _⟩
        case round =>
          obtain ⟨i, m, hin, rfl, hm, rfl, htv, hbel2⟩ := hrel
          by_cases hlt2 : i < n
          · have hm1 : m + 5 ≤ s.size := by omega
            have hm2 : (m : Int) + 5 ≤ s.size := by omega
            have hq0 : ((s[m].toNat : Nat) : Int) ≤ 255 := by have := s[m].toNat_lt; omega
            have hq1 : ((s[m + 1].toNat : Nat) : Int) ≤ 255 := by have := s[m + 1].toNat_lt; omega
            have hq2 : ((s[m + 2].toNat : Nat) : Int) ≤ 255 := by have := s[m + 2].toNat_lt; omega
            have hq3 : ((s[m + 3].toNat : Nat) : Int) ≤ 255 := by have := s[m + 3].toNat_lt; omega
            have hq4 : ((s[m + 4].toNat : Nat) : Int) ≤ 255 := by have := s[m + 4].toNat_lt; omega
            have HM : Hid (m = a + 1 + 5 * i) := hm
            have Htv := (show Hid _ from htv)
            have Hb2 := (show Hid _ from hbel2)
            have HC : Hid (cmdsAt s (a + 1) (i + 1) = cmdsAt s (a + 1) i ++ [cmdAt s m]) := by unfold Hid; rw [hm]; rfl
            have hcl := cmdsAt_len s (a + 1) i
            clear htv
            clear hm
            go_wp2
            refine wp_loop_rounds 6 ?_
            rw [rounds_succ]; go_wp2
            rw [rounds_succ]; go_wp2
            rw [rounds_succ]; go_wp2
            rw [rounds_succ]; go_wp2
            rw [rounds_succ]; go_wp2
            rw [rounds_succ]; go_wp2_with (at_builtin; refine wpList_append_own_at _ rfl _ _ 46 rfl 0 82 i0 _ 5 40 Tryd.underlying46 hi hz0 hz1 hz2 rfl (by decide) _ _ _ rfl (RowAt.alloc (RowAt.alloc Htv.out.row _) _) ⟨wr.heap.size + 1, 0, none⟩ 1 1 [.int .i64 ((s[m].toNat : Nat) : Int), .int .i64 ((s[m + 1].toNat : Nat) : Int), .int .i64 ((s[m + 2].toNat : Nat) : Int), .int .i64 ((s[m + 3].toNat : Nat) : Int), .int .i64 ((s[m + 4].toNat : Nat) : Int)] rfl rfl ?c1 ?c2 ?c3 ?c4 ?c5 ?_)
            case c1 =>
              intro j u hj
              match j, hj with
              | 0, hj => simp at hj; subst hj; simp [Addr.add]
              | 1, hj => simp at hj; subst hj; simp [Addr.add]
              | 2, hj => simp at hj; subst hj; simp [Addr.add]
              | 3, hj => simp at hj; subst hj; simp [Addr.add]
              | 4, hj => simp at hj; subst hj; simp [Addr.add]
              | j + 5, hj => simp at hj
            case c2 => intro u hu; simp at hu; rcases hu with rfl | rfl | rfl | rfl | rfl <;> rfl
            case c3 => rw [hcl]; unfold maxLen; omega
            case c4 => rw [hcl]; omega
            case c5 => exact Nat.zero_le _
            · intro v' w2 hown hg hnil hob
              have e0 := byt_get s m (by omega)
              have e1 := byt_get s (m + 1) (by omega)
              have e2 := byt_get s (m + 2) (by omega)
              have e3 := byt_get s (m + 3) (by omega)
              have e4 := byt_get s (m + 4) (by omega)
              have hfin := turn_step (cs := cmdsAt s (a + 1) i) (c := cmdAt s m) Htv.out Hb2.out (by rw [hcl]; rw [e0, e1, e2, e3, e4] at hown; exact hown) hg hob (Nat.le_refl _)
              rw [← HC.out] at hfin
              have Hfin := (show Hid _ from hfin)
              clear hfin e0 e1 e2 e3 e4 hown hg hnil hob hq0 hq1 hq2 hq3 hq4
              go_wp2
              go_roundw
              case rel =>
                go_light
                refine ⟨i + 1, m + 5, by omega, by go_num, by have := HM.out; omega, by go_num, Hfin.out.1, Hfin.out.2⟩
              case measure => simp [intOf]; omega
          · have hin2 : i = n := by omega
            subst hin2
            obtain ⟨ta, tn, tcap, htf⟩ : ∃ ta tn tcap, u7 = .slice ta tn tcap := by
              rcases htv.row.2 with ⟨h1, h2⟩ | ⟨g, cap, cur, h1, _⟩
              · exact ⟨_, _, _, h1⟩
              · exact ⟨_, _, _, h1⟩
            subst htf
            obtain ⟨j0, hj, hy0, hy1, hy2⟩ := info_parts infoTurn
            have Hta2 := Hta.out.below hbel2
            have Htv := (show Hid _ from htv)
            have Hb2 := (show Hid _ from hbel2)
            have HM : Hid (m = a + 1 + 5 * i) := hm
            clear hm htv hbel2 hi hz0 hz1 hz2
            go_wp2_with (at_builtin; refine wpList_append_own_at _ rfl _ _ 40 rfl 0 46 j0 _ 1 24 Tryd.underlying40 hj hy0 hy1 hy2 rfl (by decide) _ _ _ rfl (RowAt.alloc Hta2.row _) ⟨wr.heap.size, 0, none⟩ 1 1 [.slice ta tn tcap] rfl rfl ?c1 ?c2 ?c3 ?c4 ?c5 ?_)
            case c1 =>
              intro j u hj
              match j, hj with
              | 0, hj => simp at hj; subst hj; simp [Addr.add]
              | j + 1, hj => simp at hj
            case c2 => intro u hu; simp at hu; subst hu; rfl
            case c3 => unfold maxLen; omega
            case c4 => omega
            case c5 => exact Nat.zero_le _
            · intro v' w2 hown hg hnil hob
              have hfin := turns_step Hta.out Hbel.out (Nat.le_refl _) Hb2.out Htv.out hown hg hob
              have hread : turnsF s = (readF s fuel m (left - 1)).map (fun l => (css ++ [cmdsAt s (a + 1) i]) ++ l) := by
                rw [Hrd.out, HN.out, HM.out, Option.map_map]
                congr 1
                funext l
                simp
              have Hread : Hid (turnsF s = (readF s fuel m (left - 1)).map (fun l => (css ++ [cmdsAt s (a + 1) i]) ++ l)) := hread
              have Hfin := (show Hid _ from hfin)
              have hm3 : m ≤ s.size := by have := HM.out; omega
              have hm4 : s.size < m + fuel := by have := HM.out; omega
              have hl2 : css.length + 1 + (left - 1) = 1000 := by have := Hl0.out; omega
              have hm5 : a < m := by have := HM.out; omega
              clear hfin hread hown hg hnil hob hj hy0 hy1 hy2 Hta2
              go_wp2
              go_roundw
              case rel =>
                go_light
                first
                  | exact ⟨m, left - 1, fuel, css ++ [cmdsAt s (a + 1) i], tvs ++ [.slice ta tn tcap], hm3, rfl, by simp; omega, hm4, Hread.out, Hfin.out.1, Hfin.out.2⟩
                  | ((repeat apply Exists.intro); exact ⟨⟨m, left - 1, fuel, css ++ [cmdsAt s (a + 1) i], tvs ++ [.slice ta tn tcap], hm3, rfl, by simp; omega, hm4, Hread.out, Hfin.out.1, Hfin.out.2⟩, rfl⟩)
              case measure => simp [intOf]; omega
    · have Hn : Hid (turnsF s = some css) := by
        unfold Hid
        rw [Hrd.out, readF_end s fuel a left hlt]; simp
      go_wp2
      go_ret2
      refine ⟨?_, hbel⟩
      rw [Hn.out]
      exact ⟨_, tvs, rfl, Hta.out⟩

end Go.Proofs.YtdianedehhecoaaDoor
