/- The program's ReadTurns. -/
import Derived.Test.YtdianedehhecoaaDoorWireRead
namespace Go.Proofs.YtdianedehhecoaaDoor
open Go.RowKit
set_option linter.unusedVariables false
set_option linter.unusedSimpArgs false

/-- a slice of slices of the program's commands -/
structure PTurnsAt (w : World) (N : Nat) (ov : Value) (css : List (List RC)) (tvs : List Value) : Prop where
  len : tvs.length = css.length
  row : RowAt w 35 1 ov css.length tvs
  blk : ∀ k, ov.ownBlock = some k → N ≤ k
  each : ∀ i, i < css.length → PTurnAt w N (tvs.getD i (.slice none 0 0)) (css.getD i []) ∧ ∀ k, (tvs.getD i (.slice none 0 0)).ownBlock = some k → ov.ownBlock ≠ some k

theorem PTurnsAt.below {w w' : World} {N : Nat} {ov : Value} {css : List (List RC)} {tvs : List Value} (h : PTurnsAt w N ov css tvs) (hb : Below w.heap.size w w') : PTurnsAt w' N ov css tvs :=
  ⟨h.len, h.row.same fun k e => hb.block k (h.row.lt e), h.blk, fun i hi => ⟨(h.each i hi).1.below hb, (h.each i hi).2⟩⟩

theorem pturns_step {w0 wr wq w2 : World} {N : Nat} {ov tv v' : Value} {css : List (List RC)} {cs : List RC} {tvs : List Value} {o : Obj} (h : PTurnsAt wr N ov css tvs) (h0 : Below N w0 wr) (hN : N ≤ w0.heap.size)
    (hb : Below wr.heap.size wr wq) (ht : PTurnAt wq wr.heap.size tv cs) (hown : w2.ownsRow 0 35 1 v' (css.length + 1) (tvs ++ [tv])) (hg : (wq.alloc o).grownBy w2 ov.ownBlock)
    (hob : v'.ownBlock = ov.ownBlock ∨ v'.ownBlock = some (wq.heap.size + 1)) : PTurnsAt w2 N v' (css ++ [cs]) (tvs ++ [tv]) ∧ Below N w0 w2 := by
  have z0 := h0.size
  have z1 := hb.size
  have hlt : ∀ k, ov.ownBlock = some k → k < wr.heap.size := fun k e => h.row.lt e
  have hself : ∀ k, k < wq.heap.size → ov.ownBlock ≠ some k → w2.heap[k]? = wq.heap[k]? := fun k hk hne => by
    rw [hg.block k (by simp; omega) (fun e => hne e.symm), Below.heap_alloc _ _ _ hk]
  refine ⟨⟨by simp [h.len], by rw [List.length_append]; exact hown, fun k e => ?_, fun i hi => ?_⟩, ((h0.trans (hb.mono (by omega))).alloc (by omega) _).grown hg (by simp; omega) h.blk⟩
  · rcases hob with e2 | e2
    · rw [e2] at e; exact h.blk k e
    · rw [e2] at e
      have : k = wq.heap.size + 1 := by injection e with e; exact e.symm
      omega
  · simp only [List.length_append, List.length_singleton] at hi
    by_cases hi2 : i < css.length
    · have e1 : (tvs ++ [tv]).getD i (.slice none 0 0) = tvs.getD i (.slice none 0 0) := by simp [List.getD, List.getElem?_append_left (show i < tvs.length by rw [h.len]; exact hi2)]
      have e2 : (css ++ [cs]).getD i [] = css.getD i [] := by simp [List.getD, List.getElem?_append_left hi2]
      rw [e1, e2]
      obtain ⟨ha, hn⟩ := h.each i hi2
      refine ⟨⟨ha.row.same fun k e => ?_, ha.nil, ha.blk⟩, fun k e => ?_⟩
      · have hk := ha.row.lt e
        rw [hself k (by omega) (hn k e), hb.block k hk]
      · have hk := ha.row.lt e
        rcases hob with q | q
        · rw [q]; exact hn k e
        · rw [q]; intro q2; injection q2 with q2; omega
    · have hie : i = css.length := by omega
      subst hie
      have e1 : (tvs ++ [tv]).getD css.length (.slice none 0 0) = tv := by rw [← h.len]; simp [List.getD]
      have e2 : (css ++ [cs]).getD css.length [] = cs := by simp [List.getD]
      rw [e1, e2]
      refine ⟨⟨ht.row.same fun k e => ?_, ht.nil, fun k e => by have := ht.blk k e; omega⟩, fun k e => ?_⟩
      · exact hself k (ht.row.lt e) (fun q => by have := hlt k q; have := ht.blk k e; omega)
      · have hk := ht.row.lt e
        have hk2 := ht.blk k e
        rcases hob with q | q
        · rw [q]; intro q2; have := hlt k q2; omega
        · rw [q]; intro q2; injection q2 with q2; omega

def PTurnsSaid (N : Nat) (r : Option (List (List RC))) (e : Ending) (w' : World) : Prop :=
  match r with
  | none => e = .returned (.tuple #[.slice none 0 0, .bool false])
  | some css => ∃ ov tvs, e = .returned (.tuple #[ov, .bool true]) ∧ PTurnsAt w' N ov css tvs

theorem cmdsAt_congr (T s : ByteArray) (b n : Nat) (h : ∀ i, i < 5 * n → byt T i = byt s (b + i)) : cmdsAt T 0 n = cmdsAt s b n := by
  induction n with
  | zero => rfl
  | succ n ih =>
    simp only [cmdsAt]
    rw [ih (fun i hi => h i (by omega))]
    have e : cmdAt T (0 + 5 * n) = cmdAt s (b + 5 * n) := by
      unfold cmdAt
      rw [Nat.zero_add, h (5 * n) (by omega), h (5 * n + 1) (by omega), h (5 * n + 2) (by omega), h (5 * n + 3) (by omega), h (5 * n + 4) (by omega)]
      simp [Nat.add_assoc]
    rw [e]

set_option maxHeartbeats 4000000 in
set_option maxRecDepth 100000 in
theorem ReadTurns_any (s : ByteArray) (w : World) (hs : s.size ≤ 140737488351232) :
    Calls Tryd.prog 8 #[.string s] w fun e w' => PTurnsSaid w.heap.size (turnsF s) e w' ∧ Below w.heap.size w w' := by
  go_enter Tryd.func8, Tryd.ntmps8
  go_wp2
  go_loopw [0, 4] (fun xt o wr => ∃ (a left fuel : Nat) (T : ByteArray) (css : List (List RC)) (tvs : List Value), a + T.size = s.size ∧ xt = .string T ∧ (∀ i, i < T.size → byt T i = byt s (a + i)) ∧ css.length + left = 1000 ∧ s.size < a + fuel ∧ turnsF s = (readF s fuel a left).map (fun l => css ++ l) ∧ PTurnsAt wr w.heap.size o css tvs ∧ Below w.heap.size w wr) (fun xt _ _ => match xt with | .string T => T.size | _ => 0)
  case atStart =>
    refine ⟨0, 1000, s.size + 1, s, [], [], by omega, rfl, fun i _ => by rw [Nat.zero_add], rfl, by omega, ?_, ⟨rfl, ⟨rfl, .inl ⟨rfl, rfl⟩⟩, fun k e => (by cases e), fun i hi => (by simp at hi)⟩, Below.refl _ _⟩
    unfold turnsF; simp
  case round =>
    obtain ⟨a, left, fuel, T, css, tvs, ha, rfl, hT, hl, hf, hrd, hta, hbel⟩ := hrel
    obtain ⟨fuel, rfl⟩ : ∃ f, fuel = f + 1 := ⟨fuel - 1, by omega⟩
    obtain ⟨oa, ocap, hov⟩ : ∃ oa ocap, u4 = .slice oa css.length ocap := by
      rcases hta.row.2 with ⟨h1, h2⟩ | ⟨g, cap, cur, h1, _⟩
      · exact ⟨none, 0, by rw [h1, h2]⟩
      · exact ⟨_, _, h1⟩
    subst hov
    have Hta : Hid (PTurnsAt wr w.heap.size (.slice oa css.length ocap) css tvs) := hta
    have Hrd : Hid (turnsF s = (readF s (fuel + 1) a left).map (fun l => css ++ l)) := hrd
    have HT : Hid (∀ i, i < T.size → byt T i = byt s (a + i)) := hT
    have Ha : Hid (a + T.size = s.size) := ha
    have hts : T.size ≤ 140737488351232 := by omega
    clear hta hrd hT ha
    by_cases hlt : 0 < T.size
    · have hby : ((T[0].toNat : Nat) : Int) ≤ 255 := by have := T[0].toNat_lt; omega
      have hby0 : 0 ≤ ((T[0].toNat : Nat) : Int) := by omega
      have HB : Hid (byt s a = T[0].toNat) := by
        unfold Hid
        rw [byt_get T 0 hlt, HT.out 0 hlt, Nat.add_zero]
      have hti : (1 : Int) ≤ T.size := by omega
      have halt : a < s.size := by have := Ha.out; omega
      by_cases hbad : 36 < T[0].toNat ∨ s.size < a + 1 + 5 * T[0].toNat ∨ left = 0
      · have Hn : Hid (turnsF s = none) := by
          unfold Hid
          rw [Hrd.out, readF_bad s fuel a left halt (by rw [HB.out]; simpa using hbad)]; rfl
        have Hbad : Hid (36 < T[0].toNat ∨ s.size < a + 1 + 5 * T[0].toNat ∨ left = 0) := hbad
        clear hbad HB Hrd
        go_wp2
        all_goals first
          | (go_ret2; go_light; refine ⟨?_, hbel⟩; rw [Hn.out]; exact rfl)
          | (exfalso; go_light; have hb := Hbad.out; have hA := Ha.out; simp at *; omega)
      · have hn1 : ((T[0].toNat : Nat) : Int) * 5 ≤ 180 := by omega
        have hn2 : ((T[0].toNat : Nat) : Int) * 5 ≤ (T.size : Int) - 1 := by have := Ha.out; omega
        have hn3 : ((css.length : Int) == 1000) = false := by simp; omega
        have HN := (show Hid _ from readF_next s fuel a left halt T[0].toNat (by rw [HB.out]; simp) (by omega) (by omega) (by omega))
        have Hl0 : Hid (¬ left = 0) := by unfold Hid; omega
        have hu8 : T[0].toNat ≤ 36 := by omega
        have h5 : 5 * T[0].toNat + 1 ≤ T.size := by have := Ha.out; omega
        clear hbad HB
        obtain ⟨j0, hj, hy0, hy1, hy2⟩ := info_parts infoComms
        go_wp2_with fail
        have hs1 : (T.extract 1 T.size).size = T.size - 1 := by rw [ByteArray.size_extract]; omega
        have hs2 : ((T.extract 1 T.size).extract 0 (T[0].toNat * 5)).size = 5 * T[0].toNat := by rw [ByteArray.size_extract, hs1]; omega
        refine (readCommands_any _ T[0].toNat hu8 hs2 _).mono ?_
        rintro e wa ⟨⟨tv, rfl, htv⟩, hba⟩
        have hcm : cmdsAt ((T.extract 1 T.size).extract 0 (T[0].toNat * 5)) 0 T[0].toNat = cmdsAt s (a + 1) T[0].toNat := by
          refine cmdsAt_congr _ s (a + 1) T[0].toNat (fun i hi => ?_)
          rw [byt_extract _ 0 (T[0].toNat * 5) i (by rw [hs1]; omega) (by omega), byt_extract T 1 T.size (0 + i) (Nat.le_refl _) (by omega), HT.out (1 + (0 + i)) (by omega)]
          congr 1; omega
        rw [hcm] at htv
        clear hcm
        obtain ⟨ta, tn, tcap, htf⟩ : ∃ ta tn tcap, tv = .slice ta tn tcap := by
          rcases htv.row.2 with ⟨h1, h2⟩ | ⟨g, cap, cur, h1, _⟩
          · exact ⟨_, _, _, h1⟩
          · exact ⟨_, _, _, h1⟩
        subst htf
        have Hta2 := Hta.out.below hba
        have Htv := (show Hid _ from htv)
        have Hba := (show Hid _ from hba)
        have Hs1 : Hid ((T.extract 1 T.size).size = T.size - 1) := hs1
        have hsT : (T.extract 1 T.size).size ≤ 140737488351232 := by omega
        have hsN : ((T[0].toNat : Nat) : Int) * 5 ≤ ((T.extract 1 T.size).size : Int) := by omega
        clear htv hba hs2 hs1
        go_wp2_with (at_builtin; refine wpList_append_own_at _ rfl _ _ 30 rfl 0 35 j0 _ 1 24 Tryd.underlying30 hj hy0 hy1 hy2 rfl (by decide) _ _ _ rfl (RowAt.alloc Hta2.row _) ⟨wa.heap.size, 0, none⟩ 1 1 [.slice ta tn tcap] rfl rfl ?c1 ?c2 ?c3 ?c4 ?c5 ?_)
        case c1 =>
          intro j u hj
          match j, hj with
          | 0, hj => simp at hj; subst hj; simp [Addr.add]
          | j + 1, hj => simp at hj
        case c2 => intro u hu; simp at hu; subst hu; rfl
        case c3 => unfold maxLen; omega
        case c4 => omega
        case c5 => exact Nat.zero_le _
        · intro v' w2 hown hg hnil hob
          have hfin := pturns_step Hta.out hbel (Nat.le_refl _) Hba.out Htv.out hown hg hob
          have hread : turnsF s = (readF s fuel (a + 1 + 5 * T[0].toNat) (left - 1)).map (fun l => (css ++ [cmdsAt s (a + 1) T[0].toNat]) ++ l) := by
            rw [Hrd.out, HN.out, Option.map_map]
            congr 1
            funext l
            simp
          have Hread := (show Hid _ from hread)
          have Hfin := (show Hid _ from hfin)
          clear hfin hread hown hg hnil hob hj hy0 hy1 hy2 Hta2
          go_wp2
          go_light
          have hA := Ha.out
          have hs1 := Hs1.out
          have hs3 : ((T.extract 1 T.size).extract (T[0].toNat * 5) (T.size - 1)).size = T.size - 1 - 5 * T[0].toNat := by rw [ByteArray.size_extract, hs1]; omega
          refine ⟨⟨a + 1 + 5 * T[0].toNat, left - 1, fuel, (T.extract 1 T.size).extract (T[0].toNat * 5) (T.size - 1), css ++ [cmdsAt s (a + 1) T[0].toNat], tvs ++ [.slice ta tn tcap], by omega, rfl, fun i hi => ?_, ?_, by omega, Hread.out, Hfin.out.1, Hfin.out.2⟩, ?_⟩
          · rw [byt_extract _ (T[0].toNat * 5) (T.size - 1) i (by omega) (by omega), byt_extract T 1 T.size (T[0].toNat * 5 + i) (Nat.le_refl _) (by omega), HT.out (1 + (T[0].toNat * 5 + i)) (by omega)]
            congr 1; omega
          · have := Hl0.out
            simp; omega
          · show ((T.extract 1 T.size).extract (T[0].toNat * 5) (T.size - 1)).size < T.size
            omega
    · have Hn : Hid (turnsF s = some css) := by
        unfold Hid
        rw [Hrd.out, readF_end s fuel a left (by have := Ha.out; omega)]; simp
      go_wp2
      go_ret2
      refine ⟨?_, hbel⟩
      rw [Hn.out]
      exact ⟨_, tvs, rfl, Hta.out⟩
end Go.Proofs.YtdianedehhecoaaDoor
