/- The program's obey, whole. -/
import Derived.Test.YtdianedehhecoaaGreatDoorWProgObeyA
import Derived.Test.YtdianedehhecoaaGreatDoorWProgObeyB
import Derived.Test.YtdianedehhecoaaGreatDoorWProgObeyC
import Derived.Test.YtdianedehhecoaaGreatDoorWProgObeyD
import Derived.Test.YtdianedehhecoaaGreatDoorWProgObeyE
set_option linter.unusedVariables false
set_option linter.unusedSimpArgs false
namespace Go.Proofs.YtdianedehhecoaaGreatDoor
open Go.RowKit

set_option maxHeartbeats 4000000 in
set_option maxRecDepth 100000 in
theorem obeyNone_any {w:World}{O:Nat→Prop}{b g k:Nat}{S:PS}{gv uv:Value}{bs:List Nat}(p un wh x y:Int)(h:PAt w O b S gv uv bs)(hob:uv.ownBlock=some g)(hn:S.units.length≤1000)
  (hg : gvB un wh x y=false)(hki:S.units.findIdx (numB un)=k)(hk:¬ k<S.units.length) :
  Calls Pz.prog 80 #[.pointer (some ⟨b,0,none⟩),.agg #[.int .i64 p,.int .i64 un,.int .i64 wh,.int .i64 x,.int .i64 y]] w fun e w'=>e=.returned (.tuple #[])∧Obeyed O w b gv S w':=by
 have HH:=(show Hid _ from h)
 have HG:=(show Hid _ from hg)
 have hbl:=h.st.lt
 have hal:Below w.heap.size w (w.alloc (.cells #[.int .i64 p,.int .i64 un,.int .i64 wh,.int .i64 x,.int .i64 y] 171)):=(Below.refl _ _).alloc (Nat.le_refl _) _
 have Hfi:=(show Hid _ from findU_idx (numB un) S.units bs h.blen)
 rw[hki, if_neg hk]at Hfi
 clear h hg hki hk
 go_enter Pz.func80, Tryz.ntmps80
 go_wp2_with fail
 refine (GivesUp_any p un wh x y _).mono ?_
 rintro e w1 ⟨rfl,hb1⟩
 rw[HG.out]
 have hb01:Below w.heap.size w w1:=hal.trans (hb1.mono (by simp))
 have h1:=HH.out.below hb01
 have d1:w1.cell? ⟨w.heap.size,1,none⟩=some (.int .i64 un):=by rw[hb1.cell (p:=⟨w.heap.size,1,none⟩) (by simp)];simp
 have H1:=(show Hid _ from h1)
 have Hb01:=(show Hid _ from hb01)
 clear h1 hb01 hb1
 go_wp2_with fail
 refine (numbered_any un H1.out hob hn).mono ?_
 rw[Hfi.out]
 rintro e w2 ⟨rfl,hw2⟩
 rw[hw2]; clear hw2 w2
 have hv:ifaceOf none=.nilIface:=rfl
 rw[hv]
 clear hv
 go_wp2
 (try simp only[Exit.inBlock,Exit.then]);refine bodyPost_ret (results_none rfl _ _ _) rfl ?_
 exact ⟨rfl, Obeyed.same H1.out hob (keepBelow Hb01.out)⟩

set_option maxHeartbeats 4000000 in
set_option maxRecDepth 100000 in
theorem obeyGive_any {w:World}{O:Nat→Prop}{b g:Nat}{S:PS}{gv uv:Value}{bs:List Nat}(p un wh x y:Int)(h:PAt w O b S gv uv bs)(hob:uv.ownBlock=some g)(hn:S.units.length≤1000)(hg:gvB un wh x y=true) :
  Calls Pz.prog 80 #[.pointer (some ⟨b,0,none⟩),.agg #[.int .i64 p,.int .i64 un,.int .i64 wh,.int .i64 x,.int .i64 y]] w fun e w'=>e=.returned (.tuple #[])∧Obeyed O w b gv { S with units:=S.units.filter fun u=>!((u.own == p) && (u.kind == 1)) } w':=by
 have HH:=(show Hid _ from h)
 have HG:=(show Hid _ from hg)
 have hal:Below w.heap.size w (w.alloc (.cells #[.int .i64 p,.int .i64 un,.int .i64 wh,.int .i64 x,.int .i64 y] 171)):=(Below.refl _ _).alloc (Nat.le_refl _) _
 clear h hg
 go_enter Pz.func80, Tryz.ntmps80
 go_wp2_with fail
 refine (GivesUp_any p un wh x y _).mono ?_
 rintro e w1 ⟨rfl,hb1⟩
 rw[HG.out]
 have hb01:Below w.heap.size w w1:=hal.trans (hb1.mono (by simp))
 have d0:w1.cell? ⟨w.heap.size,0,none⟩=some (.int .i64 p):=by rw[hb1.cell (p:=⟨w.heap.size,0,none⟩) (by simp)];simp
 have Hb01:=(show Hid _ from hb01)
 clear hb01 hb1
 go_wp2_with fail
 refine (giveUp_any p (HH.out.below Hb01.out) hob hn).mono ?_
 rintro e w2 ⟨rfl,⟨uv',e1,e2⟩,e3⟩
 have E2:=(show Hid _ from e2)
 have E3:=(show Hid _ from e3)
 clear e2 e3
 go_wp2
 (try simp only[Exit.inBlock,Exit.then]);refine bodyPost_ret (results_none rfl _ _ _) rfl ?_
 have hE:=E2.out
 rw[fU_filter _ _ _ HH.out.blen]at hE
 exact ⟨rfl, Obeyed.same hE e1 ((keepBelow Hb01.out).trans (E3.out.orOf (HH.out.ou g hob).1 HH.out.ob) fun _ q=>.inl q)⟩

theorem obey_any {w:World}{O:Nat→Prop}{b g:Nat}{S:PS}{gv uv:Value}{bs:List Nat}(c:RC)(hc:c.ok)(h:PAt w O b S gv uv bs)(hob:uv.ownBlock=some g)(hI:PInv S)(hd:NumsD S.units)(hln:∀ u∈S.units,u.num≤S.last) :
  Calls Pz.prog 80 #[.pointer (some ⟨b,0,none⟩),.agg #[.int .i64 c.p,.int .i64 c.un,.int .i64 c.wh,.int .i64 c.x,.int .i64 c.y]] w fun e w'=>e=.returned (.tuple #[])∧Obeyed O w b gv (obeyF S c) w':=by
 obtain ⟨p, un,wh,x,y⟩:=c
 obtain ⟨-, -,-,-,-,-,x0,x1,y0,y1⟩:=hc
 simp only at x0 x1 y0 y1 ⊢
 unfold obeyF
 simp only
 cases hgv:gvB un wh x y
 ·have hng:¬ (un=0∧wh=0∧x=0∧y=0):=fun q=>by
   obtain ⟨rfl, rfl,rfl,rfl⟩:=q
   simp[gvB] at hgv
  rw[if_neg hng]
  by_cases hk:S.units.findIdx (numB un)<S.units.length
  ·by_cases ho:(S.units.getD (S.units.findIdx (numB un)) pu0).own=p
   ·cases hac:(S.units.getD (S.units.findIdx (numB un)) pu0).acted
    ·rw[nearB_split]
     cases hf:fieldB x y
     ·rw[if_neg (fun q=>absurd q.2.2.2 (by simp))]
      exact obeyOff_any p un wh x y h hob hI hd hln x0 x1 y0 y1 hgv rfl hk ho hac hf
     ·cases hnb:nbB (S.units.getD (S.units.findIdx (numB un)) pu0).x (S.units.getD (S.units.findIdx (numB un)) pu0).y x y
      ·rw[if_neg (fun q=>absurd q.2.2.2 (by simp))]
       exact obeyFar_any p un wh x y h hob hI hd hln x0 x1 y0 y1 hgv rfl hk ho hac hf hnb
      ·rw[if_pos ⟨hk,ho,rfl,rfl⟩]
       exact obeyDoes_any p un wh x y h hob hI hd hln x0 x1 y0 y1 hgv rfl hk ho hac hf hnb
    ·rw[if_neg (fun q=>absurd q.2.2.1 (by simp))]
     exact obeyActed_any p un wh x y h hob hI hd hln x0 x1 y0 y1 hgv rfl hk ho hac
   ·rw[if_neg (fun q=>ho q.2.1)]
    exact obeyOther_any p un wh x y h hob hI hd hln x0 x1 y0 y1 hgv rfl hk ho
  ·rw[if_neg (fun q=>hk q.1)]
   exact obeyNone_any p un wh x y h hob hI.n hgv rfl hk
 ·have hg:un=0∧wh=0∧x=0∧y=0:=by
   simp[gvB] at hgv
   omega
  rw[if_pos hg]
  exact obeyGive_any p un wh x y h hob hI.n hgv
end Go.Proofs.YtdianedehhecoaaGreatDoor
