/- The program's obey: a unit that has acted. -/
import Derived.Test.YtdianedehhecoaaGreatDoorTProgObey
import Derived.Deep.RegionHeld3
set_option linter.unusedVariables false
set_option linter.unusedSimpArgs false
set_option maxHeartbeats 4000000
set_option maxRecDepth 100000
namespace Go.Proofs.YtdianedehhecoaaGreatDoor
open Go.RowKit
theorem obeyActed_any {w:World}{O:Nat→Prop}{b g k:Nat}{S:PS}{gv uv:Value}{bs:List Nat}(p un wh x y:Int)(h:PAt w O b S gv uv bs)(hob:uv.ownBlock=some g)(hI:PInv S)(hd:NumsD S.units)(hln:∀ u∈S.units,u.num≤S.last)
  (x0:0≤x)(x1:x≤255)(y0:0≤y)(y1:y≤255)(hg:gvB un wh x y=false)(hki:S.units.findIdx (numB un)=k)(hk:k<S.units.length)(ho:(S.units.getD k pu0).own=p)(hac:(S.units.getD k pu0).acted=true) :
  Calls Pz.prog 80 #[.pointer (some ⟨b,0,none⟩),.agg #[.int .i64 p,.int .i64 un,.int .i64 wh,.int .i64 x,.int .i64 y]] w fun e w'=>e=.returned (.tuple #[])∧Obeyed O w b gv S w':=by
 have hn:=hI.n
 have hbl:=h.st.lt
 have HH:=(show Hid _ from h)
 have HI:=(show Hid _ from hI)
 have Hd:=(show Hid _ from hd)
 have Hln:=(show Hid _ from hln)
 have HG:=(show Hid _ from hg)
 have hal:Below w.heap.size w (w.alloc (.cells #[.int .i64 p,.int .i64 un,.int .i64 wh,.int .i64 x,.int .i64 y] 171)):=(Below.refl _ _).alloc (Nat.le_refl _) _
 have Hfi:=(show Hid _ from findU_idx (numB un) S.units bs h.blen)
 have hnum:(S.units.getD k pu0).num=un:=by
  rw[← hki]
  have:=List.findIdx_getElem (w:=hki.symm▸hk)
  simp only[numB,beq_iff_eq]at this
  simpa [List.getD,List.getElem?_eq_getElem (hki.symm▸hk:S.units.findIdx (numB un)<S.units.length)] using this
 have HNk:=(show Hid _ from hnum)
 rw[hki,if_pos hk]at Hfi
 clear h hI hd hln hnum hg hki
 go_enter Pz.func80,Tryz.ntmps80
 go_wp2_with fail
 refine (GivesUp_any p un wh x y _).mono ?_
 rintro e w1 ⟨rfl,hb1⟩
 rw[HG.out]
 have hb01:Below w.heap.size w w1:=hal.trans (hb1.mono (by simp))
 have h1:=HH.out.below hb01
 have d0:w1.cell? ⟨w.heap.size,0,none⟩=some (.int .i64 p):=by rw[hb1.cell (p:=⟨w.heap.size,0,none⟩) (by simp)];simp
 have d1:w1.cell? ⟨w.heap.size,1,none⟩=some (.int .i64 un):=by rw[hb1.cell (p:=⟨w.heap.size,1,none⟩) (by simp)];simp
 have d2:w1.cell? ⟨w.heap.size,2,none⟩=some (.int .i64 wh):=by rw[hb1.cell (p:=⟨w.heap.size,2,none⟩) (by simp)];simp
 have d3:w1.cell? ⟨w.heap.size,3,none⟩=some (.int .i64 x):=by rw[hb1.cell (p:=⟨w.heap.size,3,none⟩) (by simp)];simp
 have d4:w1.cell? ⟨w.heap.size,4,none⟩=some (.int .i64 y):=by rw[hb1.cell (p:=⟨w.heap.size,4,none⟩) (by simp)];simp
 have z1:w.heap.size<w1.heap.size:=by have:=hb1.size;simp at this;omega
 have H1:=(show Hid _ from h1)
 have Hb01:=(show Hid _ from hb01)
 clear h1 hb01 hb1
 go_wp2_with fail
 refine (numbered_any un H1.out hob hn).mono ?_
 rw[Hfi.out]
 rintro e w2 ⟨rfl,hw2⟩
 rw[hw2];clear hw2 w2
 have hv:ifaceOf (some (S.units.getD k pu0,bs.getD k 0))=.iface (ptrT (S.units.getD k pu0).kind) (.pointer (some ⟨bs.getD k 0,0,none⟩)):=rfl
 rw[hv]
 have hm:=meth_any _ (H1.out.kinds k hk) (bs.getD k 0)
 have hul:=(H1.out.each k hk).lt
 have n3:=World.new_ne w1 ⟨w.heap.size,3,none⟩ d3
 have n4:=World.new_ne w1 ⟨w.heap.size,4,none⟩ d4
 clear hv
 generalize hub:bs.getD k 0=ub at *
 have HU:Hid (bs.getD k 0=ub):=hub
 have HT:Hid (uVal (S.units.getD k pu0) ub=.iface (ptrT (S.units.getD k pu0).kind) (.pointer (some ⟨ub,0,none⟩))):=rfl
 generalize ptrT (S.units.getD k pu0).kind=T at *
 clear hub
 go_wp2_with fail
 go_region_held3 (fun w'=>w'.cell? ⟨w.heap.size,3,none⟩=some (.int .i64 x)∧w'.cell? ⟨w.heap.size,4,none⟩=some (.int .i64 y)) (go_keep) (first|(go_at_call 250;refine (common_any _ _).mono ?_;rintro e w' ⟨rfl,rfl⟩))
 all_goals
  clear n3 n4
  have hb2:Below w1.heap.size w1 (w1.alloc (.cells #[.int .i64 x,.int .i64 y] 157)).drew:=((Below.refl _ _).alloc (Nat.le_refl _) _).drew
  have a0:(w1.alloc (.cells #[.int .i64 x,.int .i64 y] 157)).drew.cell? ⟨w1.heap.size,0,none⟩=some (.int .i64 x):=by simp
  have a1:(w1.alloc (.cells #[.int .i64 x,.int .i64 y] 157)).drew.cell? ⟨w1.heap.size,1,none⟩=some (.int .i64 y):=by simp
  have z2:w1.heap.size<(w1.alloc (.cells #[.int .i64 x,.int .i64 y] 157)).drew.heap.size:=by simp
  have HB2:=(show Hid _ from hb2)
  have A0:=(show Hid _ from a0)
  have A1:=(show Hid _ from a1)
  have Z2:=(show Hid _ from z2)
  clear hb2 a0 a1 z2
  go_wp2_with fail
  have hb2:=HB2.out
  have a0:=A0.out
  have a1:=A1.out
  have z2:=Z2.out
  clear HB2 A0 A1 Z2
  revert hb2 a0 a1 z2
  generalize (w1.alloc (.cells #[.int .i64 x,.int .i64 y] 157)).drew=w2
  intro hb2 a0 a1 z2
  have h2:=H1.out.below hb2
  have hb02:Below w.heap.size w w2:=Hb01.out.trans (hb2.mono Hb01.out.size)
  have e1:w2.cell? ⟨ub,1,none⟩=some (.int .i64 (S.units.getD k pu0).own):=by rw[← HU.out];exact (h2.each k hk).cell rfl
  have e3:w2.cell? ⟨ub,3,none⟩=some (.int .i64 (S.units.getD k pu0).x):=by rw[← HU.out];exact (h2.each k hk).cell rfl
  have e4:w2.cell? ⟨ub,4,none⟩=some (.int .i64 (S.units.getD k pu0).y):=by rw[← HU.out];exact (h2.each k hk).cell rfl
  have e6:w2.cell? ⟨ub,6,none⟩=some (.bool (S.units.getD k pu0).acted):=by rw[← HU.out];exact (h2.each k hk).cell rfl
  have dd0:w2.cell? ⟨w.heap.size,0,none⟩=some (.int .i64 p):=(hb2.cell (p:=⟨w.heap.size,0,none⟩) z1).trans d0
  have dd2:w2.cell? ⟨w.heap.size,2,none⟩=some (.int .i64 wh):=(hb2.cell (p:=⟨w.heap.size,2,none⟩) z1).trans d2
  obtain ⟨ux0,ux1,uy0,uy1⟩:=HI.out.xy k hk
  have H2:=(show Hid _ from h2)
  have Hb02:=(show Hid _ from hb02)
  have Hb2:=(show Hid _ from hb2)
  generalize hgo:(S.units.getD k pu0).own=own at *
  generalize hgx:(S.units.getD k pu0).x=ux at *
  generalize hgy:(S.units.getD k pu0).y=uy at *
  generalize hga:(S.units.getD k pu0).acted=ac at *
  have ho:(own == p)=true:=beq_iff_eq.2 ho
  subst hac
  have hul2:ub<w2.heap.size:=by omega
  have hS6:∀ W,Below w2.heap.size w2 W→(W.cell? ⟨ub,1,none⟩=some (.int .i64 own)∧W.cell? ⟨w.heap.size,0,none⟩=some (.int .i64 p)∧W.cell? ⟨ub,6,none⟩=some (.bool true)∧W.cell? ⟨w1.heap.size,0,none⟩=some (.int .i64 x)∧W.cell? ⟨w1.heap.size,1,none⟩=some (.int .i64 y)∧W.cell? ⟨ub,3,none⟩=some (.int .i64 ux)∧W.cell? ⟨ub,4,none⟩=some (.int .i64 uy)∧W.cell? ⟨w.heap.size,2,none⟩=some (.int .i64 wh)∧Below w2.heap.size w2 W):=fun W hW =>
   ⟨(hW.cell (p:=⟨ub,1,none⟩) hul2).trans e1,(hW.cell (p:=⟨w.heap.size,0,none⟩) (by show w.heap.size<_;omega)).trans dd0,(hW.cell (p:=⟨ub,6,none⟩) hul2).trans e6,(hW.cell (p:=⟨w1.heap.size,0,none⟩) z2).trans a0,(hW.cell (p:=⟨w1.heap.size,1,none⟩) z2).trans a1,(hW.cell (p:=⟨ub,3,none⟩) hul2).trans e3,(hW.cell (p:=⟨ub,4,none⟩) hul2).trans e4,(hW.cell (p:=⟨w.heap.size,2,none⟩) (by show w.heap.size<_;omega)).trans dd2,hW⟩
  have h0:=hS6 _ (Below.refl _ _).drew
  have HF:Hid (∀ W,Below w2.heap.size w2 W→Calls Pz.prog 141 #[.agg #[.int .i64 x,.int .i64 y]] W fun e w'=>e=.returned (.bool (fieldB x y))∧(w'.cell? ⟨ub,1,none⟩=some (.int .i64 own)∧w'.cell? ⟨w.heap.size,0,none⟩=some (.int .i64 p)∧w'.cell? ⟨ub,6,none⟩=some (.bool true)∧w'.cell? ⟨w1.heap.size,0,none⟩=some (.int .i64 x)∧w'.cell? ⟨w1.heap.size,1,none⟩=some (.int .i64 y)∧w'.cell? ⟨ub,3,none⟩=some (.int .i64 ux)∧w'.cell? ⟨ub,4,none⟩=some (.int .i64 uy)∧w'.cell? ⟨w.heap.size,2,none⟩=some (.int .i64 wh)∧Below w2.heap.size w2 w')):=fun W hW =>
   (onField_any x y W).mono fun e w' q=>⟨q.1,hS6 _ (hW.trans (q.2.mono hW.size))⟩
  have HN:Hid (∀ W,Below w2.heap.size w2 W→Calls Pz.prog 142 #[.agg #[.int .i64 ux,.int .i64 uy],.agg #[.int .i64 x,.int .i64 y]] W fun e w'=>e=.returned (.bool (nbB ux uy x y))∧(w'.cell? ⟨ub,1,none⟩=some (.int .i64 own)∧w'.cell? ⟨w.heap.size,0,none⟩=some (.int .i64 p)∧w'.cell? ⟨ub,6,none⟩=some (.bool true)∧w'.cell? ⟨w1.heap.size,0,none⟩=some (.int .i64 x)∧w'.cell? ⟨w1.heap.size,1,none⟩=some (.int .i64 y)∧w'.cell? ⟨ub,3,none⟩=some (.int .i64 ux)∧w'.cell? ⟨ub,4,none⟩=some (.int .i64 uy)∧w'.cell? ⟨w.heap.size,2,none⟩=some (.int .i64 wh)∧Below w2.heap.size w2 w')):=fun W hW =>
   (neighbours_any ux uy x y W ux0 (by omega) uy0 (by omega) x0 (by omega) y0 (by omega)).mono fun e w' q=>⟨q.1,hS6 _ (hW.trans (q.2.mono hW.size))⟩
  have hB0:Below w2.heap.size w2 w2.drew:=(Below.refl _ _).drew
  clear h2 hb02 hb2 d0 d1 d2 d3 d4 hgo hgx hgy hga hS6
  clear h0 HF HN
  go_quiet (fail)
  all_goals
   have Hz:=(show Hid _ from bel_drewN (Below.refl w2.heap.size w2) nq)
   skip
   go_wp2
   go_end0
   exact ⟨rfl,Obeyed.same (H2.out.below Hz.out) hob (keepBelow (Hb02.out.trans (Hz.out.mono Hb02.out.size)))⟩
end Go.Proofs.YtdianedehhecoaaGreatDoor