/- The program's place, of a worker. -/
import Derived.Test.YtdianedehhecoaaGreatDoorTRels
set_option linter.unusedVariables false
set_option linter.unusedSimpArgs false
set_option maxHeartbeats 4000000
set_option maxRecDepth 100000
namespace Go.Proofs.YtdianedehhecoaaGreatDoor
open Go.RowKit
theorem placeWorker_any {w:World}{O:Nat→Prop}{b:Nat}{S:PS}{gv uv:Value}{bs:List Nat}(p x y:Int)(h:PAt w O b S gv uv bs)(hn:S.units.length≤1000)(l0:0≤S.last)(l1:S.last≤100000) :
  Calls Pz.prog 76 #[.pointer (some ⟨b,0,none⟩),.int .i64 p,.agg #[.int .i64 x,.int .i64 y],.func (.func 78) #[] #[]] w fun e w'=>e=.returned (.tuple #[])∧Placed O w b S gv bs ⟨S.last+1,p,2,x,y,5,true⟩ w':=by
 obtain ⟨iu,hiu,hiv⟩:=Option.map_eq_some_iff.1 infoPUnit
 obtain ⟨iz,is1,ib⟩:iu.zero=some .nilIface∧iu.size=1∧iu.bytes=16:=by simpa using hiv
 clear hiv
 have hbl:=h.st.lt
 have c1:w.cell? ⟨b,1,none⟩=some (.int .i64 S.last):=h.st.cell rfl
 have f1:=h.st.free 1
 have hsz:(w.setCell ⟨b,1,none⟩ (.int .i64 (S.last+1))).heap.size=w.heap.size:=by simp[World.setCell]
 have h1:=(h.set_last (S.last+1)).below ((Below.refl _ _).alloc (Nat.le_refl _) (.cells #[.int .i64 x,.int .i64 y] 157))
 have k1:Keep O w ((w.setCell ⟨b,1,none⟩ (.int .i64 (S.last+1))).alloc (.cells #[.int .i64 x,.int .i64 y] 157)):=((Keep.refl _ _).set (.inl h.ob)).alloc _
 have bx:((w.setCell ⟨b,1,none⟩ (.int .i64 (S.last+1))).alloc (.cells #[.int .i64 x,.int .i64 y] 157)).cell? ⟨w.heap.size,0,none⟩=some (.int .i64 x):=by
  have e:=(BlkAt.new (w.setCell ⟨b,1,none⟩ (.int .i64 (S.last+1))) [.int .i64 x,.int .i64 y] 157).cell (i:=0) (v:=.int .i64 x) rfl
  rw[hsz]at e;exact e
 have by_:((w.setCell ⟨b,1,none⟩ (.int .i64 (S.last+1))).alloc (.cells #[.int .i64 x,.int .i64 y] 157)).cell? ⟨w.heap.size,1,none⟩=some (.int .i64 y):=by
  have e:=(BlkAt.new (w.setCell ⟨b,1,none⟩ (.int .i64 (S.last+1))) [.int .i64 x,.int .i64 y] 157).cell (i:=1) (v:=.int .i64 y) rfl
  rw[hsz]at e;exact e
 have z1:w.heap.size<((w.setCell ⟨b,1,none⟩ (.int .i64 (S.last+1))).alloc (.cells #[.int .i64 x,.int .i64 y] 157)).heap.size:=by simp[World.setCell]
 have H1:=(show Hid _ from h1)
 have K1:=(show Hid _ from k1)
 have Bx:=(show Hid _ from bx)
 have By:=(show Hid _ from by_)
 have Z1:=(show Hid _ from z1)
 clear h h1 k1 bx by_ z1
 go_enter Pz.func76,Tryz.ntmps76
 go_wp2_with fail
 have h1:=H1.out
 have k1:=K1.out
 have bx:=Bx.out
 have by_:=By.out
 have z1:=Z1.out
 clear H1 K1 Bx By Z1
 revert h1 k1 bx by_ z1
 generalize ((w.setCell ⟨b,1,none⟩ (.int .i64 (S.last+1))).alloc (.cells #[.int .i64 x,.int .i64 y] 157))=w1
 intro h1 k1 bx by_ z1
 have c67:=h1.cUnits
 have f67:=h1.st.free 67
 have c1':w1.cell? ⟨b,1,none⟩=some (.int .i64 (S.last+1)):=h1.st.cell rfl
 have hb1:=h1.st.lt
 have HN:Hid (Calls Pz.prog 78 #[.agg #[.int .i64 (S.last+1),.int .i64 p,.int .i64 0,.int .i64 x,.int .i64 y,.int .i64 0,.bool true]] w1.drew fun e w2 =>
   e=.returned (.iface 239 (.pointer (some ⟨w1.heap.size+1,0,none⟩)))∧w2.cell? ⟨b,67,none⟩=some uv∧(∀ o,(w2.alloc o).cell? ⟨b,67,none⟩=some uv)∧Hid (RowAt w2 165 1 uv S.units.length (uVals S.units bs)∧Below w1.heap.size w1 w2∧w2.heap.size=w1.heap.size+2∧BlkAt w2 (w1.heap.size+1) (PU.cells ⟨S.last+1,p,2,x,y,5,true⟩) (strT 2))):=by
  refine (newWorker_any (S.last+1) p x y 0 0 true w1.drew).mono ?_
  rintro e w2 ⟨rfl,⟨q1,q2⟩,q3⟩
  have q4:Below w1.heap.size w1 w2:=(Below.refl _ _).drew.trans q3
  exact ⟨rfl,(q4.cell (p:=⟨b,67,none⟩) hb1).trans c67,fun o=>((q4.alloc q4.size o).cell (p:=⟨b,67,none⟩) hb1).trans c67,h1.units.same (fun k e=>q4.block k (h1.units.lt e)),q4,q1,q2⟩
 have H1:=(show Hid _ from h1)
 have K1:=(show Hid _ from k1)
 have Z1:=(show Hid _ from z1)
 clear h1 k1 z1 c1 f1
 generalize hL:S.last+1=L at *
 generalize hU:uVals S.units bs=us at *
 generalize hN:S.units.length=n at *
 go_region_law (first
  | (refine step_append_row (v:=uv) (n:=n) (xs:=us) (ad:=⟨w2.heap.size,0,none⟩) (c:=1) (u:=.iface 239 (.pointer (some ⟨w1.heap.size+1,0,none⟩))) rfl (.tmp 19) (.tmp 29) 151 rfl 165 iu .nilIface 16 ((Pz.gUnderlying 151).trans Tryz.underlying151) hiu iz is1 ib rfl rfl (hx2.out.1.alloc _) rfl (new_cell w2 _ _) rfl (by omega) (by decide) ?_;intro v' w4 hr4 hg4 hb4;obtain ⟨g4,cap4,rfl,hv4⟩:=hr4.slice4;have hq4:=place_cells H1.out hx2.out.2.1 hg4;have c4:=hq4.1;have f4:=hq4.2;clear hq4;have HR4:=(show Hid _ from hr4);have HG4:=(show Hid _ from hg4);have HB4:=(show Hid _ from hb4);clear hr4 hg4 hb4)
  | (go_simp;go_wp2_with (go_at_call 78;refine Calls.mono HN.out ?_;rintro e w2 ⟨rfl,hc67,hc67a,hx2⟩)))
 all_goals
  go_wp2
  go_end0
  have e2:=hx2.out
  rw[← hL,← hU,← hN]at *
  exact ⟨rfl,placed_end (u:=⟨S.last+1,p,2,x,y,5,true⟩) H1.out K1.out Z1.out e2.2.1 e2.2.2.1 e2.2.2.2 (.inr (.inl rfl)) HR4.out HG4.out HB4.out g4 rfl⟩
end Go.Proofs.YtdianedehhecoaaGreatDoor
/- The program's buy, of a worker. -/
namespace Go.Proofs.YtdianedehhecoaaGreatDoor
open Go.RowKit
theorem buyWorker_any {w:World}{O:Nat→Prop}{b g a:Nat}{S:PS}{gv uv:Value}{bs:List Nat}(x y:Int)(h:PAt w O b S gv uv bs)(hob:uv.ownBlock=some g)(hn:S.units.length≤1000)
  (ha:a<S.gold.length)(hg4:S.gold.length≤4)(g0:0≤S.gold.getD a 0)(g1:S.gold.getD a 0≤1000)(l0:0≤S.last)(l1:S.last≤100000) :
  Calls Pz.prog 260 #[.pointer (some ⟨b,0,none⟩),.int .i64 a,.int .i64 2,.agg #[.int .i64 x,.int .i64 y],.func (.func 78) #[] #[]] w (Bought O w b gv bs (buyF S a 2 2 x y)):=by
 obtain ⟨cap,hv,-,-⟩:=h.unit hob
 obtain ⟨gg,gcap,hgv,gob,gfr,gc⟩:=h.goldCells (by omega)
 subst hv
 subst hgv
 have hbl:=h.st.lt
 have gO:=(h.og gg gob).1
 have hai:(a:Int)<S.gold.length:=by omega
 have hgn:(S.gold.length:Int)≤4:=by omega
 have hni:(S.units.length:Int)≤1000:=by omega
 have hfi:=findU_idx (onP x y) S.units bs h.blen
 have HB:Hid (buyF S a 2 2 x y=if S.units.findIdx (onP x y)<S.units.length∨S.gold.getD a 0<2∨40≤S.units.length then (S,false)
  else ({ S with last:=S.last+1,gold:=S.gold.set a (S.gold.getD a 0-2),units:=S.units++[bodyOf a 2 x y (S.last+1)] },true)):=rfl
 have HH:=(show Hid _ from h)
 have hal:Below w.heap.size w (w.alloc (.cells #[.int .i64 x,.int .i64 y] 157)):=(Below.refl _ _).alloc (Nat.le_refl _) _
 have Hfi:=(show Hid _ from hfi)
 clear h hfi gfr gc
 generalize S.units.findIdx (onP x y)=j at *
 go_enter Pz.func260,Tryz.ntmps260
 go_wp2_with fail
 refine (unitOn_any x y (HH.out.below hal) hob hn).mono ?_
 rw[Hfi.out]
 rintro e w1 ⟨rfl,hb1⟩
 have hb01:Below w.heap.size w w1:=hal.trans (hb1.mono (by simp))
 have h1:=HH.out.below hb01
 have hkb:Keep O w w1:=(Keep.ofBelow hb01).mono (fun j hj=>.inr hj)
 have bx:w1.cell? ⟨w.heap.size,0,none⟩=some (.int .i64 x):=by rw[hb1.cell (p:=⟨w.heap.size,0,none⟩) (by simp)];simp
 have by_:w1.cell? ⟨w.heap.size,1,none⟩=some (.int .i64 y):=by rw[hb1.cell (p:=⟨w.heap.size,1,none⟩) (by simp)];simp
 have z1:w.heap.size<w1.heap.size:=by have:=hb1.size;simp at this;omega
 have H1:=(show Hid _ from h1)
 have Hkb:=(show Hid _ from hkb)
 have c67:=h1.cUnits
 have c2:=h1.cGold
 obtain ⟨gg',gcap',hgv',gob',gfr,gc⟩:=h1.goldCells (by omega)
 obtain ⟨rfl⟩:gg=gg':=by rw[gob]at gob';exact Option.some.inj gob'
 have gc2:=gc a ha
 have gf2:=gfr a
 clear hb1 hb01 h1 hkb gc gfr hgv' gob'
 by_cases hj:j<S.units.length
 ·rw[if_pos hj]
  have hp:ptrOf (some (S.units.getD j pu0,bs.getD j 0))=.pointer (some ⟨bs.getD j 0,0,none⟩):=rfl
  rw[hp]
  have HS2:Hid (buyF S a 2 2 x y=(S,false)):=by unfold Hid;rw[HB.out,if_pos (.inl hj)]
  clear hp HB Hfi
  generalize bs.getD j 0=bj at *
  go_wp2
  go_ret
  rw[HS2.out]
  exact Bought.same H1.out hob Hkb.out
 ·rw[if_neg hj]
  have hp:ptrOf none=.pointer none:=rfl
  rw[hp]
  clear hp Hfi
  by_cases hl:S.gold.getD a 0<2
  ·have HS2:Hid (buyF S a 2 2 x y=(S,false)):=by unfold Hid;rw[HB.out,if_pos (.inr (.inl hl))]
   clear HB
   generalize S.gold.getD a 0=ga at *
   go_wp2
   go_ret
   rw[HS2.out]
   exact Bought.same H1.out hob Hkb.out
  ·by_cases h40:40≤S.units.length
   ·have HS2:Hid (buyF S a 2 2 x y=(S,false)):=by unfold Hid;rw[HB.out,if_pos (.inr (.inr h40))]
    have h40i:(40:Int)≤S.units.length:=by omega
    clear HB
    generalize S.gold.getD a 0=ga at *
    go_wp2
    go_ret
    rw[HS2.out]
    exact Bought.same H1.out hob Hkb.out
   ·have HS2:Hid (buyF S a 2 2 x y=({ S with last:=S.last+1,gold:=S.gold.set a (S.gold.getD a 0-2),units:=S.units++[bodyOf a 2 x y (S.last+1)] },true)):=by unfold Hid;rw[HB.out,if_neg (by omega)]
    have h40i:(S.units.length:Int)<40:=by omega
    have h2:=H1.out.setGold gob a (S.gold.getD a 0-2)
    have k2:=Hkb.out.set (i:=a) (v:=.int .i64 (S.gold.getD a 0-2)) (.inl gO)
    have bx2:(w1.setCell ⟨gg,a,none⟩ (.int .i64 (S.gold.getD a 0-2))).cell? ⟨w.heap.size,0,none⟩=some (.int .i64 x):=by
     rw[World.cell?_of_block (w:=w1) (a:=⟨w.heap.size,0,none⟩) (Below.heap_setCell _ _ _ _ (by show w.heap.size≠gg;have:=HH.out.gold.lt gob;omega))];exact bx
    have by2:(w1.setCell ⟨gg,a,none⟩ (.int .i64 (S.gold.getD a 0-2))).cell? ⟨w.heap.size,1,none⟩=some (.int .i64 y):=by
     rw[World.cell?_of_block (w:=w1) (a:=⟨w.heap.size,1,none⟩) (Below.heap_setCell _ _ _ _ (by show w.heap.size≠gg;have:=HH.out.gold.lt gob;omega))];exact by_
    have H2:=(show Hid _ from h2)
    have K2:=(show Hid _ from k2)
    clear HB h2 k2
    generalize hga:S.gold.getD a 0=ga at *
    go_wp2_with fail
    refine (placeWorker_any a x y H2.out hn l0 l1).mono ?_
    rintro e w2 ⟨rfl,hp2,hk2⟩
    have Hp2:=(show Hid _ from hp2)
    have Hk2:=(show Hid _ from hk2)
    clear hp2 hk2
    go_wp2
    go_ret
    rw[HS2.out]
    exact Bought.placed K2.out Hp2.out Hk2.out
end Go.Proofs.YtdianedehhecoaaGreatDoor
/- The program's hire, of a Base. -/
namespace Go.Proofs.YtdianedehhecoaaGreatDoor
open Go.RowKit
theorem hireBase_any {w:World}{O:Nat→Prop}{b g a k:Nat}{S:PS}{gv uv:Value}{bs:List Nat}(x y:Int)(h:PAt w O b S gv uv bs)(hob:uv.ownBlock=some g)(hn:S.units.length≤1000)(hk:k<S.units.length)(ho:(S.units.getD k pu0).own=a)
  (ha:a<S.gold.length)(hg4:S.gold.length≤4)(g0:0≤S.gold.getD a 0)(g1:S.gold.getD a 0≤1000)(l0:0≤S.last)(l1:S.last≤100000) :
  Calls Pz.prog 256 #[.pointer (some ⟨bs.getD k 0,0,none⟩),.pointer (some ⟨b,0,none⟩),.agg #[.int .i64 x,.int .i64 y]] w (Bought O w b gv bs (buyF S a 2 2 x y)):=by
 have hs:∀ W,Below w.heap.size w W→Calls Pz.prog 260 #[.pointer (some ⟨b,0,none⟩),.int .i64 a,.int .i64 2,.agg #[.int .i64 x,.int .i64 y],.func (.func 78) #[] #[]] W (Bought O w b gv bs (buyF S a 2 2 x y)):=fun W hW =>
  (buyWorker_any x y (h.below hW) hob hn ha hg4 g0 g1 l0 l1).mono fun e w' q=>q.back hW
 have HH:=(show Hid _ from hs)
 have d1:w.cell? ⟨bs.getD k 0,1,none⟩=some (.int .i64 a):=by rw[← ho];exact (h.each k hk).cell rfl
 have hul:=(h.each k hk).lt
 have hal:Below w.heap.size w (w.alloc (.cells #[.int .i64 x,.int .i64 y] 157)):=(Below.refl _ _).alloc (Nat.le_refl _) _
 clear h hs ho
 generalize bs.getD k 0=bk at *
 go_enter Pz.func256,Tryz.ntmps256
 go_wp2_with fail
 go_region_with (go_at_call 260;refine Calls.mono (HH.out _ (Below.drew hal)) ?_;rintro e w1 ⟨rfl,h1⟩)
 all_goals
  have H1:=(show Hid _ from h1)
  clear h1
  go_wp2
  go_ret
  exact ⟨rfl,H1.out⟩
end Go.Proofs.YtdianedehhecoaaGreatDoor