/- The program's obey, whole. -/
import Derived.Test.YtdianedehhecoaaGreatDoorTProgObeyA
import Derived.Test.YtdianedehhecoaaGreatDoorTProgObeyB
import Derived.Test.YtdianedehhecoaaGreatDoorTProgObeyC
import Derived.Test.YtdianedehhecoaaGreatDoorTProgObeyD
import Derived.Test.YtdianedehhecoaaGreatDoorTProgObeyE
set_option linter.unusedVariables false
set_option linter.unusedSimpArgs false
set_option maxHeartbeats 4000000
set_option maxRecDepth 100000
namespace Go.Proofs.YtdianedehhecoaaGreatDoor
open Go.RowKit
theorem obeyNone_any {w:World}{O:Nat→Prop}{b g k:Nat}{S:PS}{gv uv:Value}{bs:List Nat}(p un wh x y:Int)(h:PAt w O b S gv uv bs)(hob:uv.ownBlock=some g)(hn:S.units.length≤1000)
  (hg:gvB un wh x y=false)(hki:S.units.findIdx (numB un)=k)(hk:¬ k<S.units.length) :
  Calls Pz.prog 80 #[.pointer (some ⟨b,0,none⟩),.agg #[.int .i64 p,.int .i64 un,.int .i64 wh,.int .i64 x,.int .i64 y]] w fun e w'=>e=.returned (.tuple #[])∧Obeyed O w b gv S w':=by
 have HH:=(show Hid _ from h)
 have HG:=(show Hid _ from hg)
 have hbl:=h.st.lt
 have hal:Below w.heap.size w (w.alloc (.cells #[.int .i64 p,.int .i64 un,.int .i64 wh,.int .i64 x,.int .i64 y] 171)):=(Below.refl _ _).alloc (Nat.le_refl _) _
 have Hfi:=(show Hid _ from findU_idx (numB un) S.units bs h.blen)
 rw[hki,if_neg hk]at Hfi
 clear h hg hki hk
 go_enter Pz.func80,Tryz.ntmps80
 go_wp2_with fail
 refine (GivesUp_any p un wh x y _).mono ?_
 rintro e w1 ⟨rfl,hb1⟩
 rw[HG.out]
 have hb01:Below w.heap.size w w1:=hal.trans (hb1.mono (by simp))
 have h1:=HH.out.below hb01
 have d1:w1.cell? ⟨w.heap.size,1,none⟩=some (.int .i64 un):=by rw[hb1.cell (p:=⟨w.heap.size,1,none⟩) (by simp)];simp
 have H1:=(show Hid _ from h1)
 have Hb01:=(show Hid _ from hb01)
 clear h1 hb01 hb1
 go_wp2_with fail
 refine (numbered_any un H1.out hob hn).mono ?_
 rw[Hfi.out]
 rintro e w2 ⟨rfl,hw2⟩
 rw[hw2];clear hw2 w2
 have hv:ifaceOf none=.nilIface:=rfl
 rw[hv]
 clear hv
 go_wp2
 (try simp only[Exit.inBlock,Exit.then]);refine bodyPost_ret (results_none rfl _ _ _) rfl ?_
 exact ⟨rfl,Obeyed.same H1.out hob (keepBelow Hb01.out)⟩
theorem obeyGive_any {w:World}{O:Nat→Prop}{b g:Nat}{S:PS}{gv uv:Value}{bs:List Nat}(p un wh x y:Int)(h:PAt w O b S gv uv bs)(hob:uv.ownBlock=some g)(hn:S.units.length≤1000)(hg:gvB un wh x y=true) :
  Calls Pz.prog 80 #[.pointer (some ⟨b,0,none⟩),.agg #[.int .i64 p,.int .i64 un,.int .i64 wh,.int .i64 x,.int .i64 y]] w fun e w'=>e=.returned (.tuple #[])∧Obeyed O w b gv { S with units:=S.units.filter fun u=>!((u.own == p) && (u.kind == 1)) } w':=by
 have HH:=(show Hid _ from h)
 have HG:=(show Hid _ from hg)
 have hal:Below w.heap.size w (w.alloc (.cells #[.int .i64 p,.int .i64 un,.int .i64 wh,.int .i64 x,.int .i64 y] 171)):=(Below.refl _ _).alloc (Nat.le_refl _) _
 clear h hg
 go_enter Pz.func80,Tryz.ntmps80
 go_wp2_with fail
 refine (GivesUp_any p un wh x y _).mono ?_
 rintro e w1 ⟨rfl,hb1⟩
 rw[HG.out]
 have hb01:Below w.heap.size w w1:=hal.trans (hb1.mono (by simp))
 have d0:w1.cell? ⟨w.heap.size,0,none⟩=some (.int .i64 p):=by rw[hb1.cell (p:=⟨w.heap.size,0,none⟩) (by simp)];simp
 have Hb01:=(show Hid _ from hb01)
 clear hb01 hb1
 go_wp2_with fail
 refine (giveUp_any p (HH.out.below Hb01.out) hob hn).mono ?_
 rintro e w2 ⟨rfl,⟨uv',e1,e2⟩,e3⟩
 have E2:=(show Hid _ from e2)
 have E3:=(show Hid _ from e3)
 clear e2 e3
 go_wp2
 (try simp only[Exit.inBlock,Exit.then]);refine bodyPost_ret (results_none rfl _ _ _) rfl ?_
 have hE:=E2.out
 rw[fU_filter _ _ _ HH.out.blen]at hE
 exact ⟨rfl,Obeyed.same hE e1 ((keepBelow Hb01.out).trans (E3.out.orOf (HH.out.ou g hob).1 HH.out.ob) fun _ q=>.inl q)⟩
theorem obey_any {w:World}{O:Nat→Prop}{b g:Nat}{S:PS}{gv uv:Value}{bs:List Nat}(c:RC)(hc:c.ok)(h:PAt w O b S gv uv bs)(hob:uv.ownBlock=some g)(hI:PInv S)(hd:NumsD S.units)(hln:∀ u∈S.units,u.num≤S.last) :
  Calls Pz.prog 80 #[.pointer (some ⟨b,0,none⟩),.agg #[.int .i64 c.p,.int .i64 c.un,.int .i64 c.wh,.int .i64 c.x,.int .i64 c.y]] w fun e w'=>e=.returned (.tuple #[])∧Obeyed O w b gv (obeyF S c) w':=by
 obtain ⟨p,un,wh,x,y⟩:=c
 obtain ⟨-,-,-,-,-,-,x0,x1,y0,y1⟩:=hc
 simp only at x0 x1 y0 y1 ⊢
 unfold obeyF
 simp only
 cases hgv:gvB un wh x y
 ·have hng:¬ (un=0∧wh=0∧x=0∧y=0):=fun q=>by
   obtain ⟨rfl,rfl,rfl,rfl⟩:=q
   simp[gvB]at hgv
  rw[if_neg hng]
  by_cases hk:S.units.findIdx (numB un)<S.units.length
  ·by_cases ho:(S.units.getD (S.units.findIdx (numB un)) pu0).own=p
   ·cases hac:(S.units.getD (S.units.findIdx (numB un)) pu0).acted
    ·rw[nearB_split]
     cases hf:fieldB x y
     ·rw[if_neg (fun q=>absurd q.2.2.2 (by simp))]
      exact obeyOff_any p un wh x y h hob hI hd hln x0 x1 y0 y1 hgv rfl hk ho hac hf
     ·cases hnb:nbB (S.units.getD (S.units.findIdx (numB un)) pu0).x (S.units.getD (S.units.findIdx (numB un)) pu0).y x y
      ·rw[if_neg (fun q=>absurd q.2.2.2 (by simp))]
       exact obeyFar_any p un wh x y h hob hI hd hln x0 x1 y0 y1 hgv rfl hk ho hac hf hnb
      ·rw[if_pos ⟨hk,ho,rfl,rfl⟩]
       exact obeyDoes_any p un wh x y h hob hI hd hln x0 x1 y0 y1 hgv rfl hk ho hac hf hnb
    ·rw[if_neg (fun q=>absurd q.2.2.1 (by simp))]
     exact obeyActed_any p un wh x y h hob hI hd hln x0 x1 y0 y1 hgv rfl hk ho hac
   ·rw[if_neg (fun q=>ho q.2.1)]
    exact obeyOther_any p un wh x y h hob hI hd hln x0 x1 y0 y1 hgv rfl hk ho
  ·rw[if_neg (fun q=>hk q.1)]
   exact obeyNone_any p un wh x y h hob hI.n hgv rfl hk
 ·have hg:un=0∧wh=0∧x=0∧y=0:=by
   simp[gvB]at hgv
   omega
  rw[if_pos hg]
  exact obeyGive_any p un wh x y h hob hI.n hgv
end Go.Proofs.YtdianedehhecoaaGreatDoor
/- The program's Do. -/
namespace Go.Proofs.YtdianedehhecoaaGreatDoor
open Go.RowKit
theorem prc_cells {w:World}{tv:Value}{cs:List RC}(h:RowAt w 171 5 tv cs.length (rcCells cs))(h0:0<cs.length) :
  ∃ g cap,tv=.slice (some ⟨g,0,none⟩) cs.length cap∧tv.ownBlock=some g ∧
   ∀ k,k<cs.length→w.cell? ⟨g,k*5,none⟩=some (.int .i64 (cs.getD k rc0).p)∧w.cell? ⟨g,k*5+1,none⟩=some (.int .i64 (cs.getD k rc0).un) ∧
    w.cell? ⟨g,k*5+2,none⟩=some (.int .i64 (cs.getD k rc0).wh)∧w.cell? ⟨g,k*5+3,none⟩=some (.int .i64 (cs.getD k rc0).x)∧w.cell? ⟨g,k*5+4,none⟩=some (.int .i64 (cs.getD k rc0).y):=by
 obtain ⟨g,cap,he,ho,-,-,hc,hf⟩:=h.form h0
 refine ⟨g,cap,he,ho,fun k hk=>?_⟩
 have hg:cs[k]? = some (cs.getD k rc0):=by simp[List.getD,List.getElem?_eq_getElem hk]
 exact ⟨hc _ _ (rcCells_get _ k 0 _ _ hg rfl),hc _ _ (rcCells_get _ k 1 _ _ hg rfl),hc _ _ (rcCells_get _ k 2 _ _ hg rfl),hc _ _ (rcCells_get _ k 3 _ _ hg rfl),hc _ _ (rcCells_get _ k 4 _ _ hg rfl)⟩
def clrK (us:List PU):Nat→List PU
 | 0=>us
 | k+1=>(clrK us k).set k { (clrK us k).getD k pu0 with acted:=false }
theorem clrK_len (us:List PU)(k:Nat):(clrK us k).length=us.length:=by
 induction k with
 | zero=>rfl
 | succ k ih=>simp[clrK,ih]
theorem clrK_getD (us:List PU)(k:Nat)(hk:k≤us.length)(i:Nat):(clrK us k).getD i pu0=if i<k then clrP (us.getD i pu0) else us.getD i pu0:=by
 induction k with
 | zero=>simp[clrK]
 | succ k ih =>
  have ih:=ih (by omega)
  have hkk:(clrK us k).getD k pu0=us.getD k pu0:=by
   have:∀ m,m≤k→(clrK us m).getD k pu0=us.getD k pu0:=by
    intro m hm
    induction m with
    | zero=>rfl
    | succ m ihm=>simp only[clrK];rw[getD_set_pu,if_neg (by omega)];exact ihm (by omega)
   exact this k (Nat.le_refl _)
  simp only[clrK]
  rw[hkk,getD_set_pu,clrK_len]
  by_cases e:i=k
  ·subst e;rw[if_pos ⟨rfl,by omega⟩,if_pos (by omega)];rfl
  ·rw[if_neg (fun q=>e q.1),ih]
   by_cases l:i<k
   ·rw[if_pos l,if_pos (by omega)]
   ·rw[if_neg l,if_neg (by omega)]
theorem clrK_map (us:List PU):clrK us us.length=us.map clrP:=by
 apply List.ext_getElem
 ·simp[clrK_len]
 ·intro i h1 h2
  have hi:i<us.length:=by simpa using h2
  have:=clrK_getD us us.length (Nat.le_refl _) i
  rw[if_pos hi]at this
  simp only[List.getD,List.getElem?_eq_getElem h1,List.getElem?_eq_getElem hi,Option.getD_some]at this
  rw[this]
  simp
theorem clr_toPS (R:RS):({ toPS R with units:=clrK (toPS R).units (toPS R).units.length }:PS)=toPS { R with units:=clearTo R.units R.units.length }:=by
 rw[clrK_map]
 simp only[toPS,PS.mk.injEq,clearTo_len,true_and]
 exact (clear_rel R.units).symm
theorem relU_last (R:RS):∀ u∈(toPS R).units,u.num≤(toPS R).last:=by
 intro u hu
 obtain ⟨i,hi,rfl,-⟩:=(mem_relU R.units u).1 hu
 show (i:Int)+1≤(R.units.length:Int)
 omega
theorem Obeyed.trans {O:Nat→Prop}{w w1 w2:World}{b:Nat}{gv:Value}{S1 S2:PS}(h:Obeyed O w b gv S1 w1)(h2:Obeyed (fun k=>O k∨w.heap.size≤k) w1 b gv S2 w2):Obeyed O w b gv S2 w2:=by
 obtain ⟨⟨uv,g,bs,e,r⟩,k⟩:=h2
 refine ⟨⟨uv,g,bs,e,r.grow fun j hj=>?_⟩,h.2.trans k fun j hj=>hj⟩
 have:=h.2.size
 rcases hj with hj|hj
 ·exact hj
 ·exact .inr (by omega)
theorem Obeyed.back {O:Nat→Prop}{w W w':World}{b:Nat}{gv:Value}{S':PS}(q:Obeyed O W b gv S' w')(hW:Below w.heap.size w W):Obeyed O w b gv S' w':=by
 obtain ⟨⟨uv',g',bs',h1,h5⟩,h6⟩:=q
 have:=hW.size
 exact ⟨⟨uv',g',bs',h1,h5.grow fun k q=>by rcases q with q|q;exact .inl q;exact .inr (by omega)⟩,((Keep.ofBelow hW).mono (O':=O) (fun j hj=>.inr hj)).trans h6 fun j q=>.inl q⟩
theorem drop_toPS (R:RS):({ toPS R with turn:=R.turn+1,units:=(toPS R).units.filter fun u=>inP (toPS R).units u.own }:PS)=toPS { R with turn:=R.turn+1,units:=dropTo R.units R.units.length }:=by
 simp only[toPS,PS.mk.injEq,dropTo_len,true_and]
 exact (drop_rel R.units).symm
theorem PDo_any {w:World}{O:Nat→Prop}{b g0:Nat}{R:RS}{gv uv tv:Value}{bs:List Nat}(cs:List RC)(hcs:∀ k,k<cs.length→(cs.getD k rc0).ok)(hcl:cs.length≤36)(h:PAt w O b (toPS R) gv uv bs)(hob:uv.ownBlock=some g0)(hI:RInv R)(ht0:0≤R.turn)(ht1:R.turn≤1000)
  (htv:tv=.slice none 0 0∧cs=[]∨0<cs.length∧RowAt w 171 5 tv cs.length (rcCells cs)∧∀ k,tv.ownBlock=some k→¬ O k) :
  Calls Pz.prog 40 #[.pointer (some ⟨b,0,none⟩),tv] w fun e w'=>e=.returned (.tuple #[])∧Obeyed O w b gv (toPS (doF R cs)) w':=by
 have hP:=hI.toP
 have hn:=hP.n
 obtain ⟨cap,hv,-,-⟩:=h.unit hob
 subst hv
 have hbl:=h.st.lt
 have hu0:=h.cUnits
 have H0:=(show Hid _ from h)
 have HI:Hid (RInv R):=hI
 obtain ⟨ta,tcap,htv',hTT⟩:∃ ta tcap,tv=.slice ta cs.length tcap∧∀ k,k<cs.length→∃ tg,ta=some ⟨tg,0,none⟩∧tg<w.heap.size∧¬ O tg ∧
   (w.cell? ⟨tg,k*5,none⟩=some (.int .i64 (cs.getD k rc0).p)∧w.cell? ⟨tg,k*5+1,none⟩=some (.int .i64 (cs.getD k rc0).un) ∧
    w.cell? ⟨tg,k*5+2,none⟩=some (.int .i64 (cs.getD k rc0).wh)∧w.cell? ⟨tg,k*5+3,none⟩=some (.int .i64 (cs.getD k rc0).x)∧w.cell? ⟨tg,k*5+4,none⟩=some (.int .i64 (cs.getD k rc0).y)):=by
  rcases htv with ⟨rfl,rfl⟩|⟨h0,hrow,hno⟩
  ·exact ⟨none,0,rfl,fun k hk=>by simp at hk⟩
  ·obtain ⟨tg,tcap,rfl,hob,hc⟩:=prc_cells hrow h0
   exact ⟨_,tcap,rfl,fun k hk=>⟨tg,rfl,hrow.lt hob,hno tg hob,hc k hk⟩⟩
 subst htv'
 have HT:=(show Hid _ from hTT)
 have HC:Hid (∀ k,k<cs.length→(cs.getD k rc0).ok):=hcs
 have HPS:Hid (({ toPS R with units:=clrK (toPS R).units (toPS R).units.length }:PS)=toPS { R with units:=clearTo R.units R.units.length }):=clr_toPS R
 clear h hI htv hcs hTT hP
 generalize hSS:toPS R=S at *
 go_enter Pz.func40,Tryz.ntmps40
 go_wp2
 go_loopw [14] (fun i wr=>∃ k:Nat,k≤S.units.length∧i=.int .i64 k∧PAt wr O b { S with units:=clrK S.units k } gv (.slice (some ⟨g0,0,none⟩) S.units.length cap) bs∧Keep O w wr) (fun i _=>S.units.length-(intOf i).toNat)
 case atStart=>exact ⟨0,Nat.zero_le _,rfl,H0.out,Keep.refl _ _⟩
 case round =>
  obtain ⟨k,hk,rfl,hr,hkp⟩:=hrel
  have hlen:=clrK_len S.units k
  by_cases hlt:k<S.units.length
  ·have hkl:k<(clrK S.units k).length:=by omega
   obtain ⟨cap',hv',hfr,hc⟩:=hr.unit hob
   have hcell:=hc k hkl
   have hm:=meth_any _ (hr.kinds k hkl) (bs.getD k 0)
   have c6:wr.cell? ⟨bs.getD k 0,6,none⟩=some (.bool ((clrK S.units k).getD k pu0).acted):=(hr.each k hkl).cell rfl
   have f6:=(hr.each k hkl).free 6
   have hset:=hr.setU (f:=6) (v:=.bool false) hkl { (clrK S.units k).getD k pu0 with acted:=false } rfl rfl
   have hOb:O (bs.getD k 0):=by
    have hl:bs.length=(clrK S.units k).length:=hr.blen
    exact (hr.oe _ (by simp[List.getD,List.getElem?_eq_getElem (show k<bs.length by omega)])).1
   have Hset:Hid (PAt (wr.setCell ⟨bs.getD k 0,6,none⟩ (.bool false)) O b { S with units:=clrK S.units (k+1) } gv (.slice (some ⟨g0,0,none⟩) S.units.length cap) bs):=hset
   have Hkp:Hid (Keep O w (wr.setCell ⟨bs.getD k 0,6,none⟩ (.bool false))):=hkp.set (.inl hOb)
   unfold uVal at hcell
   clear hr hc hfr hv' hkp hset hOb hlen hkl
   generalize (clrK S.units k).getD k pu0=u at *
   generalize bs.getD k 0=ub at *
   generalize ptrT u.kind=T at *
   go_wp2
   go_roundw
   case rel =>
    go_light
    exact ⟨k+1,by omega,by go_num,Hset.out,Hkp.out⟩
   case measure=>simp[intOf];omega
  ·have hkk:k=S.units.length:=by omega
   subst hkk
   clear hlen
   rw[HPS.out]at hr
   have HI1:Hid (RInv { R with units:=clearTo R.units R.units.length }):=HI.out.clear _ (Nat.le_refl _)
   have HM:Hid (Obeyed O w b gv (toPS { R with units:=clearTo R.units R.units.length }) wr):=Obeyed.same hr hob hkp
   have HD:Hid (doF R cs={ runTo { R with units:=clearTo R.units R.units.length } cs with turn:=(runTo { R with units:=clearTo R.units R.units.length } cs).turn+1,units:=dropTo (runTo { R with units:=clearTo R.units R.units.length } cs).units (runTo { R with units:=clearTo R.units R.units.length } cs).units.length }):=rfl
   have hturn:(runTo { R with units:=clearTo R.units R.units.length } cs).turn=R.turn:=(run_keeps _ _).1
   generalize ({ R with units:=clearTo R.units R.units.length }:RS)=R1 at *
   clear hr hkp HPS
   have hlt':¬ ((S.units.length:Int)<S.units.length):=by omega
   go_wp2
   go_loopw [25] (fun i wq=>∃ j:Nat,j≤cs.length∧i=.int .i64 j∧Obeyed O w b gv (toPS (runTo R1 (cs.take j))) wq) (fun i _=>cs.length-(intOf i).toNat)
   case atStart=>exact ⟨0,Nat.zero_le _,rfl,HM.out⟩
   case round =>
    clear HM
    obtain ⟨j,hj,rfl,hm⟩:=hrel
    by_cases hlt2:j<cs.length
    ·obtain ⟨tg,rfl,htg,hnO,d0,d1,d2,d3,d4⟩:=HT.out j hlt2
     have hck:=HC.out j hlt2
     have hblk:=hm.2.block tg htg hnO
     have e0:=(World.cell?_of_block (w:=w) (w':=wr) (a:=⟨tg,j*5,none⟩) hblk).trans d0
     have e1:=(World.cell?_of_block (w:=w) (w':=wr) (a:=⟨tg,j*5+1,none⟩) hblk).trans d1
     have e2:=(World.cell?_of_block (w:=w) (w':=wr) (a:=⟨tg,j*5+2,none⟩) hblk).trans d2
     have e3:=(World.cell?_of_block (w:=w) (w':=wr) (a:=⟨tg,j*5+3,none⟩) hblk).trans d3
     have e4:=(World.cell?_of_block (w:=w) (w':=wr) (a:=⟨tg,j*5+4,none⟩) hblk).trans d4
     have HS:Hid (runTo R1 (cs.take (j+1))=(cs.getD j rc0).on (runTo R1 (cs.take j))):=runTo_snoc R1 cs j hlt2
     obtain ⟨uvr,gr,bsr,hobr,hr⟩:=hm.1
     have HIr:Hid (RInv (runTo R1 (cs.take j))):=HI1.out.run _
     have Hm:=(show Hid _ from hm)
     have Hr:=(show Hid _ from hr)
     have Hck:Hid ((cs.getD j rc0).ok):=hck
     clear hblk d0 d1 d2 d3 d4 hm hr hck
     generalize runTo R1 (cs.take j)=Rj at *
     generalize cs.getD j rc0=c at *
     go_wp2_with fail
     have hba:Below wr.heap.size wr (wr.alloc (.cells #[.int .i64 c.p,.int .i64 c.un,.int .i64 c.wh,.int .i64 c.x,.int .i64 c.y] 171)):=(Below.refl _ _).alloc (Nat.le_refl _) _
     refine (obey_any c Hck.out (Hr.out.below hba) hobr HIr.out.toP (relU_nums _) (relU_last _)).mono ?_
     rw[obey_rel HIr.out c,← HS.out]
     rintro e w2 ⟨rfl,hm2⟩
     have Hm2:Hid (Obeyed O w b gv (toPS (runTo R1 (cs.take (j+1)))) w2):=Obeyed.trans Hm.out (hm2.back hba)
     clear hm2 hba
     go_wp2
     go_roundw
     case rel =>
      go_light
      exact ⟨j+1,by omega,by go_num,Hm2.out⟩
     case measure=>simp[intOf];omega
    ·have hT2:cs.take j=cs:=List.take_of_length_le (by omega)
     rw[hT2]at hm
     have HI2:Hid (RInv (runTo R1 cs)):=HI1.out.run _
     clear HI1 hT2
     have HD2:Hid (doF R cs={ runTo R1 cs with turn:=(runTo R1 cs).turn+1,units:=dropTo (runTo R1 cs).units (runTo R1 cs).units.length }):=HD.out
     clear HD
     generalize runTo R1 cs=R2 at *
     obtain ⟨⟨uv2,g2,bs2,hob2,hr2⟩,hkp2⟩:=hm
     have ct:wr.cell? ⟨b,0,none⟩=some (.int .i64 R2.turn):=hr2.st.cell rfl
     have ft:=hr2.st.free 0
     have hbl2:=hr2.st.lt
     have hta:0≤R2.turn:=by omega
     have htb:R2.turn≤1000:=by omega
     have hset:=hr2.set_turn (R2.turn+1)
     have hsz:=hkp2.size
     have hObb:O b∨w.heap.size≤b:=hr2.ob
     have Hset:=(show Hid _ from hset)
     have Hkp:=(show Hid _ from hkp2.set (i:=0) (v:=.int .i64 (R2.turn+1)) hObb)
     have hP2:=HI2.out.toP
     have HP2:=(show Hid _ from hP2)
     clear hr2 hkp2 hset hP2 hturn
     go_wp2_with fail
     have hs:=Hset.out
     have hk:=Hkp.out
     clear Hset Hkp
     revert hs hk
     generalize wr.setCell ⟨b,0,none⟩ (.int .i64 (R2.turn+1))=w3
     intro hs hk
     have hown:∀ i,i<(toPS R2).units.length→0≤((toPS R2).units.getD i pu0).own∧((toPS R2).units.getD i pu0).own<4:=fun i hi=>by
      have h1:=HP2.out.own i hi
      have h2:=HP2.out.g4
      omega
     refine (playersIn_any hs hob2 HP2.out.n hown).mono ?_
     rintro e w4 ⟨rfl,hb4⟩
     have hs4:=hs.below hb4
     have hk4:=hk.trans (Keep.ofBelow hb4) (fun j q=>.inr (by have:=hk.size;omega))
     have Hs4:=(show Hid _ from hs4)
     have Hk4:=(show Hid _ from hk4)
     have Hown:=(show Hid _ from hown)
     clear hs hk hb4 hs4 hk4 hown
     have HDP:=(show Hid _ from drop_toPS R2)
     generalize hT2:toPS R2=S2 at *
     go_wp2_with fail
     have ha5:Below w4.heap.size w4 (w4.alloc (.cells #[.bool (inP S2.units 0),.bool (inP S2.units 1),.bool (inP S2.units 2),.bool (inP S2.units 3)] 162)):=(Below.refl _ _).alloc (Nat.le_refl _) _
     have h5:=Hs4.out.below ha5
     refine (dropOut_any (cap:=.pointer (some ⟨w4.heap.size,0,none⟩)) (fun u=>!(inP S2.units u.own)) h5 HP2.out.n hob2 (fun i hi=>?_)).mono ?_
     ·have hf:=h5.ubFacts hob2 i hi
      have he:=(h5.each i hi).alloc (.cells #[.func (.func 82) #[] #[.pointer (some ⟨w4.heap.size,0,none⟩)]] 174)
      obtain ⟨o1,o2⟩:=Hown.out i hi
      obtain ⟨a,ea⟩:=Int.eq_ofNat_of_zero_le o1
      have hg4:=Hs4.out.units.lt hob2
      have c1:=he.cell (i:=1) (v:=.int .i64 (S2.units.getD i pu0).own) rfl
      have ea':(S2.units.getD i pu0).own=(a:Int):=ea
      show TellsAt _ _ _ _ _ (!(inP S2.units (S2.units.getD i pu0).own))
      rw[ea']at c1 ⊢
      refine tellsOut (P:=w4.heap.size) (a:=a) hf.1 he.lt (by omega) (by simp;omega) (by omega) c1 ?_
      have hB:=(BlkAt.new w4 [.bool (inP S2.units 0),.bool (inP S2.units 1),.bool (inP S2.units 2),.bool (inP S2.units 3)] 162).alloc (.cells #[.func (.func 82) #[] #[.pointer (some ⟨w4.heap.size,0,none⟩)]] 174)
      have ha4:a=0∨a=1∨a=2∨a=3:=by omega
      rcases ha4 with rfl|rfl|rfl|rfl
      ·exact hB.cell rfl
      ·exact hB.cell rfl
      ·exact hB.cell rfl
      ·exact hB.cell rfl
     rintro e w6 ⟨rfl,⟨uv6,hob6,h6⟩,hk6⟩
     have H6:=(show Hid _ from h6)
     have Hk6:=(show Hid _ from hk6)
     have Hl5:=(show Hid _ from h5.blen)
     have Hou:=(show Hid _ from (h5.ou g2 hob2).1)
     have Hob:=(show Hid _ from h5.ob)
     have Ha5:=(show Hid _ from ha5)
     clear h6 hk6 h5 ha5
     go_wp2
     go_end0
     refine ⟨rfl,?_⟩
     rw[HD2.out,← HDP.out]
     have h6:=H6.out
     rw[fU_filter _ _ _ Hl5.out]at h6
     have ef:(fun u:PU=>!(!(inP S2.units u.own)))=fun u=>inP S2.units u.own:=by funext u;simp
     simp only[ef]at h6
     have hz:=Hk4.out.size
     have hz5:=Ha5.out.size
     refine ⟨⟨uv6,g2,_,hob6,h6⟩,(Hk4.out.trans (Keep.ofBelow Ha5.out) (fun j q=>.inr (by omega))).trans Hk6.out (fun j q=>?_)⟩
     rcases q with rfl|rfl
     ·exact Hou.out
     ·exact Hob.out
end Go.Proofs.YtdianedehhecoaaGreatDoor