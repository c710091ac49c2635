/- The program's place, of a base. -/
import Derived.Test.YtdianedehhecoaaGreatDoorTProgHires
set_option linter.unusedVariables false
set_option linter.unusedSimpArgs false
set_option maxHeartbeats 4000000
set_option maxRecDepth 100000
namespace Go.Proofs.YtdianedehhecoaaGreatDoor
open Go.RowKit
theorem placeBase_any {w:World}{O:Nat→Prop}{b:Nat}{S:PS}{gv uv:Value}{bs:List Nat}(p x y:Int)(h:PAt w O b S gv uv bs)(hn:S.units.length≤1000)(l0:0≤S.last)(l1:S.last≤100000) :
  Calls Pz.prog 76 #[.pointer (some ⟨b,0,none⟩),.int .i64 p,.agg #[.int .i64 x,.int .i64 y],.func (.func 77) #[] #[]] w fun e w'=>e=.returned (.tuple #[])∧Placed O w b S gv bs ⟨S.last+1,p,1,x,y,20,true⟩ w':=by
 obtain ⟨iu,hiu,hiv⟩:=Option.map_eq_some_iff.1 infoPUnit
 obtain ⟨iz,is1,ib⟩:iu.zero=some .nilIface∧iu.size=1∧iu.bytes=16:=by simpa using hiv
 clear hiv
 have hbl:=h.st.lt
 have c1:w.cell? ⟨b,1,none⟩=some (.int .i64 S.last):=h.st.cell rfl
 have f1:=h.st.free 1
 have hsz:(w.setCell ⟨b,1,none⟩ (.int .i64 (S.last+1))).heap.size=w.heap.size:=by simp[World.setCell]
 have h1:=(h.set_last (S.last+1)).below ((Below.refl _ _).alloc (Nat.le_refl _) (.cells #[.int .i64 x,.int .i64 y] 157))
 have k1:Keep O w ((w.setCell ⟨b,1,none⟩ (.int .i64 (S.last+1))).alloc (.cells #[.int .i64 x,.int .i64 y] 157)):=((Keep.refl _ _).set (.inl h.ob)).alloc _
 have bx:((w.setCell ⟨b,1,none⟩ (.int .i64 (S.last+1))).alloc (.cells #[.int .i64 x,.int .i64 y] 157)).cell? ⟨w.heap.size,0,none⟩=some (.int .i64 x):=by
  have e:=(BlkAt.new (w.setCell ⟨b,1,none⟩ (.int .i64 (S.last+1))) [.int .i64 x,.int .i64 y] 157).cell (i:=0) (v:=.int .i64 x) rfl
  rw[hsz]at e;exact e
 have by_:((w.setCell ⟨b,1,none⟩ (.int .i64 (S.last+1))).alloc (.cells #[.int .i64 x,.int .i64 y] 157)).cell? ⟨w.heap.size,1,none⟩=some (.int .i64 y):=by
  have e:=(BlkAt.new (w.setCell ⟨b,1,none⟩ (.int .i64 (S.last+1))) [.int .i64 x,.int .i64 y] 157).cell (i:=1) (v:=.int .i64 y) rfl
  rw[hsz]at e;exact e
 have z1:w.heap.size<((w.setCell ⟨b,1,none⟩ (.int .i64 (S.last+1))).alloc (.cells #[.int .i64 x,.int .i64 y] 157)).heap.size:=by simp[World.setCell]
 have H1:=(show Hid _ from h1)
 have K1:=(show Hid _ from k1)
 have Bx:=(show Hid _ from bx)
 have By:=(show Hid _ from by_)
 have Z1:=(show Hid _ from z1)
 clear h h1 k1 bx by_ z1
 go_enter Pz.func76,Tryz.ntmps76
 go_wp2_with fail
 have h1:=H1.out
 have k1:=K1.out
 have bx:=Bx.out
 have by_:=By.out
 have z1:=Z1.out
 clear H1 K1 Bx By Z1
 revert h1 k1 bx by_ z1
 generalize ((w.setCell ⟨b,1,none⟩ (.int .i64 (S.last+1))).alloc (.cells #[.int .i64 x,.int .i64 y] 157))=w1
 intro h1 k1 bx by_ z1
 have c67:=h1.cUnits
 have f67:=h1.st.free 67
 have c1':w1.cell? ⟨b,1,none⟩=some (.int .i64 (S.last+1)):=h1.st.cell rfl
 have hb1:=h1.st.lt
 have HN:Hid (Calls Pz.prog 77 #[.agg #[.int .i64 (S.last+1),.int .i64 p,.int .i64 0,.int .i64 x,.int .i64 y,.int .i64 0,.bool true]] w1.drew fun e w2 =>
   e=.returned (.iface 236 (.pointer (some ⟨w1.heap.size+1,0,none⟩)))∧w2.cell? ⟨b,67,none⟩=some uv∧(∀ o,(w2.alloc o).cell? ⟨b,67,none⟩=some uv)∧Hid (RowAt w2 165 1 uv S.units.length (uVals S.units bs)∧Below w1.heap.size w1 w2∧w2.heap.size=w1.heap.size+2∧BlkAt w2 (w1.heap.size+1) (PU.cells ⟨S.last+1,p,1,x,y,20,true⟩) (strT 1))):=by
  refine (newBase_any (S.last+1) p x y 0 0 true w1.drew).mono ?_
  rintro e w2 ⟨rfl,⟨q1,q2⟩,q3⟩
  have q4:Below w1.heap.size w1 w2:=(Below.refl _ _).drew.trans q3
  exact ⟨rfl,(q4.cell (p:=⟨b,67,none⟩) hb1).trans c67,fun o=>((q4.alloc q4.size o).cell (p:=⟨b,67,none⟩) hb1).trans c67,h1.units.same (fun k e=>q4.block k (h1.units.lt e)),q4,q1,q2⟩
 have H1:=(show Hid _ from h1)
 have K1:=(show Hid _ from k1)
 have Z1:=(show Hid _ from z1)
 clear h1 k1 z1 c1 f1
 generalize hL:S.last+1=L at *
 generalize hU:uVals S.units bs=us at *
 generalize hN:S.units.length=n at *
 go_region_law (first
  | (refine step_append_row (v:=uv) (n:=n) (xs:=us) (ad:=⟨w2.heap.size,0,none⟩) (c:=1) (u:=.iface 236 (.pointer (some ⟨w1.heap.size+1,0,none⟩))) rfl (.tmp 19) (.tmp 29) 151 rfl 165 iu .nilIface 16 ((Pz.gUnderlying 151).trans Tryz.underlying151) hiu iz is1 ib rfl rfl (hx2.out.1.alloc _) rfl (new_cell w2 _ _) rfl (by omega) (by decide) ?_;intro v' w4 hr4 hg4 hb4;obtain ⟨g4,cap4,rfl,hv4⟩:=hr4.slice4;have hq4:=place_cells H1.out hx2.out.2.1 hg4;have c4:=hq4.1;have f4:=hq4.2;clear hq4;have HR4:=(show Hid _ from hr4);have HG4:=(show Hid _ from hg4);have HB4:=(show Hid _ from hb4);clear hr4 hg4 hb4)
  | (go_simp;go_wp2_with (go_at_call 77;refine Calls.mono HN.out ?_;rintro e w2 ⟨rfl,hc67,hc67a,hx2⟩)))
 all_goals
  go_wp2
  go_end0
  have e2:=hx2.out
  rw[← hL,← hU,← hN]at *
  exact ⟨rfl,placed_end (u:=⟨S.last+1,p,1,x,y,20,true⟩) H1.out K1.out Z1.out e2.2.1 e2.2.2.1 e2.2.2.2 (.inl rfl) HR4.out HG4.out HB4.out g4 rfl⟩
end Go.Proofs.YtdianedehhecoaaGreatDoor
/- The program's Begin. -/
namespace Go.Proofs.YtdianedehhecoaaGreatDoor
open Go.RowKit
def oreQ (seed:Int):Nat→List Int
 | 0=>List.replicate 64 0
 | k+1=>(oreQ seed k).set k (max 0 (oreN seed k))
theorem oreS_zero (seed:Int)(k j:Nat)(h:k≤j):(oreS seed k).getD j 0=0:=by
 induction k with
 | zero =>
  simp only[oreS,List.getD,List.getElem?_replicate]
  split<;>rfl
 | succ k ih =>
  simp only[oreS]
  split
  ·rw[getD_set_int,if_neg (by omega)];exact ih (by omega)
  ·exact ih (by omega)
theorem oreQ_eq (seed:Int)(k:Nat)(hk:k≤64):oreQ seed k=oreS seed k:=by
 induction k with
 | zero=>rfl
 | succ k ih =>
  have ih:=ih (by omega)
  simp only[oreQ,oreS,ih]
  by_cases c:0<oreN seed k
  ·rw[if_pos c,Int.max_eq_right (by omega)]
  ·rw[if_neg c,Int.max_eq_left (by omega)]
   apply List.ext_getElem?
   intro i
   rw[List.getElem?_set]
   by_cases e:k=i
   ·subst e
    have hl:k<(oreS seed k).length:=by rw[oreS_len];omega
    have hz:=oreS_zero seed k k (Nat.le_refl _)
    rw[if_pos rfl,if_pos hl]
    simp only[List.getD,List.getElem?_eq_getElem hl,Option.getD_some]at hz
    rw[List.getElem?_eq_getElem hl,hz]
   ·rw[if_neg e]
theorem oreN_xy (seed:Int)(x y:Nat)(hx:x<8):oreN seed (y*8+x)=(seed+3*(x:Int)+5*(y:Int)+(x:Int)*(y:Int)) % 7-3:=by
 unfold oreN
 have e1:(((y*8+x:Nat):Int)) % 8=(x:Int):=by omega
 have e2:(((y*8+x:Nat):Int)) / 8=(y:Int):=by omega
 rw[e1,e2]
theorem start_rel (seed:Int)(p:Nat):toPS (startTo seed (p+1))={ toPS (startTo seed p) with last:=(toPS (startTo seed p)).last+1+1,gold:=(toPS (startTo seed p)).gold++[2],units:=(toPS (startTo seed p)).units++[⟨(toPS (startTo seed p)).last+1,p,1,cornerX p,cornerY p,20,true⟩]++[⟨(toPS (startTo seed p)).last+1+1,p,2,cornerX p+1-cornerX p / 7*2,cornerY p+1-cornerY p / 7*2,5,true⟩] }:=by
 simp only[startTo,toPS]
 rw[relU_push _ _ (by show (0:Int)<5;decide),relU_push _ _ (by show (0:Int)<20;decide)]
 simp only[PS.mk.injEq,true_and,and_true,List.length_append,List.length_singleton]
 refine ⟨by omega,?_⟩
 simp only[cvU,List.length_append,List.length_singleton]
 simp
theorem PAt.pushGold {w w2:World}{O:Nat→Prop}{b:Nat}{S:PS}{gv uv gv':Value}{bs:List Nat}{gs:List Int}(h:PAt w O b S gv uv bs)
  (hst:BlkAt w2 b (pCells S gv uv) 153)(hunits:RowAt w2 165 1 uv S.units.length (uVals S.units bs))(hea:∀ c,c∈bs→w2.heap[c]? = w.heap[c]?)
  (hrow:RowAt w2 3 1 gv' gs.length (gs.map (.int .i64)))(hob:∀ k,gv'.ownBlock=some k→O k∧k≠b∧uv.ownBlock≠some k∧k ∉ bs) :
  PAt (w2.setCell ⟨b,2,none⟩ gv') O b { S with gold:=gs } gv' uv bs:=by
 have hl:=h.blen
 refine ⟨h.ore,h.blen,?_,hrow.other (fun e=>(hob b e).2.1 rfl),hunits.other (fun e=>(h.ou b e).2.1 rfl),fun i hi=>?_,h.kinds,h.nodup,h.ob,
  fun k e=>⟨(hob k e).1,(hob k e).2.1⟩,fun k e=>⟨(h.ou k e).1,(h.ou k e).2.1,fun e2=>(hob k e2).2.2.1 e⟩,fun k e=>⟨(h.oe k e).1,(h.oe k e).2.1,fun e2=>(hob k e2).2.2.2 e,(h.oe k e).2.2.2⟩⟩
 ·exact hst.set 2 gv'
 ·have hi':i<S.units.length:=hi
  have hm:bs.getD i 0∈bs:=by simp[List.getD,List.getElem?_eq_getElem (show i<bs.length by omega)]
  exact ((h.each i hi').same (hea _ hm)).other (h.oe _ hm).2.1
theorem infoPInt:(Pz.prog.info? 3).map (fun i=>(i.zero,i.size,i.bytes))=some (some (.int .i64 0),1,8):=by kernel_rfl
def Corners (w:World):Prop:=∀ p:Nat,p<4→w.cell? ⟨0,p*4,none⟩=some (.int .i64 (cornerX p))∧w.cell? ⟨0,p*4+1,none⟩=some (.int .i64 (cornerY p)) ∧
 w.cell? ⟨0,p*4+2,none⟩=some (.int .i64 (cornerX p+1-cornerX p / 7*2))∧w.cell? ⟨0,p*4+3,none⟩=some (.int .i64 (cornerY p+1-cornerY p / 7*2))
theorem Corners.below {w w':World}(h:Corners w)(hb:Below w.heap.size w w'):Corners w':=fun p hp=>by
 obtain ⟨h1,h2,h3,h4⟩:=h p hp
 exact ⟨(hb.cell (cell_lt h1)).trans h1,(hb.cell (cell_lt h2)).trans h2,(hb.cell (cell_lt h3)).trans h3,(hb.cell (cell_lt h4)).trans h4⟩
theorem PBegin_any (seed:Int)(players:Nat)(w:World)(s0:0≤seed)(s1:seed≤999)(p1:players≤4)(hC:Corners w) :
  Calls Pz.prog 38 #[.int .i64 seed,.int .i64 players] w fun e w'=>e=.returned (.pointer (some ⟨w.heap.size,0,none⟩))∧(∃ gv uv bs,(0<players→∃ g,uv.ownBlock=some g)∧PAt w' (fun k=>w.heap.size≤k) w.heap.size (toPS (startTo seed players)) gv uv bs)∧Below w.heap.size w w':=by
 have HCor:=(show Hid _ from hC)
 clear hC
 go_enter Pz.func38,Tryz.ntmps38
 go_wp2
 go_loopw [11] (fun i wr=>∃ y:Nat,y≤8∧i=.int .i64 y∧PAt wr (fun k=>w.heap.size≤k) w.heap.size ⟨0,0,[],oreQ seed (y*8),[]⟩ (.slice none 0 0) (.slice none 0 0) []∧Below w.heap.size w wr) (fun i _=>8-(intOf i).toNat)
 case atStart =>
  refine ⟨0,Nat.zero_le _,rfl,⟨rfl,rfl,?_,⟨rfl,.inl ⟨rfl,rfl⟩⟩,⟨rfl,.inl ⟨rfl,rfl⟩⟩,fun i hi=>(by simp at hi),fun i hi=>(by simp at hi),List.nodup_nil,Nat.le_refl _,fun k e=>(by cases e),fun k e=>(by cases e),fun k e=>(by simp at e)⟩,(Below.refl _ _).alloc (Nat.le_refl _) _⟩
  exact BlkAt.new w (pCells ⟨0,0,[],oreQ seed 0,[]⟩ (.slice none 0 0) (.slice none 0 0)) 153
 case round =>
  obtain ⟨y,hy,rfl,hr,hbel⟩:=hrel
  by_cases hlt:y<8
  ·have Hr:=(show Hid _ from hr)
   have Hbel:=(show Hid _ from hbel)
   clear hr hbel
   have hyi:(y:Int)<8:=by omega
   go_wp2
   go_loopw [14] (fun i wq=>∃ x:Nat,x≤8∧i=.int .i64 x∧PAt wq (fun k=>w.heap.size≤k) w.heap.size ⟨0,0,[],oreQ seed (y*8+x),[]⟩ (.slice none 0 0) (.slice none 0 0) []∧Below w.heap.size w wq) (fun i _=>8-(intOf i).toNat)
   case atStart=>exact ⟨0,Nat.zero_le _,rfl,Hr.out,Hbel.out⟩
   case round =>
    clear Hr Hbel
    obtain ⟨x,hx,rfl,hr,hbel⟩:=hrel
    by_cases hlx:x<8
    ·have hxi:(x:Int)<8:=by omega
     have hz:y*8+x<64:=by omega
     have hc:=hr.cOre hz
     have hf:=hr.st.free (3+(y*8+x))
     have ez:3+(y*8+x)=3+y*8+x:=by omega
     rw[ez]at hc hf
     have HN:=(show Hid _ from oreN_xy seed x y hlx)
     have HQ:Hid (oreQ seed (y*8+(x+1))=(oreQ seed (y*8+x)).set (y*8+x) (max 0 (oreN seed (y*8+x)))):=rfl
     have hset:=hr.setOre (y*8+x) hz (max 0 (oreN seed (y*8+x)))
     rw[ez]at hset
     have Hset:=(show Hid _ from hset)
     have Hbel:=(show Hid _ from hbel)
     have HF:=(show Hid _ from firstOre_any seed x y wr.drew s0 s1 (by omega) (by omega) (by omega) (by omega))
     rw[← HN.out]at HF
     generalize max 0 (oreN seed (y*8+x))=ov at *
     generalize (PS.ore ⟨0,0,[],oreQ seed (y*8+x),[]⟩).getD (y*8+x) 0=oo at *
     clear hr hbel hset
     go_wp2_with fail
     go_region_with (go_at_call 75;refine Calls.mono HF.out ?_;rintro e w1 ⟨rfl,rfl⟩)
     all_goals
      go_wp2
      go_roundw
      case rel =>
       go_light
       refine ⟨x+1,by omega,by go_num,?_,?_⟩
       ·rw[HQ.out]
        exact Hset.out.below (Below.refl _ _).drew
       ·exact (bel_set Hbel.out (Nat.le_refl _)).drew
      case measure=>simp[intOf];omega
    ·have hxx:x=8:=by omega
     subst hxx
     have Hr:=(show Hid _ from hr)
     have Hbel:=(show Hid _ from hbel)
     clear hr hbel
     go_wp2
     go_roundw
     case rel =>
      go_light
      refine ⟨y+1,by omega,by go_num,?_,Hbel.out⟩
      rw[show (y+1)*8=y*8+8 by omega]
      exact Hr.out
     case measure=>simp[intOf];omega
  ·have hyy:y=8:=by omega
   subst hyy
   have Hr0:Hid (PAt wr (fun k=>w.heap.size≤k) w.heap.size (toPS (startTo seed 0)) (.slice none 0 0) (.slice none 0 0) []):=by
    unfold Hid
    have e:(⟨0,0,[],oreQ seed (8*8),[]⟩:PS)=toPS (startTo seed 0):=by
     simp only[startTo,toPS,PS.mk.injEq,true_and]
     exact ⟨rfl,oreQ_eq seed 64 (by omega),rfl⟩
    rw[← e]
    exact hr
   have Hbel0:=(show Hid _ from hbel)
   clear hr hbel
   go_wp2
   go_loopw [31] (fun i wq=>∃ p:Nat,p≤players∧i=.int .i64 p∧(∃ gv uv bs,(0<p→∃ g,uv.ownBlock=some g)∧PAt wq (fun k=>w.heap.size≤k) w.heap.size (toPS (startTo seed p)) gv uv bs)∧Below w.heap.size w wq) (fun i _=>players-(intOf i).toNat)
   case atStart=>exact ⟨0,Nat.zero_le _,rfl,⟨_,_,_,fun h=>by omega,Hr0.out⟩,Hbel0.out⟩
   case round =>
    clear Hr0 Hbel0
    obtain ⟨p,hp,rfl,⟨gv,uv,bs,hgg,hr⟩,hbel⟩:=hrel
    by_cases hlp:p<players
    ·have hgl:(toPS (startTo seed p)).gold.length≤4:=by have:=startTo_gold seed p;show (startTo seed p).gold.length≤4;omega
     have hll:(toPS (startTo seed p)).last≤8:=by have:=startTo_units seed p;show ((startTo seed p).units.length:Int)≤8;omega
     have hl0:0≤(toPS (startTo seed p)).last:=by show 0≤((startTo seed p).units.length:Int);omega
     have hul:(toPS (startTo seed p)).units.length≤8:=by have:=startTo_units seed p;have:=relU_len_le (startTo seed p).units;show (relU (startTo seed p).units).length≤8;omega
     have HS:=(show Hid _ from start_rel seed p)
     have cg:=hr.cGold
     have hsz:=hbel.size
     have Hr:=(show Hid _ from hr)
     have hbl:=hr.st.lt
     have hpl:(p:Int)<(players:Int):=by omega
     have hp4:p<4:=by omega
     have hp4i:(p:Int)<4:=by omega
     obtain ⟨i0,hi,hiv⟩:=Option.map_eq_some_iff.1 infoPInt
     obtain ⟨hz0,hz1,hz2⟩:i0.zero=some (.int .i64 0)∧i0.size=1∧i0.bytes=8:=by simpa using hiv
     clear hiv
     generalize toPS (startTo seed p)=S at *
     go_wp2_with (at_builtin;refine wpList_append_own_at _ rfl _ _ 25 rfl 0 3 i0 _ 1 8 ((Pz.gUnderlying 25).trans Tryz.underlying25) hi hz0 hz1 hz2 rfl (by decide) _ _ _ rfl (RowAt.alloc Hr.out.gold _) ⟨wr.heap.size,0,none⟩ 1 1 [.int .i64 2] rfl rfl ?c1 ?c2 ?c3 ?c4 ?c5 ?_)
     case c2=>rfl
     case c3=>unfold maxLen;omega
     case c4=>omega
     ·intro v' w2 hown hg hnil hob
      have h:=Hr.out
      have hblk:∀ c,c<wr.heap.size→gv.ownBlock≠some c→w2.heap[c]? = wr.heap[c]?:=fun c hc hne=>by
       rw[hg.block c (by simp;omega) (fun e=>hne e.symm),Below.heap_alloc _ _ _ hc]
      have hb0:gv.ownBlock≠some w.heap.size:=fun e=>(h.og _ e).2 rfl
      have hst2:=h.st.same (hblk _ hbl hb0)
      have hc2:w2.cell? ⟨w.heap.size,2,none⟩=some gv:=(World.cell?_of_block (w:=wr) (a:=⟨w.heap.size,2,none⟩) (hblk _ hbl hb0)).trans cg
      have hf2:=hst2.free 2
      have hown':RowAt w2 3 1 v' (S.gold.length+1) _:=hown
      obtain ⟨g',cap',hv',-,-,-,-,-⟩:=hown'.form (by omega)
      have hfin:=PAt.pushGold (gv':=v') (gs:=S.gold++[2]) h hst2
       (h.units.same fun k e=>hblk k (h.units.lt e) (fun e2=>(h.ou k e).2.2 e2))
       (fun c hc=>hblk c (h.mem hc) (h.oe c hc).2.2.1)
       (by rw[List.map_append,List.length_append];exact hown')
       (fun k e=>by
        rcases hob with e2|e2
        ·rw[e2]at e
         exact ⟨(h.og k e).1,(h.og k e).2,fun e3=>(h.ou k e3).2.2 e,fun e3=>(h.oe k e3).2.2.1 e⟩
        ·rw[e2]at e
         have hkk:k=wr.heap.size+1:=by injection e with e;simpa using e.symm
         refine ⟨by omega,by omega,fun e3=>?_,fun e3=>?_⟩
         ·have:=h.units.lt e3;omega
         ·have:=h.mem e3;omega)
      have hbw2:Below w.heap.size w w2:=(hbel.alloc hsz _).grown hg (by simp;omega) (fun k e=>(h.og k e).1)
      subst hv'
      have hbw3:Below w.heap.size w (w2.setCell ⟨w.heap.size,2,none⟩ (.slice (some ⟨g',0,none⟩) (S.gold.length+1) cap')):=bel_set hbw2 (Nat.le_refl _)
      have Hfin:=(show Hid _ from hfin)
      have Hbw3:=(show Hid _ from hbw3)
      have hC3:Corners (w2.setCell ⟨w.heap.size,2,none⟩ (.slice (some ⟨g',0,none⟩) (S.gold.length+1) cap')):=Corners.below HCor.out hbw3
      obtain ⟨k0,k1,-,-⟩:=hC3 p hp4
      have HW:Hid (w.heap.size≤(w2.setCell ⟨w.heap.size,2,none⟩ (.slice (some ⟨g',0,none⟩) (S.gold.length+1) cap')).heap.size):=hbw3.size
      clear hblk hst2 hown hown' hfin hg hnil hob cg h hr hbel hi hz0 hz1 hz2 Hr hbw2 hb0 hC3 hbw3
      go_wp2_with fail
      refine (placeBase_any p (cornerX p) (cornerY p) Hfin.out (by show S.units.length≤1000;omega) hl0 (by show S.last≤100000;omega)).mono ?_
      rintro e w3 ⟨rfl,⟨uv3,g3,nb3,hob3,h3⟩,hk3⟩
      have hbw4:Below w.heap.size w w3:=Hbw3.out.trans (hk3.below (B:=w.heap.size) (fun j hj=>hj) HW.out)
      have hC4:Corners w3:=Corners.below HCor.out hbw4
      obtain ⟨-,-,k2,k3⟩:=hC4 p hp4
      have H3:=(show Hid _ from PAt.grow (O':=fun k=>w.heap.size≤k) h3 (fun k q=>by rcases q with q|q;exact q;exact Nat.le_trans HW.out q))
      have Hbw4:=(show Hid _ from hbw4)
      clear h3 hk3 hC4 hbw4 hc2 hf2
      go_wp2_with fail
      refine (placeWorker_any p (cornerX p+1-cornerX p / 7*2) (cornerY p+1-cornerY p / 7*2) H3.out (by show (S.units++_).length≤1000;simp;omega) (by show 0≤S.last+1;omega) (by show S.last+1≤100000;omega)).mono ?_
      rintro e w4 ⟨rfl,⟨uv4,g4,nb4,hob4,h4⟩,hk4⟩
      have hfin4:(∃ gv uv bs,(0<p+1→∃ g,uv.ownBlock=some g)∧PAt w4 (fun k=>w.heap.size≤k) w.heap.size (toPS (startTo seed (p+1))) gv uv bs)∧Below w.heap.size w w4:=by
       refine ⟨⟨.slice (some ⟨g',0,none⟩) (S.gold.length+1) cap',uv4,(bs++[nb3])++[nb4],fun _=>⟨g4,hob4⟩,?_⟩,Hbw4.out.trans (hk4.below (B:=w.heap.size) (fun j hj=>hj) Hbw4.out.size)⟩
       rw[HS.out]
       exact PAt.grow h4 (fun k q=>by rcases q with q|q;exact q;exact Nat.le_trans Hbw4.out.size q)
      have hfin5:∃ q:Nat,q≤players∧Value.int .i64 (↑p+1)=.int .i64 q∧(∃ gv uv bs,(0<q→∃ g,uv.ownBlock=some g)∧PAt w4 (fun k=>w.heap.size≤k) w.heap.size (toPS (startTo seed q)) gv uv bs)∧Below w.heap.size w w4:=⟨p+1,by omega,by go_num,hfin4⟩
      have Hfin4:=(show Hid _ from hfin5)
      clear hfin4 hfin5 h4 hk4
      go_wp2
      go_roundw
      case rel =>
       go_light
       first|exact Hfin4.out|((repeat apply Exists.intro);exact ⟨Hfin4.out,rfl⟩)
      case measure=>simp[intOf];omega
    ·have:p=players:=by omega
     subst this
     go_wp2
     go_ret
     exact ⟨rfl,⟨_,_,_,hgg,hr⟩,hbel⟩
end Go.Proofs.YtdianedehhecoaaGreatDoor