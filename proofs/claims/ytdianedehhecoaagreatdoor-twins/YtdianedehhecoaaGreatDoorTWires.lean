/- The program's Writer: One, Two, Text. -/
import Derived.Test.YtdianedehhecoaaGreatDoorTBase
set_option linter.unusedVariables false
set_option linter.unusedSimpArgs false
set_option maxHeartbeats 4000000
set_option maxRecDepth 100000
namespace Go.Proofs.YtdianedehhecoaaGreatDoor
open Go.RowKit
def uCs (l:List Int):List Value:=l.map (.int .u8)
structure WrAt (w:World)(O:Nat→Prop)(b:Nat)(l:List Int)(ov:Value):Prop where
 st:BlkAt w b [ov] 176
 row:RowAt w 5 1 ov l.length (uCs l)
 ob:O b
 oo:∀ k,ov.ownBlock=some k→O k∧k≠b
def Wrote (O:Nat→Prop)(w:World)(b:Nat)(l:List Int)(w':World):Prop:=(∃ ov,WrAt w' (fun k=>O k∨w.heap.size≤k) b l ov)∧Keep O w w'
theorem WrAt.grow {w:World}{O O':Nat→Prop}{b:Nat}{l:List Int}{ov:Value}(h:WrAt w O b l ov)(hO:∀ k,O k→O' k):WrAt w O' b l ov :=
 ⟨h.st,h.row,hO _ h.ob,fun k hk=>⟨hO _ (h.oo k hk).1,(h.oo k hk).2⟩⟩
theorem WrAt.keep {w w':World}{O O':Nat→Prop}{b:Nat}{l:List Int}{ov:Value}(h:WrAt w O b l ov)(hk:Keep O' w w')(hO:∀ k,O k→k<w.heap.size→¬ O' k):WrAt w' O b l ov :=
 ⟨h.st.same (hk.block _ h.st.lt (hO _ h.ob h.st.lt)),h.row.same fun k e=>hk.block _ (h.row.lt e) (hO _ (h.oo k e).1 (h.row.lt e)),h.ob,h.oo⟩
theorem WrAt.below {w w':World}{O:Nat→Prop}{b:Nat}{l:List Int}{ov:Value}(h:WrAt w O b l ov)(hk:Below w.heap.size w w'):WrAt w' O b l ov :=
 h.keep (Keep.ofBelow hk) fun k _ h1 h2=>by omega
theorem Wrote.mk {O:Nat→Prop}{w w':World}{b:Nat}{l:List Int}{ov:Value}(h:WrAt w' O b l ov)(k:Keep O w w'):Wrote O w b l w':=⟨⟨ov,h.grow fun _ h=>.inl h⟩,k⟩
theorem Wrote.trans {O:Nat→Prop}{w w1 w2:World}{b:Nat}{l1 l2:List Int}(h:Wrote O w b l1 w1)(h2:Wrote (fun k=>O k∨w.heap.size≤k) w1 b l2 w2):Wrote O w b l2 w2:=by
 obtain ⟨⟨ov,r⟩,k⟩:=h2
 refine ⟨⟨ov,r.grow fun j hj=>?_⟩,h.2.trans k fun j hj=>hj⟩
 have:=h.2.size
 rcases hj with hj|hj
 ·exact hj
 ·exact .inr (by omega)
theorem infoByte:(Pz.prog.info? 5).map (fun i=>(i.zero,i.size,i.bytes))=some (some (.int .u8 0),1,1):=by kernel_rfl
theorem WrAt.push {w w2:World}{O:Nat→Prop}{b:Nat}{l:List Int}{ov v':Value}{x:Int}{o:Obj}(h:WrAt w O b l ov)(hown:RowAt w2 5 1 v' (l.length+1) (uCs l++[.int .u8 x]))(hg:(w.alloc o).grownBy w2 ov.ownBlock)
  (hob:v'.ownBlock=ov.ownBlock∨v'.ownBlock=some (w.heap.size+1)):Wrote O w b (l++[x]) (w2.setCell ⟨b,0,none⟩ v'):=by
 have hbl:=h.st.lt
 have hblk:w2.heap[b]? = w.heap[b]?:=by
  rw[hg.block b (by simp;omega) (fun e=>(h.oo b e.symm).2 rfl),Below.heap_alloc _ _ _ hbl]
 have hne:∀ k,v'.ownBlock=some k→(O k∨w.heap.size≤k)∧k≠b:=fun k e=>by
  rcases hob with e2|e2
  ·rw[e2]at e;exact ⟨.inl (h.oo k e).1,(h.oo k e).2⟩
  ·rw[e2]at e
   have:k=w.heap.size+1:=by injection e with e;exact e.symm
   exact ⟨.inr (by omega),by omega⟩
 refine ⟨⟨v',(h.st.same hblk).set 0 v',?_,.inl h.ob,hne⟩,(((Keep.refl O w).alloc o).grown hg (fun k e=>.inl (h.oo k e).1)).set (.inl h.ob)⟩
 have e1:uCs (l++[x])=uCs l++[.int .u8 x]:=by simp[uCs]
 rw[e1,List.length_append]
 exact RowAt.other hown (fun e=>(hne b e).2 rfl)
def low (n:Int):Int:=n % 256
theorem One_any {w:World}{O:Nat→Prop}{b:Nat}{l:List Int}{ov:Value}(vs:List Int)(va:Option Addr)(vcap:Nat)(h:WrAt w O b l ov)(hl:l.length≤100000)(hvl:vs.length≤1000)
  (hv:∀ i,i<vs.length→∃ vg vo,va=some ⟨vg,vo,none⟩∧vg<w.heap.size∧¬ O vg∧w.cell? ⟨vg,vo+i,none⟩=some (.int .i64 (vs.getD i 0))) :
  Calls Pz.prog 84 #[.pointer (some ⟨b,0,none⟩),.slice va vs.length vcap] w fun e w'=>e=.returned (.tuple #[])∧Wrote O w b (l++vs.map low) w':=by
 have HV:Hid (∀ i,i<vs.length→∃ vg vo,va=some ⟨vg,vo,none⟩∧vg<w.heap.size∧¬ O vg∧w.cell? ⟨vg,vo+i,none⟩=some (.int .i64 (vs.getD i 0))):=hv
 have H0:Hid (WrAt w O b l ov):=h
 obtain ⟨i0,hi,hz0,hz1,hz2⟩:=info_parts infoByte
 clear hv h
 go_enter Pz.func84,Tryz.ntmps84
 go_wp2
 go_loopw [8] (fun iv wr=>∃ k:Nat,k≤vs.length∧iv=.int .i64 k∧Wrote O w b (l++(vs.take k).map low) wr) (fun iv _=>vs.length-(intOf iv).toNat)
 case atStart=>exact ⟨0,Nat.zero_le _,rfl,by simpa using Wrote.mk H0.out (Keep.refl _ _)⟩
 case round =>
  obtain ⟨k,hk,rfl,hw⟩:=hrel
  by_cases hlt:k<vs.length
  ·obtain ⟨vg,vo,rfl,hvg,hnO,hcell⟩:=HV.out k hlt
   have hc:=(World.cell?_of_block (w:=w) (w':=wr) (a:=⟨vg,vo+k,none⟩) (hw.2.block vg hvg hnO)).trans hcell
   obtain ⟨⟨ow,hr⟩,hkp⟩:=hw
   have co:wr.cell? ⟨b,0,none⟩=some ow:=hr.st.cell rfl
   have Hr:=(show Hid (WrAt wr (fun k=>O k∨w.heap.size≤k) b (l++(vs.take k).map low) ow) from hr)
   have Hkp:Hid (Keep O w wr):=hkp
   have HT:Hid (l++(vs.take (k+1)).map low=(l++(vs.take k).map low)++[low (vs.getD k 0)]):=by
    unfold Hid
    rw[List.take_succ_eq_append_getElem hlt,List.map_append,List.append_assoc]
    simp only[List.getD,List.getElem?_eq_getElem hlt,Option.getD_some,List.map_cons,List.map_nil]
   have hlen:(l++(vs.take k).map low).length≤101000:=by simp;omega
   clear hcell hr hkp
   generalize l++(vs.take k).map low=L at *
   have HL:Hid (low (vs.getD k 0)=vs.getD k 0 % 256):=rfl
   generalize vs.getD k 0=x at *
   go_wp2_with (at_builtin;refine wpList_append_own_at _ rfl _ _ 55 rfl 0 5 i0 _ 1 1 ((Pz.gUnderlying 55).trans Tryz.underlying55) hi hz0 hz1 hz2 rfl (by decide) _ _ _ rfl (RowAt.alloc Hr.out.row _) ⟨wr.heap.size,0,none⟩ 1 1 [.int .u8 (x % 256)] rfl rfl ?c1 ?c2 ?c3 ?c4 ?c5 ?_)
   case c1 =>
    intro j u hj
    match j,hj with
    | 0,hj=>simp at hj;subst hj;simp[Addr.add]
    | j+1,hj=>simp at hj
   case c2=>intro u hu;simp at hu;subst hu;rfl
   case c3=>unfold maxLen;omega
   case c4=>omega
   case c5=>exact Nat.zero_le _
   ·intro v' w2 hown hg hnil hob
    have hp:=Hr.out.push (x:=x % 256) hown hg hob
    have hbl:=Hr.out.st.lt
    have hblk:w2.heap[b]? = wr.heap[b]?:=by
     rw[hg.block b (by simp;omega) (fun e=>(Hr.out.oo b e.symm).2 rfl),Below.heap_alloc _ _ _ hbl]
    have hst2:=Hr.out.st.same hblk
    have hc2:w2.cell? ⟨b,0,none⟩=some ow:=hst2.cell rfl
    have hf2:=hst2.free 0
    have hown':RowAt w2 5 1 v' (L.length+1) _:=hown
    obtain ⟨g',cap',hv',-,-,-,-,-⟩:=hown'.form (by omega)
    subst hv'
    have Hp:=(show Hid _ from hp)
    clear hp hblk hst2 hown hown' hg hnil hob hi hz0 hz1 hz2 co hc
    go_wp2
    go_roundw
    case rel =>
     go_light
     refine ⟨k+1,by omega,by go_num,?_⟩
     rw[HT.out,HL.out]
     exact Wrote.trans ⟨⟨ow,Hr.out⟩,Hkp.out⟩ Hp.out
    case measure=>simp[intOf];omega
  ·have hT:vs.take k=vs:=List.take_of_length_le (by omega)
   rw[hT]at hw
   go_wp2
   go_end0
   exact ⟨rfl,hw⟩
theorem WrAt.cells {w:World}{O:Nat→Prop}{b:Nat}{l:List Int}{ov:Value}(h:WrAt w O b l ov) :
  (ov=.slice none 0 0∧l=[])∨∃ g cap,ov=.slice (some ⟨g,0,none⟩) l.length cap∧∀ i,i<l.length→w.cell? ⟨g,0+i,none⟩=some (.int .u8 (l.getD i 0)):=by
 rcases h.row.2 with ⟨h1,h2⟩|⟨g,cap,cur,h1,_,hb,hc,hm,hs,hx⟩
 ·exact .inl ⟨h1,List.eq_nil_of_length_eq_zero h2⟩
 ·refine .inr ⟨g,cap,h1,fun i hi=>?_⟩
  have h2:(uCs l)[i]? = some (.int .u8 (l.getD i 0)):=by simp[uCs,List.getD,List.getElem?_eq_getElem hi]
  have:cur[i]? = some (.int .u8 (l.getD i 0)):=by
   have h3:cur.toList[i]? = some (.int .u8 (l.getD i 0)):=by
    rw[← hx,List.getElem?_take]at h2
    split at h2
    ·exact h2
    ·cases h2
   simpa using h3
  simp[World.cell?,hb,this]
theorem Text_any {w:World}{O:Nat→Prop}{b:Nat}{l:List Int}{ov:Value}(h:WrAt w O b l ov) :
  Calls Pz.prog 85 #[.pointer (some ⟨b,0,none⟩)] w fun e w'=>e=.returned (.string (strOfNums l))∧w'=w:=by
 have co:w.cell? ⟨b,0,none⟩=some ov:=h.st.cell rfl
 rcases h.cells with ⟨rfl,rfl⟩|⟨g,cap,rfl,hc⟩
 ·have hn:=run_convert_bytes_nil (P:=Pz.prog) w 55 5 ((Pz.gUnderlying 55).trans Tryz.underlying55) ((Pz.gUnderlying 5).trans Tryz.underlying5) 0 0 9 ((Pz.gUnderlying 9).trans Tryz.underlying9)
  clear h
  go_enter Pz.func85,Tryz.ntmps85
  go_wp2
  go_ret
  exact ⟨rfl,rfl⟩
 ·have hn:=run_convert_bytes_arg (P:=Pz.prog) w 55 5 ((Pz.gUnderlying 55).trans Tryz.underlying55) ((Pz.gUnderlying 5).trans Tryz.underlying5) g 0 l.length cap l rfl hc 9 ((Pz.gUnderlying 9).trans Tryz.underlying9)
  clear h hc
  go_enter Pz.func85,Tryz.ntmps85
  go_wp2
  go_ret
  exact ⟨rfl,rfl⟩
end Go.Proofs.YtdianedehhecoaaGreatDoor
/- The program's Writer: Two. -/
namespace Go.Proofs.YtdianedehhecoaaGreatDoor
open Go.RowKit
theorem WrAt.tight {w:World}{O:Nat→Prop}{b:Nat}{l:List Int}{ov:Value}(h:WrAt w O b l ov):WrAt w (fun k=>O k∧k<w.heap.size) b l ov :=
 ⟨h.st,h.row,⟨h.ob,h.st.lt⟩,fun k e=>⟨⟨(h.oo k e).1,h.row.lt e⟩,(h.oo k e).2⟩⟩
theorem Wrote.then {O:Nat→Prop}{w w1 wa w2:World}{b:Nat}{l1 l2:List Int}(h:Wrote O w b l1 w1)(hb:Below w1.heap.size w1 wa)(h2:Wrote (fun k=>(O k∨w.heap.size≤k)∧k<w1.heap.size) wa b l2 w2):Wrote O w b l2 w2:=by
 obtain ⟨⟨ov,r⟩,k⟩:=h2
 have z1:=h.2.size
 have z2:=hb.size
 refine ⟨⟨ov,r.grow fun j hj=>?_⟩,((h.2.trans (Keep.ofBelow hb) fun j hj=>.inr (by omega)).trans k fun j hj=>hj.1)⟩
 rcases hj with hj|hj
 ·exact hj.1
 ·exact .inr (by omega)
def twoOf (v:Int):List Int:=[low (v / 256),low v]
theorem Two_any {w:World}{O:Nat→Prop}{b:Nat}{l:List Int}{ov:Value}(vs:List Int)(va:Option Addr)(vcap:Nat)(h:WrAt w O b l ov)(hl:l.length≤50000)(hvl:vs.length≤1000)
  (hv:∀ i,i<vs.length→∃ vg vo,va=some ⟨vg,vo,none⟩∧vg<w.heap.size∧¬ O vg∧w.cell? ⟨vg,vo+i,none⟩=some (.int .i64 (vs.getD i 0))) :
  Calls Pz.prog 83 #[.pointer (some ⟨b,0,none⟩),.slice va vs.length vcap] w fun e w'=>e=.returned (.tuple #[])∧Wrote O w b (l++vs.flatMap twoOf) w':=by
 have HV:Hid (∀ i,i<vs.length→∃ vg vo,va=some ⟨vg,vo,none⟩∧vg<w.heap.size∧¬ O vg∧w.cell? ⟨vg,vo+i,none⟩=some (.int .i64 (vs.getD i 0))):=hv
 have H0:Hid (WrAt w O b l ov):=h
 clear hv h
 go_enter Pz.func83,Tryz.ntmps83
 go_wp2
 go_loopw [8] (fun iv wr=>∃ k:Nat,k≤vs.length∧iv=.int .i64 k∧(l++(vs.take k).flatMap twoOf).length≤50000+2*k∧Wrote O w b (l++(vs.take k).flatMap twoOf) wr) (fun iv _=>vs.length-(intOf iv).toNat)
 case atStart=>exact ⟨0,Nat.zero_le _,rfl,by simpa using hl,by simpa using Wrote.mk H0.out (Keep.refl _ _)⟩
 case round =>
  obtain ⟨k,hk,rfl,hlen,hw⟩:=hrel
  by_cases hlt:k<vs.length
  ·obtain ⟨vg,vo,rfl,hvg,hnO,hcell⟩:=HV.out k hlt
   have hc:=(World.cell?_of_block (w:=w) (w':=wr) (a:=⟨vg,vo+k,none⟩) (hw.2.block vg hvg hnO)).trans hcell
   obtain ⟨⟨ow,hr⟩,hkp⟩:=hw
   have Hr:=(show Hid (WrAt wr (fun k=>O k∨w.heap.size≤k) b (l++(vs.take k).flatMap twoOf) ow) from hr)
   have Hkp:Hid (Keep O w wr):=hkp
   have HT:Hid (l++(vs.take (k+1)).flatMap twoOf=(l++(vs.take k).flatMap twoOf)++[vs.getD k 0 / 256,vs.getD k 0].map low):=by
    unfold Hid
    rw[List.take_succ_eq_append_getElem hlt,List.flatMap_append,List.append_assoc]
    simp only[List.getD,List.getElem?_eq_getElem hlt,Option.getD_some,List.flatMap_cons,List.flatMap_nil,List.map_cons,List.map_nil,twoOf,List.append_nil]
   clear hcell hr hkp
   generalize l++(vs.take k).flatMap twoOf=L at *
   generalize vs.getD k 0=x at *
   go_wp2_with fail
   have hba:Below wr.heap.size wr (wr.alloc (.cells #[.int .i64 (x / 256),.int .i64 x] 3)):=(Below.refl _ _).alloc (Nat.le_refl _) _
   refine (One_any [x / 256,x] (some ⟨wr.heap.size,0,none⟩) 2 (Hr.out.tight.below hba) (by omega) (by simp) (fun i hi=>⟨wr.heap.size,0,rfl,by simp,fun e=>by have:=e.2;omega,?_⟩)).mono ?_
   ·have hi2:i=0∨i=1:=by simp at hi;omega
    rcases hi2 with rfl|rfl<;>simp
   rintro e w2 ⟨rfl,hw2⟩
   have hfin:=Wrote.then ⟨⟨ow,Hr.out⟩,Hkp.out⟩ hba hw2
   have hfl:(L++[x / 256,x].map low).length≤50000+2*(k+1):=by simp;omega
   rw[← HT.out]at hfin hfl
   have Hfin:=(show Hid _ from hfin)
   have Hfl:=(show Hid _ from hfl)
   clear hfin hfl hw2 hba hc
   go_wp2
   go_roundw
   case rel=>exact ⟨k+1,by omega,by go_num,Hfl.out,Hfin.out⟩
   case measure=>simp[intOf];omega
  ·have hT:vs.take k=vs:=List.take_of_length_le (by omega)
   rw[hT]at hw
   go_wp2
   go_end0
   exact ⟨rfl,hw⟩
end Go.Proofs.YtdianedehhecoaaGreatDoor