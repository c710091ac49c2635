/- Match.Tick, at any time. -/
import Derived.Test.YtdianedehhecoaaGreatDoorTMatchGens
import Derived.Test.YtdianedehhecoaaGreatDoorTMatchNews
import Derived.Test.YtdianedehhecoaaGreatDoorTTurnPures
import Derived.Shelf.Strings.OnBuilder
import Derived.Shelf.Slices.Delete
import Derived.Shelf.Slices.Empties
set_option linter.unusedVariables false
set_option linter.unusedSimpArgs false
set_option maxHeartbeats 4000000
set_option maxRecDepth 100000
namespace Go.Proofs.YtdianedehhecoaaGreatDoor
open Go.RowKit Go.MuLone
section
variable {w w':World} {D:Nat→Prop} {M:MSt} {f:MIx→Nat→Prop}
theorem MG.does (h:MG w D M f){tv:Value}(cs:List RC)(hcs:∀ k,k<cs.length→(cs.getD k rc0).ok)(hcl:cs.length≤36)(hr:RowAt w 171 5 tv cs.length (rcCells cs))(hn:cs=[]→tv=.slice none 0 0)(ht:∀ k,tv.ownBlock=some k→¬ D k)(t1:M.S.turn<1000) :
  Calls Pz.prog 40 #[.pointer (some ⟨M.sb,0,none⟩),tv] w fun e w'=>e=.returned (.tuple #[])∧∃ uv' bs' f',MG w' (Nw D w.heap.size) { M with S:=doF M.S cs,uv:=uv',bs:=bs' } f'∧Keep D w w':=by
 obtain ⟨g,hg⟩:=h.ok.ub
 refine (PDo_any cs hcs hcl (h.state.own (O':=fun k=>f .s k∧k<w.heap.size) fun k ho hl=>⟨ho,hl⟩) hg h.ok.inv h.ok.turn.1 h.ok.turn.2 ?_).mono ?_
 ·by_cases h0:0<cs.length
  ·exact .inr ⟨h0,hr,fun k e ho=>ht k e (h.low _ _ ho.1 ho.2)⟩
  ·have e:cs=[]:=List.eq_nil_of_length_eq_zero (by omega)
   exact .inl ⟨hn e,e⟩
 ·rintro e w' ⟨he,⟨uv',g',bs',hu,hp⟩,hk⟩
  obtain ⟨f',h',hk'⟩:=h.change1 (M':={ M with S:=doF M.S cs,uv:=uv',bs:=bs' }) .s (hk.mono fun k ho=>.inl ho.1) (hp.own fun k ho _=>ho.imp (fun x=>x.1) id) (fun j hj=>by cases j<;>first|rfl|exact absurd rfl hj) ⟨⟨g',hu⟩,h.ok.inv.doF cs,h.ok.few,by show 0≤(doF M.S cs).turn∧(doF M.S cs).turn≤1000;rw[(doF_turn M.S cs).1];have:=h.ok.turn;omega,h.ok.queue,h.ok.watch⟩
  exact ⟨he,uv',bs',f',h',hk'⟩
theorem MG.hash (h:MG w D M f)(hn:M.hs.length≤100000)(hd:w.cell? ⟨4,15,none⟩=some (.int .u8 4)) :
    Calls Pz.prog 115 #[.pointer (some ⟨M.mb,0,none⟩)] w fun e w'=>e=.returned (.tuple #[])∧∃ hv' f',MG w' (Nw D w.heap.size) { M with hv:=hv',hs:=M.hs++[hash16 (bytesF M.S)] } f'∧Keep D w w':=by
  have hbig:(bytesF M.S).size≤100000:=by have:=bytesF_size _ h.ok.inv;omega
  obtain ⟨g,hg⟩:=h.ok.ub
  refine (keepHash_gen h.cells h.hashes hn (fun e=>h.ne (h.fh e) h.fm (by simp) rfl) h.state hg h.ok.inv hbig hd).mono ?_
  rintro e w' ⟨he,hv',hH⟩
  have hml:=h.cells.lt
  have hne:∀ k,k=M.mb→hv'.ownBlock=some k→False:=fun k e e2=>by
    rcases hH.own with x|⟨q,x,hq⟩
    · exact h.ne (h.fh (x▸e2)) h.fm (by simp) e
    · rw[x]at e2;cases e2;omega
  have H:∃ f',MG w' (Nw D w.heap.size) { M with hv:=hv',hs:=M.hs++[hash16 (bytesF M.S)] } f'∧Keep D w w':=by
   refine h.change (M':={ M with hv:=hv',hs:=M.hs++[hash16 (bytesF M.S)] }) (D':=Nw D w.heap.size) (T:=fun x=>x=.m∨x=.h) (f':=fun x k=>(x=.m∧k=M.mb)∨(x=.h∧hv'.ownBlock=some k))
     (w':=w') ⟨hH.os,hH.tape,hH.output,hH.size,fun k hk hn=>hH.block k hk (fun e=>hn ⟨.m,.inl rfl,e▸h.fm⟩) (fun e=>hn ⟨.h,.inr rfl,h.fh e⟩)⟩ ?_ ?_ ?_ ?_ (fun k hd=>.inl hd) ?_ ⟨h.ok.ub,h.ok.inv,h.ok.few,h.ok.turn,h.ok.queue,h.ok.watch⟩
   · rintro a c k _ _ (⟨rfl,ha⟩|⟨rfl,ha⟩) (⟨rfl,hb'⟩|⟨rfl,hb'⟩)
     · rfl
     · exact (hne k ha hb').elim
     · exact (hne k hb' ha).elim
     · rfl
   · rintro x k _ (⟨rfl,rfl⟩|⟨rfl,hw⟩)
     · exact .inl ⟨.m,.inl rfl,h.fm⟩
     · rcases hH.own with x|⟨q,x,hq⟩
       · exact .inl ⟨.h,.inr rfl,h.fh (x▸hw)⟩
       · rw[x]at hw;cases hw;exact .inr hq
   · rintro x (rfl|rfl)
     · exact ⟨.inl ⟨rfl,rfl⟩,hH.cells⟩
     · refine ⟨?_,fun k e=>.inr ⟨rfl,e⟩⟩
       have:=hH.row
       simpa using this
   · intro x hx
     cases x<;>first|rfl|exact absurd (.inl rfl) hx|exact absurd (.inr rfl) hx
   · rintro x k _ (⟨rfl,rfl⟩|⟨rfl,hw⟩) hl
     · exact .inl h.dm
     · rcases hH.own with x|⟨q,x,hq⟩
       · exact .inl (h.low _ _ (h.fh (x▸hw)) (h.hashes.lt (x▸hw)))
       · rw[x]at hw;cases hw;exact .inr hq
  obtain ⟨f',h',hk'⟩:=H
  exact ⟨he,hv',f',h',hk'⟩
def MSt.turn (M:MSt):List RC:=M.ps.flatMap (·.cs)
structure Ticked (M M':MSt):Prop where
 lk:M'.lk=M.lk
 mb:M'.mb=M.mb
 S:M'.S=doF M.S M.turn
 hs:M'.hs=M.hs++[hash16 (bytesF M'.S)]
 ps:M'.ps=M.ps.map Pl.empty
 ws:Told (sealS M.turn) M.ws M'.ws M.ws.length
theorem MSt.turn_len (h:MOk M):M.turn.length≤32:=by
 have:=M.front_len h M.ps.length (Nat.le_refl _)
 rw[M.front_all]at this
 have:=h.few
 unfold MSt.turn
 omega
theorem MSt.turn_ok (h:MOk M):∀ k,k<M.turn.length→(M.turn.getD k rc0).ok:=fun k hk=>by
 rw[show M.turn.getD k rc0=M.turn[k] by simp[List.getD,hk]]
 obtain ⟨p,hp,hc⟩:=List.mem_flatMap.1 (List.getElem_mem hk)
 exact (h.queue p hp).2.1 _ hc
structure Sealed (w w5:World)(D:Nat→Prop)(M:MSt)(v:Value):Prop where
 match_:∃ f',MG w5 D { M with ps:=M.ps.map Pl.empty } f'
 row:RowAt w5 171 5 v M.turn.length (rcCells M.turn)
 own:∀ j,v.ownBlock=some j→w.heap.size≤j
 keep:Keep D w w5
 nil:M.turn=[]→v=.slice none 0 0
theorem SealAt.done {w w4 w5:World}{v:Value}(h:SealAt w w4 D M M.ps.length v)(hb:Below w4.heap.size w4 w5):Sealed w w5 D M v:=by
 have hm:=h.match_
 have hr:=h.row
 rw[M.front_all]at hr
 rw[M.sealed_all]at hm
 obtain ⟨f',hm⟩:=hm
 have hn:=h.nil
 rw[M.front_all]at hn
 exact ⟨⟨_,hm.below hb⟩,hr.same fun k e=>hb.block k (hr.lt e),h.own,h.keep.trans (Keep.ofBelow hb) (fun j hj=>.inr (Nat.le_trans h.keep.size hj)),hn⟩
structure ToldAt (w w6:World)(D:Nat→Prop)(M:MSt)(v:Value)(us:List Wt):Prop where
 match_:∃ f',MG w6 (fun k=>Nw D w.heap.size k∧v.ownBlock≠some k) { M with ps:=M.ps.map Pl.empty,ws:=us } f'
 told:Told (sealS M.turn) M.ws us M.ws.length
 row:RowAt w6 171 5 v M.turn.length (rcCells M.turn)
 keep:Keep D w w6
 nil:M.turn=[]→v=.slice none 0 0
theorem Sealed.told {w w5 w6:World}{v:Value}(h:Sealed w w5 D M v)(hD:∀ j,D j→j<w.heap.size)(ht:TellAt w5 w6 D { M with ps:=M.ps.map Pl.empty } (sealS M.turn) M.ws.length):∃ us,ToldAt w w6 D M v us:=by
 obtain ⟨us,f',t1,t2,t3⟩:=ht
 have hz:=h.keep.size
 refine ⟨us,⟨f',t2.own fun k hd hl=>?_⟩,t1,h.row.same fun k e=>t3.block k (h.row.lt e) (fun hd=>?_),h.keep.trans t3 fun j hj=>.inl hj,h.nil⟩
 ·rcases hd with hd|hd
  ·exact ⟨.inl hd,fun e=>by have:=h.own k e;have:=hD k hd;omega⟩
  ·exact ⟨.inr (by omega),fun e=>by have:=h.row.lt e;omega⟩
 ·have:=h.own k e
  have:=hD k hd
  omega
theorem Keep.nw {D:Nat→Prop}{a b c:World}(h:Keep D a b)(k:Keep (Nw D a.heap.size) b c):Keep D a c:=h.trans k fun _ e=>e
theorem MG.tick (h0:MG w D M f)(hl:M.lk=0)(hov:overB M.S=false)(t1:M.S.turn<1000)(hn:M.hs.length≤100000)(hts:∀ u,u∈M.ws→u.ts.length≤100000)(hd:w.cell? ⟨4,15,none⟩=some (.int .u8 4))(hdl:¬ D 4) :
  Calls Pz.prog 72 #[.pointer (some ⟨M.mb,0,none⟩)] w fun e w'=>e=.returned (.tuple #[])∧∃ M' f',Ticked M M'∧MG w' (Nw D w.heap.size) M' f'∧Keep D w w':=by
 obtain ⟨D0,hD0,hDD,h⟩:∃ D0:Nat→Prop,(∀ k,D0 k→D k)∧(∀ k,D0 k→k<w.heap.size)∧MG w D0 M f:=⟨fun k=>D k∧k<w.heap.size,fun k x=>x.1,fun k x=>x.2,h0.own fun k x y=>⟨x,y⟩⟩
 have hdb:=cell_lt hd
 have hc:=h.cells
 rw[hl]at hc
 have c0:w.cell? ⟨M.mb,0,none⟩=some (.int .i32 0):=hc.cell rfl
 have fr0:w.frozen? ⟨M.mb,0,none⟩=false:=hc.free 0
 obtain ⟨f1,h1⟩:=h.locks 1
 have HL:=(show Hid _ from lock_free muLib ⟨M.mb,0,none⟩ w c0 fr0)
 have HK1:Hid (Keep D0 w (w.setCell ⟨M.mb,0,none⟩ (.int .i32 1))):=(Keep.refl _ _).set (.inl h.dm)
 have hdm:=h.dm
 have htl:=M.turn_len h.ok
 have HTok:=(show Hid _ from M.turn_ok h.ok)
 have hs1:(w.setCell ⟨M.mb,0,none⟩ (.int .i32 1)).heap.size=w.heap.size:=by simp
 have HDC:Hid (∀ W,Keep D0 w W→W.cell? ⟨4,15,none⟩=some (.int .u8 4)):=fun W hW=>(World.cell?_of_block (w:=w) (hW.block _ hdb fun x=>hdl (hD0 _ x))).trans hd
 clear h h0 hc c0 fr0 hd
 generalize hw1:w.setCell ⟨M.mb,0,none⟩ (.int .i32 1)=w1 at *
 clear hw1
 have HPh:Hid (Calls Pz.prog 91 #[.pointer (some ⟨M.mb,0,none⟩)] w1 fun e w2=>e=.returned (.int .i64 2)∧(w2.cell? ⟨M.mb,5,none⟩=some (.bool false)∧w2.cell? ⟨M.mb,2,none⟩=some (.pointer (some ⟨M.sb,0,none⟩))∧w.heap.size≤w2.heap.size)∧Hid (Below w1.heap.size w1 w2)):=by
  have H:=h1.phase
  rw[show overB ({ M with lk:=1 }:MSt).S=false from hov,if_neg (by simp)]at H
  exact H.mono fun e w2 ⟨he,hb⟩=>⟨he,⟨(h1.below hb).cells.cell rfl,(h1.below hb).cells.cell rfl,by have:=hb.size;omega⟩,hb⟩
 have HTn:Hid (∀ W,Hid (Below w1.heap.size w1 W)→Calls Pz.prog 92 #[.pointer (some ⟨M.sb,0,none⟩)] W fun e w'=>e=.returned (.int .i64 M.S.turn)∧w'=W):=fun W hW=>MG.turn (M:={ M with lk:=1 }) (h1.below hW.out)
 have HD1:=(show Hid _ from h1)
 have HT:Hid (∀ (u:Wt),u∈M.ws→u.ts.length≤100000):=hts
 clear h1 hov hts
 have HSeal:Hid (∀ W,Below w1.heap.size w1 W→Calls Pz.prog 124 #[.pointer (some ⟨M.mb,0,none⟩)] W fun e w4=>∃ v,e=.returned v∧Hid (SealAt W w4 D0 { M with lk:=1 } M.ps.length v)):=fun W hW=>(MG.seal (HD1.out.below hW) fun j hj=>by have:=hDD j hj;have:=hW.size;omega).mono fun e w4 ⟨v,he,hS⟩=>⟨v,he,hS⟩
 have HWr:Hid (∀ W w4 v,Hid (SealAt W w4 D0 { M with lk:=1 } M.ps.length v)→Calls Pz.prog 126 #[v] w4 fun e w5=>e=.returned (.string (sealS M.turn))∧Hid (Sealed W w5 D0 { M with lk:=1 } v)):=fun W w4 v hS=>by
  have h4:=hS.out
  have hr:=h4.row
  have hnl:=h4.nil
  rw[show (({ M with lk:=1 }:MSt).front M.ps.length)=M.turn from M.front_all]at hr hnl
  refine (WTurn_any M.turn (by omega) ?_).mono fun e w5 ⟨he,hb⟩=>⟨he,SealAt.done (M:={ M with lk:=1 }) h4 hb⟩
  by_cases h0:0<M.turn.length
  ·exact .inr ⟨h0,hr⟩
  ·have e0:M.turn=[]:=List.eq_nil_of_length_eq_zero (by omega)
   exact .inl ⟨hnl e0,e0⟩
 have HTell:Hid (∀ W w5 v,w.heap.size≤W.heap.size→Hid (Sealed W w5 D0 { M with lk:=1 } v)→Calls Pz.prog 125 #[.pointer (some ⟨M.mb,0,none⟩),.string (sealS M.turn)] w5 fun e w6=>e=.returned (.tuple #[])∧w6.cell? ⟨M.mb,2,none⟩=some (.pointer (some ⟨M.sb,0,none⟩))∧∃ us,Hid (ToldAt W w6 D0 { M with lk:=1 } v us)):=fun W w5 v hz hS=>by
  obtain ⟨f5,h5⟩:=hS.out.match_
  have hDW:∀ j,D0 j→j<W.heap.size:=fun j hj=>by have:=hDD j hj;omega
  refine (MG.tell h5 (sealS M.turn) (fun j hj=>by have:=hDW j hj;have:=hS.out.keep.size;omega) HT.out).mono fun e w6 ⟨he,hT⟩=>?_
  obtain ⟨us,hA⟩:=Sealed.told (M:={ M with lk:=1 }) hS.out hDW hT
  obtain ⟨f6,h6⟩:=hA.match_
  exact ⟨he,h6.cells.cell rfl,us,hA⟩
 have HDo:Hid (∀ W w6 v us,Hid (ToldAt W w6 D0 { M with lk:=1 } v us)→w.heap.size≤W.heap.size→Keep D0 w W→Calls Pz.prog 40 #[.pointer (some ⟨M.sb,0,none⟩),v] w6 fun e w7=>e=.returned (.tuple #[])∧∃ uv' bs',Hid (Told (sealS M.turn) M.ws us M.ws.length∧(∃ f7,MG w7 (Nw D0 w.heap.size) { M with lk:=1,ps:=M.ps.map Pl.empty,ws:=us,S:=doF M.S M.turn,uv:=uv',bs:=bs' } f7)∧Keep D0 w w7)):=fun W w6 v us hA hz hK=>by
  obtain ⟨f6,h6⟩:=hA.out.match_
  refine (MG.does h6 M.turn HTok.out (by omega) hA.out.row hA.out.nil (fun k e hx=>hx.2 e) t1).mono ?_
  rintro e w7 ⟨he,uv',bs',f7,h7,hk7⟩
  have hz6:=hA.out.keep.size
  refine ⟨he,uv',bs',hA.out.told,⟨f7,h7.own fun k hd _=>?_⟩,Keep.nw (Keep.nw hK ((hA.out.keep).mono fun j hj=>.inl (.inl hj))) (hk7.mono fun j hj=>.inl (hj.1.imp id fun x=>by omega))⟩
  rcases hd with ⟨hd|hd,_⟩|hd
  ·exact .inl hd
  ·exact .inr (by omega)
  ·exact .inr (by omega)
 have HHs:Hid (∀ w7 us uv' bs',Hid (Told (sealS M.turn) M.ws us M.ws.length∧(∃ f7,MG w7 (Nw D0 w.heap.size) { M with lk:=1,ps:=M.ps.map Pl.empty,ws:=us,S:=doF M.S M.turn,uv:=uv',bs:=bs' } f7)∧Keep D0 w w7)→Calls Pz.prog 115 #[.pointer (some ⟨M.mb,0,none⟩)] w7 fun e w8=>e=.returned (.tuple #[])∧∃ hv8,Hid (Told (sealS M.turn) M.ws us M.ws.length∧(∃ f8,MG w8 (Nw D0 w.heap.size) { M with lk:=1,ps:=M.ps.map Pl.empty,ws:=us,S:=doF M.S M.turn,uv:=uv',bs:=bs',hv:=hv8,hs:=M.hs++[hash16 (bytesF (doF M.S M.turn))] } f8)∧Keep D0 w w8)):=fun w7 us uv' bs' hA=>by
  obtain ⟨ht7,⟨f7,h7⟩,hk7⟩:=hA.out
  refine (MG.hash h7 hn (HDC.out _ hk7)).mono ?_
  rintro e w8 ⟨he,hv8,f8,hD8,hb8⟩
  have hz7:=hk7.size
  exact ⟨he,hv8,ht7,⟨f8,hD8.own fun k hd _=>hd.elim id fun x=>.inr (Nat.le_trans hz7 x)⟩,Keep.nw hk7 hb8⟩
 clear HTok HT
 go_enter_defers Pz.func72,Tryz.ntmps72
 go_wp2_with (first
  | (go_at_call 89;refine Calls.mono HL.out ?_;rintro e w' ⟨rfl,rfl⟩)
  | (go_at_call 91;refine Calls.mono HPh.out ?_;rintro e w2 ⟨rfl,⟨c25,c22,hz2⟩,HZ2⟩)
  | (go_at_call 92;refine Calls.mono (HTn.out _ HZ2) ?_;rintro e w3 ⟨rfl,rfl⟩)
  | (go_at_call 124;refine Calls.mono (HSeal.out _ HZ2.out) ?_;rintro e w4 ⟨v,rfl,HS4⟩)
  | (go_at_call 126;refine Calls.mono (HWr.out _ _ _ HS4) ?_;rintro e w5 ⟨rfl,HS5⟩)
  | (go_at_call 125;refine Calls.mono (HTell.out _ _ _ hz2 HS5) ?_;rintro e w6 ⟨rfl,c62,us,HS6⟩)
  | (go_at_call 40;refine Calls.mono (HDo.out _ _ _ _ HS6 hz2 (HK1.out.trans (Keep.ofBelow HZ2.out) fun j hj=>.inr (by omega))) ?_;rintro e w7 ⟨rfl,uv7,bs7,HS7⟩)
  | (go_at_call 115;refine Calls.mono (HHs.out _ _ _ _ HS7) ?_;rintro e w8 ⟨rfl,hv8,HS8⟩))
 obtain ⟨ht8,⟨f8,h8⟩,hk8⟩:=HS8.out
 obtain ⟨f9,h9⟩:=h8.locks 0
 refine leaves_cons (f:=90) (args:=#[.pointer (some ⟨M.mb,0,none⟩)]) (by simp) (by simp[go_sem]) ?_
 refine (unlock_deferred muLib ⟨M.mb,0,none⟩ .returning _ (h8.cells.cell rfl) (h8.cells.free 0)).mono ?_
 rintro e u' w'' ⟨rfl,rfl,rfl⟩
 exact ⟨_,results_none rfl _ _ _,rfl,{ M with lk:=0,ps:=M.ps.map Pl.empty,ws:=us,S:=doF M.S M.turn,uv:=uv7,bs:=bs7,hv:=hv8,hs:=M.hs++[hash16 (bytesF (doF M.S M.turn))] },f9,⟨hl.symm,rfl,rfl,rfl,rfl,ht8⟩,h9.own fun k hd _=>hd.imp (hD0 k) id,((hk8.set (.inl hdm))).mono fun j hj=>.inl (hD0 j hj)⟩
theorem MG.idle (h:MG w D M f)(hl:M.lk=0)(hi:overB M.S=true∨overB M.S=false∧M.S.turn=1000) :
  Calls Pz.prog 72 #[.pointer (some ⟨M.mb,0,none⟩)] w fun e w'=>e=.returned (.tuple #[])∧Below w.heap.size w w':=by
 have hc:=h.cells
 rw[hl]at hc
 have c0:w.cell? ⟨M.mb,0,none⟩=some (.int .i32 0):=hc.cell rfl
 have fr0:w.frozen? ⟨M.mb,0,none⟩=false:=hc.free 0
 obtain ⟨f1,h1⟩:=h.locks 1
 have HL:=(show Hid _ from lock_free muLib ⟨M.mb,0,none⟩ w c0 fr0)
 have HC:=(show Hid _ from hc)
 have hml:=hc.lt
 have hs1:(w.setCell ⟨M.mb,0,none⟩ (.int .i32 1)).heap.size=w.heap.size:=by simp
 have H1c:Hid (BlkAt (w.setCell ⟨M.mb,0,none⟩ (.int .i32 1)) M.mb [.int .i32 1,.int .u32 0,ptrV M.sb,M.hv,.slice (some ⟨M.tb,0,none⟩) M.ps.length M.ps.length,.bool false,M.lv] 136):=h1.cells
 have hph:=h1.phase
 rw[hs1]at hph
 have HPh:Hid (Calls Pz.prog 91 #[.pointer (some ⟨M.mb,0,none⟩)] (w.setCell ⟨M.mb,0,none⟩ (.int .i32 1)) fun e w2=>e=.returned (.int .i64 (if overB M.S then 3 else 2))∧(w2.cell? ⟨M.mb,5,none⟩=some (.bool false)∧w2.cell? ⟨M.mb,2,none⟩=some (.pointer (some ⟨M.sb,0,none⟩)))∧Hid (Below w.heap.size (w.setCell ⟨M.mb,0,none⟩ (.int .i32 1)) w2)):=by
  refine hph.mono fun e w2 ⟨he,hb⟩=>?_
  have h2:=h1.below (by rw[hs1];exact hb)
  exact ⟨he,⟨h2.cells.cell rfl,h2.cells.cell rfl⟩,hb⟩
 have HTn:Hid (∀ W,Hid (Below w.heap.size (w.setCell ⟨M.mb,0,none⟩ (.int .i32 1)) W)→Calls Pz.prog 92 #[.pointer (some ⟨M.sb,0,none⟩)] W fun e w'=>e=.returned (.int .i64 M.S.turn)∧w'=W):=fun W hW=>MG.turn (M:={ M with lk:=1 }) (h1.below (by rw[hs1];exact hW.out))
 clear h hc c0 fr0 h1 hph hl
 generalize hw1:w.setCell ⟨M.mb,0,none⟩ (.int .i32 1)=w1 at *
 have fin:Hid (∀ w2,Hid (Below w.heap.size w1 w2)→w2.cell? ⟨M.mb,0,none⟩=some (.int .i32 1)∧w2.frozen? ⟨M.mb,0,none⟩=false∧Below w.heap.size w (w2.setCell ⟨M.mb,0,none⟩ (.int .i32 0))):=fun w2 hb=>by
  have hm2:=BlkAt.same (show BlkAt w1 M.mb [.int .i32 1,.int .u32 0,ptrV M.sb,M.hv,.slice (some ⟨M.tb,0,none⟩) M.ps.length M.ps.length,.bool false,M.lv] 136 from H1c.out) (hb.out.block _ hml)
  refine ⟨hm2.cell rfl,hm2.free 0,below_relock HC.out ?_⟩
  rw[hw1]
  exact hb.out
 clear hw1
 rcases hi with hov|⟨hov,ht⟩
 ·rw[hov]at HPh
  simp only[if_true]at HPh
  go_enter_defers Pz.func72,Tryz.ntmps72
  go_wp2_with (first
   | (go_at_call 89;refine Calls.mono HL.out ?_;rintro e w' ⟨rfl,rfl⟩)
   | (go_at_call 91;refine Calls.mono HPh.out ?_;rintro e w2 ⟨rfl,⟨c25,c22⟩,HZ2⟩))
  obtain ⟨q0,q1,q2⟩:=fin.out w2 HZ2
  refine leaves_cons (f:=90) (args:=#[.pointer (some ⟨M.mb,0,none⟩)]) (by simp) (by simp[go_sem]) ?_
  refine (unlock_deferred muLib ⟨M.mb,0,none⟩ .returning _ q0 q1).mono ?_
  rintro e u' w'' ⟨rfl,rfl,rfl⟩
  exact ⟨_,results_none rfl _ _ _,rfl,q2⟩
 ·rw[hov]at HPh
  simp only[Bool.false_eq_true,if_false]at HPh
  rw[ht]at HTn
  go_enter_defers Pz.func72,Tryz.ntmps72
  go_wp2_with (first
   | (go_at_call 89;refine Calls.mono HL.out ?_;rintro e w' ⟨rfl,rfl⟩)
   | (go_at_call 91;refine Calls.mono HPh.out ?_;rintro e w2 ⟨rfl,⟨c25,c22⟩,HZ2⟩)
   | (go_at_call 92;refine Calls.mono (HTn.out _ HZ2) ?_;rintro e w3 ⟨rfl,rfl⟩))
  obtain ⟨q0,q1,q2⟩:=fin.out _ HZ2
  refine leaves_cons (f:=90) (args:=#[.pointer (some ⟨M.mb,0,none⟩)]) (by simp) (by simp[go_sem]) ?_
  refine (unlock_deferred muLib ⟨M.mb,0,none⟩ .returning _ q0 q1).mono ?_
  rintro e u' w'' ⟨rfl,rfl,rfl⟩
  exact ⟨_,results_none rfl _ _ _,rfl,q2⟩
end
end Go.Proofs.YtdianedehhecoaaGreatDoor
/- One more watches a match: Match.Watch; and what a match tells: State, Hash. -/
namespace Go.Proofs.YtdianedehhecoaaGreatDoor
open Go.RowKit Go.MuLone
section
variable {w w':World} {D:Nat→Prop} {M:MSt} {f:MIx→Nat→Prop}
def MSt.more (M:MSt)(b:Nat)(lv:Value):MSt:={ M with lv:=lv,ws:=M.ws++[⟨b,.slice none 0 0,[]⟩] }
theorem MG.more (h:MG w D M f){w4:World}{lv':Value}{o:Obj}(hw:M.ws.length<20)(hg:((w.alloc (.cells #[ptrV M.mb,.slice none 0 0] 187)).alloc o).grownBy w4 M.lv.ownBlock)
  (hr:RowAt w4 113 1 lv' (M.ws.length+1) ((M.ws.map fun u=>ptrV u.b)++[ptrV w.heap.size]))(hob:lv'.ownBlock=M.lv.ownBlock∨lv'.ownBlock=some ((w.alloc (.cells #[ptrV M.mb,.slice none 0 0] 187)).alloc o).heap.size) :
  ∃ f',MG (w4.setCell ⟨M.mb,6,none⟩ lv') (Nw D w.heap.size) (M.more w.heap.size lv') f'∧Keep D w (w4.setCell ⟨M.mb,6,none⟩ lv'):=by
 have hz2:((w.alloc (.cells #[ptrV M.mb,.slice none 0 0] 187)).alloc o).heap.size=w.heap.size+2:=by simp
 have hz3:=hg.size
 have hml:=h.cells.lt
 have hnm:M.lv.ownBlock≠some M.mb:=fun e=>by
  have:=h.parts.apart _ _ _ h.fm (h.fl e)
  cases this
 have hll:∀ k,M.lv.ownBlock=some k→k<w.heap.size:=fun k e=>h.list.lt e
 have old:∀ j:Nat,j<w.heap.size→M.lv.ownBlock≠some j→w4.heap[j]? = w.heap[j]?:=fun j hj h1=>by
  rw[hg.block j (by omega) (fun e=>h1 e.symm),Below.heap_alloc _ _ _ (by simp;omega),Below.heap_alloc _ _ _ hj]
 have hnew:BlkAt w4 w.heap.size [ptrV M.mb,.slice none 0 0] 187 :=
  ((BlkAt.new w [ptrV M.mb,.slice none 0 0] 187).alloc o).same (hg.block _ (by omega) (fun e=>by have:=hll _ e.symm;omega))
 have hne':lv'.ownBlock≠some M.mb:=by
  rcases hob with e|e
  ·rw[e];exact hnm
  ·rw[e];intro x;have x:=Option.some.inj x;omega
 have hown:∀ k,lv'.ownBlock=some k→M.lv.ownBlock=some k∨w.heap.size+2≤k:=fun k e=>by
  rcases hob with x|x
  ·exact .inl (x▸e)
  ·rw[x]at e;have e:=Option.some.inj e;exact .inr (by omega)
 have hkk:Keep (fun j=>j=M.mb∨M.lv.ownBlock=some j) w (w4.setCell ⟨M.mb,6,none⟩ lv'):=⟨hg.os,hg.tape,hg.output,by rw[World.heap_setCell_size];omega,fun j hj hn=>by
  rw[Below.heap_setCell _ ⟨M.mb,6,none⟩ _ j (fun e=>hn (.inl e))]
  exact old j hj fun e=>hn (.inr e)⟩
 have hlast:(M.more w.heap.size lv').ws[M.ws.length]? = some ⟨w.heap.size,.slice none 0 0,[]⟩:=by simp[MSt.more]
 have hoth:∀ j,j≠M.ws.length→(M.more w.heap.size lv').ws[j]? = M.ws[j]?:=fun j hj=>by
  simp only[MSt.more]
  by_cases h1:j<M.ws.length
  ·rw[List.getElem?_append_left h1]
  ·rw[List.getElem?_eq_none (by simp;omega),List.getElem?_eq_none (by omega)]
 refine h.change (T:=fun x=>x=.m∨x=.l∨x=.w M.ws.length∨x=.u M.ws.length) (f':=fun x k=>(x=.m∧k=M.mb)∨(x=.l∧lv'.ownBlock=some k)∨(x=.w M.ws.length∧k=w.heap.size)) (hkk.mono fun k hk=>.inl ?_) ?_ ?_ ?_ ?_ (fun k hd=>.inl hd) ?_ ⟨h.ok.ub,h.ok.inv,h.ok.few,h.ok.turn,h.ok.queue,by simp[MSt.more];omega⟩
 ·rcases hk with rfl|hk
  ·exact ⟨.m,.inl rfl,h.fm⟩
  ·exact ⟨.l,.inr (.inl rfl),h.fl hk⟩
 ·rintro a c k _ _ (⟨rfl,ha⟩|⟨rfl,ha⟩|⟨rfl,ha⟩) (⟨rfl,hb⟩|⟨rfl,hb⟩|⟨rfl,hb⟩)
  ·rfl
  ·subst ha;exact absurd hb hne'
  ·omega
  ·subst hb;exact absurd ha hne'
  ·rfl
  ·rcases hown k ha with x|x
   ·have:=hll k x;omega
   ·omega
  ·omega
  ·rcases hown k hb with x|x
   ·have:=hll k x;omega
   ·omega
  ·rfl
 ·rintro x k _ (⟨rfl,rfl⟩|⟨rfl,hw⟩|⟨rfl,hw⟩)
  ·exact .inl ⟨.m,.inl rfl,h.fm⟩
  ·rcases hown k hw with x|x
   ·exact .inl ⟨.l,.inr (.inl rfl),h.fl x⟩
   ·exact .inr (by omega)
  ·exact .inr (by omega)
 ·rintro x (rfl|rfl|rfl|rfl)
  ·exact ⟨.inl ⟨rfl,rfl⟩,(h.cells.same (old _ hml hnm)).set 6 lv'⟩
  ·refine ⟨?_,fun k e=>.inr (.inl ⟨rfl,e⟩)⟩
   have:=hr.other (c:=M.mb) (i:=6) (u:=lv') hne'
   simpa [MSt.more] using this
  ·simp only[MSt.A,hlast]
   exact ⟨.inr (.inr ⟨by trivial,by trivial⟩),hnew.other (by omega)⟩
  ·simp only[MSt.A,hlast]
   exact ⟨⟨rfl,.inl ⟨rfl,rfl⟩⟩,fun k e=>by cases e⟩
 ·intro x hx
  cases x with
  | w i=>simp only[MSt.A];rw[hoth i (fun e=>hx (.inr (.inr (.inl (by rw[e])))))];rfl
  | u i=>simp only[MSt.A];rw[hoth i (fun e=>hx (.inr (.inr (.inr (by rw[e])))))]
  | m=>exact absurd (.inl rfl) hx
  | l=>exact absurd (.inr (.inl rfl)) hx
  | _=>rfl
 ·rintro x k _ (⟨rfl,rfl⟩|⟨rfl,hw⟩|⟨rfl,hw⟩) hl
  ·exact .inl h.dm
  ·rcases hown k hw with x|x
   ·exact .inl (h.low _ _ (h.fl x) (hll k x))
   ·exact .inr (by omega)
  ·exact .inr (by omega)
theorem MG.watch (h:MG w D M f)(hl:M.lk=0)(hw:M.ws.length<20) :
  Calls Pz.prog 95 #[.pointer (some ⟨M.mb,0,none⟩)] w fun e w'=>e=.returned (.pointer (some ⟨w.heap.size,0,none⟩))∧∃ lv' f',MG w' (Nw D w.heap.size) (M.more w.heap.size lv') f'∧Keep D w w':=by
 have hc:=h.cells
 rw[hl]at hc
 have c0:w.cell? ⟨M.mb,0,none⟩=some (.int .i32 0):=hc.cell rfl
 have fr0:w.frozen? ⟨M.mb,0,none⟩=false:=hc.free 0
 obtain ⟨f1,h1⟩:=h.locks 1
 have HL:=(show Hid _ from lock_free muLib ⟨M.mb,0,none⟩ w c0 fr0)
 have HK1:Hid (Keep D w (w.setCell ⟨M.mb,0,none⟩ (.int .i32 1))):=(Keep.refl _ _).set (.inl h.dm)
 have hdm:=h.dm
 have hs1:(w.setCell ⟨M.mb,0,none⟩ (.int .i32 1)).heap.size=w.heap.size:=by simp
 clear h hc c0 fr0
 generalize hw1:w.setCell ⟨M.mb,0,none⟩ (.int .i32 1)=w1 at *
 clear hw1
 rw[← hs1]
 clear hs1
 have c6:w1.cell? ⟨M.mb,6,none⟩=some M.lv:=h1.cells.cell rfl
 have z6:w1.frozen? ⟨M.mb,6,none⟩=false:=h1.cells.free 6
 have hml:M.mb<w1.heap.size:=h1.cells.lt
 have hml1:M.mb<w1.heap.size+1:=by omega
 have hnm:M.lv.ownBlock≠some M.mb:=fun e=>by
  have:=h1.parts.apart _ _ _ h1.fm (h1.fl e)
  cases this
 have HR:Hid (RowAt w1 113 1 M.lv M.ws.length (M.ws.map fun u=>ptrV u.b)):=h1.list
 have H1:=(show Hid _ from h1)
 obtain ⟨la,lc,elv⟩:∃ a cap,M.lv=.slice a M.ws.length cap:=by
  by_cases hn:0<M.ws.length
  ·obtain ⟨g,cap,e,-⟩:=HR.out.form hn
   exact ⟨_,cap,e⟩
  ·have h0:M.ws.length=0:=by omega
   rcases HR.out.2 with ⟨e,_⟩|⟨g,cap,cur,e,_⟩
   ·exact ⟨none,0,by rw[h0];exact e⟩
   ·exact ⟨_,cap,e⟩
 obtain ⟨ui,hui⟩:∃ i,Pz.prog.info? 113=some i:=⟨_,rfl⟩
 have iz:ui.zero=some (.pointer none):=by
  have:(Pz.prog.info? 113).bind (·.zero)=some (.pointer none):=by kernel_rfl
  rw[hui]at this;exact this
 have is1:ui.size=1:=by
  have:(Pz.prog.info? 113).map (·.size)=some 1:=by kernel_rfl
  rw[hui]at this;exact Option.some.inj this
 have ib:ui.bytes=8:=by
  have:(Pz.prog.info? 113).map (·.bytes)=some 8:=by kernel_rfl
  rw[hui]at this;exact Option.some.inj this
 have HMo:Hid (∀ (o:Obj) (w4:World) (lv':Value),((w1.alloc (.cells #[ptrV M.mb,.slice none 0 0] 187)).alloc o).grownBy w4 M.lv.ownBlock→RowAt w4 113 1 lv' (M.ws.length+1) ((M.ws.map fun u=>ptrV u.b)++[ptrV w1.heap.size])→(lv'.ownBlock=M.lv.ownBlock∨lv'.ownBlock=some ((w1.alloc (.cells #[ptrV M.mb,.slice none 0 0] 187)).alloc o).heap.size) →
   (w4.setCell ⟨M.mb,6,none⟩ lv').cell? ⟨M.mb,0,none⟩=some (.int .i32 1)∧(w4.setCell ⟨M.mb,6,none⟩ lv').frozen? ⟨M.mb,0,none⟩=false∧(∃ f',MG ((w4.setCell ⟨M.mb,6,none⟩ lv').setCell ⟨M.mb,0,none⟩ (.int .i32 0)) (Nw D w1.heap.size) (M.more w1.heap.size lv') f')∧Keep D w1 (w4.setCell ⟨M.mb,6,none⟩ lv')):=fun o w4 lv' hg hr hob=>by
  obtain ⟨f2,h2,hk2⟩:=MG.more (M:={ M with lk:=1 }) H1.out hw hg hr hob
  obtain ⟨f3,h3⟩:=h2.locks 0
  have e:({ (({ M with lk:=1 }:MSt).more w1.heap.size lv') with lk:=0 }:MSt)=M.more w1.heap.size lv':=by
   cases M
   simp only at hl
   subst hl
   rfl
  rw[e]at h3
  exact ⟨h2.cells.cell rfl,h2.cells.free 0,⟨f3,h3⟩,hk2⟩
 have HHL:=(show Hid _ from hl)
 clear hl h1
 rw[elv]at c6
 go_enter_defers Pz.func95,Tryz.ntmps95
 go_wp2_with (first|(go_at_call 89;refine Calls.mono HL.out ?_;rintro e w' ⟨rfl,rfl⟩)|(at_builtin;refine wpList_append_own_at _ rfl _ _ 134 rfl 0 113 ui _ 1 8 ((Pz.gUnderlying 134).trans Tryz.underlying134) hui iz is1 ib rfl (by decide) _ _ _ rfl (RowAt.alloc (RowAt.alloc (elv▸HR.out) _) _) ⟨w'.heap.size+1,0,none⟩ 1 1 [.pointer (some ⟨w'.heap.size,0,none⟩)] rfl rfl ?c1 ?c2 ?c3 ?c4 ?c5 ?_))
 case c1=>intro j x hj;cases j with
  | zero =>
   cases hj
   have:=new_cell (w'.alloc (.cells #[.pointer (some ⟨M.mb,0,none⟩),.slice none 0 0] 187)) (.pointer (some ⟨w'.heap.size,0,none⟩)) 113
   rw[show (w'.alloc (.cells #[.pointer (some ⟨M.mb,0,none⟩),.slice none 0 0] 187)).heap.size=w'.heap.size+1 by simp]at this
   exact this
  | succ j=>simp at hj
 case c2=>simp[Value.oneCell']
 case c3=>unfold maxLen;omega
 case c4=>omega
 case c5=>exact Nat.zero_le _
 intro v' w4 hown hg hnn hob
 have hr4:RowAt w4 113 1 v' (M.ws.length+1) ((M.ws.map fun u=>ptrV u.b)++[ptrV w'.heap.size]):=hown
 have hg':((w'.alloc (.cells #[ptrV M.mb,.slice none 0 0] 187)).alloc (.cells #[.pointer (some ⟨w'.heap.size,0,none⟩)] 113)).grownBy w4 M.lv.ownBlock:=by rw[elv];exact hg
 have HF:=(show Hid _ from HMo.out _ w4 v' hg' hr4 (by rw[elv,show ((w'.alloc (Obj.cells #[ptrV M.mb,Value.slice none 0 0] 187)).alloc (Obj.cells #[Value.pointer (some { block:=w'.heap.size,off:=0 })] 113)).heap.size=w'.heap.size+1+1 by simp];exact hob))
 have e4:w4.heap[M.mb]? = w'.heap[M.mb]?:=(hg'.block M.mb (by simp;omega) (fun e=>hnm e.symm)).trans ((Below.heap_alloc _ _ _ (by simp;omega)).trans (Below.heap_alloc _ _ _ hml))
 have d6:=(World.cell?_of_block (a:=⟨M.mb,6,none⟩) e4).trans c6
 have dz:=(World.frozen?_of_block (a:=⟨M.mb,6,none⟩) e4).trans z6
 obtain ⟨g4,cap4,rfl,-,-,-,-,-⟩:=hr4.form (by omega)
 clear hown hg hg' hnn hob hr4 HMo HR e4 c6 z6
 go_wp2_with fail
 obtain ⟨q0,q1,q2,q3⟩:=HF.out
 refine leaves_cons (f:=90) (args:=#[.pointer (some ⟨M.mb,0,none⟩)]) (by simp) (by simp[go_sem]) ?_
 refine (unlock_deferred muLib ⟨M.mb,0,none⟩ .returning _ q0 q1).mono ?_
 rintro e u' w'' ⟨rfl,rfl,rfl⟩
 obtain ⟨f9,h9⟩:=q2
 exact ⟨_,results_tmp rfl _ _ _,rfl,_,f9,h9,(HK1.out.trans q3 fun j hj=>.inl hj).set (.inl hdm)⟩
theorem MG.stateOf (h:MG w D M f)(hl:M.lk=0) :
  Calls Pz.prog 45 #[.pointer (some ⟨M.mb,0,none⟩)] w fun e w'=>e=.returned (.string (bytesF M.S))∧Below w.heap.size w w':=by
 have hc:=h.cells
 rw[hl]at hc
 have h0:w.cell? ⟨M.mb,0,none⟩=some (.int .i32 0):=hc.cell rfl
 have f0:w.frozen? ⟨M.mb,0,none⟩=false:=hc.free 0
 obtain ⟨f1,h1⟩:=h.locks 1
 obtain ⟨g,hg⟩:=h.ok.ub
 have HL:=(show Hid _ from lock_free muLib ⟨M.mb,0,none⟩ w h0 f0)
 have hB:=PBytes_any h1.state hg h.ok.inv.toP
 rw[bytes_rel M.S h.ok.inv.ore,World.heap_setCell_size]at hB
 have HB:=(show Hid _ from hB)
 have HH:=(show Hid _ from h1)
 have HC:=(show Hid _ from hc)
 have h2:(w.setCell ⟨M.mb,0,none⟩ (.int .i32 1)).cell? ⟨M.mb,2,none⟩=some (.pointer (some ⟨M.sb,0,none⟩)):=h1.cells.cell rfl
 have hml:=hc.lt
 have H1c:Hid (BlkAt (w.setCell ⟨M.mb,0,none⟩ (.int .i32 1)) M.mb [.int .i32 1,.int .u32 0,ptrV M.sb,M.hv,.slice (some ⟨M.tb,0,none⟩) M.ps.length M.ps.length,.bool false,M.lv] 136):=h1.cells
 clear h h0 f0 h1 hc hB hg hl
 generalize hw1:w.setCell ⟨M.mb,0,none⟩ (.int .i32 1)=w1 at *
 generalize bytesF M.S=s at *
 go_enter_defers Pz.func45,Tryz.ntmps45
 go_wp2_with (first|(go_at_call 89;refine Calls.mono HL.out ?_;rintro e w' ⟨rfl,rfl⟩)|(go_at_call 41;refine Calls.mono HB.out ?_;rintro e w2 ⟨rfl,hb2⟩))
 have hm2:=BlkAt.same (show BlkAt _ M.mb [.int .i32 1,.int .u32 0,ptrV M.sb,M.hv,.slice (some ⟨M.tb,0,none⟩) M.ps.length M.ps.length,.bool false,M.lv] 136 from H1c.out) (hb2.block _ hml)
 refine leaves_cons (f:=90) (args:=#[.pointer (some ⟨M.mb,0,none⟩)]) (by simp) (by simp[go_sem]) ?_
 refine (unlock_deferred muLib ⟨M.mb,0,none⟩ .returning _ (hm2.cell rfl) (hm2.free 0)).mono ?_
 rintro e u' w'' ⟨rfl,rfl,rfl⟩
 refine ⟨_,results_tmp rfl _ _ _,rfl,below_relock HC.out ?_⟩
 rw[hw1]
 exact hb2
theorem MG.hashOf (h:MG w D M f)(hl:M.lk=0){k:Nat}{t:ByteArray}(hk:M.hs[k]? = some t)(hn:M.hs.length≤100000) :
  Calls Pz.prog 44 #[.pointer (some ⟨M.mb,0,none⟩),.int .i64 k] w fun e w'=>e=.returned (.tuple #[.string t,.int .i64 0])∧Below w.heap.size w w':=by
 have hc:=h.cells
 rw[hl]at hc
 have h0:w.cell? ⟨M.mb,0,none⟩=some (.int .i32 0):=hc.cell rfl
 have f0:w.frozen? ⟨M.mb,0,none⟩=false:=hc.free 0
 obtain ⟨f1,h1⟩:=h.locks 1
 have hkl:k<M.hs.length:=(List.getElem?_eq_some_iff.1 hk).1
 have HL:=(show Hid _ from lock_free muLib ⟨M.mb,0,none⟩ w h0 f0)
 have HC:=(show Hid _ from hc)
 obtain ⟨g,cap,ehv,-,-,-,hcell,-⟩:=h1.hashes.form (show 0<M.hs.length by omega)
 have ehv:M.hv=.slice (some ⟨g,0,none⟩) M.hs.length cap:=ehv
 have c3:(w.setCell ⟨M.mb,0,none⟩ (.int .i32 1)).cell? ⟨M.mb,3,none⟩=some (.slice (some ⟨g,0,none⟩) M.hs.length cap):=by rw[← ehv];exact h1.cells.cell rfl
 have ck:(w.setCell ⟨M.mb,0,none⟩ (.int .i32 1)).cell? ⟨g,k,none⟩=some (.string t):=hcell k _ (by rw[List.getElem?_map,show ({ M with lk:=1 }:MSt).hs[k]? = some t from hk];rfl)
 have hml:=hc.lt
 have H1c:Hid (BlkAt (w.setCell ⟨M.mb,0,none⟩ (.int .i32 1)) M.mb [.int .i32 1,.int .u32 0,ptrV M.sb,M.hv,.slice (some ⟨M.tb,0,none⟩) M.ps.length M.ps.length,.bool false,M.lv] 136):=h1.cells
 clear h h0 f0 h1 hc hcell hk hl
 generalize hw1:w.setCell ⟨M.mb,0,none⟩ (.int .i32 1)=w1 at *
 generalize hnn:M.hs.length=n at *
 have hki:(k:Int)<n:=by omega
 go_enter_defers Pz.func44,Tryz.ntmps44
 go_wp2_with (first|(go_at_call 89;refine Calls.mono HL.out ?_;rintro e w' ⟨rfl,rfl⟩))
 have hm2:BlkAt w' M.mb [.int .i32 1,.int .u32 0,ptrV M.sb,M.hv,.slice (some ⟨M.tb,0,none⟩) M.ps.length M.ps.length,.bool false,M.lv] 136:=H1c.out
 refine leaves_cons (f:=90) (args:=#[.pointer (some ⟨M.mb,0,none⟩)]) (by simp) (by simp[go_sem]) ?_
 refine (unlock_deferred muLib ⟨M.mb,0,none⟩ .returning _ (hm2.cell rfl) (hm2.free 0)).mono ?_
 rintro e u' w'' ⟨rfl,rfl,rfl⟩
 refine ⟨_,results_tmp2 rfl _ _ _,rfl,below_relock HC.out ?_⟩
 rw[hw1]
 exact Below.refl _ _
end
end Go.Proofs.YtdianedehhecoaaGreatDoor
/- The library's Join and Delete, by the shelf's contracts, over the barred program. -/
namespace Go.Proofs.YtdianedehhecoaaGreatDoor
open Go.RowKit Go.Shelf
def renJoin:Ren where
 f n:=match n with|156=>167|165=>149|166=>150|169=>152|240=>195|241=>196|276=>217|277=>218|_=>0
 t n:=match n with|0=>0|3=>3|4=>4|5=>5|9=>9|20=>20|31=>34|37=>55|70=>250|72=>252|75=>254|76=>255|80=>83|127=>295|164=>115|_=>0
 g n:=n
theorem renJoin_lays:Go.Proofs.Lays.n156 Pz.prog renJoin where
 mixed:=by kernel_rfl
 f156:=by kernel_rfl
 f165:=by kernel_rfl
 f166:=by kernel_rfl
 f169:=by kernel_rfl
 f240:=by kernel_rfl
 f241:=by kernel_rfl
 f276:=by kernel_rfl
 f277:=by kernel_rfl
 t0:=by kernel_rfl
 a0:=fun w=>by kernel_rfl
 z0:=fun w=>by kernel_rfl
 v0:=fun w=>by kernel_rfl
 t3:=by kernel_rfl
 a3:=fun w=>by kernel_rfl
 z3:=fun w=>by kernel_rfl
 v3:=fun w=>by kernel_rfl
 t4:=by kernel_rfl
 a4:=fun w=>by kernel_rfl
 z4:=fun w=>by kernel_rfl
 v4:=fun w=>by kernel_rfl
 t9:=by kernel_rfl
 a9:=fun w=>by kernel_rfl
 z9:=fun w=>by kernel_rfl
 v9:=fun w=>by kernel_rfl
 t20:=by kernel_rfl
 a20:=fun w=>by kernel_rfl
 z20:=fun w=>by kernel_rfl
 v20:=fun w=>by kernel_rfl
 t31:=by kernel_rfl
 a31:=fun w=>by kernel_rfl
 z31:=fun w=>by kernel_rfl
 v31:=fun w=>by kernel_rfl
 t37:=by kernel_rfl
 a37:=fun w=>by kernel_rfl
 z37:=fun w=>by kernel_rfl
 v37:=fun w=>by kernel_rfl
 t70:=by kernel_rfl
 a70:=fun w=>by kernel_rfl
 z70:=fun w=>by kernel_rfl
 v70:=fun w=>by kernel_rfl
 t72:=by kernel_rfl
 a72:=fun w=>by kernel_rfl
 z72:=fun w=>by kernel_rfl
 v72:=fun w=>by kernel_rfl
 t75:=by kernel_rfl
 a75:=fun w=>by kernel_rfl
 z75:=fun w=>by kernel_rfl
 v75:=fun w=>by kernel_rfl
 t76:=by kernel_rfl
 a76:=fun w=>by kernel_rfl
 z76:=fun w=>by kernel_rfl
 v76:=fun w=>by kernel_rfl
 t127:=by kernel_rfl
 a127:=fun w=>by kernel_rfl
 z127:=fun w=>by kernel_rfl
 v127:=fun w=>by kernel_rfl
 t164:=by kernel_rfl
 a164:=fun w=>by kernel_rfl
 z164:=fun w=>by kernel_rfl
 v164:=fun w=>by kernel_rfl
theorem renJoin_extra:Go.Proofs.Builder.Extra Pz.prog renJoin where
 sizeBuilder:=by kernel_rfl
 liesBuilder:=by kernel_rfl
 t5:=by kernel_rfl
 a5:=fun w=>by kernel_rfl
 z5:=fun w=>by kernel_rfl
 v5:=fun w=>by kernel_rfl
 infoByte:=by kernel_rfl
 cellsByte:=by kernel_rfl
 sizeByte:=by kernel_rfl
 neB5:=by decide
def renDel:Ren where
 f n:=match n with|24=>168|_=>0
 t n:=match n with|0=>0|3=>3|4=>4|9=>9|24=>34|_=>0
 g n:=n
theorem renDel_lays:Go.Proofs.Lays2.n24 Pz.prog renDel where
 mixed:=by kernel_rfl
 f24:=by kernel_rfl
 t0:=by kernel_rfl
 a0:=fun w=>by kernel_rfl
 z0:=fun w=>by kernel_rfl
 v0:=fun w=>by kernel_rfl
 t3:=by kernel_rfl
 a3:=fun w=>by kernel_rfl
 z3:=fun w=>by kernel_rfl
 v3:=fun w=>by kernel_rfl
 t4:=by kernel_rfl
 a4:=fun w=>by kernel_rfl
 z4:=fun w=>by kernel_rfl
 v4:=fun w=>by kernel_rfl
 t9:=by kernel_rfl
 a9:=fun w=>by kernel_rfl
 z9:=fun w=>by kernel_rfl
 v9:=fun w=>by kernel_rfl
 t24:=by kernel_rfl
 a24:=fun w=>by kernel_rfl
 z24:=fun w=>by kernel_rfl
 v24:=fun w=>by kernel_rfl
 i9:=by kernel_rfl
end Go.Proofs.YtdianedehhecoaaGreatDoor
/- Whoever watches asks: Watcher.Poll. -/
namespace Go.Proofs.YtdianedehhecoaaGreatDoor
open Go.RowKit Go.MuLone Go.Sort
theorem joinB_lib (ts:List ByteArray):(⟨(Lib.join (ts.map fun t:ByteArray=>t.data.toList) (⟨#[]⟩:ByteArray).data.toList).toArray⟩:ByteArray)=joinB ts:=by
 unfold joinB Lib.join
 congr 2
 show List.intercalate [] (ts.map fun t:ByteArray=>t.data.toList)=_
 induction ts with
 | nil=>rfl
 | cons t ts ih =>
  cases ts with
  | nil=>simp[List.intercalate]
  | cons u us =>
   simp only[List.intercalate,List.map_cons,List.intersperse_cons_cons,List.flatten_cons,List.flatMap_cons,List.nil_append]at ih ⊢
   rw[ih]
section
variable {w w':World} {D:Nat→Prop} {M:MSt} {f:MIx→Nat→Prop}
theorem join_any {g cap n:Nat}{ts:List ByteArray}(hn:ts.length=n)(hc:∀ (j:Nat) x,ts[j]? = some x→w.cell? ⟨g,j,none⟩=some (.string x))(hg:g<w.heap.size)(hN:n≤100000)(hcap:n≤cap)(hlen:(joinB ts).size≤100000000) :
  Calls Pz.prog 167 #[.slice (some ⟨g,0,none⟩) n cap,.string ⟨#[]⟩] w fun e w'=>e=.returned (.string (joinB ts))∧Below w.heap.size w w':=by
 subst hn
 have hl:(Lib.join (ts.map fun t:ByteArray=>t.data.toList) (⟨#[]⟩:ByteArray).data.toList).length≤140737488355328:=by
  have:=congrArg ByteArray.size (joinB_lib ts)
  have e:(⟨(Lib.join (ts.map fun t:ByteArray=>t.data.toList) (⟨#[]⟩:ByteArray).data.toList).toArray⟩:ByteArray).size=(Lib.join (ts.map fun t:ByteArray=>t.data.toList) (⟨#[]⟩:ByteArray).data.toList).length:=by simp[ByteArray.size]
  omega
 have H:=Any.strings_Join renJoin_lays renJoin_extra g 0 cap ts ⟨#[]⟩ w (fun j x hx=>by rw[Nat.zero_add];exact hc j x hx) hg (by omega) hcap hl
 rw[joinB_lib]at H
 exact H
theorem join_none (a:Option Addr)(cap:Nat):Calls Pz.prog 167 #[.slice a 0 cap,.string ⟨#[]⟩] w fun e w'=>e=.returned (.string ⟨#[]⟩)∧w'=w:=Any.strings_Join_none renJoin_lays renJoin_extra a cap ⟨#[]⟩ w
theorem RowAt.deleted {g n cap cnt q:Nat}{ts:List ByteArray}(h:RowAt w 9 1 (.slice (some ⟨g,0,none⟩) n cap) n (ts.map .string))(hn:ts.length=n)(hc:cnt≤n)
  (hw:w'=putRow encStr (Sort.ahead w q) g 0 ((ts.map fun t:ByteArray=>t.data.toList).take 0++(ts.map fun t:ByteArray=>t.data.toList).drop cnt++List.replicate (cnt-0) []).toArray) :
  RowAt w' 9 1 (.slice (some ⟨g,0,none⟩) (n-cnt) cap) (n-cnt) ((ts.drop cnt).map .string)∧Keep (fun k=>k=g) w w':=by
 subst hw
 obtain ⟨hl,⟨e,_⟩|⟨g',cap',cur,e,h0,hb,hcc,hm,hs,hx⟩⟩:=h
 ·cases e
 cases e
 have hsize:((ts.map fun t:ByteArray=>t.data.toList).take 0++(ts.map fun t:ByteArray=>t.data.toList).drop cnt++List.replicate (cnt-0) ([]:List UInt8)).toArray.size=n:=by simp;omega
 have hblk:(putRow encStr (Sort.ahead w q) g 0 ((ts.map fun t:ByteArray=>t.data.toList).take 0++(ts.map fun t:ByteArray=>t.data.toList).drop cnt++List.replicate (cnt-0) []).toArray).heap[g]? = some (.cells (putCells encStr 0 ((ts.map fun t:ByteArray=>t.data.toList).take 0++(ts.map fun t:ByteArray=>t.data.toList).drop cnt++List.replicate (cnt-0) []).toArray cur) 9 (0,0)):=by
  show ((Sort.ahead w q).heap.modify g _)[g]? = _
  rw[Array.getElem?_modify,if_pos rfl,show (Sort.ahead w q).heap=w.heap from rfl,hb]
  rfl
 constructor
 ·refine ⟨by simp;omega,.inr ⟨g,cap,_,rfl,h0,hblk,by omega,hm,by rw[← hs];simp[putCells],?_⟩⟩
  apply List.ext_getElem?
  intro k
  rw[List.getElem?_take,List.getElem?_map,List.getElem?_drop]
  by_cases hk:k<n-cnt
  ·have hk2:k<cur.size:=by omega
   rw[if_pos (by omega),Array.getElem?_toList,putCells,Array.getElem?_mapIdx,Array.getElem?_eq_getElem hk2,Option.map_some,if_pos ⟨Nat.zero_le _,by rw[hsize];omega⟩,List.getElem?_eq_getElem (by omega),Option.map_some]
   have hd:((ts.map fun t:ByteArray=>t.data.toList).take 0++(ts.map fun t:ByteArray=>t.data.toList).drop cnt++List.replicate (cnt-0) ([]:List UInt8)).toArray[k-0]! = (ts[cnt+k]'(by omega)).data.toList:=by
    rw[getElem!_pos _ _ (by rw[hsize];omega)]
    simp only[List.take_zero,List.nil_append,Nat.sub_zero,List.getElem_toArray]
    rw[List.getElem_append_left (by simp;omega)]
    simp
   rw[hd]
  ·rw[if_neg (by omega),List.getElem?_eq_none (by omega)]
   rfl
 ·refine ⟨rfl,rfl,rfl,by show _≤((Sort.ahead w q).heap.modify g _).size;simp[Sort.ahead],fun k hk hne=>?_⟩
  show ((Sort.ahead w q).heap.modify g _)[k]? = _
  rw[Array.getElem?_modify,if_neg (fun e=>hne e.symm)]
  rfl
theorem delete_any {g n cap cnt:Nat}{ts:List ByteArray}(h:RowAt w 9 1 (.slice (some ⟨g,0,none⟩) n cap) n (ts.map .string))(hn:ts.length=n)(hc:cnt≤n)(h0:0<n) :
  Calls Pz.prog 168 #[.slice (some ⟨g,0,none⟩) n cap,.int .i64 0,.int .i64 cnt] w fun e w'=>e=.returned (.slice (some ⟨g,0,none⟩) (n-cnt) cap)∧RowAt w' 9 1 (.slice (some ⟨g,0,none⟩) (n-cnt) cap) (n-cnt) ((ts.drop cnt).map .string)∧Keep (fun k=>k=g) w w':=by
 obtain ⟨g',cap',e,-,hcc,hm,hcell,hfr⟩:=h.form h0
 cases e
 have hz:(ts.map fun t:ByteArray=>t.data.toList).length=n:=by simpa using hn
 have H:=Any.slices_Delete_string renDel_lays g 0 cap 0 cnt (ts.map fun t:ByteArray=>t.data.toList) w ?_ (by omega) (by unfold maxLen at hm;omega) (Nat.zero_le _) (by omega)
 ·rw[hz]at H
  exact H.mono fun e w' ⟨he,q,hw⟩=>⟨by simpa using he,h.deleted hn hc hw⟩
 ·intro j hj
  have hj2:j<ts.length:=by simpa using hj
  refine ⟨?_,by rw[Nat.zero_add];exact hfr j⟩
  rw[Nat.zero_add]
  refine (hcell j (.string ts[j]) (by simp[hj2])).trans ?_
  rw[getElem!_pos (ts.map fun t:ByteArray=>t.data.toList).toArray j hj]
  simp
theorem delete_none (a:Option Addr)(cap:Nat):Calls Pz.prog 168 #[.slice a 0 cap,.int .i64 0,.int .i64 0] w fun e w'=>e=.returned (.slice a 0 cap)∧w'=w:=Any.slices_Delete_string_empty renDel_lays a cap w
theorem MG.unlike (h:MG w D M f){j:Nat}{u:Wt}(hu:M.ws[j]? = some u):u.uv.ownBlock≠some u.b:=fun e=>by
 have:=h.parts.apart _ _ _ (h.fw hu) (h.fu hu e)
 cases this
theorem MG.polled (h:MG w D M f){w2 w3:World}{j g c:Nat}{u:Wt}{v':Value}(hu:M.ws[j]? = some u)(hb:Below w.heap.size w w2)(hk:Keep (fun k=>k=g) w2 w3)(hg:u.uv.ownBlock=some g)(hg':v'.ownBlock=some g)(hr:RowAt w3 9 1 v' (u.ts.drop c).length ((u.ts.drop c).map .string)) :
  ∃ f',MG (w3.setCell ⟨u.b,1,none⟩ v') (Nw D w.heap.size) (M.watches j ⟨u.b,v',u.ts.drop c⟩) f'∧Keep D w (w3.setCell ⟨u.b,1,none⟩ v'):=by
 have hw:=h.watcher hu
 have hbl:=hw.1.lt
 have hne:g≠u.b:=fun e=>h.unlike hu (by rw[hg,e])
 have hz:=hb.size
 have hold:w3.heap[u.b]? = w.heap[u.b]?:=(hk.block _ (by omega) (Ne.symm hne)).trans (hb.block _ hbl)
 have hkk:Keep (fun k=>k=u.b∨u.uv.ownBlock=some k) w (w3.setCell ⟨u.b,1,none⟩ v') :=
  (((Keep.refl (fun k=>k=u.b∨u.uv.ownBlock=some k) w).trans (Keep.ofBelow hb) (fun k hk=>.inr hk)).trans hk (fun k e=>.inl (.inr (by rw[hg,e])))).set (.inl (.inl rfl))
 exact h.rewatch (u':=⟨u.b,v',u.ts.drop c⟩) hu rfl ((hw.1.same hold).set 1 v') (hr.other (by rw[hg'];intro e;cases e;exact hne rfl)) (fun k e=>.inl (by
  have e:v'.ownBlock=some k:=e
  rw[hg']at e
  cases e
  exact hg)) hkk
def PollSaid (w:World)(D:Nat→Prop)(M:MSt)(j:Nat)(u:Wt)(most:Nat)(e:Ending)(w':World):Prop :=
 (u.ts=[]∧overB M.S=true∧e=.returned (.tuple #[.string ⟨#[]⟩,.int .i64 9])∧Below w.heap.size w w') ∨
 (¬ (u.ts=[]∧overB M.S=true)∧e=.returned (.tuple #[.string (joinB (u.ts.take most)),.int .i64 0])∧∃ uv' f',MG w' (Nw D w.heap.size) (M.watches j ⟨u.b,uv',u.ts.drop most⟩) f'∧Keep D w w')
theorem MG.poll (h:MG w D M f)(hl:M.lk=0){j:Nat}{u:Wt}(hu:M.ws[j]? = some u)(most:Nat)(hm:most≤100000)(hts:u.ts.length≤100000)(hsz:(joinB (u.ts.take most)).size≤100000000) :
  Calls Pz.prog 110 #[.pointer (some ⟨u.b,0,none⟩),.int .i64 most] w (PollSaid w D M j u most):=by
 have hc:=h.cells
 rw[hl]at hc
 have c0:w.cell? ⟨M.mb,0,none⟩=some (.int .i32 0):=hc.cell rfl
 have fr0:w.frozen? ⟨M.mb,0,none⟩=false:=hc.free 0
 obtain ⟨f1,h1⟩:=h.locks 1
 have hdm:=h.dm
 have wm:w.cell? ⟨u.b,0,none⟩=some (.pointer (some ⟨M.mb,0,none⟩)):=(h.watcher hu).1.cell rfl
 have HL:=(show Hid _ from lock_free muLib ⟨M.mb,0,none⟩ w c0 fr0)
 have HK1:Hid (Keep D w (w.setCell ⟨M.mb,0,none⟩ (.int .i32 1))):=(Keep.refl _ _).set (.inl hdm)
 have hs1:(w.setCell ⟨M.mb,0,none⟩ (.int .i32 1)).heap.size=w.heap.size:=by simp
 have hu1:({ M with lk:=1 }:MSt).ws[j]? = some u:=hu
 have hwt:=h1.watcher hu1
 have k0:(w.setCell ⟨M.mb,0,none⟩ (.int .i32 1)).cell? ⟨u.b,0,none⟩=some (.pointer (some ⟨M.mb,0,none⟩)):=hwt.1.cell rfl
 have k1:(w.setCell ⟨M.mb,0,none⟩ (.int .i32 1)).cell? ⟨u.b,1,none⟩=some u.uv:=hwt.1.cell rfl
 have kz:(w.setCell ⟨M.mb,0,none⟩ (.int .i32 1)).frozen? ⟨u.b,1,none⟩=false:=hwt.1.free 1
 have hbl:=hwt.1.lt
 have HR:Hid (RowAt (w.setCell ⟨M.mb,0,none⟩ (.int .i32 1)) 9 1 u.uv u.ts.length (u.ts.map .string)):=hwt.2
 have HPh:=(show Hid _ from h1.phase)
 rw[hs1]at HPh
 have H1:=(show Hid _ from h1)
 have HC:=(show Hid _ from hc)
 have HH:=(show Hid _ from h)
 have HHL:Hid (M.lk=0):=hl
  -- the match with another watcher, its lock let go
 have HE:Hid (∀ v ts,({ (({ M with lk:=1 }:MSt).watches j ⟨u.b,v,ts⟩) with lk:=0 }:MSt)=M.watches j ⟨u.b,v,ts⟩):=fun v ts=>by
  unfold MSt.watches
  show ({ M with lk:=0,ws:=M.ws.set j ⟨u.b,v,ts⟩ }:MSt)={ M with ws:=M.ws.set j ⟨u.b,v,ts⟩ }
  cases M
  simp only at hl
  subst hl
  rfl
 clear h hc c0 fr0 h1 hwt hl
 generalize hw1:w.setCell ⟨M.mb,0,none⟩ (.int .i32 1)=w1 at *
 by_cases h0:u.ts.length=0
 ·have hnil:u.ts=[]:=List.eq_nil_of_length_eq_zero h0
  obtain ⟨a,cap,euv⟩:∃ a cap,u.uv=.slice a 0 cap:=by
   rcases HR.out.2 with ⟨e,_⟩|⟨g,cap,cur,e,_⟩
   ·exact ⟨none,0,e⟩
   ·exact ⟨_,cap,by rw[e,h0]⟩
  have HNil:=(show Hid _ from hnil)
  rw[euv]at k1
  have HFin:Hid (∀ w2,Below w.heap.size w1 w2→w2.cell? ⟨M.mb,0,none⟩=some (.int .i32 1)∧w2.frozen? ⟨M.mb,0,none⟩=false∧Below w.heap.size w (w2.setCell ⟨M.mb,0,none⟩ (.int .i32 0))):=fun w2 hb=>by
   have h2:=H1.out.below (by rw[hs1];exact hb)
   refine ⟨h2.cells.cell rfl,h2.cells.free 0,below_relock HC.out ?_⟩
   rw[hw1]
   exact hb
  have HSt:Hid (∀ w2,Below w.heap.size w1 w2→w2.cell? ⟨u.b,0,none⟩=some (.pointer (some ⟨M.mb,0,none⟩))∧w2.cell? ⟨u.b,1,none⟩=some (.slice a 0 cap)∧w2.frozen? ⟨u.b,1,none⟩=false∧(w2.setCell ⟨u.b,1,none⟩ (.slice a 0 cap)).cell? ⟨M.mb,0,none⟩=some (.int .i32 1)∧(w2.setCell ⟨u.b,1,none⟩ (.slice a 0 cap)).frozen? ⟨M.mb,0,none⟩=false∧∃ uv' f',MG ((w2.setCell ⟨u.b,1,none⟩ (.slice a 0 cap)).setCell ⟨M.mb,0,none⟩ (.int .i32 0)) (Nw D w.heap.size) (M.watches j ⟨u.b,uv',u.ts.drop most⟩) f'∧Keep D w ((w2.setCell ⟨u.b,1,none⟩ (.slice a 0 cap)).setCell ⟨M.mb,0,none⟩ (.int .i32 0))):=fun w2 hb=>by
   have h2:=H1.out.below (by rw[hs1];exact hb)
   have hw2:=h2.watcher hu1
   have hd:u.ts.drop most=[]:=by rw[hnil];simp
   have hbz:=hb.size
   rw[hs1]at hbz
   obtain ⟨f3,h3,hk3⟩:=h2.rewatch (u':=⟨u.b,.slice a 0 cap,[]⟩) (w':=w2.setCell ⟨u.b,1,none⟩ (.slice a 0 cap)) hu1 rfl (hw2.1.set 1 _) (by
    have h4:=hw2.2.other (c:=u.b) (i:=1) (u:=.slice a 0 cap) (h2.unlike hu1)
    rw[hnil,euv]at h4
    exact h4) (fun k e=>.inl (by rw[euv];exact e)) ((Keep.refl _ _).set (.inl (.inl rfl)))
   obtain ⟨f4,h4⟩:=h3.locks 0
   rw[HE.out]at h4
   refine ⟨hw2.1.cell rfl,by rw[← euv];exact hw2.1.cell rfl,hw2.1.free 1,h3.cells.cell rfl,h3.cells.free 0,.slice a 0 cap,f4,by rw[hd];exact h4.own fun k hd' _=>hd'.imp id fun x=>by omega,?_⟩
   exact ((HK1.out.trans (Keep.ofBelow hb) fun k hk=>.inr hk).trans hk3 fun k hk=>.inl hk).set (.inl hdm)
  have hjo:joinB (u.ts.take most)=⟨#[]⟩:=by rw[hnil];simp[joinB]
  have HJ:Hid (∀ W,Calls Pz.prog 167 #[.slice a 0 cap,.string ⟨#[]⟩] W fun e w'=>e=.returned (.string ⟨#[]⟩)∧w'=W):=fun W=>join_none a cap
  have HD:Hid (∀ W,Calls Pz.prog 168 #[.slice a 0 cap,.int .i64 0,.int .i64 0] W fun e w'=>e=.returned (.slice a 0 cap)∧w'=W):=fun W=>delete_none a cap
  have hcap:0≤cap:=Nat.zero_le _
  generalize hov:overB M.S=ov at *
  unfold PollSaid
  rw[hjo,hov]
  clear hjo hnil h0 HR H1 HH HC HE hsz hts euv
  have hmn:¬ ((most:Nat):Int)<0:=by omega
  have hmin:min ((most:Nat):Int) 0=0:=by omega
  cases ov
  ·simp only[Bool.false_eq_true,if_false]at HPh
   go_enter_defers Pz.func110,Tryz.ntmps110
   go_wp2_with (first|(go_at_call 89;refine Calls.mono HL.out ?_;rintro e w' ⟨rfl,hw'⟩;rw[hw'];clear hw' w')|(go_at_call 91;refine Calls.mono HPh.out ?_;rintro e w2 ⟨rfl,hb2⟩;obtain ⟨k20,k21,k2z,hq⟩:=HSt.out w2 hb2;have HQ:=(show Hid _ from hq);clear hq)|(go_at_call 167;refine Calls.mono (HJ.out _) ?_;rintro e w3 ⟨rfl,hw3⟩;rw[hw3];clear hw3 w3)|(go_at_call 168;refine Calls.mono (HD.out _) ?_;rintro e w3 ⟨rfl,hw3⟩;rw[hw3];clear hw3 w3))
   obtain ⟨q0,q1,uv',f',q2,q3⟩:=HQ.out
   refine leaves_cons (f:=90) (args:=#[.pointer (some ⟨M.mb,0,none⟩)]) (by simp) (by simp[go_sem]) ?_
   refine (unlock_deferred muLib ⟨M.mb,0,none⟩ .returning _ q0 q1).mono ?_
   rintro e u' w'' ⟨rfl,rfl,rfl⟩
   exact ⟨_,results_tmp2 rfl _ _ _,.inr ⟨by simp,rfl,uv',f',q2,q3⟩⟩
  ·simp only[if_true]at HPh
   go_enter_defers Pz.func110,Tryz.ntmps110
   go_wp2_with (first|(go_at_call 89;refine Calls.mono HL.out ?_;rintro e w' ⟨rfl,hw'⟩;rw[hw'];clear hw' w')|(go_at_call 91;refine Calls.mono HPh.out ?_;rintro e w2 ⟨rfl,hb2⟩))
   obtain ⟨q0,q1,q2⟩:=HFin.out w2 hb2
   refine leaves_cons (f:=90) (args:=#[.pointer (some ⟨M.mb,0,none⟩)]) (by simp) (by simp[go_sem]) ?_
   refine (unlock_deferred muLib ⟨M.mb,0,none⟩ .returning _ q0 q1).mono ?_
   rintro e u' w'' ⟨rfl,rfl,rfl⟩
   exact ⟨_,results_tmp2 rfl _ _ _,.inl ⟨HNil.out,by trivial,rfl,q2⟩⟩
 ·obtain ⟨g,cap,euv,hob,hcap,-,hcell,-⟩:=HR.out.form (by omega)
  have hnn:¬ ((u.ts.length:Nat):Int)=0:=by omega
  obtain ⟨c,hcm⟩:∃ c,c=min most u.ts.length:=⟨_,rfl⟩
  have hcle:c≤u.ts.length:=by omega
  have htk:u.ts.take most=u.ts.take c:=by rw[hcm];simp
  have hdr:u.ts.drop most=u.ts.drop c:=by
   rw[hcm]
   by_cases hx:most≤u.ts.length
   ·rw[Nat.min_eq_left hx]
   ·rw[Nat.min_eq_right (by omega),List.drop_eq_nil_of_le (by omega),List.drop_length]
  have hmin:min ((most:Nat):Int) ((u.ts.length:Nat):Int)=(c:Int):=by omega
  have hminN:min most u.ts.length=c:=by omega
  have hmn:¬ ((most:Nat):Int)<0:=by omega
  unfold PollSaid
  rw[htk]at hsz
  rw[htk,hdr]
  rw[euv]at k1
  have hgl:g<w1.heap.size:=HR.out.lt hob
  have HJ:Hid (Calls Pz.prog 167 #[.slice (some ⟨g,0,none⟩) c cap,.string ⟨#[]⟩] w1 fun e w2=>e=.returned (.string (joinB (u.ts.take c)))∧(w2.cell? ⟨u.b,1,none⟩=some (.slice (some ⟨g,0,none⟩) u.ts.length cap))∧Hid (Below w.heap.size w1 w2)):=by
   refine (join_any (ts:=u.ts.take c) (by simp;omega) (fun i x hx=>?_) hgl (by omega) (by omega) hsz).mono fun e w2 ⟨he,hb⟩=>?_
   ·refine hcell i (.string x) ?_
    rw[List.getElem?_map]
    rw[List.getElem?_take]at hx
    split at hx
    ·rw[hx];rfl
    ·cases hx
   ·exact ⟨he,(hb.cell hbl).trans k1,by rw[hs1]at hb;exact hb⟩
  have HD:Hid (∀ w2,Hid (Below w.heap.size w1 w2)→Calls Pz.prog 168 #[.slice (some ⟨g,0,none⟩) u.ts.length cap,.int .i64 0,.int .i64 c] w2 fun e w3=>e=.returned (.slice (some ⟨g,0,none⟩) (u.ts.length-c) cap)∧(w3.cell? ⟨u.b,1,none⟩=some (.slice (some ⟨g,0,none⟩) u.ts.length cap)∧w3.frozen? ⟨u.b,1,none⟩=false)∧Hid ((w3.setCell ⟨u.b,1,none⟩ (.slice (some ⟨g,0,none⟩) (u.ts.length-c) cap)).cell? ⟨M.mb,0,none⟩=some (.int .i32 1)∧(w3.setCell ⟨u.b,1,none⟩ (.slice (some ⟨g,0,none⟩) (u.ts.length-c) cap)).frozen? ⟨M.mb,0,none⟩=false∧∃ uv' f',MG ((w3.setCell ⟨u.b,1,none⟩ (.slice (some ⟨g,0,none⟩) (u.ts.length-c) cap)).setCell ⟨M.mb,0,none⟩ (.int .i32 0)) (Nw D w.heap.size) (M.watches j ⟨u.b,uv',u.ts.drop c⟩) f'∧Keep D w ((w3.setCell ⟨u.b,1,none⟩ (.slice (some ⟨g,0,none⟩) (u.ts.length-c) cap)).setCell ⟨M.mb,0,none⟩ (.int .i32 0)))):=fun w2 hb=>by
   have hb2:Below w1.heap.size w1 w2:=by rw[hs1];exact hb.out
   have hrow:RowAt w2 9 1 (.slice (some ⟨g,0,none⟩) u.ts.length cap) u.ts.length (u.ts.map .string):=by
    have:=HR.out.same fun k e=>hb2.block k (HR.out.lt e)
    rw[euv]at this
    exact this
   refine (delete_any hrow rfl hcle (by omega)).mono fun e w3 ⟨he,hr,hk⟩=>?_
   obtain ⟨f3,h3,hk3⟩:=MG.polled (M:={ M with lk:=1 }) (c:=c) (v':=.slice (some ⟨g,0,none⟩) (u.ts.length-c) cap) H1.out hu1 hb2 hk hob rfl (by
    have e2:(u.ts.drop c).length=u.ts.length-c:=by simp
    rw[e2]
    exact hr)
   obtain ⟨f4,h4⟩:=h3.locks 0
   rw[HE.out]at h4
   have hne:u.b≠g:=fun e=>(H1.out.unlike hu1) (by rw[euv,e];rfl)
   have hold:w3.heap[u.b]? = w1.heap[u.b]?:=(hk.block _ (by have:=hb2.size;omega) hne).trans (hb2.block _ hbl)
   refine ⟨he,⟨(World.cell?_of_block (a:=⟨u.b,1,none⟩) hold).trans k1,(World.frozen?_of_block (a:=⟨u.b,1,none⟩) hold).trans kz⟩,h3.cells.cell rfl,h3.cells.free 0,.slice (some ⟨g,0,none⟩) (u.ts.length-c) cap,f4,?_,?_⟩
   ·rw[hs1]at h4
    exact h4
   ·exact (HK1.out.trans hk3 fun k hk=>.inl hk).set (.inl hdm)
  clear HR H1 HH HC HE hsz hts euv hcell hob hcm htk hdr
  have hci:((c:Nat):Int)≤cap:=by omega
  generalize hn:u.ts.length=n at *
  go_enter_defers Pz.func110,Tryz.ntmps110
  go_wp2_with (first|(go_at_call 89;refine Calls.mono HL.out ?_;rintro e w' ⟨rfl,hw'⟩;rw[hw'];clear hw' w')|(go_at_call 167;refine Calls.mono HJ.out ?_;rintro e w2 ⟨rfl,k21,hb2⟩)|(go_at_call 168;refine Calls.mono (HD.out _ hb2) ?_;rintro e w3 ⟨rfl,⟨k31,k3z⟩,HQ⟩))
  obtain ⟨q0,q1,uv',f',q2,q3⟩:=HQ.out
  refine leaves_cons (f:=90) (args:=#[.pointer (some ⟨M.mb,0,none⟩)]) (by simp) (by simp[go_sem]) ?_
  refine (unlock_deferred muLib ⟨M.mb,0,none⟩ .returning _ q0 q1).mono ?_
  rintro e u' w'' ⟨rfl,rfl,rfl⟩
  exact ⟨_,results_tmp2 rfl _ _ _,.inr ⟨fun x=>by rw[x.1]at hn;simp at hn;omega,rfl,uv',f',q2,q3⟩⟩
end
end Go.Proofs.YtdianedehhecoaaGreatDoor