/- The program's Fold. -/
import Derived.Test.YtdianedehhecoaaGreatDoorTProgBegins
import Derived.Test.YtdianedehhecoaaGreatDoorTWireReads
import Derived.Test.YtdianedehhecoaaGreatDoorTFmtHashes
import Derived.OwnWalk
set_option linter.unusedVariables false
set_option linter.unusedSimpArgs false
set_option maxHeartbeats 4000000
set_option maxRecDepth 100000
namespace Go.Proofs.YtdianedehhecoaaGreatDoor
open Go.RowKit
theorem pturns_cell {w:World}{N i:Nat}{ov:Value}{css:List (List RC)}{tvs:List Value}(h:PTurnsAt w N ov css tvs)(hi:i<css.length) :
  ∃ og ocap ta tn tcap,ov=.slice (some ⟨og,0,none⟩) css.length ocap∧og<w.heap.size∧tvs.getD i (.slice none 0 0)=.slice ta tn tcap∧w.cell? ⟨og,i,none⟩=some (.slice ta tn tcap):=by
 obtain ⟨og,ocap,he,ho,-,-,hc,-⟩:=h.row.form (by omega)
 have hl:=h.len
 have hget:tvs[i]? = some (tvs.getD i (.slice none 0 0)):=by simp[List.getD,List.getElem?_eq_getElem (show i<tvs.length by omega)]
 obtain ⟨ta,tn,tcap,htv⟩:∃ ta tn tcap,tvs.getD i (.slice none 0 0)=.slice ta tn tcap:=by
  rcases (h.each i hi).1.row.2 with ⟨h1,h2⟩|⟨g,cap,cur,h1,_⟩
  ·exact ⟨_,_,_,h1⟩
  ·exact ⟨_,_,_,h1⟩
 refine ⟨og,ocap,ta,tn,tcap,he,h.row.lt ho,htv,?_⟩
 have:=hc i _ hget
 rw[htv]at this
 exact this
theorem pturn_in {w w':World}{N:Nat}{tv:Value}{cs:List RC}(h:PTurnAt w N tv cs)(hb:Below w.heap.size w w') :
  tv=.slice none 0 0∧cs=[]∨0<cs.length∧RowAt w' 171 5 tv cs.length (rcCells cs)∧∀ k,tv.ownBlock=some k→¬ w.heap.size≤k:=by
 by_cases e:cs=[]
 ·exact .inl ⟨h.nil e,e⟩
 ·refine .inr ⟨List.length_pos_iff.2 e,(h.below hb).row,fun k hk=>?_⟩
  have:=h.row.lt hk
  omega
theorem toPS_own {S:RS}(hI:RInv S):∀ i,i<(toPS S).units.length→0≤((toPS S).units.getD i pu0).own∧((toPS S).units.getD i pu0).own<4:=fun i hi=>by
 have h1:=hI.toP.own i hi
 have h2:=hI.toP.g4
 omega
theorem PFold_any (seed players:Int)(s:ByteArray)(w:World)(hs:s.size≤140737488351232)(hC:Corners w)(hD:w.cell? ⟨4,15,none⟩=some (.int .u8 4)) :
  Calls Pz.prog 17 #[.int .i64 seed,.int .i64 players,.string s] w fun e w'=>foldSaid (foldF seed players s) e∧Below w.heap.size w w':=by
 have HCor:Hid (Corners w):=hC
 have HDB:=(show Hid _ from hD)
 have hDl:=cell_lt hD
 clear hC hD
 cases hmay:mayB seed players with
 | false =>
  have Hm:Hid (mayB seed players=false):=hmay
  have HF:Hid (foldF seed players s=(⟨#[]⟩,⟨#[]⟩,1)):=by unfold Hid foldF;rw[if_pos hmay]
  clear hmay
  go_enter Pz.func17,Tryz.ntmps17
  go_wp2_with (go_at_call 36;refine (MayBegin_any _ _ _).mono ?_;rintro e w1 ⟨rfl,hw⟩;rw[hw,Hm.out];clear hw w1)
  go_ret3
  refine ⟨?_,Below.refl _ _⟩
  rw[HF.out]
  exact rfl
 | true =>
  have Hm:Hid (mayB seed players=true):=hmay
  obtain ⟨s0,s1,p2,p4⟩:0≤seed∧seed≤999∧2≤players∧players≤4:=by unfold mayB at hmay;simpa using hmay
  obtain ⟨P,rfl⟩:=Int.eq_ofNat_of_zero_le (show 0≤players by omega)
  have HF:Hid (foldF seed P s=match turnsF s with
   | none=>(⟨#[]⟩,⟨#[]⟩,6)
   | some css=>match playF (startTo seed P) css with
    | none=>(⟨#[]⟩,⟨#[]⟩,9)
    | some S=>(bytesF S,hash16 (bytesF S),0)):=by unfold Hid foldF;rw[if_neg (by rw[hmay];simp)];rfl
  clear hmay
  go_enter Pz.func17,Tryz.ntmps17
  go_wp2_with (go_at_call 36;refine (MayBegin_any _ _ _).mono ?_;rintro e w1 ⟨rfl,hw⟩;rw[hw,Hm.out];clear hw w1)
  refine (ReadTurns_any s _ hs).mono ?_
  rintro e w1 ⟨hts,hb1⟩
  cases htu:turnsF s with
  | none =>
   rw[htu]at hts
   have he:e=.returned (.tuple #[.slice none 0 0,.bool false]):=hts
   subst he
   have HF2:Hid (foldF seed P s=(⟨#[]⟩,⟨#[]⟩,6)):=by unfold Hid;rw[HF.out,htu]
   clear htu hts HF
   go_wp2
   go_ret3
   refine ⟨?_,hb1⟩
   rw[HF2.out]
   exact rfl
  | some css =>
   rw[htu]at hts
   obtain ⟨ov,tvs,he,hta⟩:=hts
   subst he
   obtain ⟨hcl,hck⟩:=turnsF_some s css htu
   have HF2:Hid (foldF seed P s=match playF (startTo seed P) css with
    | none=>(⟨#[]⟩,⟨#[]⟩,9)
    | some S=>(bytesF S,hash16 (bytesF S),0)):=by unfold Hid;rw[HF.out,htu]
   have HCK:=(show Hid _ from hck)
   have Hta:Hid (PTurnsAt w1 w.heap.size ov css tvs):=hta
   have Hb1:Hid (Below w.heap.size w w1):=hb1
   obtain ⟨oa,ocap,hov⟩:∃ oa ocap,ov=.slice oa css.length ocap:=by
    rcases hta.row.2 with ⟨h1,h2⟩|⟨g,cap,cur,h1,_⟩
    ·exact ⟨none,0,by rw[h1,h2]⟩
    ·exact ⟨_,_,h1⟩
   subst hov
   have hsz1:=hb1.size
   have HC1:=(show Hid _ from PBegin_any seed P w1 s0 s1 (by omega) (Corners.below HCor.out hb1))
   clear htu hck hta hb1 HF
   go_wp2_with (go_at_call 38;refine Calls.mono HC1.out ?_;rintro e w2 ⟨rfl,⟨gv,uv,bs,hgx,hr2⟩,hb2⟩)
   obtain ⟨g2,hob2⟩:=hgx (by omega)
   have H2:=(show Hid _ from hr2)
   have Hb2:Hid (Below w1.heap.size w1 w2):=hb2
   have hsz2:=hb2.size
   clear hr2 hb2 HC1 hgx
   go_loopw [31] (fun iv wr=>∃ (i:Nat) (S:RS),i≤css.length∧iv=.int .i64 i∧(∃ gv uv bs g,uv.ownBlock=some g∧PAt wr (fun k=>w1.heap.size≤k) w1.heap.size (toPS S) gv uv bs)∧RInv S∧S.turn=i∧playF (startTo seed P) css=playF S (css.drop i)∧Below w1.heap.size w1 wr) (fun iv _=>css.length-(intOf iv).toNat)
   case atStart=>exact ⟨0,startTo seed P,Nat.zero_le _,rfl,⟨_,_,_,_,hob2,H2.out⟩,startTo_inv seed P (by omega) (by omega),(startTo_ore seed P).2,rfl,Hb2.out⟩
   case round =>
    clear H2 Hb2
    obtain ⟨i,S,hi,rfl,⟨gv,uv,bs,g,hob,hr⟩,hI,htn,hpl,hbel⟩:=hrel
    have Hr:=(show Hid _ from hr)
    have HI:Hid (RInv S):=hI
    have Hpl:Hid (playF (startTo seed P) css=playF S (css.drop i)):=hpl
    have Htn:Hid (S.turn=i):=htn
    have Hbel:Hid (Below w1.heap.size w1 wr):=hbel
    have hszr:=hbel.size
    have HOV:=(show Hid _ from POver_any hr hob hI.toP.n (toPS_own hI))
    have hovr:overP (toPS S).units=overB S:=over_rel hI
    rw[hovr]at HOV
    clear hr hI htn hpl hbel hovr
    by_cases hlt:i<css.length
    ·have hdrop:css.drop i=css.getD i [] :: css.drop (i+1):=by
      rw[List.drop_eq_getElem_cons hlt];simp[List.getD,List.getElem?_eq_getElem hlt]
     obtain ⟨og,ocap',ta,tn,tcap,hoe,hog,htve,hcell⟩:=pturns_cell Hta.out hlt
     have hoa:oa=some ⟨og,0,none⟩:=by injection hoe
     subst hoa
     have cwr:=(Hbel.out.cell (p:=⟨og,i,none⟩) hog).trans hcell
     have heach:=(Hta.out.each i hlt).1
     rw[htve]at heach
     have Heach:=(show Hid _ from heach)
     clear hoe htve hcell heach
     cases hov:overB S with
     | true =>
      have HF3:Hid (foldF seed P s=(⟨#[]⟩,⟨#[]⟩,9)):=by
       unfold Hid;rw[HF2.out,Hpl.out,hdrop]
       simp[playF,hov]
      rw[hov]at HOV
      clear hov hdrop HF2
      go_wp2_with (go_at_call 39;refine Calls.mono HOV.out ?_;rintro e w3 ⟨rfl,hb3⟩)
      go_ret3
      refine ⟨?_,Hb1.out.trans ((Hbel.out.trans (hb3.mono hszr)).mono hsz1)⟩
      rw[HF3.out]
      exact rfl
     | false =>
      have Hp2:Hid (playF (startTo seed P) css=playF (doF S (css.getD i [])) (css.drop (i+1))):=by
       unfold Hid;rw[Hpl.out,hdrop];simp[playF,hov]
      rw[hov]at HOV
      clear hov hdrop
      obtain ⟨hck1,hck2⟩:=HCK.out i hlt
      have Hck2:=(show Hid _ from hck2)
      clear hck2
      have ht0:0≤S.turn:=by rw[Htn.out];omega
      have ht1:S.turn≤1000:=by rw[Htn.out];omega
      go_wp2_with (first
       | (go_at_call 39;refine Calls.mono HOV.out ?_;rintro e w3 ⟨rfl,hb3⟩)
       | (go_at_call 40;refine (PDo_any (css.getD i []) Hck2.out hck1 (Hr.out.below hb3) hob HI.out ht0 ht1 (pturn_in Heach.out (Hbel.out.trans (hb3.mono hszr)))).mono ?_;rintro e w4 ⟨rfl,hm4⟩))
      go_light
      obtain ⟨⟨uv4,g4,bs4,hob4,h4⟩,hk4⟩:=hm4
      have hsz3:=hb3.size
      refine ⟨⟨i+1,doF S (css.getD i []),by omega,by go_num,⟨gv,uv4,bs4,g4,hob4,h4.grow (fun k hk=>?_)⟩,HI.out.doF _,?_,Hp2.out,(Hbel.out.trans (hb3.mono hszr)).trans (hk4.below (B:=w1.heap.size) (fun j hj=>hj) (by omega))⟩,by simp[intOf];omega⟩
      ·rcases hk with hk|hk
       ·exact hk
       ·omega
      ·rw[(doF_turn S _).1,Htn.out];omega
    ·have hdrop:css.drop i=[]:=List.drop_of_length_le (by omega)
     have HF3:Hid (foldF seed P s=(bytesF S,hash16 (bytesF S),0)):=by
      unfold Hid;rw[HF2.out,Hpl.out,hdrop];simp[playF]
     clear hdrop HF2 HOV
     have hbs:(bytesF S).size≤100000:=by have:=bytesF_size S HI.out;omega
     have HB:=(show Hid _ from PBytes_any Hr.out hob HI.out.toP)
     have hbr:strOfNums (bytesN (toPS S))=bytesF S:=bytes_rel S HI.out.ore
     rw[hbr]at HB
     have HD3:Hid (∀ W,Below wr.heap.size wr W→W.cell? ⟨4,15,none⟩=some (.int .u8 4)):=fun W hW =>
      ((Hb1.out.trans ((Hbel.out.trans (hW.mono hszr)).mono hsz1)).cell (p:=⟨4,15,none⟩) hDl).trans HDB.out
     clear hbr
     go_wp2_with (first
      | (go_at_call 41;refine Calls.mono HB.out ?_;rintro e w3 ⟨rfl,hb3⟩;have hsz3:=hb3.size)
      | (go_at_call 42;refine (WHash_any _ _ hbs (HD3.out _ hb3)).mono ?_;rintro e w4 ⟨rfl,hb4⟩))
     go_ret3
     refine ⟨?_,Hb1.out.trans (((Hbel.out.trans (hb3.mono hszr)).trans (hb4.mono (by omega))).mono hsz1)⟩
     rw[HF3.out]
     exact rfl
end Go.Proofs.YtdianedehhecoaaGreatDoor