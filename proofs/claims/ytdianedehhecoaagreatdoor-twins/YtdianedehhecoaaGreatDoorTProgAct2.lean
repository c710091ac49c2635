/- The program's act: what it leaves. -/
import Derived.Test.YtdianedehhecoaaGreatDoorTProgAct
import Derived.Test.YtdianedehhecoaaGreatDoorTProgHires
import Derived.Test.YtdianedehhecoaaGreatDoorTProgTrains
set_option linter.unusedVariables false
set_option linter.unusedSimpArgs false
namespace Go.Proofs.YtdianedehhecoaaGreatDoor
open Go.RowKit
def ActedS (O:Nat→Prop)(w:World)(b:Nat)(gv:Value)(ub:Nat)(N:Int)(S':PS)(w':World):Prop :=
 (∃ uv' g' bs' k',uv'.ownBlock=some g'∧k'<S'.units.length∧bs'.getD k' 0=ub∧(S'.units.getD k' pu0).num=N∧PAt w' (fun k=>O k∨w.heap.size≤k) b S' gv uv' bs')∧Keep O w w'
theorem ActedS.same {O:Nat→Prop}{w w':World}{b g k:Nat}{S:PS}{gv uv:Value}{bs:List Nat}(h:PAt w' O b S gv uv bs)(hob:uv.ownBlock=some g)(hk:k<S.units.length)(kp:Keep O w w'):ActedS O w b gv (bs.getD k 0) (S.units.getD k pu0).num S w' :=
 ⟨⟨uv,g,bs,k,hob,hk,rfl,rfl,h.grow fun _ q=>.inl q⟩,kp⟩
theorem ActedS.back {O:Nat→Prop}{w W w':World}{b ub:Nat}{N:Int}{gv:Value}{S':PS}(q:ActedS O W b gv ub N S' w')(hW:Below w.heap.size w W):ActedS O w b gv ub N S' w':=by
 obtain ⟨⟨uv',g',bs',k',h1,h2,h3,h4,h5⟩,h6⟩:=q
 have:=hW.size
 exact ⟨⟨uv',g',bs',k',h1,h2,h3,h4,h5.grow fun k q=>by rcases q with q|q;exact .inl q;exact .inr (by omega)⟩,((Keep.ofBelow hW).mono (O':=O) (fun j hj=>.inr hj)).trans h6 fun j q=>.inl q⟩
theorem keepBelow {O:Nat→Prop}{w w':World}(h:Below w.heap.size w w'):Keep O w w':=(Keep.ofBelow h).mono (fun j hj=>.inr hj)
theorem actF_1 (S:PS)(k:Nat)(x y:Int):actF S k 1 x y=if (S.units.getD k pu0).kind=1∨S.units.findIdx (onP x y)<S.units.length then (S,false) else ({ S with units:=S.units.set k { S.units.getD k pu0 with x:=x,y:=y } },true):=by
 unfold actF;rw[if_pos rfl]
theorem actF_2 (S:PS)(k:Nat)(x y:Int):actF S k 2 x y=if S.units.findIdx (onP x y)<S.units.length∧(S.units.getD (S.units.findIdx (onP x y)) pu0).own≠(S.units.getD k pu0).own then ({ S with units:=(hurtS S (S.units.findIdx (onP x y)) (hitOf (S.units.getD k pu0).kind)).units.filter fun u=>!deadP u },true) else (S,false):=by
 unfold actF;rw[if_neg (by decide),if_pos rfl]
theorem actF_3 (S:PS)(k:Nat)(x y:Int):actF S k 3 x y=if (S.units.getD k pu0).kind≠2∨S.ore.getD (8*y+x).toNat 0=0 then (S,false)
  else ({ S with ore:=S.ore.set (8*y+x).toNat (S.ore.getD (8*y+x).toNat 0-1),gold:=S.gold.set (S.units.getD k pu0).own.toNat (S.gold.getD (S.units.getD k pu0).own.toNat 0+1) },true):=by
 unfold actF;rw[if_neg (by decide),if_neg (by decide),if_pos rfl]
theorem actF_4 (S:PS)(k a:Nat)(x y:Int)(ha:(S.units.getD k pu0).own=a):actF S k 4 x y=if (S.units.getD k pu0).kind≠1 then (S,false) else buyF S a 2 2 x y:=by
 unfold actF buyF;rw[if_neg (by decide),if_neg (by decide),if_neg (by decide),if_pos (.inl rfl),ha]
 rw[show ((a:Int)).toNat=a by omega,show (4-2:Int)=2 by rfl]
 by_cases c:(S.units.getD k pu0).kind≠1
 ·rw[if_pos c,if_pos (.inl c)]
 ·rw[if_neg c]
  by_cases d:S.units.findIdx (onP x y)<S.units.length∨S.gold.getD a 0<2∨40≤S.units.length
  ·rw[if_pos d,if_pos (.inr d)]
  ·rw[if_neg d,if_neg (fun q=>by rcases q with q|q;exact c q;exact d q)]
theorem actF_5 (S:PS)(k a:Nat)(x y:Int)(ha:(S.units.getD k pu0).own=a):actF S k 5 x y=if (S.units.getD k pu0).kind≠1 then (S,false) else buyF S a 3 3 x y:=by
 unfold actF buyF;rw[if_neg (by decide),if_neg (by decide),if_neg (by decide),if_pos (.inr rfl),ha]
 rw[show ((a:Int)).toNat=a by omega,show (5-2:Int)=3 by rfl]
 by_cases c:(S.units.getD k pu0).kind≠1
 ·rw[if_pos c,if_pos (.inl c)]
 ·rw[if_neg c]
  by_cases d:S.units.findIdx (onP x y)<S.units.length∨S.gold.getD a 0<3∨40≤S.units.length
  ·rw[if_pos d,if_pos (.inr d)]
  ·rw[if_neg d,if_neg (fun q=>by rcases q with q|q;exact c q;exact d q)]
theorem actF_0 (S:PS)(k:Nat)(wh x y:Int)(h1:wh≠1)(h2:wh≠2)(h3:wh≠3)(h4:wh≠4)(h5:wh≠5):actF S k wh x y=(S,false):=by
 unfold actF;rw[if_neg h1,if_neg h2,if_neg h3,if_neg (fun q=>by rcases q with q|q;exact h4 q;exact h5 q)]
theorem moveF_act (S:PS)(bs:List Nat)(k:Nat)(x y:Int)(hl:bs.length=S.units.length)(hk:(S.units.getD k pu0).kind≠1):moveF S bs k x y=actF S k 1 x y:=by
 rw[actF_1]
 unfold moveF
 rw[findU_idx _ _ _ hl]
 by_cases c:S.units.findIdx (onP x y)<S.units.length
 ·rw[if_pos c,if_pos (.inr c)]
 ·rw[if_neg c,if_neg (fun q=>by rcases q with q|q;exact hk q;exact c q)]
theorem getD_append_nat (bs t:List Nat)(k:Nat)(h:k<bs.length):(bs++t).getD k 0=bs.getD k 0:=by
 simp[List.getD,List.getElem?_append_left h]
theorem ActedS.bought {O:Nat→Prop}{w w':World}{b k a:Nat}{S:PS}{gv:Value}{bs:List Nat}{pr x y:Int}(hl:bs.length=S.units.length)(hk:k<S.units.length)
  (q:(∃ uv' g' t,uv'.ownBlock=some g'∧PAt w' (fun k=>O k∨w.heap.size≤k) b (buyF S a pr pr x y).1 gv uv' (bs++t))∧Keep O w w'):ActedS O w b gv (bs.getD k 0) (S.units.getD k pu0).num (buyF S a pr pr x y).1 w':=by
 obtain ⟨⟨uv',g',t,h1,h2⟩,h3⟩:=q
 refine ⟨⟨uv',g',bs++t,k,h1,?_,getD_append_nat _ _ _ (by omega),?_,h2⟩,h3⟩
 ·unfold buyF
  split
  ·exact hk
  ·simp;omega
 ·unfold buyF
  split
  ·rfl
  ·show ((S.units++[_]).getD k pu0).num=_
   rw[getD_push_pu,if_pos hk]
theorem ActedS.struck {O:Nat→Prop}{w w':World}{b g k:Nat}{S:PS}{gv:Value}{bs:List Nat}{x y:Int}(hl:bs.length=S.units.length)(hk:k<S.units.length)(hp:0<(S.units.getD k pu0).hp)
  (q:(∃ uv',uv'.ownBlock=some g∧PAt w' O b (strikeF S bs k x y (hitOf (S.units.getD k pu0).kind)).1 gv uv' (strikeF S bs k x y (hitOf (S.units.getD k pu0).kind)).2.1)∧Keep O w w') :
  (strikeF S bs k x y (hitOf (S.units.getD k pu0).kind)).2.2=(actF S k 2 x y).2∧ActedS O w b gv (bs.getD k 0) (S.units.getD k pu0).num (actF S k 2 x y).1 w':=by
 obtain ⟨⟨uv',h1,h2⟩,h3⟩:=q
 rw[actF_2]
 unfold strikeF at *
 simp only at h2 ⊢
 generalize hj:S.units.findIdx (onP x y)=j at *
 generalize hitOf (S.units.getD k pu0).kind=bl at *
 by_cases c:j<S.units.length∧(S.units.getD j pu0).own≠(S.units.getD k pu0).own
 ·rw[if_pos c]at h2
  rw[if_pos c]
  rw[if_pos c]
  refine ⟨rfl,?_⟩
  have hlen:bs.length=(hurtS S j bl).units.length:=by simp[hurtS,hl]
  have hne:k≠j:=fun e=>c.2 (by rw[e])
  have hkk:(hurtS S j bl).units.getD k pu0=S.units.getD k pu0:=by
   simp only[hurtS]
   rw[getD_set_pu,if_neg (fun q=>hne q.1)]
  obtain ⟨k',e1,e2,e3⟩:=fUB_keep deadP (hurtS S j bl).units bs hlen k (by simp[hurtS];exact hk) (by rw[hkk];exact decide_eq_false (by omega))
  simp only at h2
  have hf:=fU_filter deadP (hurtS S j bl).units bs hlen
  rw[hf]at h2 e1 e2
  refine ⟨⟨uv',g,_,k',h1,e1,e3,?_,h2.grow fun _ q=>.inl q⟩,h3⟩
  show (((hurtS S j bl).units.filter fun u=>!deadP u).getD k' pu0).num=_
  rw[e2,hkk]
 ·rw[if_neg c]at h2
  rw[if_neg c]
  rw[if_neg c]
  exact ⟨rfl,ActedS.same h2 h1 hk h3⟩
theorem ActedS.moved {O:Nat→Prop}{w W w':World}{b g k:Nat}{S:PS}{gv uv:Value}{bs:List Nat}{x y:Int}(hW:Below w.heap.size w W)(hob:uv.ownBlock=some g)(hk:k<S.units.length)
  (h:PAt w' O b (moveF S bs k x y).1 gv uv bs)(kp:Keep O W w'):ActedS O w b gv (bs.getD k 0) (S.units.getD k pu0).num (moveF S bs k x y).1 w':=by
 refine ActedS.back ?_ hW
 have hlen:(moveF S bs k x y).1.units.length=S.units.length:=by unfold moveF;split<;>simp
 have hnum:((moveF S bs k x y).1.units.getD k pu0).num=(S.units.getD k pu0).num:=by
  unfold moveF
  split
  ·rfl
  ·show ((S.units.set k _).getD k pu0).num=_
   rw[getD_set_pu,if_pos ⟨rfl,hk⟩]
 have:=ActedS.same (k:=k) h hob (by rw[hlen];exact hk) kp
 rw[hnum]at this
 exact this
theorem strT3 (k:Int)(h:k=1∨k=2∨k=3):(k=1∧ptrT k=236)∨(k=2∧ptrT k=239)∨(k=3∧ptrT k=346):=by
 rcases h with rfl|rfl|rfl
 ·exact .inl ⟨rfl,rfl⟩
 ·exact .inr (.inl ⟨rfl,rfl⟩)
 ·exact .inr (.inr ⟨rfl,rfl⟩)
theorem act_any {w:World}{O:Nat→Prop}{b g k:Nat}{S:PS}{gv uv:Value}{bs:List Nat}(wh x y:Int)(h:PAt w O b S gv uv bs)(hob:uv.ownBlock=some g)(hI:PInv S)(hk:k<S.units.length)
  (hx0:0≤x)(hx7:x≤7)(hy0:0≤y)(hy7:y≤7) :
  Calls Pz.prog 143 #[.pointer (some ⟨b,0,none⟩),uVal (S.units.getD k pu0) (bs.getD k 0),.int .i64 wh,.agg #[.int .i64 x,.int .i64 y]] w fun e w' =>
   e=.returned (.bool (actF S k wh x y).2)∧ActedS O w b gv (bs.getD k 0) (S.units.getD k pu0).num (actF S k wh x y).1 w':=by
 have hl:=h.blen
 obtain ⟨o0,o1⟩:=hI.own k hk
 obtain ⟨p0,p1⟩:=hI.hp k hk
 obtain ⟨a,ha⟩:=Int.eq_ofNat_of_zero_le o0
 have hal:a<S.gold.length:=by omega
 obtain ⟨ga0,ga1⟩:=hI.gold a
 have hhp:∀ i,i<S.units.length→-100≤(S.units.getD i pu0).hp∧(S.units.getD i pu0).hp≤100:=fun i hi=>by have:=hI.hp i hi;omega
 have hkd:=strT3 _ (h.kinds k hk)
 unfold uVal
  -- what a kind doesn't do
 have hno:∀ {F:Nat} {W:World},Below w.heap.size w W→Calls Pz.prog F #[.pointer (some ⟨bs.getD k 0,0,none⟩),.pointer (some ⟨b,0,none⟩),.agg #[.int .i64 x,.int .i64 y]] W (fun e w'=>e=.returned (.bool false)∧Below W.heap.size W w') →
   Calls Pz.prog F #[.pointer (some ⟨bs.getD k 0,0,none⟩),.pointer (some ⟨b,0,none⟩),.agg #[.int .i64 x,.int .i64 y]] W (fun e w'=>e=.returned (.bool false)∧ActedS O w b gv (bs.getD k 0) (S.units.getD k pu0).num S w'):=fun hW hc =>
  hc.mono fun e w' ⟨q1,q2⟩=>⟨q1,(ActedS.same (h.below (hW.trans (q2.mono hW.size))) hob hk (keepBelow (hW.trans (q2.mono hW.size))))⟩
 by_cases w1:wh=1
 ·subst w1
  rcases hkd with ⟨e,eT⟩|⟨e,eT⟩|⟨e,eT⟩
  ·have hF:actF S k 1 x y=(S,false):=by rw[actF_1,if_pos (.inl e)]
   rw[eT,hF]
   exact actBaseMove (fun W=>meth_base_move _ W) fun W hW=>hno hW (moveBase_any _ _ x y W)
  ·rw[eT,← moveF_act S bs k x y hl (by omega)]
   exact actBodyMove (fun W=>meth_worker_move _ W) fun W hW=>(move_any x y (h.below hW) hob hI.n hk).mono fun e w' ⟨q1,q2,q3⟩=>⟨q1,ActedS.moved hW hob hk q2 q3⟩
  ·rw[eT,← moveF_act S bs k x y hl (by omega)]
   exact actBodyMove (fun W=>meth_soldier_move _ W) fun W hW=>(move_any x y (h.below hW) hob hI.n hk).mono fun e w' ⟨q1,q2,q3⟩=>⟨q1,ActedS.moved hW hob hk q2 q3⟩
 by_cases w2:wh=2
 ·subst w2
  have hst:∀ {W w':World} {bl:Int},Below w.heap.size w W→bl=hitOf (S.units.getD k pu0).kind→∀ e,ActPost O W b g gv (strikeF S bs k x y bl) e w'→e=.returned (.bool (actF S k 2 x y).2)∧ActedS O w b gv (bs.getD k 0) (S.units.getD k pu0).num (actF S k 2 x y).1 w':=by
   rintro W w' bl hW rfl e ⟨q1,q2⟩
   obtain ⟨r1,r2⟩:=ActedS.struck hl hk p0 q2
   exact ⟨by rw[← r1];exact q1,r2.back hW⟩
  rcases hkd with ⟨e,eT⟩|⟨e,eT⟩|⟨e,eT⟩
  ·rw[eT]
   exact actBaseHit (fun W=>meth_base_hit _ W) fun W hW=>(hitBase_any x y (h.below hW) hob hI.n hk hhp).mono fun e' w' q=>hst hW (by rw[e];rfl) e' q
  ·rw[eT]
   exact actWorkerHit (fun W=>meth_worker_hit _ W) fun W hW=>(hitWorker_any x y (h.below hW) hob hI.n hk hhp).mono fun e' w' q=>hst hW (by rw[e];rfl) e' q
  ·rw[eT]
   exact actSoldierHit (fun W=>meth_soldier_hit _ W) fun W hW=>(hitSoldier_any x y (h.below hW) hob hI.n hk hhp).mono fun e' w' q=>hst hW (by rw[e];rfl) e' q
 by_cases w3:wh=3
 ·subst w3
  rcases hkd with ⟨e,eT⟩|⟨e,eT⟩|⟨e,eT⟩
  ·have hF:actF S k 3 x y=(S,false):=by rw[actF_3,if_pos (.inl (by omega))]
   rw[eT,hF]
   exact actBodyDig (fun W=>meth_base_dig _ W) fun W hW=>hno hW (digBody_any _ _ x y W)
  ·rw[eT]
   refine actWorkerDig (fun W=>meth_worker_dig _ W) fun W hW=>(dig_any x y (h.below hW) hob hk hx0 hx7 hy0 hy7 o0 o1 hI.g4 hI.gold hI.ore).mono ?_
   rintro e' w' ⟨q1,⟨uv',q2,q3⟩,q4⟩
   have hd:digF S bs k x y=((actF S k 3 x y).1,bs,(actF S k 3 x y).2):=by
    rw[actF_3]
    unfold digF
    by_cases c:S.ore.getD (8*y+x).toNat 0=0
    ·rw[if_pos c,if_pos (.inr c)]
    ·rw[if_neg c,if_neg (fun q=>by rcases q with q|q;exact q e;exact c q)]
   rw[hd]at q1 q3
   have hlu:(actF S k 3 x y).1.units=S.units:=by rw[actF_3];split<;>rfl
   refine ⟨q1,ActedS.back ?_ hW⟩
   have:=ActedS.same (k:=k) q3 q2 (by rw[hlu];exact hk) q4
   rw[hlu]at this
   exact this
  ·have hF:actF S k 3 x y=(S,false):=by rw[actF_3,if_pos (.inl (by omega))]
   rw[eT,hF]
   exact actBodyDig (fun W=>meth_soldier_dig _ W) fun W hW=>hno hW (digBody_any _ _ x y W)
 by_cases w4:wh=4
 ·subst w4
  rw[actF_4 S k a x y ha]
  rcases hkd with ⟨e,eT⟩|⟨e,eT⟩|⟨e,eT⟩
  ·rw[eT,if_neg (fun q=>q e)]
   refine actBaseHire (fun W=>meth_base_hire _ W) fun W hW=>(hireBase_any x y (h.below hW) hob hI.n hk ha hal hI.g4 ga0 ga1 hI.l0 hI.l1).mono ?_
   rintro e' w' ⟨q1,q2⟩
   exact ⟨q1,(ActedS.bought hl hk q2).back hW⟩
  ·rw[eT,if_pos (by omega)]
   exact actBodyHire (fun W=>meth_worker_hire _ W) fun W hW=>hno hW (hireBody_any _ _ x y W)
  ·rw[eT,if_pos (by omega)]
   exact actBodyHire (fun W=>meth_soldier_hire _ W) fun W hW=>hno hW (hireBody_any _ _ x y W)
 by_cases w5:wh=5
 ·subst w5
  rw[actF_5 S k a x y ha]
  rcases hkd with ⟨e,eT⟩|⟨e,eT⟩|⟨e,eT⟩
  ·rw[eT,if_neg (fun q=>q e)]
   refine actBaseTrain (fun W=>meth_base_train _ W) fun W hW=>(trainBase_any x y (h.below hW) hob hI.n hk ha hal hI.g4 ga0 ga1 hI.l0 hI.l1).mono ?_
   rintro e' w' ⟨q1,q2⟩
   exact ⟨q1,(ActedS.bought hl hk q2).back hW⟩
  ·rw[eT,if_pos (by omega)]
   exact actBodyTrain (fun W=>meth_worker_train _ W) fun W hW=>hno hW (trainBody_any _ _ x y W)
  ·rw[eT,if_pos (by omega)]
   exact actBodyTrain (fun W=>meth_soldier_train _ W) fun W hW=>hno hW (trainBody_any _ _ x y W)
 rw[actF_0 S k wh x y w1 w2 w3 w4 w5]
 exact (actNone w1 w2 w3 w4 w5).mono fun e w' ⟨q1,q2⟩=>⟨q1,ActedS.same (h.below q2) hob hk (keepBelow q2)⟩
end Go.Proofs.YtdianedehhecoaaGreatDoor