/- The program's obey. -/
import Derived.Test.YtdianedehhecoaaGreatDoorTProgAct2
set_option linter.unusedVariables false
set_option linter.unusedSimpArgs false
namespace Go.Proofs.YtdianedehhecoaaGreatDoor
open Go.RowKit
def Obeyed (O:Nat→Prop)(w:World)(b:Nat)(gv:Value)(S':PS)(w':World):Prop :=
 (∃ uv' g' bs',uv'.ownBlock=some g'∧PAt w' (fun k=>O k∨w.heap.size≤k) b S' gv uv' bs')∧Keep O w w'
theorem Obeyed.same {O:Nat→Prop}{w w':World}{b g:Nat}{S:PS}{gv uv:Value}{bs:List Nat}(h:PAt w' O b S gv uv bs)(hob:uv.ownBlock=some g)(kp:Keep O w w'):Obeyed O w b gv S w' :=
 ⟨⟨uv,g,bs,hob,h.grow fun _ q=>.inl q⟩,kp⟩
theorem nearB_split (x y a b:Int):nearB x y a b=(fieldB x y && nbB a b x y):=by
 unfold nearB fieldB nbB
 rw[Bool.eq_iff_iff]
 simp
 omega
theorem Obeyed.acted {O:Nat→Prop}{w w1 w':World}{b ub:Nat}{N:Int}{S':PS}{gv:Value}(r:Bool)(hd:NumsD S'.units)(h1:Below w.heap.size w w1)(q:ActedS O w1 b gv ub N S' w') :
  Obeyed O w b gv { S' with units:=updN N (fun v=>{ v with acted:=r }) S'.units } (w'.setCell ⟨ub,6,none⟩ (.bool r)):=by
 obtain ⟨⟨uv',g',bs',k',h2,h3,rfl,rfl,h5⟩,h6⟩:=q.back h1
 refine ⟨⟨uv',g',bs',h2,?_⟩,?_⟩
 ·have:=h5.setU (f:=6) (v:=.bool r) h3 { S'.units.getD k' pu0 with acted:=r } rfl rfl
  rw[set_updN (fun v=>{ v with acted:=r }) S'.units k' hd h3]at this
  exact this
 ·have hl:=h5.blen
  have hm:bs'.getD k' 0∈bs':=by simp[List.getD,List.getElem?_eq_getElem (show k'<bs'.length by omega)]
  exact h6.set (h5.oe _ hm).1
theorem ActedS.cell6 {O:Nat→Prop}{w w':World}{b ub:Nat}{N:Int}{S':PS}{gv:Value}(q:ActedS O w b gv ub N S' w'):(∃ r,w'.cell? ⟨ub,6,none⟩=some (.bool r))∧w'.frozen? ⟨ub,6,none⟩=false:=by
 obtain ⟨⟨uv',g',bs',k',h2,h3,rfl,rfl,h5⟩,h6⟩:=q
 exact ⟨⟨_,(h5.each k' h3).cell rfl⟩,(h5.each k' h3).free 6⟩
theorem act_nums {S:PS}(hd:NumsD S.units)(hl:∀ u∈S.units,u.num≤S.last)(k:Nat)(hk:k<S.units.length)(wh x y:Int):NumsD (actF S k wh x y).1.units:=by
 have hset:∀ (j:Nat) (f:PU→PU),(∀ u,(f u).num=u.num)→NumsD (S.units.set j (f (S.units.getD j pu0))):=by
  intro j f hf
  by_cases hj:j<S.units.length
  ·rw[set_updN f S.units j hd hj]
   unfold updN NumsD
   rw[List.pairwise_map]
   refine hd.imp ?_
   intro a b hab
   have e:∀ u:PU,(if u.num=(S.units.getD j pu0).num then f u else u).num=u.num:=fun u=>by split;exact hf u;rfl
   rw[e,e]
   exact hab
  ·rw[List.set_eq_of_length_le (by omega)]
   exact hd
 have hpush:∀ u:PU,u.num=S.last+1→NumsD (S.units++[u]):=by
  intro u hu
  unfold NumsD
  rw[List.pairwise_append]
  refine ⟨hd,List.pairwise_singleton _ _,fun a ha c hc=>?_⟩
  have:=hl a ha
  simp at hc
  subst hc
  omega
 unfold actF
 simp only
 repeat' split
 all_goals first
  | exact hd
  | exact hset k (fun u=>{ u with x:=x,y:=y }) (fun u=>rfl)
  | exact List.Pairwise.filter _ (hset _ (fun u=>{ u with hp:=u.hp-hitOf (S.units.getD k pu0).kind }) (fun u=>rfl))
  | exact hpush _ rfl
end Go.Proofs.YtdianedehhecoaaGreatDoor