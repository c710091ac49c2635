/- The document's state and the program's: what each rule makes of one it makes of the other. No walk. -/
import Derived.Test.YtdianedehhecoaaGreatDoorTProgIns
import Derived.Test.YtdianedehhecoaaGreatDoorTProgPlaces
set_option linter.unusedVariables false
set_option linter.unusedSimpArgs false
namespace Go.Proofs.YtdianedehhecoaaGreatDoor
open Go.RowKit
def cvU (i:Nat)(u:RU):PU:=⟨(i:Int)+1,u.own,u.kind,u.x,u.y,u.hp,u.busy⟩
def liveP (u:PU):Bool:=decide (0<u.hp)
def cv (us:List RU):List PU:=us.mapIdx cvU
def relU (us:List RU):List PU:=(cv us).filter liveP
def toPS (S:RS):PS:=⟨S.turn,S.units.length,S.gold,S.ore,relU S.units⟩
def updN (N:Int)(f:PU→PU)(L:List PU):List PU:=L.map fun u=>if u.num=N then f u else u
def NumsD (L:List PU):Prop:=L.Pairwise fun a b=>a.num≠b.num
theorem cv_len (us:List RU):(cv us).length=us.length:=by simp [cv]
theorem cv_get (us:List RU)(j:Nat)(hj:j<us.length):(cv us).getD j pu0=cvU j (us.getD j ru0):=by
 simp[cv,List.getD,List.getElem?_eq_getElem hj]
theorem cv_nums (us:List RU):NumsD (cv us):=by
 unfold NumsD
 rw[List.pairwise_iff_getElem]
 intro i j hi hj hlt
 simp only[cv,List.getElem_mapIdx,cvU]
 omega
theorem relU_nums (us:List RU):NumsD (relU us):=List.Pairwise.filter _ (cv_nums us)
theorem updN_none (N:Int)(f:PU→PU)(L:List PU)(h:∀ u∈L,u.num≠N):updN N f L=L:=by
 unfold updN
 induction L with
 | nil=>rfl
 | cons u L ih =>
  have h1:u.num≠N:=h u (by simp)
  simp only[List.map_cons,if_neg h1]
  rw[ih fun v hv=>h v (by simp[hv])]
theorem set_updN (f:PU→PU)(L:List PU)(k:Nat)(hd:NumsD L)(hk:k<L.length):L.set k (f (L.getD k pu0))=updN (L.getD k pu0).num f L:=by
 induction L generalizing k with
 | nil=>simp at hk
 | cons u L ih =>
  have hd':=List.pairwise_cons.1 hd
  cases k with
  | zero =>
   have:=updN_none u.num f L (fun v hv=>(hd'.1 v hv).symm)
   simp only[List.set_cons_zero,List.getD_cons_zero]
   unfold updN at *
   simp only[List.map_cons,if_true,this]
  | succ k =>
   have hk':k<L.length:=by simpa using hk
   have:=ih k hd'.2 hk'
   simp only[List.set_cons_succ,List.getD_cons_succ]
   have hm:L.getD k pu0∈L:=by simp[List.getD,List.getElem?_eq_getElem hk']
   have hne:=hd'.1 _ hm
   unfold updN at *
   simp only[List.map_cons,if_neg hne,this]
theorem cv_set (us:List RU)(j:Nat)(u':RU)(f:PU→PU)(hj:j<us.length)(hf:f (cvU j (us.getD j ru0))=cvU j u'):cv (us.set j u')=updN ((j:Int)+1) f (cv us):=by
 have h1:cv (us.set j u')=(cv us).set j (cvU j u'):=by
  apply List.ext_getElem?
  intro i
  simp only[cv,List.getElem?_mapIdx,List.getElem?_set,List.length_mapIdx]
  by_cases e:j=i
  ·subst e;simp[hj]
  ·simp[e]
 rw[h1,← hf]
 have h2:=set_updN f (cv us) j (cv_nums us) (by rw[cv_len];exact hj)
 rw[cv_get us j hj]at h2
 exact h2
theorem updN_filter (N:Int)(f:PU→PU)(L:List PU)(h:∀ u∈L,u.num=N→liveP (f u)=liveP u):(updN N f L).filter liveP=updN N f (L.filter liveP):=by
 unfold updN
 induction L with
 | nil=>rfl
 | cons u L ih =>
  have ih':=ih fun v hv=>h v (by simp[hv])
  have hu:=h u (by simp)
  simp only[List.map_cons,List.filter_cons]
  by_cases e:u.num=N
  ·simp only[if_pos e,hu e]
   cases liveP u<;>simp[ih',e]
  ·simp only[if_neg e]
   cases liveP u<;>simp[ih',e]
theorem updN_filter2 (N:Int)(f:PU→PU)(L:List PU)(h:∀ u∈L,u.num=N→liveP (f u)=true→liveP u=true):(updN N f (L.filter liveP)).filter liveP=(updN N f L).filter liveP:=by
 unfold updN
 induction L with
 | nil=>rfl
 | cons u L ih =>
  have ih':=ih fun v hv=>h v (by simp[hv])
  have hu:=h u (by simp)
  simp only[List.map_cons,List.filter_cons]
  by_cases e:u.num=N
  ·cases hl:liveP u
   ·have:liveP (f u)=false:=by
     cases hq:liveP (f u)
     ·rfl
     ·rw[hu e hq]at hl;cases hl
    simp[ih',e,this]
   ·simp only[if_true,List.map_cons,List.filter_cons,if_pos e,ih']
  ·cases hl:liveP u
   ·simp[ih',e,hl]
   ·simp[ih',e,hl]
theorem mem_cv (us:List RU)(u:PU):u∈cv us↔∃ i,i<us.length∧u=cvU i (us.getD i ru0):=by
 unfold cv
 rw[List.mem_mapIdx]
 constructor
 ·rintro ⟨i,hi,rfl⟩
  exact ⟨i,hi,by simp[List.getD,List.getElem?_eq_getElem hi]⟩
 ·rintro ⟨i,hi,rfl⟩
  exact ⟨i,hi,by simp[List.getD,List.getElem?_eq_getElem hi]⟩
theorem mem_relU (us:List RU)(u:PU):u∈relU us↔∃ i,i<us.length∧u=cvU i (us.getD i ru0)∧0<(us.getD i ru0).hp:=by
 unfold relU
 rw[List.mem_filter,mem_cv]
 constructor
 ·rintro ⟨⟨i,hi,rfl⟩,hl⟩
  exact ⟨i,hi,rfl,by simpa [liveP,cvU] using hl⟩
 ·rintro ⟨i,hi,rfl,hl⟩
  exact ⟨⟨i,hi,rfl⟩,by simpa [liveP,cvU] using hl⟩
theorem relU_len_le (us:List RU):(relU us).length≤us.length:=by
 unfold relU
 exact Nat.le_trans (List.length_filter_le _ _) (by rw[cv_len];exact Nat.le_refl _)
theorem countP_mapIdx (us:List RU)(f:Nat→RU→PU)(p:PU→Bool)(q:RU→Bool)(h:∀ i u,p (f i u)=q u):(us.mapIdx f).countP p=us.countP q:=by
 induction us generalizing f with
 | nil=>rfl
 | cons u us ih =>
  rw[List.mapIdx_cons,List.countP_cons,List.countP_cons,ih (fun i=>f (i+1)) (fun i u=>h (i+1) u),h]
theorem relU_len (us:List RU):(relU us).length=thereF us:=by
 unfold relU thereF
 rw[← List.countP_eq_length_filter]
 exact countP_mapIdx us cvU liveP aliveB fun i u=>rfl
theorem find_mapIdx (us:List RU)(f:Nat→RU→PU)(p:PU→Bool)(q:RU→Bool)(h:∀ i u,p (f i u)=q u) :
  (us.mapIdx f).find? p=(us.findIdx? q).map (fun j=>f j (us.getD j ru0)):=by
 induction us generalizing f with
 | nil=>rfl
 | cons u us ih =>
  rw[List.mapIdx_cons,List.find?_cons,List.findIdx?_cons,h]
  cases q u
  ·simp only[Bool.false_eq_true,if_false]
   rw[ih (fun i=>f (i+1)) (fun i u=>h (i+1) u)]
   cases us.findIdx? q<;>simp
  ·simp
theorem first_of (L:List PU)(p:PU→Bool)(u:PU)(h:L.find? p=some u):L.findIdx p<L.length∧L.getD (L.findIdx p) pu0=u:=by
 rw[List.find?_eq_getElem?_findIdx]at h
 obtain ⟨h1,h2⟩:=List.getElem?_eq_some_iff.1 h
 exact ⟨h1,by simp[List.getD,List.getElem?_eq_getElem h1,h2]⟩
theorem first_none (L:List PU)(p:PU→Bool)(h:L.find? p=none):¬ L.findIdx p<L.length:=by
 rw[List.find?_eq_getElem?_findIdx]at h
 rw[List.getElem?_eq_none_iff]at h
 omega
theorem on_rel (us:List RU)(x y:Int):(atF us x y=-1∧¬ (relU us).findIdx (onP x y)<(relU us).length) ∨
  ∃ j:Nat,j<us.length∧atF us x y=j∧0<(us.getD j ru0).hp∧(relU us).findIdx (onP x y)<(relU us).length∧(relU us).getD ((relU us).findIdx (onP x y)) pu0=cvU j (us.getD j ru0):=by
 have h1:(relU us).find? (onP x y)=(us.findIdx? (onB x y)).map (fun j=>cvU j (us.getD j ru0)):=by
  unfold relU
  rw[List.find?_filter]
  refine find_mapIdx us cvU _ _ fun i u=>?_
  simp only[liveP,onP,onB,cvU]
  by_cases e:0<u.hp
  ·simp only[e,decide_true,Bool.true_and,true_and,Bool.decide_eq_true]
  ·simp[e]
 cases hf:us.findIdx? (onB x y) with
 | none =>
  left
  rw[hf]at h1
  exact ⟨by simp[atF,hf],first_none _ _ h1⟩
 | some j =>
  right
  rw[hf]at h1
  obtain ⟨a1,a2⟩:=first_of _ _ _ h1
  obtain ⟨b1,b2,-⟩:=List.findIdx?_eq_some_iff_getElem.1 hf
  refine ⟨j,b1,by simp[atF,hf],?_,a1,a2⟩
  have e:us.getD j ru0=us[j]:=by simp[List.getD,List.getElem?_eq_getElem b1]
  rw[e]
  simp only[onB,Bool.and_eq_true,decide_eq_true_eq]at b2
  exact b2.1.1
theorem find_uniq (L:List PU)(hd:NumsD L)(u:PU)(hu:u∈L)(n:Int)(hn:u.num=n):L.find? (numB n)=some u:=by
 induction L with
 | nil=>simp at hu
 | cons v L ih =>
  have hd':=List.pairwise_cons.1 hd
  rw[List.find?_cons]
  rcases List.mem_cons.1 hu with rfl|hm
  ·simp[numB,hn]
  ·have:v.num≠n:=fun e=>hd'.1 u hm (by rw[e,hn])
   have hb:numB n v=false:=by simp[numB,this]
   rw[hb]
   exact ih hd'.2 hm
theorem num_rel (us:List RU)(j:Nat)(hj:j<us.length)(hp:0<(us.getD j ru0).hp) :
  (relU us).findIdx (numB ((j:Int)+1))<(relU us).length∧(relU us).getD ((relU us).findIdx (numB ((j:Int)+1))) pu0=cvU j (us.getD j ru0):=by
 refine first_of _ _ _ (find_uniq _ (relU_nums us) _ ((mem_relU us _).2 ⟨j,hj,rfl,hp⟩) _ rfl)
theorem num_none (us:List RU)(n:Int)(h:∀ j:Nat,j<us.length→n=(j:Int)+1→(us.getD j ru0).hp≤0):¬ (relU us).findIdx (numB n)<(relU us).length:=by
 refine first_none _ _ ?_
 rw[List.find?_eq_none]
 intro u hu
 obtain ⟨i,hi,rfl,hp⟩:=(mem_relU us u).1 hu
 intro e
 have e2:(i:Int)+1=n:=by simpa [numB,cvU] using e
 have:=h i hi e2.symm
 omega
def bodyOf (o k x y:Int)(n:Int):PU:=⟨n,o,k,x,y,healthOf k,true⟩
def actF (S:PS)(k:Nat)(what x y:Int):PS × Bool :=
 let u:=S.units.getD k pu0
 let j:=S.units.findIdx (onP x y)
 if what=1 then
  if u.kind=1∨j<S.units.length then (S,false) else ({ S with units:=S.units.set k { u with x:=x,y:=y } },true)
 else if what=2 then
  if j<S.units.length∧(S.units.getD j pu0).own≠u.own then ({ S with units:=(hurtS S j (hitOf u.kind)).units.filter fun u=>!deadP u },true) else (S,false)
 else if what=3 then
  if u.kind≠2∨S.ore.getD (8*y+x).toNat 0=0 then (S,false)
  else ({ S with ore:=S.ore.set (8*y+x).toNat (S.ore.getD (8*y+x).toNat 0-1),gold:=S.gold.set u.own.toNat (S.gold.getD u.own.toNat 0+1) },true)
 else if what=4∨what=5 then
  if u.kind≠1∨j<S.units.length∨S.gold.getD u.own.toNat 0<what-2∨40≤S.units.length then (S,false)
  else ({ S with last:=S.last+1,gold:=S.gold.set u.own.toNat (S.gold.getD u.own.toNat 0-(what-2)),units:=S.units++[bodyOf u.own (what-2) x y (S.last+1)] },true)
 else (S,false)
theorem live_dead:(fun u=>!deadP u)=liveP:=by
 funext u
 unfold deadP liveP
 by_cases h:0<u.hp
 ·have:¬ u.hp≤0:=by omega
  simp[h,this]
 ·have:u.hp≤0:=by omega
  simp[h,this]
theorem cv_push (us:List RU)(u:RU):cv (us++[u])=cv us++[cvU us.length u]:=by
 simp[cv,List.mapIdx_append]
theorem relU_push (us:List RU)(u:RU)(h:0<u.hp):relU (us++[u])=relU us++[cvU us.length u]:=by
 unfold relU
 rw[cv_push,List.filter_append]
 congr 1
 simp[liveP,cvU,h]
theorem act_rel {S : RS} (hI : RInv S) (k j0 : Nat) (what x y : Int) (hj : j0 < S.units.length) (hp : 0 < (S.units.getD j0 ru0).hp) (hk : k < (relU S.units).length)
    (hu : (relU S.units).getD k pu0 = cvU j0 (S.units.getD j0 ru0)) :
    actF (toPS S) k what x y = (toPS (doesF S j0 what x y (atF S.units x y)).1, (doesF S j0 what x y (atF S.units x y)).2) := by
  have hlen := relU_len S.units
  unfold actF doesF
  simp only [toPS, hu]
  generalize hru : S.units.getD j0 ru0 = u at *
  have ek : (cvU j0 u).kind = u.kind := rfl
  have eo : (cvU j0 u).own = u.own := rfl
  simp only [ek, eo]
  rcases on_rel S.units x y with ⟨ha, hn⟩ | ⟨j, hjl, ha, hjp, hf1, hf2⟩
  · rw [ha]
    by_cases w1 : what = 1
    · rw [if_pos w1, if_pos w1]
      by_cases k1 : u.kind = 1
      · rw [if_pos (.inl k1), if_pos (.inl k1)]
      · rw [if_neg (by omega), if_neg (by omega)]
        simp only [Prod.mk.injEq, PS.mk.injEq, List.length_set, and_true, true_and]
        unfold relU
        rw [cv_set S.units j0 _ (fun v => { v with x := x, y := y }) hj (by rw [hru]; rfl), updN_filter _ (fun v => { v with x := x, y := y }) _ (fun v _ _ => rfl)]
        have := set_updN (fun v => { v with x := x, y := y }) (relU S.units) k (relU_nums _) hk
        rw [hu] at this
        exact this
    · rw [if_neg w1, if_neg w1]
      by_cases w2 : what = 2
      · rw [if_pos w2, if_pos w2, if_neg (fun q => hn q.1), if_pos (.inl (by omega))]
      · rw [if_neg w2, if_neg w2]
        by_cases w3 : what = 3
        · rw [if_pos w3, if_pos w3]
          have := hI.opos (8 * y + x).toNat
          by_cases c : u.kind ≠ 2 ∨ S.ore.getD (8 * y + x).toNat 0 = 0
          · rw [if_pos c, if_pos (by omega)]
          · rw [if_neg c, if_neg (by omega)]
        · rw [if_neg w3, if_neg w3]
          by_cases w4 : what = 4 ∨ what = 5
          · rw [if_pos w4, if_pos w4]
            by_cases c : u.kind ≠ 1 ∨ S.gold.getD u.own.toNat 0 < what - 2 ∨ 40 ≤ thereF S.units
            · rw [if_pos (by rw [hlen]; omega), if_pos (by omega)]
            · rw [if_neg (by rw [hlen] at *; omega), if_neg (by omega)]
              simp only [Prod.mk.injEq, PS.mk.injEq, List.length_append, List.length_singleton, and_true, true_and]
              refine ⟨by omega, ?_⟩
              rw [relU_push _ _ (by unfold healthOf; show 0 < (if what - 2 = 1 then (20 : Int) else if what - 2 = 2 then 5 else if what - 2 = 3 then 8 else 0); rcases w4 with rfl | rfl <;> decide)]
              rfl
          · rw [if_neg w4, if_neg w4]
  · rw [ha]
    by_cases w1 : what = 1
    · rw [if_pos w1, if_pos w1, if_pos (.inr hf1), if_pos (.inr (by omega))]
    · rw [if_neg w1, if_neg w1]
      by_cases w2 : what = 2
      · rw [if_pos w2, if_pos w2]
        have e1 : ((j : Int)).toNat = j := by omega
        rw [e1, hf2]
        have e2 : (cvU j (S.units.getD j ru0)).own = (S.units.getD j ru0).own := rfl
        rw [e2]
        by_cases c : (S.units.getD j ru0).own = u.own
        · rw [if_neg (fun q => q.2 c), if_pos (.inr c)]
        · rw [if_pos ⟨hf1, c⟩, if_neg (by intro q; rcases q with q | q; omega; exact c q)]
          simp only [Prod.mk.injEq, PS.mk.injEq, List.length_set, and_true, true_and]
          have hs := set_updN (fun v => { v with hp := v.hp - hitOf u.kind }) (relU S.units) _ (relU_nums _) hf1
          rw [hf2] at hs
          rw [live_dead]
          simp only [hurtS, hf2]
          rw [hs]
          unfold relU
          rw [cv_set S.units j _ (fun v => { v with hp := v.hp - hitOf u.kind }) hjl rfl]
          refine updN_filter2 _ _ _ (fun v _ _ hv => ?_)
          have hr : 0 ≤ hitOf u.kind := by unfold hitOf; repeat' split
                                           all_goals omega
          simp only [liveP, decide_eq_true_eq] at *
          omega
      · rw [if_neg w2, if_neg w2]
        by_cases w3 : what = 3
        · rw [if_pos w3, if_pos w3]
          have := hI.opos (8 * y + x).toNat
          by_cases c : u.kind ≠ 2 ∨ S.ore.getD (8 * y + x).toNat 0 = 0
          · rw [if_pos c, if_pos (by omega)]
          · rw [if_neg c, if_neg (by omega)]
        · rw [if_neg w3, if_neg w3]
          by_cases w4 : what = 4 ∨ what = 5
          · rw [if_pos w4, if_pos w4, if_pos (.inr (.inl hf1)), if_pos (.inr (.inl (by omega)))]
          · rw [if_neg w4, if_neg w4]
theorem relU_same (us:List RU)(j:Nat)(u':RU)(f:PU→PU)(hj:j<us.length)(hf:f (cvU j (us.getD j ru0))=cvU j u')(hl:∀ v,liveP (f v)=liveP v):relU (us.set j u')=updN ((j:Int)+1) f (relU us):=by
 unfold relU
 rw[cv_set us j u' f hj hf,updN_filter _ f _ (fun v _ _=>hl v)]
theorem give_any (us:List RU)(p:Int)(k:Nat)(hk:k≤us.length)(i:Nat)(hi:i<us.length) :
  (giveTo us p k).getD i ru0=if i<k∧(us.getD i ru0).own=p∧(us.getD i ru0).kind=1 then { us.getD i ru0 with hp:=0 } else us.getD i ru0:=by
 induction k with
 | zero=>simp[giveTo]
 | succ k ih =>
  have ih:=ih (by omega)
  have hkk:(giveTo us p k).getD k ru0=us.getD k ru0:=by
   have:∀ m,m≤k→(giveTo us p m).getD k ru0=us.getD k ru0:=by
    intro m hm
    induction m with
    | zero=>rfl
    | succ m ihm =>
     simp only[giveTo]
     split
     ·rw[getD_set_ru,if_neg (by omega)];exact ihm (by omega)
     ·exact ihm (by omega)
   exact this k (Nat.le_refl _)
  simp only[giveTo]
  rw[hkk]
  by_cases c:(us.getD k ru0).own=p∧(us.getD k ru0).kind=1
  ·rw[if_pos c,getD_set_ru,giveTo_len]
   by_cases e:i=k
   ·subst e
    rw[if_pos ⟨rfl,by omega⟩,if_pos ⟨by omega,c⟩]
   ·rw[if_neg (fun q=>e q.1),ih]
    by_cases d:(us.getD i ru0).own=p∧(us.getD i ru0).kind=1
    ·by_cases l:i<k
     ·rw[if_pos ⟨l,d⟩,if_pos ⟨by omega,d⟩]
     ·rw[if_neg (fun q=>l q.1),if_neg (fun q=>l (by omega))]
    ·rw[if_neg (fun q=>d q.2),if_neg (fun q=>d q.2)]
  ·rw[if_neg c,ih]
   by_cases e:i=k
   ·subst e
    rw[if_neg (fun q=>c q.2),if_neg (fun q=>c q.2)]
   ·by_cases d:(us.getD i ru0).own=p∧(us.getD i ru0).kind=1
    ·by_cases l:i<k
     ·rw[if_pos ⟨l,d⟩,if_pos ⟨by omega,d⟩]
     ·rw[if_neg (fun q=>l q.1),if_neg (fun q=>l (by omega))]
    ·rw[if_neg (fun q=>d q.2),if_neg (fun q=>d q.2)]
theorem filter_filter_pt (L M:List PU)(q:PU→Bool)(hl:L.length=M.length)(h:∀ i,i<L.length→(liveP (L.getD i pu0)=(liveP (M.getD i pu0) && q (M.getD i pu0)))∧(liveP (L.getD i pu0)=true→L.getD i pu0=M.getD i pu0)) :
  L.filter liveP=(M.filter liveP).filter q:=by
 induction L generalizing M with
 | nil=>cases M with
  | nil=>rfl
  | cons m M=>simp at hl
 | cons l L ih =>
  cases M with
  | nil=>simp at hl
  | cons m M =>
   have ih:=ih M (by simpa using hl) (fun i hi=>by simpa using h (i+1) (by simpa using hi))
   obtain ⟨h1,h2⟩:=h 0 (by simp)
   simp only[List.getD_cons_zero]at h1 h2
   simp only[List.filter_cons]
   cases hm:liveP m
   ·rw[hm]at h1
    simp only[Bool.false_and]at h1
    simp[h1,ih]
   ·rw[hm]at h1
    simp only[Bool.true_and]at h1
    cases hq:q m
    ·rw[hq]at h1
     simp[h1,hq,ih]
    ·rw[hq]at h1
     have:=h2 h1
     subst this
     simp[hm,hq,ih]
theorem give_rel (us:List RU)(p:Int):relU (giveTo us p us.length)=(relU us).filter fun u=>!((u.own == p) && (u.kind == 1)):=by
 unfold relU
 refine filter_filter_pt _ _ _ (by simp[cv_len,giveTo_len]) fun i hi=>?_
 rw[cv_len,giveTo_len]at hi
 rw[cv_get _ _ (by rw[giveTo_len];exact hi),cv_get _ _ hi,give_any us p us.length (Nat.le_refl _) i hi]
 generalize us.getD i ru0=u at *
 by_cases c:u.own=p∧u.kind=1
 ·rw[if_pos ⟨hi,c⟩]
  simp[liveP,cvU,c]
 ·rw[if_neg (fun q=>c q.2)]
  have:((u.own == p) && (u.kind == 1))=false:=by
   rw[Bool.eq_false_iff]
   intro e
   simp only[Bool.and_eq_true,beq_iff_eq]at e
   exact c e
  simp only[cvU,this,Bool.not_false,Bool.and_true,true_and]
  exact fun _=>trivial
def obeyF (S:PS)(c:RC):PS :=
 if c.un=0∧c.wh=0∧c.x=0∧c.y=0 then { S with units:=S.units.filter fun u=>!((u.own == c.p) && (u.kind == 1)) }
 else
  let k:=S.units.findIdx (numB c.un)
  let u:=S.units.getD k pu0
  if k<S.units.length∧u.own=c.p∧u.acted=false∧nearB c.x c.y u.x u.y=true then
   let r:=actF S k c.wh c.x c.y
   { r.1 with units:=updN c.un (fun v=>{ v with acted:=r.2 }) r.1.units }
  else S
theorem does_len (S:RS)(k:Nat)(wh x y on:Int):S.units.length≤(doesF S k wh x y on).1.units.length:=by
 unfold doesF
 simp only
 repeat' split
 all_goals simp
theorem updN_id (N:Int)(f:PU→PU)(L:List PU)(h:∀ u∈L,u.num=N→f u=u):updN N f L=L:=by
 unfold updN
 conv=>rhs;rw[← List.map_id L]
 refine List.map_congr_left fun u hu=>?_
 split
 ·exact h u hu (by assumption)
 ·rfl
theorem obey_rel {S:RS}(hI:RInv S)(c:RC):obeyF (toPS S) c=toPS (c.on S):=by
 obtain ⟨p,un,wh,x,y⟩:=c
 unfold RC.on commandF obeyF
 simp only
 by_cases hg:un=0∧wh=0∧x=0∧y=0
 ·rw[if_pos hg,if_pos hg]
  simp only[toPS,PS.mk.injEq,giveTo_len,true_and,and_true]
  exact (give_rel S.units p).symm
 ·rw[if_neg hg,if_neg hg]
  by_cases hr:un-1<0∨(S.units.length:Int)≤un-1
  ·rw[if_pos hr,if_neg]
   intro q
   exact num_none S.units un (fun j hj e=>by omega) q.1
  ·rw[if_neg hr]
   generalize hj:(un-1).toNat=j
   have hun:un=(j:Int)+1:=by omega
   subst hun
   have hjl:j<S.units.length:=by omega
   by_cases hp:0<(S.units.getD j ru0).hp
   ·obtain ⟨hk,hu⟩:=num_rel S.units j hjl hp
    have eu:(toPS S).units=relU S.units:=rfl
    simp only[eu]
    generalize (relU S.units).findIdx (numB ((j:Int)+1))=k at *
    rw[hu]
    have e1:(cvU j (S.units.getD j ru0)).own=(S.units.getD j ru0).own:=rfl
    have e2:(cvU j (S.units.getD j ru0)).acted=(S.units.getD j ru0).busy:=rfl
    have e3:(cvU j (S.units.getD j ru0)).x=(S.units.getD j ru0).x:=rfl
    have e4:(cvU j (S.units.getD j ru0)).y=(S.units.getD j ru0).y:=rfl
    rw[e1,e2,e3,e4]
    by_cases hc:(S.units.getD j ru0).own=p∧(S.units.getD j ru0).busy=false∧nearB x y (S.units.getD j ru0).x (S.units.getD j ru0).y=true
    ·rw[if_pos ⟨hk,hc⟩,if_neg (by
      obtain ⟨c1,c2,c3⟩:=hc
      rw[c2,c3]
      intro q
      rcases q with q|q|q|q
      ·omega
      ·exact q c1
      ·cases q
      ·cases q)]
     rw[act_rel hI k j wh x y hjl hp hk hu]
     have hdl:=does_len S j wh x y (atF S.units x y)
     generalize hd:doesF S j wh x y (atF S.units x y)=r at *
     obtain ⟨S1,ok⟩:=r
     simp only
     simp only at hdl
     cases ok
     ·simp only[Bool.false_eq_true,if_false]
      have hS:S1=S:=by
       unfold doesF at hd
       simp only at hd
       repeat' split at hd
       all_goals first|exact (Prod.mk.inj hd).1.symm|exact absurd (Prod.mk.inj hd).2 (by simp)
      subst hS
      have:updN ((j:Int)+1) (fun v=>{ v with acted:=false }) (toPS S1).units=(toPS S1).units:=by
       refine updN_id _ _ _ fun v hv hn=>?_
       obtain ⟨i,hi,rfl,-⟩:=(mem_relU S1.units v).1 hv
       have:i=j:=by simp only[cvU]at hn;omega
       subst this
       simp only[cvU,hc.2.1]
      rw[this]
     ·simp only[if_true]
      simp only[toPS,PS.mk.injEq,List.length_set,true_and]
      exact (relU_same S1.units j _ (fun v=>{ v with acted:=true }) (by omega) rfl (fun v=>rfl)).symm
    ·rw[if_neg (fun q=>hc q.2),if_pos]
     by_cases c1:(S.units.getD j ru0).own=p
     ·cases c2:(S.units.getD j ru0).busy
      ·cases c3:nearB x y (S.units.getD j ru0).x (S.units.getD j ru0).y
       ·exact .inr (.inr (.inr rfl))
       ·exact absurd ⟨c1,c2,c3⟩ hc
      ·exact .inr (.inr (.inl rfl))
     ·exact .inr (.inl c1)
   ·have h1:¬ (toPS S).units.findIdx (numB ((j:Int)+1))<(toPS S).units.length:=num_none S.units _ (fun i hi e=>by
     have:i=j:=by omega
     subst this
     omega)
    rw[if_neg (fun q=>h1 q.1),if_pos (.inl (by omega))]
def clrP (u:PU):PU:={ u with acted:=false }
theorem clear_getD (us:List RU)(k:Nat)(hk:k≤us.length)(i:Nat):(clearTo us k).getD i ru0=if i<k then { us.getD i ru0 with busy:=false } else us.getD i ru0:=by
 induction k with
 | zero=>simp[clearTo]
 | succ k ih =>
  have ih:=ih (by omega)
  have hkk:(clearTo us k).getD k ru0=us.getD k ru0:=by
   have:∀ m,m≤k→(clearTo us m).getD k ru0=us.getD k ru0:=by
    intro m hm
    induction m with
    | zero=>rfl
    | succ m ihm=>simp only[clearTo];rw[getD_set_ru,if_neg (by omega)];exact ihm (by omega)
   exact this k (Nat.le_refl _)
  simp only[clearTo]
  rw[hkk,getD_set_ru,clearTo_len]
  by_cases e:i=k
  ·subst e;rw[if_pos ⟨rfl,by omega⟩,if_pos (by omega)]
  ·rw[if_neg (fun q=>e q.1),ih]
   by_cases l:i<k
   ·rw[if_pos l,if_pos (by omega)]
   ·rw[if_neg l,if_neg (by omega)]
theorem clear_map (us:List RU):clearTo us us.length=us.map fun u=>{ u with busy:=false }:=by
 apply List.ext_getElem
 ·simp[clearTo_len]
 ·intro i h1 h2
  have hi:i<us.length:=by simpa using h2
  have:=clear_getD us us.length (Nat.le_refl _) i
  rw[if_pos hi]at this
  simp only[List.getD,List.getElem?_eq_getElem h1,List.getElem?_eq_getElem hi,Option.getD_some]at this
  rw[this]
  simp
theorem clear_rel (us:List RU):relU (clearTo us us.length)=(relU us).map clrP:=by
 rw[clear_map]
 have h:cv (us.map fun u=>{ u with busy:=false })=(cv us).map clrP:=by
  apply List.ext_getElem?
  intro i
  simp only[cv,List.getElem?_mapIdx,List.getElem?_map]
  cases us[i]?<;>rfl
 unfold relU
 rw[h,List.filter_map]
 rfl
theorem in_rel (us:List RU)(p:Int):inP (relU us) p=inF us p:=by
 rw[Bool.eq_iff_iff]
 unfold inP inF
 rw[List.any_eq_true,List.any_eq_true]
 constructor
 ·rintro ⟨u,hu,hb⟩
  obtain ⟨i,hi,rfl,hp⟩:=(mem_relU us u).1 hu
  refine ⟨us.getD i ru0,by simp[List.getD,List.getElem?_eq_getElem hi],?_⟩
  simp only[isBase,cvU,Bool.and_eq_true,beq_iff_eq]at hb
  simp only[baseB,Bool.and_eq_true,beq_iff_eq,decide_eq_true_eq]
  exact ⟨⟨hp,hb.2⟩,hb.1⟩
 ·rintro ⟨u,hu,hb⟩
  obtain ⟨i,hi,rfl⟩:=List.getElem_of_mem hu
  have e:us.getD i ru0=us[i]:=by simp[List.getD,List.getElem?_eq_getElem hi]
  simp only[baseB,Bool.and_eq_true,beq_iff_eq,decide_eq_true_eq]at hb
  refine ⟨cvU i us[i],(mem_relU us _).2 ⟨i,hi,by rw[e],by rw[e];exact hb.1.1⟩,?_⟩
  simp only[isBase,cvU,Bool.and_eq_true,beq_iff_eq]
  exact ⟨hb.2,hb.1.2⟩
theorem inF_kill (us:List RU)(k:Nat)(p:Int)(h:inF us (us.getD k ru0).own=false):inF (us.set k { us.getD k ru0 with hp:=0 }) p=inF us p:=by
 by_cases hk:k<us.length
 ·have e:us.getD k ru0=us[k]:=by simp[List.getD,List.getElem?_eq_getElem hk]
  have hno:¬ (0<us[k].hp∧us[k].kind=1):=by
   intro q
   rw[e]at h
   have:inF us us[k].own=true:=by
    unfold inF
    rw[List.any_eq_true]
    refine ⟨us[k],List.getElem_mem hk,?_⟩
    simp[baseB,q.1,q.2]
   rw[this]at h;cases h
  rw[Bool.eq_iff_iff]
  unfold inF
  rw[List.any_eq_true,List.any_eq_true]
  constructor
  ·rintro ⟨u,hu,hb⟩
   obtain ⟨i,hi,rfl⟩:=List.getElem_of_mem hu
   rw[List.getElem_set]at hb
   by_cases c:k=i
   ·rw[if_pos c]at hb
    simp[baseB]at hb
   ·rw[if_neg c]at hb
    exact ⟨_,List.getElem_mem (by simpa using hi),hb⟩
  ·rintro ⟨u,hu,hb⟩
   obtain ⟨i,hi,rfl⟩:=List.getElem_of_mem hu
   by_cases c:k=i
   ·subst c
    simp only[baseB,Bool.and_eq_true,beq_iff_eq,decide_eq_true_eq]at hb
    exact absurd ⟨hb.1.1,hb.2⟩ hno
   ·refine ⟨us[i],?_,hb⟩
    have:(us.set k { us.getD k ru0 with hp:=0 })[i]'(by simpa using hi)=us[i]:=by rw[List.getElem_set,if_neg c]
    rw[← this]
    exact List.getElem_mem _
 ·rw[List.set_eq_of_length_le (by omega)]
theorem drop_in (us:List RU)(k:Nat)(p:Int):inF (dropTo us k) p=inF us p:=by
 induction k with
 | zero=>rfl
 | succ k ih =>
  simp only[dropTo]
  split
  ·exact ih
  ·rename_i h
   rw[inF_kill _ _ _ (by simpa using h)]
   exact ih
theorem drop_getD (us:List RU)(k:Nat)(hk:k≤us.length)(i:Nat):(dropTo us k).getD i ru0=if i<k∧inF us (us.getD i ru0).own=false then { us.getD i ru0 with hp:=0 } else us.getD i ru0:=by
 induction k with
 | zero=>simp[dropTo]
 | succ k ih =>
  have ih:=ih (by omega)
  have hkk:(dropTo us k).getD k ru0=us.getD k ru0:=by
   have:∀ m,m≤k→(dropTo us m).getD k ru0=us.getD k ru0:=by
    intro m hm
    induction m with
    | zero=>rfl
    | succ m ihm =>
     simp only[dropTo]
     split
     ·exact ihm (by omega)
     ·rw[getD_set_ru,if_neg (by omega)];exact ihm (by omega)
   exact this k (Nat.le_refl _)
  simp only[dropTo]
  rw[hkk,drop_in]
  cases hin:inF us (us.getD k ru0).own
  ·simp only[Bool.false_eq_true,if_false]
   rw[getD_set_ru,dropTo_len]
   by_cases e:i=k
   ·subst e
    rw[if_pos ⟨rfl,by omega⟩,if_pos ⟨by omega,hin⟩]
   ·rw[if_neg (fun q=>e q.1),ih]
    by_cases l:i<k∧inF us (us.getD i ru0).own=false
    ·rw[if_pos l,if_pos ⟨by omega,l.2⟩]
    ·rw[if_neg l,if_neg (fun q=>l ⟨by omega,q.2⟩)]
  ·simp only[if_true]
   rw[ih]
   by_cases e:i=k
   ·subst e
    rw[if_neg (fun q=>by omega),if_neg (fun q=>by rw[hin]at q;exact absurd q.2 (by simp))]
   ·by_cases l:i<k∧inF us (us.getD i ru0).own=false
    ·rw[if_pos l,if_pos ⟨by omega,l.2⟩]
    ·rw[if_neg l,if_neg (fun q=>l ⟨by omega,q.2⟩)]
theorem drop_rel (us:List RU):relU (dropTo us us.length)=(relU us).filter fun u=>inP (relU us) u.own:=by
 have hin:(fun u:PU=>inP (relU us) u.own)=fun u=>inF us u.own:=by
  funext u;exact in_rel us u.own
 rw[hin]
 unfold relU
 refine filter_filter_pt _ _ _ (by simp[cv_len,dropTo_len]) fun i hi=>?_
 rw[cv_len,dropTo_len]at hi
 rw[cv_get _ _ (by rw[dropTo_len];exact hi),cv_get _ _ hi,drop_getD us us.length (Nat.le_refl _) i]
 generalize us.getD i ru0=u at *
 have e:(cvU i u).own=u.own:=rfl
 rw[e]
 cases c:inF us u.own
 ·rw[if_pos ⟨hi,rfl⟩]
  simp[liveP,cvU]
 ·rw[if_neg (fun q=>by cases q.2)]
  simp only[Bool.and_true,true_and]
  exact fun _=>trivial
theorem in_none {S:RS}(hI:RInv S)(p:Nat)(h:S.gold.length≤p):inF S.units p=false:=by
 rw[Bool.eq_false_iff]
 intro e
 unfold inF at e
 rw[List.any_eq_true]at e
 obtain ⟨u,hu,hb⟩:=e
 obtain ⟨i,hi,rfl⟩:=List.getElem_of_mem hu
 have:=hI.us i hi
 rw[show S.units.getD i ru0=S.units[i] by simp[List.getD,List.getElem?_eq_getElem hi]]at this
 obtain ⟨-,-,-,h2,-⟩:=this
 simp only[baseB,Bool.and_eq_true,beq_iff_eq,decide_eq_true_eq]at hb
 omega
theorem over_rel {S:RS}(hI:RInv S):overP (relU S.units)=overB S:=by
 unfold overP overB
 have h2:=in_none hI 2
 have h3:=in_none hI 3
 have g2:=hI.g2
 have g4:=hI.g4
 rw[in_rel,in_rel,in_rel,in_rel]
 have hc:S.gold.length=2∨S.gold.length=3∨S.gold.length=4:=by omega
 have q2:((2:Nat):Int)=2:=rfl
 have q3:((3:Nat):Int)=3:=rfl
 have q1:((1:Nat):Int)=1:=rfl
 have q0:((0:Nat):Int)=0:=rfl
 rcases hc with hc|hc|hc
 ·rw[hc]at h2 h3 ⊢
  have h2:=h2 (by omega)
  have h3:=h3 (by omega)
  rw[q2]at h2
  rw[q3]at h3
  rw[h2,h3]
  simp only[leftTo,q0,q1]
  cases inF S.units 0<;>cases inF S.units 1<;>rfl
 ·rw[hc]at h3 ⊢
  have h3:=h3 (by omega)
  rw[q3]at h3
  rw[h3]
  simp only[leftTo,q0,q1,q2]
  cases inF S.units 0<;>cases inF S.units 1<;>cases inF S.units 2<;>rfl
 ·rw[hc]
  simp only[leftTo,q0,q1,q2,q3]
  cases inF S.units 0<;>cases inF S.units 1<;>cases inF S.units 2<;>cases inF S.units 3<;>rfl
structure PInv (S:PS):Prop where
 n:S.units.length≤1000
 hp:∀ i,i<S.units.length→0<(S.units.getD i pu0).hp∧(S.units.getD i pu0).hp≤100
 own:∀ i,i<S.units.length→0≤(S.units.getD i pu0).own∧(S.units.getD i pu0).own<S.gold.length
 xy:∀ i,i<S.units.length→0≤(S.units.getD i pu0).x∧(S.units.getD i pu0).x≤7∧0≤(S.units.getD i pu0).y∧(S.units.getD i pu0).y≤7
 g2:2≤S.gold.length
 g4:S.gold.length≤4
 gold:∀ i,0≤S.gold.getD i 0∧S.gold.getD i 0≤1000
 ore:∀ i,0≤S.ore.getD i 0∧S.ore.getD i 0≤1000
 l0:0≤S.last
 l1:S.last≤100000
theorem getD_le_sum (l:List Int)(h:∀ i,0≤l.getD i 0)(i:Nat):l.getD i 0≤l.sum∧0≤l.sum:=by
 induction l generalizing i with
 | nil=>simp
 | cons a l ih =>
  have ha:0≤a:=by simpa using h 0
  have h':∀ i,0≤l.getD i 0:=fun i=>by simpa using h (i+1)
  have i0:=(ih h' 0).2
  cases i with
  | zero=>simp only[List.getD_cons_zero,List.sum_cons];omega
  | succ i=>have:=(ih h' i).1;simp only[List.getD_cons_succ,List.sum_cons];omega
theorem RInv.toP {S:RS}(h:RInv S):PInv (toPS S):=by
 have hs:=h.sum
 have hg:=fun i=>getD_le_sum S.gold h.gpos i
 have ho:=fun i=>getD_le_sum S.ore h.opos i
 have g0:=(hg 0).2
 have o0:=(ho 0).2
 have hl:=relU_len_le S.units
 have hu:∀ i,i<(relU S.units).length→∃ j,j<S.units.length∧(relU S.units).getD i pu0=cvU j (S.units.getD j ru0)∧0<(S.units.getD j ru0).hp:=fun i hi=>by
  have hm:(relU S.units).getD i pu0∈relU S.units:=by simp[List.getD,List.getElem?_eq_getElem hi]
  exact (mem_relU _ _).1 hm
 refine ⟨?_,?_,?_,?_,h.g2,h.g4,fun i=>?_,fun i=>?_,?_,?_⟩
 ·show (relU S.units).length≤1000
  omega
 ·intro i hi
  obtain ⟨j,hj,e,hp⟩:=hu i hi
  show 0<((relU S.units).getD i pu0).hp∧((relU S.units).getD i pu0).hp≤100
  rw[e]
  obtain ⟨-,-,-,-,-,-,-,-,-,h2⟩:=h.us j hj
  simp only[cvU]
  omega
 ·intro i hi
  obtain ⟨j,hj,e,hp⟩:=hu i hi
  show 0≤((relU S.units).getD i pu0).own∧((relU S.units).getD i pu0).own<S.gold.length
  rw[e]
  obtain ⟨-,-,h1,h2,-⟩:=h.us j hj
  exact ⟨h1,h2⟩
 ·intro i hi
  obtain ⟨j,hj,e,hp⟩:=hu i hi
  show 0≤((relU S.units).getD i pu0).x∧((relU S.units).getD i pu0).x≤7∧0≤((relU S.units).getD i pu0).y∧((relU S.units).getD i pu0).y≤7
  rw[e]
  obtain ⟨-,-,-,-,h1,h2,h3,h4,-⟩:=h.us j hj
  exact ⟨h1,h2,h3,h4⟩
 ·have:=(hg i).1
  have:=h.gpos i
  show 0≤S.gold.getD i 0∧S.gold.getD i 0≤1000
  omega
 ·have:=(ho i).1
  have:=h.opos i
  show 0≤S.ore.getD i 0∧S.ore.getD i 0≤1000
  omega
 ·show (0:Int)≤(S.units.length:Int)
  omega
 ·show (S.units.length:Int)≤100000
  omega
theorem fUB_keep (p:PU→Bool)(us:List PU)(bs:List Nat)(hl:bs.length=us.length)(k:Nat)(hk:k<us.length)(hp:p (us.getD k pu0)=false) :
  ∃ k',k'<(fU p us bs).length∧(fU p us bs).getD k' pu0=us.getD k pu0∧(fB p us bs).getD k' 0=bs.getD k 0:=by
 induction us generalizing bs k with
 | nil=>simp at hk
 | cons u us ih =>
  cases bs with
  | nil=>simp at hl
  | cons b bs =>
   cases k with
   | zero =>
    have hp:p u=false:=by simpa using hp
    refine ⟨0,?_,?_,?_⟩<;>simp[fU,fB,hp]
   | succ k =>
    obtain ⟨k',h1,h2,h3⟩:=ih bs (by simpa using hl) k (by simpa using hk) (by simpa using hp)
    cases hu:p u
    ·refine ⟨k'+1,?_,?_,?_⟩
     ·simpa [fU,hu] using h1
     ·simpa [fU,hu] using h2
     ·simpa [fB,hu] using h3
    ·refine ⟨k',?_,?_,?_⟩
     ·simpa [fU,hu] using h1
     ·simpa [fU,hu] using h2
     ·simpa [fB,hu] using h3
end Go.Proofs.YtdianedehhecoaaGreatDoor
/- What the program's buy leaves. -/
namespace Go.Proofs.YtdianedehhecoaaGreatDoor
open Go.RowKit
def buyF (S:PS)(a:Nat)(price kd x y:Int):PS × Bool :=
 if S.units.findIdx (onP x y)<S.units.length∨S.gold.getD a 0<price∨40≤S.units.length then (S,false)
 else ({ S with last:=S.last+1,gold:=S.gold.set a (S.gold.getD a 0-price),units:=S.units++[bodyOf a kd x y (S.last+1)] },true)
def Bought (O:Nat→Prop)(w:World)(b:Nat)(gv:Value)(bs:List Nat)(r:PS × Bool)(e:Ending)(w':World):Prop :=
 e=.returned (.bool r.2)∧(∃ uv' g' t,uv'.ownBlock=some g'∧PAt w' (fun k=>O k∨w.heap.size≤k) b r.1 gv uv' (bs++t))∧Keep O w w'
theorem PAt.grow {w:World}{O O':Nat→Prop}{b:Nat}{S:PS}{gv uv:Value}{bs:List Nat}(h:PAt w O b S gv uv bs)(hO:∀ k,O k→O' k):PAt w O' b S gv uv bs :=
 ⟨h.ore,h.blen,h.st,h.gold,h.units,h.each,h.kinds,h.nodup,hO _ h.ob,fun k e=>⟨hO _ (h.og k e).1,(h.og k e).2⟩,fun k e=>⟨hO _ (h.ou k e).1,(h.ou k e).2⟩,fun k e=>⟨hO _ (h.oe k e).1,(h.oe k e).2⟩⟩
theorem Bought.same {O:Nat→Prop}{w w':World}{b g:Nat}{S:PS}{gv uv:Value}{bs:List Nat}(h:PAt w' O b S gv uv bs)(hob:uv.ownBlock=some g)(k:Keep O w w'):Bought O w b gv bs (S,false) (.returned (.bool false)) w' :=
 ⟨rfl,⟨uv,g,[],hob,by rw[List.append_nil];exact h.grow fun _ q=>.inl q⟩,k⟩
theorem Bought.placed {O:Nat→Prop}{w w1 w':World}{b:Nat}{S':PS}{gv:Value}{bs:List Nat}(k1:Keep O w w1)
  (hp:∃ uv' g nb,uv'.ownBlock=some g∧PAt w' (fun k=>O k∨w1.heap.size≤k) b S' gv uv' (bs++[nb]))(k2:Keep O w1 w'):Bought O w b gv bs (S',true) (.returned (.bool true)) w':=by
 obtain ⟨uv',g,nb,h1,h2⟩:=hp
 have:=k1.size
 exact ⟨rfl,⟨uv',g,[nb],h1,h2.grow fun k q=>by rcases q with q|q;exact .inl q;exact .inr (by omega)⟩,k1.trans k2 fun j q=>.inl q⟩
theorem Bought.back {O:Nat→Prop}{w W w':World}{b:Nat}{gv:Value}{bs:List Nat}{r:PS × Bool}{e:Ending}(q:Bought O W b gv bs r e w')(hW:Below w.heap.size w W):Bought O w b gv bs r e w':=by
 obtain ⟨h1,⟨uv',g',t,h2,h3⟩,h4⟩:=q
 have:=hW.size
 exact ⟨h1,⟨uv',g',t,h2,h3.grow fun k q=>by rcases q with q|q;exact .inl q;exact .inr (by omega)⟩,((Keep.ofBelow hW).mono (O':=O) (fun j hj=>.inr hj)).trans h4 fun j q=>.inl q⟩
end Go.Proofs.YtdianedehhecoaaGreatDoor