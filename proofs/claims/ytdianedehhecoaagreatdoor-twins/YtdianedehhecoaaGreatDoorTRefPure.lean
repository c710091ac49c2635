/- The document's answer as Lean functions: the state, the rules, the bytes, Fold; what is always so of a state. No walk. -/
import Derived.Test.YtdianedehhecoaaGreatDoorTBase
set_option linter.unusedVariables false
set_option linter.unusedSimpArgs false
namespace Go.Proofs.YtdianedehhecoaaGreatDoor
open Go.RowKit
structure RU where
 own:Int
 kind:Int
 x:Int
 y:Int
 hp:Int
 busy:Bool
def ru0:RU:=⟨0,0,0,0,0,false⟩
structure RS where
 turn:Int
 gold:List Int
 ore:List Int
 units:List RU
def mayB (s p:Int):Bool:=decide (0≤s∧s≤999∧2≤p∧p≤4)
def nearB (x y a b:Int):Bool:=decide (0≤x∧x≤7∧0≤y∧y≤7∧¬ (x=a∧y=b)∧x-a≤1∧a-x≤1∧y-b≤1∧b-y≤1)
def byteOf (n:Int):UInt8:=UInt8.ofNat (n % 256).toNat
def healthOf (k:Int):Int:=if k=1 then 20 else if k=2 then 5 else if k=3 then 8 else 0
def aliveB (u:RU):Bool:=decide (0<u.hp)
def thereF (us:List RU):Nat:=us.countP aliveB
def onB (x y:Int)(u:RU):Bool:=decide (0<u.hp) && (u.x == x) && (u.y == y)
def atF (us:List RU)(x y:Int):Int:=match us.findIdx? (onB x y) with|some i=>(i:Int)|none=>-1
def baseB (p:Int)(u:RU):Bool:=decide (0<u.hp) && (u.own == p) && (u.kind == 1)
def inF (us:List RU)(p:Int):Bool:=us.any (baseB p)
def leftTo (us:List RU):Nat→Nat × Int
 | 0=>(0,-1)
 | k+1=>if inF us k then ((leftTo us k).1+1,(k:Int)) else leftTo us k
def overB (S:RS):Bool:=decide ((leftTo S.units S.gold.length).1≤1)
def UInv (n:Nat)(u:RU):Prop:=1≤u.kind∧u.kind≤3∧0≤u.own∧u.own<n∧0≤u.x∧u.x≤7∧0≤u.y∧u.y≤7∧-3≤u.hp∧u.hp≤20
structure RInv (S:RS):Prop where
 ore:S.ore.length=64
 g2:2≤S.gold.length
 g4:S.gold.length≤4
 gpos:∀ i,0≤S.gold.getD i 0
 opos:∀ i,0≤S.ore.getD i 0
 sum:2*(S.units.length:Int)+S.gold.sum+S.ore.sum≤300
 u0:0<S.units.length
 us:∀ i,i<S.units.length→UInv S.gold.length (S.units.getD i ru0)
def hitOf (k:Int):Int:=if k=1 then 2 else if k=2 then 1 else if k=3 then 3 else 0
def doesF (S:RS)(k:Nat)(what x y on:Int):RS × Bool :=
 let u:=S.units.getD k ru0
 let v:=S.units.getD on.toNat ru0
 if what=1 then
  if u.kind=1∨0≤on then (S,false) else ({ S with units:=S.units.set k { u with x:=x,y:=y } },true)
 else if what=2 then
  if on<0∨v.own=u.own then (S,false) else ({ S with units:=S.units.set on.toNat { v with hp:=v.hp-hitOf u.kind } },true)
 else if what=3 then
  if u.kind≠2∨S.ore.getD (8*y+x).toNat 0<1 then (S,false)
  else ({ S with ore:=S.ore.set (8*y+x).toNat (S.ore.getD (8*y+x).toNat 0-1),gold:=S.gold.set u.own.toNat (S.gold.getD u.own.toNat 0+1) },true)
 else if what=4∨what=5 then
  if u.kind≠1∨0≤on∨S.gold.getD u.own.toNat 0<what-2∨40≤thereF S.units then (S,false)
  else ({ S with gold:=S.gold.set u.own.toNat (S.gold.getD u.own.toNat 0-(what-2)),units:=S.units++[⟨u.own,what-2,x,y,healthOf (what-2),true⟩] },true)
 else (S,false)
theorem getD_some (us:List RU)(k:Nat)(hk:k<us.length):us[k]? = some (us.getD k ru0):=by simp [List.getD,List.getElem?_eq_getElem hk]
theorem le_sum (l:List Int)(h:∀ i,0≤l.getD i 0):0≤l.sum∧∀ i,l.getD i 0≤l.sum:=by
 induction l with
 | nil=>simp
 | cons a l ih =>
  have h':=ih (fun i=>by simpa using h (i+1))
  have ha:0≤a:=by simpa using h 0
  simp only[List.sum_cons]
  refine ⟨by omega,fun i=>?_⟩
  cases i with
  | zero=>simp;omega
  | succ i=>have:=h'.2 i;simp only[List.getD_cons_succ];omega
theorem RInv.bounds {S:RS}(h:RInv S):(S.units.length:Int)≤150∧(∀ i,S.gold.getD i 0≤300)∧(∀ i,S.ore.getD i 0≤300):=by
 have hg:=le_sum _ h.gpos
 have ho:=le_sum _ h.opos
 have:=h.sum
 refine ⟨by omega,fun i=>?_,fun i=>?_⟩
 ·have:=hg.2 i;omega
 ·have:=ho.2 i;omega
def giveTo (us:List RU)(p:Int):Nat→List RU
 | 0=>us
 | k+1=>if ((giveTo us p k).getD k ru0).own=p∧((giveTo us p k).getD k ru0).kind=1 then (giveTo us p k).set k { (giveTo us p k).getD k ru0 with hp:=0 } else giveTo us p k
theorem giveTo_len (us:List RU)(p:Int)(k:Nat):(giveTo us p k).length=us.length:=by
 induction k with
 | zero=>rfl
 | succ k ih=>simp only[giveTo];split<;>simp[ih]
def commandF (S:RS)(p un wh x y:Int):RS :=
 if un=0∧wh=0∧x=0∧y=0 then { S with units:=giveTo S.units p S.units.length }
 else if un-1<0∨(S.units.length:Int)≤un-1 then S
 else
  let u:=S.units.getD (un-1).toNat ru0
  if u.hp≤0∨u.own≠p∨u.busy=true∨nearB x y u.x u.y=false then S
  else
   let r:=doesF S (un-1).toNat wh x y (atF S.units x y)
   if r.2 then { r.1 with units:=r.1.units.set (un-1).toNat { r.1.units.getD (un-1).toNat ru0 with busy:=true } } else r.1
theorem doesF_len (S:RS)(k:Nat)(wh x y on:Int):S.units.length≤(doesF S k wh x y on).1.units.length∧(doesF S k wh x y on).1.units.length≤S.units.length+1:=by
 have key:∀ r:RS × Bool,r=doesF S k wh x y on→S.units.length≤r.1.units.length∧r.1.units.length≤S.units.length+1:=by
  intro r hr
  simp only[doesF]at hr
  repeat' split at hr
  all_goals (subst hr;simp)
 exact key _ rfl
theorem atF_lt (us:List RU)(x y:Int):atF us x y<us.length:=by
 unfold atF
 split
 ·rename_i i h
  have:=(List.findIdx?_eq_some_iff_getElem.1 h).1
  omega
 ·omega
structure RC where
 p:Int
 un:Int
 wh:Int
 x:Int
 y:Int
def RC.ok (c:RC):Prop:=0≤c.p∧c.p≤255∧0≤c.un∧c.un≤255∧0≤c.wh∧c.wh≤255∧0≤c.x∧c.x≤255∧0≤c.y∧c.y≤255
def RC.cells (c:RC):List Value:=[.int .i64 c.p,.int .i64 c.un,.int .i64 c.wh,.int .i64 c.x,.int .i64 c.y]
def rc0:RC:=⟨0,0,0,0,0⟩
def RC.on (c:RC)(S:RS):RS:=commandF S c.p c.un c.wh c.x c.y
def clearTo (us:List RU):Nat→List RU
 | 0=>us
 | k+1=>(clearTo us k).set k { (clearTo us k).getD k ru0 with busy:=false }
theorem clearTo_len (us:List RU)(k:Nat):(clearTo us k).length=us.length:=by
 induction k with
 | zero=>rfl
 | succ k ih=>simp[clearTo,ih]
def dropTo (us:List RU):Nat→List RU
 | 0=>us
 | k+1=>if inF (dropTo us k) ((dropTo us k).getD k ru0).own then dropTo us k else (dropTo us k).set k { (dropTo us k).getD k ru0 with hp:=0 }
theorem dropTo_len (us:List RU)(k:Nat):(dropTo us k).length=us.length:=by
 induction k with
 | zero=>rfl
 | succ k ih=>simp only[dropTo];split<;>simp[ih]
def runTo (S:RS)(cs:List RC):RS:=cs.foldl (fun S c=>c.on S) S
def doF (S:RS)(cs:List RC):RS :=
 let S1:=runTo { S with units:=clearTo S.units S.units.length } cs
 { S1 with turn:=S1.turn+1,units:=dropTo S1.units S1.units.length }
theorem getD_set_ru (l:List RU)(k i:Nat)(u:RU):(l.set k u).getD i ru0=if i=k∧k<l.length then u else l.getD i ru0:=by
 simp only[List.getD,List.getElem?_set]
 by_cases h:k=i
 ·subst h
  by_cases h2:k<l.length
  ·simp[h2]
  ·simp[h2,List.getElem?_eq_none (show l.length≤k by omega)]
 ·have:¬ i=k:=fun e=>h e.symm
  simp[h,this]
theorem getD_set_int (l:List Int)(k i:Nat)(u:Int):(l.set k u).getD i 0=if i=k∧k<l.length then u else l.getD i 0:=by
 simp only[List.getD,List.getElem?_set]
 by_cases h:k=i
 ·subst h
  by_cases h2:k<l.length
  ·simp[h2]
  ·simp[h2,List.getElem?_eq_none (show l.length≤k by omega)]
 ·have:¬ i=k:=fun e=>h e.symm
  simp[h,this]
theorem sum_set_int (l:List Int)(k:Nat)(v:Int)(hk:k<l.length):(l.set k v).sum=l.sum-l.getD k 0+v:=by
 induction l generalizing k with
 | nil=>simp at hk
 | cons a l ih =>
  cases k with
  | zero=>simp;omega
  | succ k =>
   have:=ih k (by simpa using hk)
   simp only[List.set_cons_succ,List.sum_cons,List.getD_cons_succ]
   omega
theorem RInv.setUnit {S:RS}(h:RInv S)(k:Nat)(u:RU)(hu:UInv S.gold.length u):RInv { S with units:=S.units.set k u }:=by
 refine ⟨h.ore,h.g2,h.g4,h.gpos,h.opos,by simpa using h.sum,by simpa using h.u0,fun i hi=>?_⟩
 simp only[List.length_set]at hi
 simp only[getD_set_ru]
 split
 ·exact hu
 ·exact h.us i hi
theorem RInv.setTurn {S:RS}(h:RInv S)(n:Int):RInv { S with turn:=n }:=⟨h.ore,h.g2,h.g4,h.gpos,h.opos,h.sum,h.u0,h.us⟩
theorem RInv.clear {S:RS}(h:RInv S)(k:Nat)(hk:k≤S.units.length):RInv { S with units:=clearTo S.units k }:=by
 induction k with
 | zero=>exact h
 | succ k ih =>
  have h':=ih (by omega)
  have hu:=h'.us k (by simp[clearTo_len];omega)
  exact h'.setUnit k { (clearTo S.units k).getD k ru0 with busy:=false } hu
theorem RInv.give {S:RS}(h:RInv S)(p:Int)(k:Nat)(hk:k≤S.units.length):RInv { S with units:=giveTo S.units p k }:=by
 induction k with
 | zero=>exact h
 | succ k ih =>
  have h':=ih (by omega)
  have hu:=h'.us k (by simp[giveTo_len];omega)
  simp only[giveTo]
  split
  ·obtain ⟨a1,a2,a3,a4,a5,a6,a7,a8,a9,a10⟩:=hu
   exact h'.setUnit k { (giveTo S.units p k).getD k ru0 with hp:=0 } ⟨a1,a2,a3,a4,a5,a6,a7,a8,by show (-3:Int)≤0;omega,by show (0:Int)≤20;omega⟩
  ·exact h'
theorem RInv.dropT {S:RS}(h:RInv S)(k:Nat)(hk:k≤S.units.length):RInv { S with units:=dropTo S.units k }:=by
 induction k with
 | zero=>exact h
 | succ k ih =>
  have h':=ih (by omega)
  have hu:=h'.us k (by simp[dropTo_len];omega)
  simp only[dropTo]
  split
  ·exact h'
  ·obtain ⟨a1,a2,a3,a4,a5,a6,a7,a8,a9,a10⟩:=hu
   exact h'.setUnit k { (dropTo S.units k).getD k ru0 with hp:=0 } ⟨a1,a2,a3,a4,a5,a6,a7,a8,by show (-3:Int)≤0;omega,by show (0:Int)≤20;omega⟩
theorem atF_alive (us:List RU)(x y:Int)(h:¬ atF us x y<0):0<(us.getD (atF us x y).toNat ru0).hp:=by
 unfold atF at *
 split at h
 ·rename_i i hi
  obtain ⟨h1,h2,h3⟩:=List.findIdx?_eq_some_iff_getElem.1 hi
  simp only[Int.toNat_natCast,List.getD,List.getElem?_eq_getElem h1,Option.getD_some]
  unfold onB at h2
  simp at h2
  exact h2.1.1
 ·omega
theorem hitOf_range (k:Int):0≤hitOf k∧hitOf k≤3:=by
 unfold hitOf;repeat' split
 all_goals omega
theorem RInv.does {S:RS}(h:RInv S)(k:Nat)(hk:k<S.units.length)(wh x y:Int)(hx0:0≤x)(hx7:x≤7)(hy0:0≤y)(hy7:y≤7) :
  RInv (doesF S k wh x y (atF S.units x y)).1:=by
 have hu:=h.us k hk
 have hat:=atF_lt S.units x y
 have hal:=atF_alive S.units x y
 generalize atF S.units x y=on at *
 obtain ⟨a1,a2,a3,a4,a5,a6,a7,a8,a9,a10⟩:=hu
 have key:∀ r:RS × Bool,r=doesF S k wh x y on→RInv r.1:=by
  intro r hr
  simp only[doesF]at hr
  split at hr
  ·split at hr
   ·subst hr;exact h
   ·subst hr;exact h.setUnit k { S.units.getD k ru0 with x:=x,y:=y } ⟨a1,a2,a3,a4,hx0,hx7,hy0,hy7,a9,a10⟩
  split at hr
  ·split at hr
   ·subst hr;exact h
   ·rename_i hno
    have hp:=hal (fun e=>hno (.inl e))
    have hv:=h.us on.toNat (by omega)
    obtain ⟨b1,b2,b3,b4,b5,b6,b7,b8,b9,b10⟩:=hv
    have hh:=hitOf_range (S.units.getD k ru0).kind
    subst hr
    exact h.setUnit on.toNat { S.units.getD on.toNat ru0 with hp:=(S.units.getD on.toNat ru0).hp-hitOf (S.units.getD k ru0).kind } ⟨b1,b2,b3,b4,b5,b6,b7,b8,by show -3≤_-_;omega,by show _-_≤20;omega⟩
  split at hr
  ·split at hr
   ·subst hr;exact h
   ·rename_i hno
    have ho:¬ S.ore.getD (8*y+x).toNat 0<1:=fun e=>hno (.inr e)
    have hz:(8*y+x).toNat<S.ore.length:=by have:=h.ore;omega
    have hg:(S.units.getD k ru0).own.toNat<S.gold.length:=by omega
    have e1:=sum_set_int S.ore (8*y+x).toNat (S.ore.getD (8*y+x).toNat 0-1) hz
    have e2:=sum_set_int S.gold (S.units.getD k ru0).own.toNat (S.gold.getD (S.units.getD k ru0).own.toNat 0+1) hg
    have hs:=h.sum
    subst hr
    refine ⟨by simpa using h.ore,by simpa using h.g2,by simpa using h.g4,fun i=>?_,fun i=>?_,?_,h.u0,fun i hi=>?_⟩
    ·have:=h.gpos i
     have:=h.gpos (S.units.getD k ru0).own.toNat
     simp only[getD_set_int];split<;>omega
    ·have:=h.opos i
     simp only[getD_set_int];split<;>omega
    ·simp only at *;omega
    ·have:=h.us i hi
     simpa using this
  split at hr
  ·rename_i hw
   split at hr
   ·subst hr;exact h
   ·rename_i hno
    have hc:¬ S.gold.getD (S.units.getD k ru0).own.toNat 0<wh-2:=fun e=>hno (.inr (.inr (.inl e)))
    have hg:(S.units.getD k ru0).own.toNat<S.gold.length:=by omega
    have e2:=sum_set_int S.gold (S.units.getD k ru0).own.toNat (S.gold.getD (S.units.getD k ru0).own.toNat 0-(wh-2)) hg
    have hs:=h.sum
    subst hr
    refine ⟨h.ore,by simpa using h.g2,by simpa using h.g4,fun i=>?_,h.opos,?_,by simp,fun i hi=>?_⟩
    ·have:=h.gpos i
     simp only[getD_set_int];split<;>omega
    ·simp only[List.length_append,List.length_singleton]at *;omega
    ·simp only[List.length_append,List.length_singleton]at hi
     simp only[List.length_set]
     by_cases hi2:i<S.units.length
     ·have:=h.us i hi2
      simpa [List.getD,List.getElem?_append_left hi2] using this
     ·have:i=S.units.length:=by omega
      subst this
      simp only[List.getD,List.getElem?_append_right (Nat.le_refl _),Nat.sub_self,List.getElem?_cons_zero,Option.getD_some]
      have hh:healthOf (wh-2)=5∨healthOf (wh-2)=8:=by rcases hw with rfl|rfl;exact .inl rfl;exact .inr rfl
      refine ⟨by show 1≤wh-2;omega,by show wh-2≤3;omega,a3,a4,hx0,hx7,hy0,hy7,by show -3≤healthOf (wh-2);omega,by show healthOf (wh-2)≤20;omega⟩
  ·subst hr;exact h
 exact key _ rfl
theorem RInv.on {S:RS}(h:RInv S)(c:RC):RInv (c.on S):=by
 unfold RC.on
 have key:∀ r:RS,r=commandF S c.p c.un c.wh c.x c.y→RInv r:=by
  intro r hr
  unfold commandF at hr
  split at hr
  ·subst hr;exact h.give c.p _ (Nat.le_refl _)
  split at hr
  ·subst hr;exact h
  rename_i hk
  have hk':(c.un-1).toNat<S.units.length:=by omega
  simp only at hr
  split at hr
  ·subst hr;exact h
  rename_i hn
  have hnear:nearB c.x c.y (S.units.getD (c.un-1).toNat ru0).x (S.units.getD (c.un-1).toNat ru0).y=true:=by
   cases e:nearB c.x c.y (S.units.getD (c.un-1).toNat ru0).x (S.units.getD (c.un-1).toNat ru0).y
   ·exact absurd (.inr (.inr (.inr e))) hn
   ·rfl
  obtain ⟨rx0,rx7,ry0,ry7⟩:0≤c.x∧c.x≤7∧0≤c.y∧c.y≤7:=by unfold nearB at hnear;simp at hnear;omega
  have hd:=h.does _ hk' c.wh c.x c.y rx0 rx7 ry0 ry7
  have hl:=(doesF_len S (c.un-1).toNat c.wh c.x c.y (atF S.units c.x c.y)).1
  generalize doesF S (c.un-1).toNat c.wh c.x c.y (atF S.units c.x c.y)=q at *
  split at hr
  ·subst hr
   exact hd.setUnit _ { q.1.units.getD (c.un-1).toNat ru0 with busy:=true } (hd.us _ (by omega))
  ·subst hr;exact hd
 exact key _ rfl
theorem on_keeps (S:RS)(c:RC):(c.on S).turn=S.turn∧(c.on S).gold.length=S.gold.length:=by
 unfold RC.on
 have dk:∀ k wh x y on,∀ r:RS × Bool,r=doesF S k wh x y on→r.1.turn=S.turn∧r.1.gold.length=S.gold.length:=by
  intro k wh x y on r hr
  simp only[doesF]at hr
  repeat' split at hr
  all_goals (subst hr;simp)
 have key:∀ r:RS,r=commandF S c.p c.un c.wh c.x c.y→r.turn=S.turn∧r.gold.length=S.gold.length:=by
  intro r hr
  unfold commandF at hr
  split at hr
  ·subst hr;simp
  split at hr
  ·subst hr;simp
  simp only at hr
  split at hr
  ·subst hr;simp
  have hd:=dk (c.un-1).toNat c.wh c.x c.y (atF S.units c.x c.y) _ rfl
  generalize doesF S (c.un-1).toNat c.wh c.x c.y (atF S.units c.x c.y)=q at *
  split at hr
  ·subst hr;exact hd
  ·subst hr;exact hd
 exact key _ rfl
theorem run_keeps (S:RS)(cs:List RC):(runTo S cs).turn=S.turn∧(runTo S cs).gold.length=S.gold.length:=by
 unfold runTo
 induction cs generalizing S with
 | nil=>exact ⟨rfl,rfl⟩
 | cons c cs ih =>
  have h1:=on_keeps S c
  have h2:=ih (c.on S)
  exact ⟨h2.1.trans h1.1,h2.2.trans h1.2⟩
theorem RInv.run {S:RS}(h:RInv S)(cs:List RC):RInv (runTo S cs):=by
 unfold runTo
 induction cs generalizing S with
 | nil=>exact h
 | cons c cs ih=>exact ih (h.on c)
theorem RInv.doF {S:RS}(h:RInv S)(cs:List RC):RInv (doF S cs):=by
 have h1:=(h.clear _ (Nat.le_refl _)).run cs
 exact (h1.setTurn _).dropT _ (Nat.le_refl _)
def rcCells (cs:List RC):List Value:=cs.flatMap RC.cells
theorem rcCells_get (us:List RC)(k f:Nat)(u:RC)(v:Value)(hk:us[k]? = some u)(hf:u.cells[f]? = some v):(rcCells us)[k*5+f]? = some v:=by
 have hf6:f<5:=by
  have:=(List.getElem?_eq_some_iff.1 hf).1
  simpa [RC.cells] using this
 induction us generalizing k with
 | nil=>simp at hk
 | cons u0 us ih =>
  cases k with
  | zero =>
   simp at hk;subst hk
   unfold rcCells
   rw[List.flatMap_cons,List.getElem?_append_left (by simp[RC.cells];omega)]
   simpa using hf
  | succ k =>
   have:=ih k (by simpa using hk)
   unfold rcCells at *
   rw[List.flatMap_cons,List.getElem?_append_right (by simp[RC.cells];omega)]
   rw[← this]
   congr 1
   simp[RC.cells];omega
theorem runTo_snoc (S:RS)(cs:List RC)(k:Nat)(hk:k<cs.length):runTo S (cs.take (k+1))=(cs.getD k rc0).on (runTo S (cs.take k)):=by
 rw[List.take_succ_eq_append_getElem hk]
 unfold runTo
 rw[List.foldl_append]
 simp[List.getD,List.getElem?_eq_getElem hk]
def oreN (seed:Int)(k:Nat):Int:=(seed+3*((k:Int) % 8)+5*((k:Int) / 8)+((k:Int) % 8)*((k:Int) / 8)) % 7-3
def oreS (seed:Int):Nat→List Int
 | 0=>List.replicate 64 0
 | k+1=>if 0<oreN seed k then (oreS seed k).set k (oreN seed k) else oreS seed k
def cornerX (p:Nat):Int:=if p=1∨p=2 then 7 else 0
def cornerY (p:Nat):Int:=if p=1∨p=3 then 7 else 0
def startTo (seed:Int):Nat→RS
 | 0=>⟨0,[],oreS seed 64,[]⟩
 | p+1=>{ startTo seed p with gold:=(startTo seed p).gold++[2],units:=(startTo seed p).units++[⟨p,1,cornerX p,cornerY p,20,true⟩]++[⟨p,2,cornerX p+1-cornerX p / 7*2,cornerY p+1-cornerY p / 7*2,5,true⟩] }
theorem World.heap_setCell_size (w:World)(a:Addr)(v:Value):(w.setCell a v).heap.size=w.heap.size:=by simp [World.setCell]
theorem oreS_len (seed:Int)(k:Nat):(oreS seed k).length=64:=by
 induction k with
 | zero=>simp[oreS]
 | succ k ih=>simp only[oreS];split<;>simp[ih]
theorem startTo_gold (seed:Int)(p:Nat):(startTo seed p).gold.length=p:=by
 induction p with
 | zero=>rfl
 | succ p ih=>simp[startTo,ih]
theorem startTo_units (seed:Int)(p:Nat):(startTo seed p).units.length=2*p:=by
 induction p with
 | zero=>rfl
 | succ p ih=>simp[startTo,ih];omega
def byt (s:ByteArray)(i:Nat):Int:=((s.data.toList.getD i 0).toNat:Int)
def cmdAt (s:ByteArray)(i:Nat):RC:=⟨byt s i,byt s (i+1),byt s (i+2),byt s (i+3),byt s (i+4)⟩
def cmdsAt (s:ByteArray)(i:Nat):Nat→List RC
 | 0=>[]
 | n+1=>cmdsAt s i n++[cmdAt s (i+5*n)]
theorem cmdsAt_len (s:ByteArray)(i n:Nat):(cmdsAt s i n).length=n:=by
 induction n with
 | zero=>rfl
 | succ n ih=>simp[cmdsAt,ih]
theorem byt_range (s:ByteArray)(i:Nat):0≤byt s i∧byt s i≤255:=by
 unfold byt
 have:=(s.data.toList.getD i 0).toNat_lt
 omega
theorem cmdAt_ok (s:ByteArray)(i:Nat):(cmdAt s i).ok:=by
 unfold RC.ok cmdAt
 have h0:=byt_range s i;have h1:=byt_range s (i+1);have h2:=byt_range s (i+2);have h3:=byt_range s (i+3);have h4:=byt_range s (i+4)
 exact ⟨h0.1,h0.2,h1.1,h1.2,h2.1,h2.2,h3.1,h3.2,h4.1,h4.2⟩
theorem byt_get (s:ByteArray)(i:Nat)(h:i<s.size):((s[i].toNat:Nat):Int)=byt s i:=by
 unfold byt
 have h':i<s.data.toList.length:=by simpa using h
 simp only[List.getD,List.getElem?_eq_getElem h',Option.getD_some]
 rfl
def readF (s:ByteArray):Nat→Nat→Nat→Option (List (List RC))
 | 0,_,_=>none
 | fuel+1,at_,left =>
  if at_<s.size then
   let n:=(byt s at_).toNat
   if 36<n∨s.size<at_+1+5*n∨left=0 then none
   else (readF s fuel (at_+1+5*n) (left-1)).map (fun l=>cmdsAt s (at_+1) n :: l)
  else some []
def turnsF (s:ByteArray):Option (List (List RC)):=readF s (s.size+1) 0 1000
theorem readF_next (s:ByteArray)(fuel a left:Nat)(ha:a<s.size)(n:Nat)(hn:(byt s a).toNat=n)(h1:¬ 36<n)(h2:¬ s.size<a+1+5*n)(h3:¬ left=0) :
  readF s (fuel+1) a left=(readF s fuel (a+1+5*n) (left-1)).map (fun l=>cmdsAt s (a+1) n :: l):=by
 simp only[readF]
 rw[if_pos ha,hn,if_neg (by intro h;rcases h with h|h|h;exact h1 h;exact h2 h;exact h3 h)]
theorem readF_bad (s:ByteArray)(fuel a left:Nat)(ha:a<s.size)(h:36<(byt s a).toNat∨s.size<a+1+5*(byt s a).toNat∨left=0):readF s (fuel+1) a left=none:=by
 simp only[readF]
 rw[if_pos ha,if_pos h]
theorem readF_end (s:ByteArray)(fuel a left:Nat)(ha:¬ a<s.size):readF s (fuel+1) a left=some []:=by
 simp only[readF]
 rw[if_neg ha]
def b1 (n:Int):ByteArray:=⟨#[byteOf n]⟩
def b2 (n:Int):ByteArray:=⟨#[byteOf (n / 256),byteOf n]⟩
theorem b1_size (n:Int):(b1 n).size=1:=rfl
theorem b2_size (n:Int):(b2 n).size=2:=rfl
theorem cell_lt {w:World}{a:Addr}{v:Value}(h:w.cell? a=some v):a.block<w.heap.size:=by
 unfold World.cell? at h
 split at h
 ·rename_i e;exact (Array.getElem?_eq_some_iff.1 e).1
 ·cases h
def headF (S:RS):ByteArray:=b2 S.turn++b2 S.units.length++b1 S.gold.length
def goldTo (S:RS):Nat→ByteArray
 | 0=>headF S
 | k+1=>goldTo S k++b2 (S.gold.getD k 0)
def oreTo (S:RS):Nat→ByteArray
 | 0=>goldTo S S.gold.length
 | k+1=>oreTo S k++b1 (S.ore.getD k 0)
def unitTo (S:RS):Nat→ByteArray
 | 0=>oreTo S 64++b1 (thereF S.units)
 | k+1=>if 0<(S.units.getD k ru0).hp then unitTo S k++b2 (k+1)++b1 (S.units.getD k ru0).own++b1 (S.units.getD k ru0).kind++b1 (S.units.getD k ru0).x++b1 (S.units.getD k ru0).y++b1 (S.units.getD k ru0).hp else unitTo S k
def bytesF (S:RS):ByteArray:=unitTo S S.units.length
theorem goldTo_size (S:RS)(k:Nat):(goldTo S k).size=5+2*k:=by
 induction k with
 | zero=>rfl
 | succ k ih=>simp only[goldTo];rw[ByteArray.size_append,ih,b2_size];omega
theorem oreTo_size (S:RS)(k:Nat):(oreTo S k).size=5+2*S.gold.length+k:=by
 induction k with
 | zero=>exact goldTo_size S _
 | succ k ih=>simp only[oreTo];rw[ByteArray.size_append,ih,b1_size];omega
theorem unitTo_size (S:RS)(k:Nat):(unitTo S k).size≤70+2*S.gold.length+7*k:=by
 induction k with
 | zero=>simp only[unitTo];rw[ByteArray.size_append,oreTo_size,b1_size];omega
 | succ k ih =>
  simp only[unitTo]
  split
  ·simp only[ByteArray.size_append,b1_size,b2_size];omega
  ·omega
def playF (S:RS):List (List RC)→Option RS
 | []=>some S
 | cs :: r=>if overB S then none else playF (doF S cs) r
def foldF (seed players:Int)(s:ByteArray):ByteArray × ByteArray × Int :=
 if mayB seed players=false then (⟨#[]⟩,⟨#[]⟩,1)
 else match turnsF s with
  | none=>(⟨#[]⟩,⟨#[]⟩,6)
  | some css=>match playF (startTo seed players.toNat) css with
   | none=>(⟨#[]⟩,⟨#[]⟩,9)
   | some S=>(bytesF S,hash16 (bytesF S),0)
def foldSaid (r:ByteArray × ByteArray × Int)(e:Ending):Prop:=e=.returned (.tuple #[.string r.1,.string r.2.1,.int .i64 r.2.2])
theorem readF_some (s:ByteArray)(fuel a left:Nat)(css:List (List RC))(h:readF s fuel a left=some css) :
  css.length≤left∧∀ cs∈css,cs.length≤36∧∃ i n,cs=cmdsAt s i n:=by
 induction fuel generalizing a left css with
 | zero=>simp[readF]at h
 | succ fuel ih =>
  simp only[readF]at h
  split at h
  ·split at h
   ·cases h
   ·rename_i hb
    cases hr:readF s fuel (a+1+5*(byt s a).toNat) (left-1) with
    | none=>rw[hr]at h;cases h
    | some l =>
     rw[hr]at h
     simp at h
     subst h
     have:=ih _ _ _ hr
     refine ⟨by simp;omega,fun cs hcs=>?_⟩
     simp at hcs
     rcases hcs with rfl|hcs
     ·exact ⟨by rw[cmdsAt_len];omega,_,_,rfl⟩
     ·exact this.2 cs hcs
  ·simp at h;subst h;simp
theorem cmdsAt_ok (s:ByteArray)(i n k:Nat)(hk:k<n):((cmdsAt s i n).getD k rc0).ok:=by
 induction n with
 | zero=>omega
 | succ n ih =>
  simp only[cmdsAt]
  by_cases h:k<n
  ·have:=ih h
   simpa [List.getD,List.getElem?_append_left (show k<(cmdsAt s i n).length by rw[cmdsAt_len];exact h)] using this
  ·have hkn:k=n:=by omega
   subst hkn
   have e:(cmdsAt s i k++[cmdAt s (i+5*k)]).getD k rc0=cmdAt s (i+5*k):=by
    have:=cmdsAt_len s i k
    simp[List.getD,List.getElem?_append_right (show (cmdsAt s i k).length≤k by omega),this]
   rw[e]
   exact cmdAt_ok _ _
theorem turnsF_some (s:ByteArray)(css:List (List RC))(h:turnsF s=some css) :
  css.length≤1000∧∀ i,i<css.length→(css.getD i []).length≤36∧∀ k,k<(css.getD i []).length→((css.getD i []).getD k rc0).ok:=by
 obtain ⟨h1,h2⟩:=readF_some _ _ _ _ _ h
 refine ⟨h1,fun i hi=>?_⟩
 have hm:css.getD i []∈css:=by simp[List.getD,List.getElem?_eq_getElem hi]
 obtain ⟨h3,j,n,h4⟩:=h2 _ hm
 refine ⟨h3,fun k hk=>?_⟩
 rw[h4]at hk ⊢
 rw[cmdsAt_len]at hk
 exact cmdsAt_ok s j n k hk
theorem sum_le (l:List Int)(c:Int)(hc:0≤c)(h:∀ i,l.getD i 0≤c):l.sum≤c*l.length:=by
 induction l with
 | nil=>simp
 | cons a l ih =>
  have h1:=ih (fun i=>by simpa using h (i+1))
  have h2:a≤c:=by simpa using h 0
  simp only[List.sum_cons,List.length_cons]
  have:c*((l.length+1:Nat):Int)=c*l.length+c:=by rw[Int.natCast_add,Int.mul_add];simp
  omega
theorem oreS_range (seed:Int)(k i:Nat):0≤(oreS seed k).getD i 0∧(oreS seed k).getD i 0≤3:=by
 induction k with
 | zero =>
  have:(List.replicate 64 (0:Int)).getD i 0=0:=by
   simp only[List.getD,List.getElem?_replicate];split<;>rfl
  simp only[oreS];rw[this];omega
 | succ k ih =>
  simp only[oreS]
  split
  ·rename_i hp
   rw[getD_set_int]
   split
   ·have:oreN seed k≤3:=by unfold oreN;omega
    omega
   ·exact ih
  ·exact ih
theorem startTo_ore (seed:Int)(p:Nat):(startTo seed p).ore=oreS seed 64∧(startTo seed p).turn=0:=by
 induction p with
 | zero=>exact ⟨rfl,rfl⟩
 | succ p ih=>simp only[startTo];exact ih
theorem startTo_inv (seed:Int)(p:Nat)(h2:2≤p)(h4:p≤4):RInv (startTo seed p):=by
 have hore:=startTo_ore seed p
 have hgl:=startTo_gold seed p
 have hul:=startTo_units seed p
 have hos:(oreS seed 64).sum≤192:=by
  have:=sum_le (oreS seed 64) 3 (by omega) (fun i=>(oreS_range seed 64 i).2)
  rw[oreS_len]at this
  omega
 have hcase:p=2∨p=3∨p=4:=by omega
 have hg:(startTo seed p).gold.sum≤8∧∀ i,0≤(startTo seed p).gold.getD i 0:=by
  have:(startTo seed p).gold=List.replicate p 2:=by
   clear hore hgl hul hos hcase h2 h4
   induction p with
   | zero=>rfl
   | succ p ih=>simp only[startTo];rw[ih,List.replicate_succ']
  rw[this]
  constructor
  ·rcases hcase with rfl|rfl|rfl<;>decide
  ·intro i
   simp only[List.getD,List.getElem?_replicate];split<;>simp
 refine ⟨by rw[hore.1,oreS_len],by omega,by omega,hg.2,fun i=>by rw[hore.1];exact (oreS_range seed 64 i).1,by rw[hore.1,hul];have:=hg.1;omega,by omega,?_⟩
 rw[hgl,hul]
 intro i hi
 have key:∀ q:Nat,q≤4→∀ i,i<2*q→UInv q ((startTo seed q).units.getD i ru0):=by
  intro q
  induction q with
  | zero=>intro _ i hi;omega
  | succ q ih =>
   intro hq i hi
   have hlen:=startTo_units seed q
   simp only[startTo]
   by_cases h1:i<2*q
   ·have:=ih (by omega) i h1
    have e:((startTo seed q).units++[⟨q,1,cornerX q,cornerY q,20,true⟩]++[⟨q,2,cornerX q+1-cornerX q / 7*2,cornerY q+1-cornerY q / 7*2,5,true⟩]:List RU).getD i ru0=(startTo seed q).units.getD i ru0:=by
     simp only[List.getD]
     rw[List.getElem?_append_left (by simp;omega),List.getElem?_append_left (by omega)]
    rw[e]
    obtain ⟨a1,a2,a3,a4,a5⟩:=this
    exact ⟨a1,a2,a3,by omega,a5⟩
   ·have hqc:q=0∨q=1∨q=2∨q=3:=by omega
    have hi2:i=2*q∨i=2*q+1:=by omega
    rcases hi2 with rfl|rfl
    ·have e:((startTo seed q).units++[⟨q,1,cornerX q,cornerY q,20,true⟩]++[⟨q,2,cornerX q+1-cornerX q / 7*2,cornerY q+1-cornerY q / 7*2,5,true⟩]:List RU).getD (2*q) ru0=⟨q,1,cornerX q,cornerY q,20,true⟩:=by
      simp only[List.getD]
      rw[List.getElem?_append_left (by simp;omega),List.getElem?_append_right (by omega),hlen]
      simp
     rw[e]
     unfold UInv
     rcases hqc with rfl|rfl|rfl|rfl<;>simp[cornerX,cornerY]
    ·have e:((startTo seed q).units++[⟨q,1,cornerX q,cornerY q,20,true⟩]++[⟨q,2,cornerX q+1-cornerX q / 7*2,cornerY q+1-cornerY q / 7*2,5,true⟩]:List RU).getD (2*q+1) ru0=⟨q,2,cornerX q+1-cornerX q / 7*2,cornerY q+1-cornerY q / 7*2,5,true⟩:=by
      simp only[List.getD]
      rw[List.getElem?_append_right (by simp;omega)]
      simp[hlen]
     rw[e]
     unfold UInv
     rcases hqc with rfl|rfl|rfl|rfl<;>simp[cornerX,cornerY]
 exact key p h4 i hi
theorem doF_turn (S:RS)(cs:List RC):(doF S cs).turn=S.turn+1∧(doF S cs).gold.length=S.gold.length:=by
 have:=run_keeps { S with units:=clearTo S.units S.units.length } cs
 exact ⟨by show (runTo _ cs).turn+1=_;rw[this.1],this.2⟩
theorem bytesF_size (S:RS)(h:RInv S):(bytesF S).size≤2000:=by
 have:=unitTo_size S S.units.length
 have:=h.bounds.1
 have:=h.g4
 unfold bytesF
 omega
end Go.Proofs.YtdianedehhecoaaGreatDoor