/- Two programs of the same tables: what hangs on the tables alone is the same in both. Nothing of the program. -/
import Derived.Calls
import Derived.Conc.Events
import GoSem.Dispatch
import Derived.Laws.Sem
import Derived.KernelRfl
set_option linter.unusedVariables false
set_option linter.unusedSimpArgs false
set_option linter.unusedSectionVars false
set_option maxHeartbeats 4000000
set_option maxRecDepth 20000
namespace Go.Proofs.YtdianedehhecoaaGreatDoor.Co
structure Two where
 T:Tables
 fs:Array Func
 fg:Array Func
abbrev Two.s (P:Two):Program:=⟨P.T,P.fs⟩
abbrev Two.g (P:Two):Program:=⟨P.T,P.fg⟩
section
variable (P:Two)
theorem two_underlying:P.s.underlying=P.g.underlying:=rfl
theorem two_cellsOf:P.s.cellsOf=P.g.cellsOf:=rfl
theorem two_bytesOf:P.s.bytesOf=P.g.bytesOf:=rfl
theorem two_depth:P.s.depth=P.g.depth:=rfl
theorem two_underlyingId:P.s.underlyingId=P.g.underlyingId:=rfl
theorem two_ownRow:P.s.ownRow=P.g.ownRow:=rfl
theorem two_byteOfCell (d:Nat):byteOfCell P.s d=byteOfCell P.g d:=by
 induction d with
 | zero=>rfl
 | succ d ih=>funext t o;unfold byteOfCell;simp only[ih];rfl
theorem two_cellHolding (d:Nat):cellHolding P.s d=cellHolding P.g d:=by
 induction d with
 | zero=>rfl
 | succ d ih=>funext t o;unfold cellHolding;simp only[ih];rfl
theorem two_plainCell (d:Nat):plainCell P.s d=plainCell P.g d:=by
 induction d with
 | zero=>rfl
 | succ d ih=>funext t o;unfold plainCell;simp only[ih];rfl
theorem two_tight (d:Nat):tight P.s d=tight P.g d:=by
 induction d with
 | zero=>rfl
 | succ d ih=>funext t;unfold tight;simp only[ih];rfl
theorem two_seenCells (c:Array Value)(e:TypeId)(d:Nat):seenCells P.s c e d=seenCells P.g c e d:=by
 induction d with
 | zero=>rfl
 | succ d ih =>
  funext x y;unfold seenCells
  simp only[ih,two_cellHolding,two_depth,two_cellsOf,two_bytesOf]
theorem two_seen (w:World):World.seen P.s w=World.seen P.g w:=by
 funext a u k m
 unfold World.seen
 simp only[two_seenCells,two_plainCell,two_byteOfCell]
 rfl
theorem two_viewLoad (w:World):World.viewLoad P.s w=World.viewLoad P.g w:=by
 funext a u k m
 unfold World.viewLoad
 simp only[two_seen]
theorem two_viewStore (w:World):World.viewStore P.s w=World.viewStore P.g w:=by
 funext a u k v m
 unfold World.viewStore
 simp only[two_seen,two_tight,two_depth]
theorem two_farLoad (w:World):World.farLoad P.s w=World.farLoad P.g w:=by
 funext a m
 unfold World.farLoad
 simp only[two_viewLoad]
theorem two_farStore (w:World):World.farStore P.s w=World.farStore P.g w:=by
 funext a v m
 unfold World.farStore
 simp only[two_viewStore]
theorem two_alikeButTags (d:Nat):P.s.alikeButTags d=P.g.alikeButTags d:=by
 induction d with
 | zero=>rfl
 | succ d ih=>funext t u;unfold Program.alikeButTags;simp only[ih]
theorem two_stoodInAs:P.s.stoodInAs=P.g.stoodInAs:=by
 funext t;unfold Program.stoodInAs;simp only[two_alikeButTags,two_depth,two_underlying,two_underlyingId]
theorem two_stoodInHeld:P.s.stoodInHeld=P.g.stoodInHeld:=by
 funext t;unfold Program.stoodInHeld;simp only[two_stoodInAs]
theorem two_packedAs:P.s.packedAs=P.g.packedAs:=by
 funext t;unfold Program.packedAs;simp only[two_alikeButTags,two_depth,two_underlying,two_underlyingId,two_ownRow]
theorem two_packed:P.s.packed=P.g.packed:=by
 funext t;unfold Program.packed;simp only[two_packedAs]
theorem two_holdsStoodIn (d:Nat):P.s.holdsStoodIn d=P.g.holdsStoodIn d:=by
 induction d with
 | zero=>rfl
 | succ d ih=>funext t;unfold Program.holdsStoodIn;simp only[ih,two_stoodInHeld,two_underlying]
theorem two_holdsPacked (d:Nat):P.s.holdsPacked d=P.g.holdsPacked d:=by
 induction d with
 | zero=>rfl
 | succ d ih=>funext t;unfold Program.holdsPacked;simp only[ih,two_packed,two_underlying]
theorem two_sameLayout (d:Nat):sameLayout P.s d=sameLayout P.g d:=by
 induction d with
 | zero=>rfl
 | succ d ih=>funext t u;unfold sameLayout;simp only[ih,two_stoodInHeld,two_underlying,two_underlyingId]
theorem two_rowAt (f:TypeId→Bool)(d:Nat):rowAt P.s f d=rowAt P.g f d:=by
 induction d with
 | zero=>rfl
 | succ d ih=>funext e c o n;unfold rowAt;simp only[ih,two_stoodInHeld];rfl
theorem two_liesAt (d:Nat):liesAt P.s d=liesAt P.g d:=by
 induction d with
 | zero=>rfl
 | succ d ih=>funext e c o u n;unfold liesAt;simp only[ih,two_rowAt,two_sameLayout,two_depth,two_underlying]
theorem two_cellOfByte (d:Nat):cellOfByte P.s d=cellOfByte P.g d:=by
 induction d with
 | zero=>rfl
 | succ d ih=>funext t b;unfold cellOfByte;simp only[ih];rfl
theorem two_cellAtBytes (d:Nat):cellAtBytes P.s d=cellAtBytes P.g d:=by
 funext e c o b;unfold cellAtBytes;simp only[two_byteOfCell,two_cellOfByte];rfl
theorem two_eqGuardType (d:Nat):P.s.eqGuardType d=P.g.eqGuardType d:=by
 induction d with
 | zero=>rfl
 | succ d ih=>funext t;unfold Program.eqGuardType;simp only[ih,two_underlying]
end
end Go.Proofs.YtdianedehhecoaaGreatDoor.Co
/- Two worlds that are alike but for ghosts: blocks that the small one does not have. What does not halt badly in the small one does the same in the great one, and touches no ghost. Nothing of the program. -/
namespace Go.Proofs.YtdianedehhecoaaGreatDoor.Co
def re (w:World)(t:Nat→Question→Nat)(d:Nat):World:={ w with tape:=t,drawn:=d }
def nix:Obj:=.stringIter ⟨#[]⟩ 0
class Loops where
 lo:Nat→Option Loop
 old:Nat
variable [Loops]
def alikeO (k:Nat)(x y:Option Obj):Prop:=(Loops.lo k=none∧x=y)∨∃ l,Loops.lo k=some l∧x=some (.loop l)∧y=some nix
structure Gh (Γ:Nat→Prop)(s b:World):Prop where
 os:b.os=s.os
 output:b.output=s.output
 size:b.heap.size=s.heap.size
 same:∀ k:Nat,¬ Γ k→alikeO k (b.heap[k]?) (s.heap[k]?)
 ghost:∀ k:Nat,Γ k→∃ c t c',s.heap[k]? = some (.pending c t)∧b.heap[k]? = some (.cells c' t (0,0))∧c'.size=c.size∧0<c.size
 calm:∀ (k:Nat) (o:Obj),s.heap[k]? = some o→∀ l,o≠.loop l
 grew:Loops.old≤s.heap.size∧∀ k:Nat,Γ k→Loops.old≤k
def badH:Halt→Prop
 | .stuck _|.unsupported _=>True
 | _=>False
def onW {α:Type}(f:World→World):Result α→Result α
 | .ok a w=>.ok a (f w)
 | .halt h w=>.halt h (f w)
def atW {α:Type}:Result α→World
 | .ok _ w=>w
 | .halt _ w=>w
def badR {α:Type}:Result α→Prop
 | .halt h _=>badH h
 | _=>False
def dumb:Mark→Prop
 | .extern _|.noRoom=>True
 | _=>False
def shuns (Γ:Nat→Prop)(e:Event):Prop :=
 match e.loc with
 | .cell a=>¬ Γ a.block
 | .obj r=>¬ Γ r
 | .mark m=>dumb m
 | _=>True
structure Beside (Γ:Nat→Prop) {α:Type}(P:Two)(s:Sem α)(b:World)(es:Array Event)(k:Nat)(r:Result α)(ev:Array Event):Prop where
 run:∃ b',s.runT P.g b es=(onW (fun _=>b') r,es++ev)∧Gh Γ (atW r) b'∧b'.tape=b.tape∧b'.drawn=b.drawn+k∧∀ j:Nat,Γ j→b'.heap[j]? = b.heap[j]?
 shun:∀ e∈ev,shuns Γ e
 fine:∀ x u,r=.halt x u→∃ v,x=.panic v
def Kin (Γ:Nat→Prop)(P:Two) {α:Type}(s:Sem α):Prop :=
 ∀ (w b:World),Gh Γ w b→∀ es:Array Event,∃ (k:Nat) (r:Result α) (ev:Array Event),
  (∀ t d,(∀ i q,i<k→t (d+i) q=b.tape (b.drawn+i) q)→s.run P.s (re w t d)=onW (fun u=>re u t (d+k)) r) ∧
  (badR r∨Beside Γ P s b es k r ev)
section
variable {Γ:Nat→Prop} {P:Two} {α β:Type}
theorem Gh.re {s b:World}(h:Gh Γ s b)(t:Nat→Question→Nat)(d:Nat):Gh Γ (re s t d) b:=⟨h.os,h.output,h.size,h.same,h.ghost,h.calm,h.grew⟩
theorem Gh.back {s b:World}(h:Gh Γ s b){k:Nat}(hk:¬ Γ k){o:Obj}(ho:s.heap[k]? = some o)(hn:o≠nix):b.heap[k]? = some o:=by
 rcases h.same k hk with ⟨_,e⟩|⟨_,_,_,e⟩
 ·rw[e,ho]
 ·rw[ho]at e;exact absurd (Option.some.inj e) hn
theorem Gh.lt {s b:World}(h:Gh Γ s b){k:Nat}(hk:Γ k):k<s.heap.size:=by
 obtain ⟨c,t,c',e,_⟩:=h.ghost k hk
 exact (Array.getElem?_eq_some_iff.1 e).1
theorem Kin.still {s:Sem α}(x:Result α→Prop)(h:∀ w b,Gh Γ w b→∃ a,(∀ t d,s.run P.s (re w t d)=.ok a (re w t d))∧∀ es,s.runT P.g b es=(.ok a b,es)):Kin Γ P s:=fun w b hg es=>by
 obtain ⟨a,h1,h2⟩:=h w b hg
 exact ⟨0,.ok a w,#[],fun t d _=>by rw[h1];simp[onW],.inr ⟨⟨b,by rw[h2];simp[onW],hg,rfl,rfl,fun _ _=>rfl⟩,fun e he=>(by simp at he),fun x u e=>(by cases e)⟩⟩
theorem Kin.pure (a:α):Kin Γ P (Sem.pure a):=Kin.still (fun _=>True) fun w b _=>⟨a,fun _ _=>rfl,fun _=>rfl⟩
theorem Kin.halt (x:Halt)(hx:(∃ v,x=.panic v)∨(∃ v,x=.stuck v)∨∃ v,x=.unsupported v:=by first|exact .inl ⟨_,rfl⟩|exact .inr (.inl ⟨_,rfl⟩)|exact .inr (.inr ⟨_,rfl⟩)):Kin Γ P (Sem.halt x:Sem α):=fun w b h es =>
 ⟨0,.halt x w,#[],fun t d _=>by simp[Sem.run,onW],by
  rcases hx with ⟨v,rfl⟩|⟨v,rfl⟩|⟨v,rfl⟩
  ·exact .inr ⟨⟨b,by simp[Sem.runT,onW],h,rfl,rfl,fun _ _=>rfl⟩,fun e he=>(by simp at he),fun x u e=>(by cases e;exact ⟨v,rfl⟩)⟩
  ·exact .inl trivial
  ·exact .inl trivial⟩
theorem Kin.bind {s:Sem α}{f:α→Sem β}(h:Kin Γ P s)(hf:∀ a,Kin Γ P (f a)):Kin Γ P (s.bind f):=by
 intro w b hg es
 obtain ⟨k,r,ev,h1,h2⟩:=h w b hg es
 cases r with
 | halt x u =>
  refine ⟨k,.halt x u,ev,fun t d ht=>?_,?_⟩
  ·rw[Sem.run_bind',h1 t d ht];rfl
  ·rcases h2 with h2|⟨⟨b',hr,hg',e1,e2,e3⟩,hs,hfn⟩
   ·exact .inl h2
   ·exact .inr ⟨⟨b',by rw[Sem.runT_bind',hr];rfl,hg',e1,e2,e3⟩,hs,fun y v e=>by cases e;exact hfn _ _ rfl⟩
 | ok a u =>
  rcases h2 with h2|⟨⟨b',hr,hg',e1,e2,e3⟩,hs,_⟩
  ·exact h2.elim
  ·obtain ⟨k2,r2,ev2,g1,g2⟩:=hf a u b' hg' (es++ev)
   refine ⟨k+k2,r2,ev++ev2,fun t d ht=>?_,?_⟩
   ·rw[Sem.run_bind',h1 t d (fun i q hi=>ht i q (by omega))]
    show (f a).run P.s (Go.Proofs.YtdianedehhecoaaGreatDoor.Co.re u t (d+k))=_
    rw[g1 t (d+k) (fun i q hi=>by
     have:=ht (k+i) q (by omega)
     rw[e1,e2,show b.drawn+k+i=b.drawn+(k+i) by omega,show d+k+i=d+(k+i) by omega]
     exact this)]
    rw[show d+k+k2=d+(k+k2) by omega]
   ·rcases g2 with g2|⟨⟨b2,hr2,hg2,e4,e5,e6⟩,hs2,hfn2⟩
    ·exact .inl g2
    ·refine .inr ⟨⟨b2,?_,hg2,e4.trans e1,by rw[e5,e2];omega,fun j hj=>(e6 j hj).trans (e3 j hj)⟩,fun e he=>(Array.mem_append.1 he).elim (hs e) (hs2 e),hfn2⟩
     rw[Sem.runT_bind',hr]
     show (f a).runT P.g b' (es++ev)=_
     rw[hr2,Array.append_assoc]
theorem Gh.cell {s b:World}(h:Gh Γ s b){a:Addr}(ha:¬ Γ a.block):b.cell? a=s.cell? a:=by
 unfold World.cell?
 rcases h.same _ ha with ⟨_,e⟩|⟨l,el,e1,e2⟩
 ·rw[e]
 ·rw[e1,e2];rfl
theorem Gh.frozen {s b:World}(h:Gh Γ s b)(a:Addr):b.frozen? a=s.frozen? a:=by
 unfold World.frozen?
 by_cases ha:Γ a.block
 ·obtain ⟨c,t,c',e1,e2,_⟩:=h.ghost _ ha
  rw[e1,e2]
  simp
 ·rcases h.same _ ha with ⟨_,e⟩|⟨l,el,e1,e2⟩
  ·rw[e]
  ·rw[e1,e2];rfl
theorem Gh.noCell {s b:World}(h:Gh Γ s b){a:Addr}(ha:Γ a.block):s.cell? a=none:=by
 obtain ⟨c,t,c',e1,e2,_⟩:=h.ghost _ ha
 unfold World.cell?;rw[e1]
theorem Gh.farBad {s b:World}(h:Gh Γ s b){a:Addr}(ha:Γ a.block)(m:Bool):s.farLoad P.g a m=.error (.unsupported (.initOrder a.block))∧∀ v,s.farStore P.g a v m=.error (.unsupported (.initOrder a.block)):=by
 obtain ⟨c,t,c',e1,e2,_⟩:=h.ghost _ ha
 unfold World.farLoad World.farStore World.noCell
 rw[e1]
 exact ⟨rfl,fun _=>rfl⟩
theorem Gh.seen {s b:World}(h:Gh Γ s b)(p:Program)(at_:Addr)(u:TypeId)(k:Addr)(m:Bool) :
  (∃ e,s.seen p at_ u k m=.error e)∨(¬ Γ at_.block∧b.seen p at_ u k m=s.seen p at_ u k m):=by
 by_cases ha:Γ at_.block
 ·left
  obtain ⟨c,t,c',e1,e2,_⟩:=h.ghost _ ha
  unfold World.seen
  rw[e1]
  simp only[bind,Except.bind,pure,Except.pure]
  (repeat' split)<;>exact ⟨_,rfl⟩
 ·right
  refine ⟨ha,?_⟩
  unfold World.seen
  rcases h.same _ ha with ⟨_,e⟩|⟨l,el,e1,e2⟩
  ·rw[e]
  ·rw[e1,e2];rfl
theorem Gh.withHeap {s b:World}(h:Gh Γ s b){f g:Array Obj}(hz:g.size=f.size)(h1:∀ k:Nat,¬ Γ k→alikeO k (g[k]?) (f[k]?))(h2:∀ k:Nat,Γ k→f[k]? = s.heap[k]?)(h3:∀ k:Nat,Γ k→g[k]? = b.heap[k]?)(h4:∀ (k:Nat)(o:Obj),f[k]? = some o→∀ l,o≠.loop l)(h5:s.heap.size≤f.size) :
  Gh Γ { s with heap:=f } { b with heap:=g } :=
 ⟨h.os,h.output,hz,h1,fun k hk=>by obtain ⟨c,t,c',e1,e2,e3⟩:=h.ghost k hk;exact ⟨c,t,c',(h2 k hk).trans e1,(h3 k hk).trans e2,e3⟩,h4,Nat.le_trans h.grew.1 h5,h.grew.2⟩
theorem Gh.modify {s b:World}(h:Gh Γ s b){j:Nat}(hj:¬ Γ j)(f:Obj→Obj)(hf:∀ o,(∀ l,o≠.loop l)→∀ l,f o≠.loop l)(hL:(∀ l,f (.loop l)=.loop l)∧f nix=nix):Gh Γ { s with heap:=s.heap.modify j f } { b with heap:=b.heap.modify j f }∧∀ k:Nat,Γ k→(b.heap.modify j f)[k]? = b.heap[k]?:=by
 have hk:∀ k:Nat,Γ k→j≠k:=fun k hk e=>hj (e▸hk)
 refine ⟨h.withHeap (by simp[h.size]) (fun k hk'=>?_) (fun k hk'=>?_) (fun k hk'=>?_) (fun k o ho=>?_) (by simp),fun k hk'=>?_⟩
 ·rw[Array.getElem?_modify,Array.getElem?_modify]
  rcases h.same k hk' with ⟨en,e⟩|⟨l,el,e1,e2⟩
  ·rw[e];exact .inl ⟨en,rfl⟩
  ·rw[e1,e2]
   split
   ·refine .inr ⟨l,el,?_,?_⟩
    ·simp[hL.1]
    ·simp[hL.2]
   ·exact .inr ⟨l,el,rfl,rfl⟩
 ·rw[Array.getElem?_modify,if_neg (hk k hk')]
 ·rw[Array.getElem?_modify,if_neg (hk k hk')]
 ·rw[Array.getElem?_modify]at ho
  split at ho
  ·obtain ⟨o',ho',rfl⟩:=Option.map_eq_some_iff.1 ho
   exact hf o' (h.calm k o' ho')
  ·exact h.calm k o ho
 ·rw[Array.getElem?_modify,if_neg (hk k hk')]
theorem Gh.setCell {s b:World}(h:Gh Γ s b){a:Addr}(ha:¬ Γ a.block)(v:Value):Gh Γ (s.setCell a v) (b.setCell a v)∧∀ k:Nat,Γ k→(b.setCell a v).heap[k]? = b.heap[k]?:=h.modify ha _ (fun o ho l=>by
 cases o with
 | loop l'=>exact absurd rfl (ho l')
 | _=>intro e;cases e) ⟨fun _=>rfl,rfl⟩
theorem Gh.push {s b:World}(h:Gh Γ s b)(o:Obj)(hn:∀ l,o≠.loop l):Gh Γ { s with heap:=s.heap.push o } { b with heap:=b.heap.push o }∧∀ k:Nat,Γ k→(b.heap.push o)[k]? = b.heap[k]?:=by
 have hk:∀ k:Nat,Γ k→k<s.heap.size:=fun k hk=>h.lt hk
 refine ⟨h.withHeap (by simp[h.size]) (fun k hk'=>?_) (fun k hk'=>?_) (fun k hk'=>?_) (fun k o' ho=>?_) (by simp),fun k hk'=>?_⟩
 ·rw[Array.getElem?_push,Array.getElem?_push,h.size]
  split
  ·rename_i hks
   subst hks
   rcases h.same _ hk' with ⟨en,_⟩|⟨_,_,_,e2⟩
   ·exact .inl ⟨en,rfl⟩
   ·simp at e2
  ·exact h.same k hk'
 ·rw[Array.getElem?_push,if_neg (by have:=hk k hk';omega)]
 ·rw[Array.getElem?_push,if_neg (by have:=hk k hk';have:=h.size;omega)]
 ·rw[Array.getElem?_push]at ho
  split at ho
  ·cases ho;exact hn
  ·exact h.calm k o' ho
 ·rw[Array.getElem?_push,if_neg (by have:=hk k hk';have:=h.size;omega)]
theorem Gh.setObj {s b:World}(h:Gh Γ s b){j:Nat}(hj:¬ Γ j)(hj0:Loops.lo j=none)(o:Obj)(hn:∀ l,o≠.loop l):Gh Γ { s with heap:=s.heap.setIfInBounds j o } { b with heap:=b.heap.setIfInBounds j o }∧∀ k:Nat,Γ k→(b.heap.setIfInBounds j o)[k]? = b.heap[k]?:=by
 have hk:∀ k:Nat,Γ k→j≠k:=fun k hk e=>hj (e▸hk)
 refine ⟨h.withHeap (by simp[h.size]) (fun k hk'=>?_) (fun k hk'=>?_) (fun k hk'=>?_) (fun k o' ho=>?_) (by simp),fun k hk'=>?_⟩
 ·rw[Array.getElem?_setIfInBounds,Array.getElem?_setIfInBounds,h.size]
  split
  ·rename_i hks
   subst hks
   exact .inl ⟨hj0,rfl⟩
  ·exact h.same k hk'
 ·rw[Array.getElem?_setIfInBounds_ne (hk k hk')]
 ·rw[Array.getElem?_setIfInBounds_ne (hk k hk')]
 ·rw[Array.getElem?_setIfInBounds]at ho
  split at ho
  ·split at ho
   ·cases ho;exact hn
   ·cases ho
  ·exact h.calm k o' ho
 ·rw[Array.getElem?_setIfInBounds_ne (hk k hk')]
theorem Kin.of_bad {s:Sem α}(w b:World)(es:Array Event){x:Halt}(hx:badH x)(h:∀ t d,s.run P.s (Go.Proofs.YtdianedehhecoaaGreatDoor.Co.re w t d)=.halt x (Go.Proofs.YtdianedehhecoaaGreatDoor.Co.re w t d)) :
  ∃ (k:Nat) (r:Result α) (ev:Array Event),(∀ t d,(∀ i q,i<k→t (d+i) q=b.tape (b.drawn+i) q)→s.run P.s (Go.Proofs.YtdianedehhecoaaGreatDoor.Co.re w t d)=onW (fun u=>Go.Proofs.YtdianedehhecoaaGreatDoor.Co.re u t (d+k)) r)∧(badR r∨Beside Γ P s b es k r ev) :=
 ⟨0,.halt x w,#[],fun t d _=>by rw[h t d];simp[onW],.inl hx⟩
theorem Kin.on {s s1:Sem α}(w b w1 b1:World)(es:Array Event)(ev:Array Event)(hk:Kin Γ P s1)(hg:Gh Γ w1 b1)(h:∀ t d,s.run P.s (Go.Proofs.YtdianedehhecoaaGreatDoor.Co.re w t d)=s1.run P.s (Go.Proofs.YtdianedehhecoaaGreatDoor.Co.re w1 t d))(hb:s.runT P.g b es=s1.runT P.g b1 (es++ev))
  (ht:b1.tape=b.tape)(hd:b1.drawn=b.drawn)(hh:∀ j:Nat,Γ j→b1.heap[j]? = b.heap[j]?)(hs:∀ e∈ev,shuns Γ e) :
  ∃ (k:Nat) (r:Result α) (ev:Array Event),(∀ t d,(∀ i q,i<k→t (d+i) q=b.tape (b.drawn+i) q)→s.run P.s (Go.Proofs.YtdianedehhecoaaGreatDoor.Co.re w t d)=onW (fun u=>Go.Proofs.YtdianedehhecoaaGreatDoor.Co.re u t (d+k)) r)∧(badR r∨Beside Γ P s b es k r ev):=by
 obtain ⟨k,r,ev2,h1,h2⟩:=hk w1 b1 hg (es++ev)
 refine ⟨k,r,ev++ev2,fun t d hw=>?_,?_⟩
 ·rw[h t d,h1 t d (fun i q hi=>by rw[ht,hd];exact hw i q hi)]
 ·rcases h2 with h2|⟨⟨b',hr,hg',e1,e2,e3⟩,hs2,hfn2⟩
  ·exact .inl h2
  ·exact .inr ⟨⟨b',by rw[hb,hr,Array.append_assoc],hg',e1.trans ht,by rw[e2,hd],fun j hj=>(e3 j hj).trans (hh j hj)⟩,fun e he=>(Array.mem_append.1 he).elim (hs e) (hs2 e),hfn2⟩
theorem re_cell (w:World)(t:Nat→Question→Nat)(d:Nat)(a:Addr):(Go.Proofs.YtdianedehhecoaaGreatDoor.Co.re w t d).cell? a=w.cell? a:=rfl
theorem re_frozen (w:World)(t:Nat→Question→Nat)(d:Nat)(a:Addr):(Go.Proofs.YtdianedehhecoaaGreatDoor.Co.re w t d).frozen? a=w.frozen? a:=rfl
theorem re_far (w:World)(t:Nat→Question→Nat)(d:Nat)(a:Addr)(m:Bool):(Go.Proofs.YtdianedehhecoaaGreatDoor.Co.re w t d).farLoad P.g a m=w.farLoad P.g a m:=rfl
theorem noCell_bad (w:World)(a:Addr)(s:String):badH (w.noCell a s):=by
 unfold World.noCell
 split<;>trivial
theorem farLoad_bad {w:World}{a:Addr}{m:Bool}{x:Halt}(h:w.farLoad P.g a m=.error x):badH x:=by
 unfold World.farLoad at h
 split at h
 ·split at h
  ·cases h
  ·cases h;trivial
 ·cases h;exact noCell_bad _ _ _
theorem farStore_bad {w:World}{a:Addr}{v:Value}{m:Bool}{x:Halt}(h:w.farStore P.g a v m=.error x):badH x:=by
 unfold World.farStore at h
 split at h
 ·split at h
  ·cases h
  ·cases h;trivial
 ·cases h;exact noCell_bad _ _ _
theorem viewLoad_ok {w:World}{at_:Addr}{u:TypeId}{k:Addr}{m:Bool}{v:Value}{l:List Addr}(h:w.viewLoad P.g at_ u k m=.ok (v,l)):(∃ x,w.seen P.g at_ u k m=.ok x)∧∀ x∈l,x.block=at_.block:=by
 unfold World.viewLoad at h
 cases hs:w.seen P.g at_ u k m with
 | error e=>rw[hs]at h;cases h
 | ok x =>
  refine ⟨⟨x,rfl⟩,?_⟩
  rw[hs]at h
  obtain ⟨c,e,fz,first,like,cells⟩:=x
  simp only[bind,Except.bind]at h
  split at h
  ·cases h
   intro y hy
   obtain ⟨z,_,rfl⟩:=List.mem_map.1 hy
   rfl
  ·cases h
theorem Gh.farLoad {w b:World}(hg:Gh Γ w b){a:Addr}(ha:¬ Γ a.block)(m:Bool){v:Value}{l:List Addr}(h:w.farLoad P.g a m=.ok (v,l)):b.farLoad P.g a m=.ok (v,l)∧∀ x∈l,¬ Γ x.block:=by
 unfold World.farLoad at h ⊢
 rcases hg.same _ ha with ⟨_,hsm⟩|⟨_,_,_,hsm⟩
 rotate_left
 ·rw[hsm]at h;cases h
 rw[hsm]
 split at h
 ·rename_i at_ u ho
  split at h
  ·rename_i r hr
   cases h
   obtain ⟨⟨x,hx⟩,hl⟩:=viewLoad_ok hr
   rcases hg.seen P.g at_ u a m with ⟨e,he⟩|⟨hn,he⟩
   ·rw[hx]at he;cases he
   ·have e2:b.viewLoad P.g at_ u a m=w.viewLoad P.g at_ u a m:=by unfold World.viewLoad;rw[he]
    rw[e2,hr]
    exact ⟨rfl,fun y hy=>by rw[hl y hy];exact hn⟩
  ·cases h
 ·cases h
theorem Kin.load (m:Mode)(a:Addr){k:Value→Sem α}(hk:∀ v,Kin Γ P (k v)):Kin Γ P (.load m a k):=by
 intro w b hg es
 by_cases ha:Γ a.block
 ·refine Kin.of_bad w b es (x:=.unsupported (.initOrder a.block)) trivial fun t d=>?_
  simp only[Sem.run,two_farLoad,re_cell,re_far,hg.noCell ha,(hg.farBad (P:=P) ha _).1]
 ·cases hc:w.cell? a with
  | some v =>
   refine Kin.on w b w b es #[⟨.cell a,false,m == .atomic⟩] (hk v) hg (fun t d=>?_) ?_ rfl rfl (fun _ _=>rfl) (fun e he=>?_)
   ·simp only[Sem.run,re_cell,hc]
   ·simp only[Sem.runT,hg.cell ha,hc];simp
   ·simp at he;subst he;exact ha
  | none =>
   cases hf:w.farLoad P.g a (m == .atomic) with
   | error x =>
    refine Kin.of_bad w b es (farLoad_bad hf) fun t d=>?_
    simp only[Sem.run,two_farLoad,re_cell,re_far,hc,hf]
   | ok r =>
    obtain ⟨v,l⟩:=r
    obtain ⟨hb,hl⟩:=hg.farLoad ha _ hf
    refine Kin.on w b w b es (l.toArray.map (⟨.cell ·,false,m == .atomic⟩)) (hk v) hg (fun t d=>?_) ?_ rfl rfl (fun _ _=>rfl) (fun e he'=>?_)
    ·simp only[Sem.run,two_farLoad,re_cell,re_far,hc,hf]
    ·simp only[Sem.runT,hg.cell ha,hc,hb]
    ·obtain ⟨y,hy,rfl⟩:=Array.mem_map.1 he'
     exact hl y (by simpa using hy)
theorem Kin.new (o:Obj){k:Nat→Sem α}(hk:∀ r,Kin Γ P (k r))(hn:∀ l,o≠.loop l:=by intro l h;cases h):Kin Γ P (.new o k):=by
 intro w b hg es
 obtain ⟨g1,g2⟩:=hg.push o hn
 refine Kin.on w b { w with heap:=w.heap.push o } { b with heap:=b.heap.push o } es #[] (hk w.heap.size) g1 (fun t d=>?_) ?_ rfl rfl g2 (fun e he=>by simp at he)
 ·simp only[Sem.run];rfl
 ·simp only[Sem.runT,hg.size,Array.append_empty]
theorem Kin.frozen (a:Addr){k:Bool→Sem α}(hk:∀ r,Kin Γ P (k r)):Kin Γ P (.frozen a k):=by
 intro w b hg es
 refine Kin.on w b w b es #[] (hk (w.frozen? a)) hg (fun t d=>?_) ?_ rfl rfl (fun _ _=>rfl) (fun e he=>by simp at he)
 ·simp only[Sem.run,re_frozen]
 ·simp only[Sem.runT,hg.frozen,Array.append_empty]
theorem Kin.program {k:Program→Sem α}(hk:Kin Γ P (k P.g))(e:k P.s=k P.g:=by first|with_reducible rfl|(simp only [two_byteOfCell,two_cellHolding,two_plainCell,two_alikeButTags,two_stoodInAs,two_stoodInHeld,two_packedAs,two_packed,two_holdsStoodIn,two_holdsPacked,two_sameLayout,two_rowAt,two_liesAt,two_cellOfByte,two_cellAtBytes,two_eqGuardType]<;>rfl)|rfl):Kin Γ P (.program k):=by
 intro w b hg es
 refine Kin.on w b w b es #[] hk hg (fun t d=>?_) ?_ rfl rfl (fun _ _=>rfl) (fun e he=>by simp at he)
 ·simp only[Sem.run,e]
 ·simp only[Sem.runT,Array.append_empty]
theorem Kin.mark (m:Mark)(hm:dumb m){k:Sem α}(hk:Kin Γ P k):Kin Γ P (.mark m k):=by
 intro w b hg es
 refine Kin.on w b w b es #[⟨.mark m,false,true⟩] hk hg (fun t d=>?_) ?_ rfl rfl (fun _ _=>rfl) (fun e he=>by simp at he;subst he;exact hm)
 ·simp only[Sem.run]
 ·simp only[Sem.runT];simp
theorem Kin.choose (q:Question){k:Nat→Sem α}(hk:∀ r,Kin Γ P (k r)):Kin Γ P (.choose q k):=by
 intro w b hg es
 by_cases hf:q.forced=true
 ·refine Kin.on w b w b es #[] (hk 0) hg (fun t d=>?_) ?_ rfl rfl (fun _ _=>rfl) (fun e he=>by simp at he)
  ·simp only[Sem.run,hf,if_true]
  ·simp only[Sem.runT,hf,if_true,Array.append_empty]
 ·have hg1:Gh Γ w { b with drawn:=b.drawn+1 }:=⟨hg.os,hg.output,hg.size,hg.same,hg.ghost,hg.calm,hg.grew⟩
  obtain ⟨n,r,ev,h1,h2⟩:=hk (q.cut (b.tape b.drawn q)) w { b with drawn:=b.drawn+1 } hg1 es
  refine ⟨n+1,r,ev,fun t d ht=>?_,?_⟩
  ·have e0:=ht 0 q (by omega)
   simp only[Nat.add_zero]at e0
   simp only[Sem.run,hf]
   rw[show (Go.Proofs.YtdianedehhecoaaGreatDoor.Co.re w t d).tape (Go.Proofs.YtdianedehhecoaaGreatDoor.Co.re w t d).drawn q=b.tape b.drawn q from e0]
   have:=h1 t (d+1) (fun i q' hi=>by
    have:=ht (i+1) q' (by omega)
    simp only[show d+1+i=d+(i+1) by omega,show b.drawn+1+i=b.drawn+(i+1) by omega]
    exact this)
   rw[show d+1+n=d+(n+1) by omega]at this
   exact this
  ·rcases h2 with h2|⟨⟨b',hr,hg',e1,e2,e3⟩,hs,hfn⟩
   ·exact .inl h2
   ·refine .inr ⟨⟨b',?_,hg',e1,by rw[e2];show b.drawn+1+n=_;omega,e3⟩,hs,hfn⟩
    simp only[Sem.runT,hf]
    exact hr
theorem viewStore_ok {w:World}{at_:Addr}{u:TypeId}{k:Addr}{v:Value}{m:Bool}{w':World}{l:List Addr}(h:w.viewStore P.g at_ u k v m=.ok (w',l)) :
  (∃ x,w.seen P.g at_ u k m=.ok x)∧(∀ x∈l,x.block=at_.block)∧∃ o,(∀ l,o≠.loop l)∧w'={ w with heap:=w.heap.setIfInBounds at_.block o }∧∀ b:World,b.seen P.g at_ u k m=w.seen P.g at_ u k m→b.viewStore P.g at_ u k v m=.ok ({ b with heap:=b.heap.setIfInBounds at_.block o },l):=by
 unfold World.viewStore at h
 cases ht:Go.tight P.g P.g.depth u with
 | false=>rw[ht]at h;cases h
 | true =>
  rw[ht]at h
  cases hs:w.seen P.g at_ u k m with
  | error e=>rw[hs]at h;cases h
  | ok x =>
   refine ⟨⟨x,rfl⟩,?_⟩
   rw[hs]at h
   obtain ⟨c,e,fz,first,like,cells⟩:=x
   cases hv:v.bytes? with
   | none=>rw[hv]at h;cases h
   | some bytes =>
    rw[hv]at h
    simp only[bind,Except.bind,pure,Except.pure,Bool.not_true,Bool.false_eq_true,if_false]at h
    by_cases hl:some bytes.length≠Option.map (fun x=>x.length) like.bytes?
    ·simp only[hl,if_true,ne_eq,not_true,not_false_eq_true]at h;cases h
    ·simp only[hl,if_false]at h
     split at h
     ·cases h
     ·rename_i c2 hc2
      cases h
      refine ⟨fun y hy=>by obtain ⟨z,_,rfl⟩:=List.mem_map.1 hy;rfl,.cells c2 e fz,(fun l h=>by cases h),rfl,fun b hb=>?_⟩
      unfold World.viewStore
      rw[ht,hb,hv]
      simp only[bind,Except.bind,pure,Except.pure,Bool.not_true,Bool.false_eq_true,if_false,hl,hc2]
theorem seen_heap (p:Program){w w':World}(h:w'.heap=w.heap)(at_:Addr)(u:TypeId)(k:Addr)(m:Bool):w'.seen p at_ u k m=w.seen p at_ u k m:=by
 unfold World.seen;rw[h]
theorem viewStore_heap (p:Program)(w w':World)(h:w'.heap=w.heap)(at_:Addr)(u:TypeId)(k:Addr)(v:Value)(m:Bool) :
  w'.viewStore p at_ u k v m=(w.viewStore p at_ u k v m).map fun x=>({ w' with heap:=x.1.heap },x.2):=by
 unfold World.viewStore
 rw[seen_heap p h,h]
 cases ht:Go.tight p p.depth u
 ·rfl
 ·cases hs:w.seen p at_ u k m with
  | error e=>rfl
  | ok x =>
   obtain ⟨c,e,fz,first,like,cells⟩:=x
   cases hv:v.bytes? with
   | none=>rfl
   | some bytes =>
    simp only[bind,Except.bind,pure,Except.pure,Bool.not_true,Bool.false_eq_true,if_false]
    by_cases hl:some bytes.length≠Option.map (fun x=>x.length) like.bytes?
    ·simp only[hl,if_true,if_false,ne_eq,not_true,not_false_eq_true];rfl
    ·simp only[hl,if_false]
     generalize hF:List.foldlM (m:=Except String) _ c cells=F
     cases F<;>rfl
theorem farStore_ok {w:World}{a:Addr}{v:Value}{m:Bool}{w':World}{l:List Addr}(h:w.farStore P.g a v m=.ok (w',l)) :
  ∃ at_ u o,w.heap[a.block]? = some (.view at_ u)∧(∃ x,w.seen P.g at_ u a m=.ok x)∧(∀ x∈l,x.block=at_.block)∧(∀ l,o≠.loop l)∧w'={ w with heap:=w.heap.setIfInBounds at_.block o } ∧
   ∀ b:World,b.heap[a.block]? = some (.view at_ u)→b.seen P.g at_ u a m=w.seen P.g at_ u a m→b.farStore P.g a v m=.ok ({ b with heap:=b.heap.setIfInBounds at_.block o },l):=by
 unfold World.farStore at h
 split at h
 ·rename_i at_ u ho
  split at h
  ·rename_i r hr
   cases h
   obtain ⟨h1,h2,o,h0,h3,h4⟩:=viewStore_ok hr
   refine ⟨at_,u,o,ho,h1,h2,h0,h3,fun b hb1 hb2=>?_⟩
   unfold World.farStore
   rw[hb1]
   simp only[h4 b hb2]
  ·cases h
 ·cases h
theorem Kin.store (m : Mode) (a : Addr) (v : Value) {k : Sem α} (hk : Kin Γ P k) : Kin Γ P (.store m a v k) := by
  intro w b hg es
  by_cases h1 : (∃ c, v = .agg c) ∨ ∃ c, v = .tuple c
  · refine Kin.of_bad w b es (x := .stuck "store: not the value of one cell") trivial fun t d => ?_
    rcases h1 with ⟨c, rfl⟩ | ⟨c, rfl⟩ <;> rfl
  · have e0 : ∀ (W : World), (Sem.store m a v k).run P.s W = match W.cell? a with
        | some _ => if W.frozen? a then .halt (.unsupported (.unsafePointer "a write to bytes that a string shares")) W else k.run P.s (W.setCell a v)
        | none => match W.farStore P.g a v (m == .atomic) with
          | .ok (W, _) => k.run P.s W
          | .error h => .halt h W := by
      intro W
      rw [← two_farStore]
      cases v <;> first | rfl | exact absurd (.inl ⟨_, rfl⟩) h1 | exact absurd (.inr ⟨_, rfl⟩) h1
    have e : ∀ (W : World) (es : Array Event), (Sem.store m a v k).runT P.g W es = match W.cell? a with
        | some _ => if W.frozen? a then (.halt (.unsupported (.unsafePointer "a write to bytes that a string shares")) W, es) else k.runT P.g (W.setCell a v) (es.push ⟨.cell a, true, m == .atomic⟩)
        | none => match W.farStore P.g a v (m == .atomic) with
          | .ok (W, touched) => k.runT P.g W (es ++ touched.toArray.map (⟨.cell ·, true, m == .atomic⟩))
          | .error h => (.halt h W, es) := by
      intro W es
      cases v <;> first | rfl | exact absurd (.inl ⟨_, rfl⟩) h1 | exact absurd (.inr ⟨_, rfl⟩) h1
    by_cases ha : Γ a.block
    · refine Kin.of_bad w b es (x := .unsupported (.initOrder a.block)) trivial fun t d => ?_
      have := (hg.re t d).farBad (P := P) ha (m == .atomic)
      simp only [e0, re_cell, hg.noCell ha, this.2 v]
    · cases hc : w.cell? a with
      | some u =>
        by_cases hf : w.frozen? a = true
        · refine Kin.of_bad w b es (x := .unsupported (.unsafePointer "a write to bytes that a string shares")) trivial fun t d => ?_
          simp only [e0, re_cell, re_frozen, hc, hf, if_true]
        · obtain ⟨g1, g2⟩ := hg.setCell ha v
          refine Kin.on w b (w.setCell a v) (b.setCell a v) es #[⟨.cell a, true, m == .atomic⟩] hk g1 (fun t d => ?_) ?_ rfl rfl g2 (fun e he => ?_)
          · simp only [e0, re_cell, re_frozen, hc, hf]; rfl
          · simp only [e, hg.cell ha, hg.frozen, hc, hf]; simp
          · simp at he; subst he; exact ha
      | none =>
        cases hf : w.farStore P.g a v (m == .atomic) with
        | error x =>
          refine Kin.of_bad w b es (farStore_bad hf) fun t d => ?_
          have : (Go.Proofs.YtdianedehhecoaaGreatDoor.Co.re w t d).farStore P.g a v (m == .atomic) = .error x := by
            cases h2 : (Go.Proofs.YtdianedehhecoaaGreatDoor.Co.re w t d).farStore P.g a v (m == .atomic) with
            | error y =>
              unfold World.farStore at hf h2
              have hh : (Go.Proofs.YtdianedehhecoaaGreatDoor.Co.re w t d).heap = w.heap := rfl
              rw [hh] at h2
              split at h2
              · rename_i at_ u ho
                rw [ho] at hf
                simp only [viewStore_heap P.g w (Go.Proofs.YtdianedehhecoaaGreatDoor.Co.re w t d) rfl] at h2
                simp only at hf
                cases hv : w.viewStore P.g at_ u a v (m == .atomic) with
                | error z => rw [hv] at hf h2; cases hf; cases h2; rfl
                | ok z => rw [hv] at hf; cases hf
              · rename_i hno
                split at hf
                · rename_i at_ u ho; exact absurd ho (hno at_ u)
                · cases hf; cases h2; rfl
            | ok y =>
              obtain ⟨y1, y2⟩ := y
              obtain ⟨at_, u, o, q1, q2, q3, q0, q4, q5⟩ := farStore_ok h2
              have := q5 w q1 (seen_heap P.g (w := Go.Proofs.YtdianedehhecoaaGreatDoor.Co.re w t d) (w' := w) rfl at_ u a _)
              rw [hf] at this; cases this
          simp only [e0, re_cell, hc, this]
        | ok r =>
          obtain ⟨w', l⟩ := r
          obtain ⟨at_, u, o, q1, ⟨x, q2⟩, q3, q0, rfl, q5⟩ := farStore_ok hf
          rcases hg.seen P.g at_ u a (m == .atomic) with ⟨er, he⟩ | ⟨hn, he⟩
          · rw [q2] at he; cases he
          · have hlo : Loops.lo at_.block = none := by
              rcases hg.same _ hn with ⟨en, _⟩ | ⟨l, _, _, e2⟩
              · exact en
              · exfalso
                revert q2
                unfold World.seen
                rw [e2]
                simp only [nix, bind, Except.bind, pure, Except.pure]
                (repeat' split) <;> (intro e; cases e)
            obtain ⟨g1, g2⟩ := hg.setObj hn hlo o q0
            have hb := q5 b (hg.back ha q1 (by intro e; cases e)) he
            refine Kin.on w b { w with heap := w.heap.setIfInBounds at_.block o } { b with heap := b.heap.setIfInBounds at_.block o } es (l.toArray.map (⟨.cell ·, true, m == .atomic⟩)) hk g1 (fun t d => ?_) ?_ rfl rfl g2 (fun e he' => ?_)
            · have := q5 (Go.Proofs.YtdianedehhecoaaGreatDoor.Co.re w t d) q1 (seen_heap P.g (w := w) (w' := Go.Proofs.YtdianedehhecoaaGreatDoor.Co.re w t d) rfl at_ u a _)
              simp only [e0, re_cell, hc, this]; rfl
            · simp only [e, hg.cell ha, hc, hb]
            · obtain ⟨y, hy, rfl⟩ := Array.mem_map.1 he'
              have := q3 y (by simpa using hy)
              show ¬ Γ y.block
              rw [this]; exact hn
theorem Kin.bindM {s:Sem α}{f:α→Sem β}(h:Kin Γ P s)(hf:∀ a,Kin Γ P (f a)):Kin Γ P (s >>= f):=Kin.bind h hf
theorem Kin.pureM (a:α):Kin Γ P (Pure.pure a:Sem α):=Kin.pure a
theorem Kin.ite {c:Prop} [Decidable c] {x y:Sem α}(hx:c→Kin Γ P x)(hy:¬ c→Kin Γ P y):Kin Γ P (if c then x else y):=by
 split
 ·exact hx ‹_›
 ·exact hy ‹_›
theorem re_shape (w:World)(t:Nat→Question→Nat)(d:Nat)(r:Nat):(Go.Proofs.YtdianedehhecoaaGreatDoor.Co.re w t d).shape? r=w.shape? r:=rfl
theorem re_heap (w:World)(t:Nat→Question→Nat)(d:Nat):(Go.Proofs.YtdianedehhecoaaGreatDoor.Co.re w t d).heap=w.heap:=rfl
theorem Gh.shape {w b:World}(hg:Gh Γ w b){r:Nat}(hr:¬ Γ r):b.shape? r=w.shape? r:=by
 unfold World.shape?
 rcases hg.same _ hr with ⟨_,e⟩|⟨l,el,e1,e2⟩
 ·rw[e]
 ·rw[e1,e2];rfl
theorem Gh.shapeG {w b:World}(hg:Gh Γ w b){r:Nat}(hr:Γ r):∃ (c:Array Value)(t:TypeId),w.heap[r]? = some (.pending c t)∧w.shape? r=none∧b.shape? r=some (t,c.size)∧0<c.size:=by
 obtain ⟨c,t,c',e1,e2,e3,e4⟩:=hg.ghost r hr
 exact ⟨c,t,e1,by unfold World.shape?;rw[e1],by unfold World.shape?;rw[e2];simp[e3],e4⟩
theorem Kin.lookAt {s:Sem α}(r:Nat)
    (hG:Γ r→∀ w b,Gh Γ w b→∃ a,(∀ t d,s.run P.s (Go.Proofs.YtdianedehhecoaaGreatDoor.Co.re w t d)=.ok a (Go.Proofs.YtdianedehhecoaaGreatDoor.Co.re w t d))∧∀ es,s.runT P.g b es=(.ok a b,es))
    (hN : ∀ w : World, w.heap[r]? = none → s.run P.s w = .halt (.stuck "getObj: no such block") w)
    (hC:∀ c t f,∃ a,∀ w:World,w.heap[r]? = some (.cells c t f)→s.run P.s w=.ok a w∧∀ es,s.runT P.g w es=(.ok a w,es))
    (hO:∀ o:Obj,(∀ c t f,o≠.cells c t f)→∃ a,∀ w:World,w.heap[r]? = some o→s.run P.s w=.ok a w∧∀ es,s.runT P.g w es=(.ok a w,es.push ⟨.obj r,false,o.isChan⟩))
    (hX:∀ l,∃ a,(∀ w:World,w.heap[r]? = some nix→s.run P.s w=.ok a w)∧∀ w:World,w.heap[r]? = some (.loop l)→∀ es,s.runT P.g w es=(.ok a w,es.push ⟨.obj r,false,false⟩)):Kin Γ P s:=by
  intro w b hg es
  by_cases hr:Γ r
  · obtain ⟨a,h1,h2⟩:=hG hr w b hg
    exact ⟨0,.ok a w,#[],fun t d _=>by rw[h1];simp[onW],.inr ⟨⟨b,by rw[h2];simp[onW],hg,rfl,rfl,fun _ _=>rfl⟩,fun e he=>(by simp at he),fun x u e=>(by cases e)⟩⟩
  · rcases hg.same r hr with ⟨_,hs⟩|⟨l,_,hs1,hs2⟩
    rotate_left
    · obtain ⟨a,q1,q2⟩:=hX l
      refine ⟨0,.ok a w,#[⟨.obj r,false,false⟩],fun t d _=>by rw[q1 (Go.Proofs.YtdianedehhecoaaGreatDoor.Co.re w t d) hs2];simp[onW],.inr ⟨⟨b,by rw[q2 b hs1];simp[onW],hg,rfl,rfl,fun _ _=>rfl⟩,fun e he=>?_,fun x u e=>(by cases e)⟩⟩
      simp at he;subst he;exact hr
    cases ho:w.heap[r]? with
    | none => exact Kin.of_bad w b es (x := .stuck "getObj: no such block") trivial fun t d => hN _ ho
    | some o =>
      rw[ho]at hs
      by_cases hc:∃ c t f,o=.cells c t f
      · obtain ⟨c,t,f,rfl⟩:=hc
        obtain ⟨a,h⟩:=hC c t f
        exact ⟨0,.ok a w,#[],fun t d _=>by rw[(h (Go.Proofs.YtdianedehhecoaaGreatDoor.Co.re w t d) ho).1];simp[onW],.inr ⟨⟨b,by rw[(h b hs).2];simp[onW],hg,rfl,rfl,fun _ _=>rfl⟩,fun e he=>(by simp at he),fun x u e=>(by cases e)⟩⟩
      · obtain ⟨a,h⟩:=hO o (fun c t f e=>hc ⟨c,t,f,e⟩)
        refine ⟨0,.ok a w,#[⟨.obj r,false,o.isChan⟩],fun t d _=>by rw[(h (Go.Proofs.YtdianedehhecoaaGreatDoor.Co.re w t d) ho).1];simp[onW],.inr ⟨⟨b,by rw[(h b hs).2];simp[onW],hg,rfl,rfl,fun _ _=>rfl⟩,fun e he=>?_,fun x u e=>(by cases e)⟩⟩
        simp at he;subst he;exact hr
theorem shape_cells {w:World}{r:Nat}{c:Array Value}{t:TypeId}{f:Nat × Nat}(h:w.heap[r]? = some (.cells c t f)):w.shape? r=some (t,c.size):=by unfold World.shape?;rw [h]
theorem shape_other {w:World}{r:Nat}{o:Obj}(h:w.heap[r]? = some o)(ho:∀ c t f,o≠.cells c t f):w.shape? r=none:=by
 unfold World.shape?;rw[h]
 cases o<;>first|rfl|exact absurd rfl (ho _ _ _)
theorem shape_none {w:World}{r:Nat}(h:w.heap[r]? = none):w.shape? r=none:=by unfold World.shape?;rw [h]
theorem viewAt_eq (r:Nat):Go.viewAt r=Sem.shape r (fun s=>match s with|some _=>.pure none|none=>.getObj r (fun o=>match o with|.view a t=>.pure (some (a,t))|_=>.pure none)):=by
 unfold Go.viewAt
 show Sem.shape r _=_
 refine congrArg _ (funext fun s=>?_)
 cases s<;>first|rfl|(show Sem.getObj r _=Sem.getObj r _;refine congrArg _ (funext fun o=>?_);cases o<;>rfl)
theorem numberAt_eq (r:Nat):Go.numberAt r=Sem.shape r (fun s=>match s with|some _=>.pure none|none=>.getObj r (fun o=>match o with|.number a l=>.pure (some (a,l))|_=>.pure none)):=by
 unfold Go.numberAt
 show Sem.shape r _=_
 refine congrArg _ (funext fun s=>?_)
 cases s<;>first|rfl|(show Sem.getObj r _=Sem.getObj r _;refine congrArg _ (funext fun o=>?_);cases o<;>rfl)
theorem cellsIn_eq (r:Nat):Go.cellsIn r=Sem.shape r (fun s=>match s with|some (_,n)=>.pure (some n)|none=>.getObj r (fun o=>match o with|.pending c _=>.pure (some c.size)|_=>.pure none)):=by
 unfold Go.cellsIn
 show Sem.shape r _=_
 refine congrArg _ (funext fun s=>?_)
 rcases s with _|⟨t,n⟩<;>first|rfl|(show Sem.getObj r _=Sem.getObj r _;refine congrArg _ (funext fun o=>?_);cases o<;>rfl)
theorem Kin.viewAt (r:Nat):Kin Γ P (viewAt r):=by
 rw[viewAt_eq]
 refine Kin.lookAt r (fun hr w b hg=>?_) (fun w h=>?_) (fun c t f=>⟨none,fun w h=>⟨?_,fun es=>?_⟩⟩) (fun o ho=>?_) (fun l=>⟨none,fun w h=>by simp only[Sem.run,shape_other h (by intro c t f e;cases e),h];rfl,fun w h es=>by simp only[Sem.runT,shape_other h (by intro c t f e;cases e),h];rfl⟩)
 ·obtain ⟨c,t,e1,e2,e3,e4⟩:=hg.shapeG hr
  exact ⟨none,fun t d=>by simp only[Sem.run,re_shape,e2,re_heap,e1],fun es=>by simp only[Sem.runT,e3]⟩
 ·simp only[Sem.run,shape_none h,h]
 ·simp only[Sem.run,shape_cells h]
 ·simp only[Sem.runT,shape_cells h]
 ·cases o<;>first
   | exact absurd rfl (ho _ _ _)
   | exact ⟨_,fun w h=>⟨by simp only[Sem.run,shape_other h ho,h];rfl,fun es=>by simp only[Sem.runT,shape_other h ho,h]⟩⟩
theorem Kin.numberAt (r:Nat):Kin Γ P (numberAt r):=by
 rw[numberAt_eq]
 refine Kin.lookAt r (fun hr w b hg=>?_) (fun w h=>?_) (fun c t f=>⟨none,fun w h=>⟨?_,fun es=>?_⟩⟩) (fun o ho=>?_) (fun l=>⟨none,fun w h=>by simp only[Sem.run,shape_other h (by intro c t f e;cases e),h];rfl,fun w h es=>by simp only[Sem.runT,shape_other h (by intro c t f e;cases e),h];rfl⟩)
 ·obtain ⟨c,t,e1,e2,e3,e4⟩:=hg.shapeG hr
  exact ⟨none,fun t d=>by simp only[Sem.run,re_shape,e2,re_heap,e1],fun es=>by simp only[Sem.runT,e3]⟩
 ·simp only[Sem.run,shape_none h,h]
 ·simp only[Sem.run,shape_cells h]
 ·simp only[Sem.runT,shape_cells h]
 ·cases o<;>first
   | exact absurd rfl (ho _ _ _)
   | exact ⟨_,fun w h=>⟨by simp only[Sem.run,shape_other h ho,h];rfl,fun es=>by simp only[Sem.runT,shape_other h ho,h]⟩⟩
theorem Kin.cellsIn (r:Nat):Kin Γ P (cellsIn r):=by
 rw[cellsIn_eq]
 refine Kin.lookAt r (fun hr w b hg=>?_) (fun w h=>?_) (fun c t f=>⟨some c.size,fun w h=>⟨?_,fun es=>?_⟩⟩) (fun o ho=>?_) (fun l=>⟨none,fun w h=>by simp only[Sem.run,shape_other h (by intro c t f e;cases e),h];rfl,fun w h es=>by simp only[Sem.runT,shape_other h (by intro c t f e;cases e),h];rfl⟩)
 ·obtain ⟨c,t,e1,e2,e3,e4⟩:=hg.shapeG hr
  exact ⟨some c.size,fun t d=>by simp only[Sem.run,re_shape,e2,re_heap,e1],fun es=>by simp only[Sem.runT,e3]⟩
 ·simp only[Sem.run,shape_none h,h]
 ·simp only[Sem.run,shape_cells h]
 ·simp only[Sem.runT,shape_cells h]
 ·cases o<;>first
   | exact absurd rfl (ho _ _ _)
   | exact ⟨_,fun w h=>⟨by simp only[Sem.run,shape_other h ho,h];rfl,fun es=>by simp only[Sem.runT,shape_other h ho,h]⟩⟩
theorem Kin.shapeIs {f:Option (TypeId × Nat)→Sem α}(r:Nat)(hk:∀ s,Kin Γ P (f s))(he:Γ r→∀ (w b:World)(t:TypeId)(n:Nat),Gh Γ w b→0<n→b.shape? r=some (t,n)→∃ a,(∀ t' d,(f none).run P.s (Go.Proofs.YtdianedehhecoaaGreatDoor.Co.re w t' d)=.ok a (Go.Proofs.YtdianedehhecoaaGreatDoor.Co.re w t' d))∧∀ es,(f (some (t,n))).runT P.g b es=(.ok a b,es)):Kin Γ P (.shape r f):=by
 intro w b hg es
 by_cases hr:Γ r
 ·obtain ⟨c,t,e1,e2,e3,e4⟩:=hg.shapeG hr
  obtain ⟨a,h1,h2⟩:=he hr w b t c.size hg e4 e3
  refine ⟨0,.ok a w,#[],fun t' d _=>?_,.inr ⟨⟨b,?_,hg,rfl,rfl,fun _ _=>rfl⟩,fun e he=>(by simp at he),fun x u e=>(by cases e)⟩⟩
  ·simp only[Sem.run,re_shape,e2,h1];rfl
  ·simp only[Sem.runT,e3,h2];simp[onW]
 ·refine Kin.on w b w b es #[] (hk (w.shape? r)) hg (fun t d=>?_) ?_ rfl rfl (fun _ _=>rfl) (fun e he=>by simp at he)
  ·simp only[Sem.run,re_shape]
  ·simp only[Sem.runT,hg.shape hr,Array.append_empty]
theorem Gh.ghostFrozen {w b:World}(hg:Gh Γ w b){a:Addr}(ha:Γ a.block):b.frozen? a=false:=by
 obtain ⟨c,t,c',e1,e2,_⟩:=hg.ghost _ ha
 unfold World.frozen?;rw[e2];simp
theorem Kin.stringish (a:Addr):Kin Γ P (stringish a):=by
 unfold Go.stringish
 refine Kin.frozen a fun v=>?_
 show Kin Γ P (_root_.ite _ _ _)
 refine Kin.ite (fun _=>Kin.pureM _) fun _=>?_
 refine Kin.shapeIs a.block (fun s=>?_) (fun hr w b t n hg hn hb=>⟨false,fun t' d=>rfl,fun es=>?_⟩)
 ·rcases s with _|⟨t,n⟩
  ·exact Kin.pureM _
  ·exact Kin.frozen _ fun v=>Kin.pureM _
 ·show (Sem.frozen _ _).runT P.g b es=_
  simp only[Sem.runT,hg.ghostFrozen (a:={ block:=a.block,off:=n }) hr]
theorem Kin.mayBeOne (a b:Addr):Kin Γ P (mayBeOne a b):=by
 unfold Go.mayBeOne
 have hn:∀ x:Addr,Kin Γ P (do Pure.pure ((← shape x.block) matches some (_,0)):Sem Bool):=fun x=>by
  refine Kin.shapeIs x.block (fun s=>Kin.pureM _) (fun hr w b t n hg hn hb=>⟨false,fun t' d=>rfl,fun es=>?_⟩)
  cases n with
  | zero=>exact absurd hn (by omega)
  | succ n=>rfl
 refine Kin.bindM (Kin.stringish a) fun sa=>Kin.bindM (Kin.stringish b) fun sb=>?_
 refine Kin.bindM (hn a) fun x=>Kin.bindM (hn b) fun y=>Kin.pureM _
theorem Kin.noView (a:Addr):Kin Γ P (noView a):=by
 unfold Go.noView
 exact Kin.bindM (Kin.viewAt _) fun v=>Kin.ite (fun _=>Kin.halt _) fun _=>Kin.pureM _
theorem Kin.sameAddr (a b:Addr):Kin Γ P (sameAddr a b):=by
 unfold Go.sameAddr
 refine Kin.ite (fun _=>Kin.pureM _) fun _=>?_
 refine Kin.frozen _ fun x=>Kin.frozen _ fun y=>?_
 refine Kin.ite (fun _=>Kin.halt _) fun _=>?_
 refine Kin.bindM (Kin.noView _) fun _=>Kin.bindM (Kin.noView _) fun _=>Kin.bindM (Kin.mayBeOne _ _) fun m=>?_
 refine Kin.ite (fun _=>?_) fun _=>Kin.pureM _
 exact Kin.choose _ fun n=>Kin.pureM _
end
end Go.Proofs.YtdianedehhecoaaGreatDoor.Co
/- Kin of the operations. -/
namespace Go.Proofs.YtdianedehhecoaaGreatDoor.Co
variable [Loops]
section
variable {Γ:Nat→Prop} {P:Two} {α β:Type}
theorem Kin.shapeBad {f:Option (TypeId × Nat)→Sem α}(r:Nat)(hk:∀ s,Kin Γ P (f s))(hn:∃ x,badH x∧∀ w,(f none).run P.s w=.halt x w):Kin Γ P (.shape r f):=by
 intro w b hg es
 by_cases hr:Γ r
 ·obtain ⟨c,t,e1,e2,e3,e4⟩:=hg.shapeG hr
  obtain ⟨x,hx,h⟩:=hn
  exact Kin.of_bad w b es hx fun t d=>by simp only[Sem.run,re_shape,e2,h]
 ·refine Kin.on w b w b es #[] (hk (w.shape? r)) hg (fun t d=>?_) ?_ rfl rfl (fun _ _=>rfl) (fun e he=>by simp at he)
  ·simp only[Sem.run,re_shape]
  ·simp only[Sem.runT,hg.shape hr,Array.append_empty]
theorem Kin.getObj {k:Obj→Sem α}(r:Nat)(hk:∀ o,Kin Γ P (k o))(hp:∀ c t,∃ x,badH x∧∀ w,(k (.pending c t)).run P.s w=.halt x w)
    (hX:(∀ l,k (.loop l)=k nix)∨∃ x,badH x∧∀ w,(k nix).run P.s w=.halt x w:=by first|exact .inl (fun _=>by with_unfolding_all rfl)|exact .inr ⟨_,trivial,fun _=>by with_unfolding_all rfl⟩):Kin Γ P (.getObj r k):=by
  intro w b hg es
  by_cases hr:Γ r
  · obtain ⟨c,t,e1,e2,e3,e4⟩:=hg.shapeG hr
    obtain ⟨x,hx,h⟩:=hp c t
    exact Kin.of_bad w b es hx fun t d=>by simp only[Sem.run,re_heap,e1,h]
  · rcases hg.same r hr with ⟨_,hs⟩|⟨l,_,hs1,hs2⟩
    rotate_left
    · rcases hX with hX|⟨x,hx,hX⟩
      · refine Kin.on w b w b es #[⟨.obj r,false,false⟩] (hk nix) hg (fun t d=>?_) ?_ rfl rfl (fun _ _=>rfl) (fun e he=>by simp at he;subst he;exact hr)
        · simp only[Sem.run,re_heap,hs2];rfl
        · simp only[Sem.runT,hs1];rw[hX l];simp[Obj.isChan]
      · exact Kin.of_bad w b es hx fun t d=>by simp only[Sem.run,re_heap,hs2];exact hX _
    cases ho:w.heap[r]? with
    | none => exact Kin.of_bad w b es (x := .stuck "getObj: no such block") trivial fun t d => by simp only [Sem.run, re_heap, ho]
    | some o =>
      rw[ho]at hs
      by_cases hc:∃ c t f,o=.cells c t f
      · obtain ⟨c,t,f,rfl⟩:=hc
        exact Kin.of_bad w b es (x := .stuck "getObj: a row of cells") trivial fun t d => by simp only [Sem.run, re_heap, ho]
      · refine Kin.on w b w b es #[⟨.obj r,false,o.isChan⟩] (hk o) hg (fun t d=>?_) ?_ rfl rfl (fun _ _=>rfl) (fun e he=>by simp at he;subst he;exact hr)
        · cases o<;>first|exact absurd ⟨_,_,_,rfl⟩ hc|simp only[Sem.run,re_heap,ho]
        · cases o<;>first|exact absurd ⟨_,_,_,rfl⟩ hc|(simp only[Sem.runT,hs];simp)
theorem Kin.newFresh (o:Obj){k:Nat→Sem α}(hk:∀ r,¬ Γ r→Kin Γ P (k r))(hn:∀ l,o≠.loop l:=by intro l h;cases h):Kin Γ P (.new o k):=by
 intro w b hg es
 obtain ⟨g1,g2⟩:=hg.push o hn
 refine Kin.on w b { w with heap:=w.heap.push o } { b with heap:=b.heap.push o } es #[] (hk w.heap.size fun h=>absurd (hg.lt h) (by omega)) g1 (fun t d=>?_) ?_ rfl rfl g2 (fun e he=>by simp at he)
 ·simp only[Sem.run];rfl
 ·simp only[Sem.runT,hg.size,Array.append_empty]
theorem Kin.freeze (a:Addr)(n:Nat){k:Sem α}(ha:¬ Γ a.block)(hk:Kin Γ P k):Kin Γ P (.freeze a n k):=by
 intro w b hg es
 by_cases hn:n=0
 ·refine Kin.on w b w b es #[] hk hg (fun t d=>?_) ?_ rfl rfl (fun _ _=>rfl) (fun e he=>by simp at he)
  ·simp only[Sem.run,World.freeze,hn,if_true]
  ·simp only[Sem.runT,World.freeze,hn,if_true,Array.append_empty]
 ·have g:=hg.modify ha (fun
   | .cells c elem (lo,hi)=>.cells c elem (if lo == hi then (a.off,a.off+n) else (min lo a.off,max hi (a.off+n)))
   | o=>o) (fun o ho l=>by
    cases o with
    | loop l'=>exact absurd rfl (ho l')
    | _=>intro e;cases e) ⟨fun _=>rfl,rfl⟩
  refine Kin.on w b (w.freeze a n) (b.freeze a n) es #[] hk ?_ (fun t d=>?_) ?_ ?_ ?_ ?_ (fun e he=>by simp at he)
  ·unfold World.freeze;simp only[if_neg hn];exact g.1
  ·simp only[Sem.run,World.freeze,if_neg hn];rfl
  ·simp only[Sem.runT,Array.append_empty]
  ·unfold World.freeze;simp only[if_neg hn]
  ·unfold World.freeze;simp only[if_neg hn]
  ·unfold World.freeze;simp only[if_neg hn];exact g.2
theorem Kin.typeInfo (t:TypeId):Kin Γ P (typeInfo t):=by
  unfold Go.typeInfo
  refine Kin.program ?_
  show Kin Γ P (match P.g.info? t with | some i => Pure.pure i | none => stuck "no such type")
  split
  · exact Kin.pureM _
  · exact Kin.halt _
theorem Kin.underlying (t:TypeId):Kin Γ P (underlying t):=by
  unfold Go.underlying
  refine Kin.program ?_
  show Kin Γ P (match P.g.underlying t with | some i => Pure.pure i | none => stuck "no such type")
  split
  · exact Kin.pureM _
  · exact Kin.halt _
theorem Kin.sizeOf (t:TypeId):Kin Γ P (sizeOf t):=Kin.bindM (Kin.typeInfo t) fun _=>Kin.pureM _
theorem Kin.zeroValue (t:TypeId):Kin Γ P (zeroValue t):=by
 unfold Go.zeroValue
 refine Kin.bindM (Kin.typeInfo t) fun i=>?_
 split
 ·exact Kin.pureM _
 ·exact Kin.halt _
theorem Kin.isAgg (t:TypeId):Kin Γ P (isAgg t):=by
 unfold Go.isAgg
 refine Kin.bindM (Kin.underlying t) fun i=>?_
 split<;>exact Kin.pureM _
theorem Kin.loadK (a:Addr)(m:Mode):Kin Γ P (Go.load a m):=Kin.load m a fun v=>Kin.pure _
theorem Kin.storeK (a:Addr)(v:Value)(m:Mode):Kin Γ P (Go.store a v m):=Kin.store m a v (Kin.pure _)
theorem Kin.loadCellsFrom (a:Addr)(n:Nat):∀ (i:Nat)(acc:Array Value),Kin Γ P (loadCellsFrom a i n acc):=by
 induction n with
 | zero=>intro i acc;exact Kin.pureM _
 | succ n ih=>intro i acc;exact Kin.bindM (Kin.loadK _ _) fun v=>ih _ _
theorem Kin.loadCells (a:Addr)(n:Nat):Kin Γ P (loadCells a n):=Kin.loadCellsFrom a n 0 #[]
theorem Kin.storeCells (a:Addr)(l:List Value):∀ i:Nat,Kin Γ P (storeCells a l i):=by
 induction l with
 | nil=>intro i;exact Kin.pureM _
 | cons v l ih=>intro i;exact Kin.bindM (Kin.storeK _ _ _) fun _=>ih _
theorem Kin.loadVar (t:TypeId)(a:Addr):Kin Γ P (loadVar t a):=by
 unfold Go.loadVar
 exact Kin.bindM (Kin.isAgg t) fun _=>Kin.ite (fun _=>Kin.bindM (Kin.sizeOf t) fun _=>Kin.bindM (Kin.loadCells _ _) fun _=>Kin.pureM _) fun _=>Kin.loadK _ _
theorem Kin.storeVar (t:TypeId)(a:Addr)(v:Value):Kin Γ P (storeVar t a v):=by
 unfold Go.storeVar
 exact Kin.bindM (Kin.sizeOf t) fun _=>Kin.ite (fun _=>Kin.halt _) fun _=>Kin.storeCells _ _ _
theorem Kin.newRow (e:TypeId)(c:Array Value):Kin Γ P (newRow e c):=Kin.new _ fun _=>Kin.pure _
theorem Kin.newVar (e:TypeId)(v:Value):Kin Γ P (newVar e v):=Kin.newRow _ _
theorem Kin.elemOf (t:TypeId):Kin Γ P (elemOf t):=by
 unfold Go.elemOf
 refine Kin.bindM (Kin.underlying t) fun i=>?_
 split
 ·exact Kin.pureM _
 ·exact Kin.halt _
theorem Kin.part (t:TypeId)(c:Array Value)(o:Nat):Kin Γ P (part t c o):=by
 unfold Go.part
 refine Kin.bindM (Kin.isAgg t) fun _=>Kin.ite (fun _=>Kin.bindM (Kin.sizeOf t) fun _=>Kin.pureM _) fun _=>?_
 split
 ·exact Kin.pureM _
 ·exact Kin.halt _
theorem Kin.programB {f:Program→Sem α}(hk:Kin Γ P (f P.g))(e:f P.s=f P.g:=by first|with_reducible rfl|(simp only [two_byteOfCell,two_cellHolding,two_plainCell,two_alikeButTags,two_stoodInAs,two_stoodInHeld,two_packedAs,two_packed,two_holdsStoodIn,two_holdsPacked,two_sameLayout,two_rowAt,two_liesAt,two_cellOfByte,two_cellAtBytes,two_eqGuardType]<;>rfl)|rfl):Kin Γ P (Go.program >>= f):=Kin.program hk e
theorem Kin.runtimePanic (e:RuntimeError):Kin Γ P (runtimePanic e:Sem α):=by
 unfold Go.runtimePanic
 refine Kin.programB <| ?_
 cases e<;>first
  | exact Kin.halt _
  | exact Kin.bindM (Kin.elemOf _) fun _=>Kin.bindM (Kin.newVar _ _) fun _=>Kin.halt _
  | exact Kin.programB <| Kin.bindM (Kin.elemOf _) fun _=>Kin.bindM (Kin.newVar _ _) fun _=>Kin.halt _
theorem Kin.boundsPanic (k:IntKind)(x y:Int)(c:BoundsCode):Kin Γ P (boundsPanic k x y c:Sem α):=by
 unfold Go.boundsPanic
 refine Kin.ite (fun _=>?_) fun _=>Kin.bindM (Kin.pureM _) fun _=>Kin.runtimePanic _
 exact Kin.bindM (Kin.bind (Kin.choose _ fun _=>Kin.pure _) fun _=>Kin.pure _) fun _=>Kin.runtimePanic _
theorem Kin.asIntOf (v:Value):Kin Γ P (asIntOf v):=by
 unfold Go.asIntOf
 split<;>first|exact Kin.pureM _|exact Kin.halt _
theorem Kin.asInt (v:Value):Kin Γ P (asInt v):=Kin.bindM (Kin.asIntOf v) fun _=>Kin.pureM _
theorem Kin.asBool (v:Value):Kin Γ P (asBool v):=by
 unfold Go.asBool
 split<;>first|exact Kin.pureM _|exact Kin.halt _
theorem Kin.asString (v:Value):Kin Γ P (asString v):=by
 unfold Go.asString
 split<;>first|exact Kin.pureM _|exact Kin.halt _
theorem Kin.asAgg (v:Value):Kin Γ P (asAgg v):=by
 unfold Go.asAgg
 split<;>first|exact Kin.pureM _|exact Kin.halt _
theorem Kin.asAddr (v:Value):Kin Γ P (asAddr v):=by
 unfold Go.asAddr
 split<;>first|exact Kin.pureM _|exact Kin.runtimePanic _|exact Kin.halt _
theorem Kin.askRoom (n:Nat):Kin Γ P (askRoom n):=by
 unfold Go.askRoom
 exact Kin.ite (fun _=>Kin.mark .noRoom (by trivial) (Kin.pure _)) fun _=>Kin.pureM _
theorem Kin.forIn {γ:Type}{l:List β}{f:β→γ→Sem (ForInStep γ)}(h:∀ x s,Kin Γ P (f x s)):∀ init:γ,Kin Γ P (forIn l init f):=by
 induction l with
 | nil=>intro s;exact Kin.pureM _
 | cons x l ih =>
  intro s
  rw[List.forIn_cons]
  refine Kin.bindM (h x s) fun r=>?_
  split
  ·exact Kin.pureM _
  ·exact ih _
theorem Kin.forInA {γ:Type}{l:Array β}{f:β→γ→Sem (ForInStep γ)}(h:∀ x s,Kin Γ P (f x s))(init:γ):Kin Γ P (_root_.ForIn.forIn l init f):=by
 rw[← Array.forIn_toList]
 exact Kin.forIn h init
theorem Kin.forInR {γ:Type}{r:Std.Legacy.Range}{f:Nat→γ→Sem (ForInStep γ)}(h:∀ x s,Kin Γ P (f x s))(init:γ):Kin Γ P (_root_.ForIn.forIn r init f):=by
 rw[Std.Legacy.Range.forIn_eq_forIn_range']
 exact Kin.forIn h init
theorem Kin.foldlM {γ:Type}{l:List β}{f:γ→β→Sem γ}(h:∀ s x,Kin Γ P (f s x)):∀ init:γ,Kin Γ P (l.foldlM f init):=by
 induction l with
 | nil=>intro s;exact Kin.pureM _
 | cons x l ih=>intro s;rw[List.foldlM_cons];exact Kin.bindM (h s x) fun r=>ih _
theorem Kin.chooseK (q:Question):Kin Γ P (Go.choose q):=Kin.choose _ fun _=>Kin.pure _
theorem Kin.typeStr (t:TypeId):Kin Γ P (typeStr t):=by
 unfold Go.typeStr
 exact Kin.bindM (Kin.typeInfo t) fun _=>Kin.ite (fun _=>Kin.halt _) fun _=>Kin.pureM _
theorem Kin.behindNumber (n:Addr):Kin Γ P (behindNumber n):=Kin.bindM (Kin.numberAt _) fun _=>Kin.pureM _
theorem Kin.byteOf (a:Addr):Kin Γ P (byteOf a):=by
  unfold Go.byteOf
  split
  · exact Kin.pureM _
  · refine Kin.programB <| Kin.bindM (Kin.noView _) fun _=>?_
    refine Kin.shapeBad _ (fun s => ?_) ⟨.stuck "byteOf: no such block", trivial, fun w => rfl⟩
    rcases s with _|⟨t,n⟩
    · exact Kin.halt _
    · refine Kin.ite (fun _=>Kin.pureM _) fun _=>?_
      split<;>first|exact Kin.pureM _|exact Kin.halt _
theorem Kin.partAt (a:Addr)(c n:Nat):Kin Γ P (partAt a c n):=by
 unfold Go.partAt
 exact Kin.bindM (Kin.byteOf _) fun _=>Kin.bindM (Kin.byteOf _) fun _=>Kin.pureM _
theorem Kin.fieldPlace (a:Addr)(f:Field):Kin Γ P (fieldPlace a f):=by
 unfold Go.fieldPlace
 exact Kin.bindM (Kin.sizeOf _) fun _=>Kin.ite (fun _=>Kin.partAt _ _ _) fun _=>Kin.pureM _
theorem Kin.sureAddr (v:Value):Kin Γ P (Instr.sureAddr v):=by
 unfold Instr.sureAddr
 split<;>first|exact Kin.pureM _|exact Kin.halt _
theorem Kin.alloc (e:TypeId)(h:Bool)(v:Value):Kin Γ P (Instr.alloc e h v):=by
 unfold Instr.alloc
 refine Kin.bindM (Kin.zeroValue e) fun _=>?_
 split
 ·exact Kin.bindM (Kin.storeVar _ _ _) fun _=>Kin.pureM _
 ·exact Kin.bindM (Kin.newVar _ _) fun _=>Kin.pureM _
theorem Kin.loadAt (t:TypeId)(v:Value):Kin Γ P (Instr.loadAt t v):=Kin.bindM (Kin.sureAddr v) fun _=>Kin.loadVar _ _
theorem Kin.storeAt (t:TypeId)(v x:Value):Kin Γ P (Instr.storeAt t v x):=Kin.bindM (Kin.sureAddr v) fun _=>Kin.storeVar _ _ _
theorem Kin.fieldAt (t:TypeId)(v:Value)(n:Nat):Kin Γ P (Instr.fieldAt t v n):=by
 unfold Instr.fieldAt
 refine Kin.bindM (Kin.underlying _) fun _=>?_
 split
 ·split
  ·exact Kin.bindM (Kin.sureAddr _) fun _=>Kin.bindM (Kin.fieldPlace _ _) fun _=>Kin.pureM _
  ·exact Kin.halt _
 ·exact Kin.halt _
theorem Kin.stuck (m:String):Kin Γ P (Go.stuck m:Sem α):=Kin.halt _
theorem Kin.unsupported (m:Unsupported):Kin Γ P (Go.unsupported m:Sem α):=Kin.halt _
theorem Kin.goPanic (m:Value):Kin Γ P (Go.goPanic m:Sem α):=Kin.halt _
theorem Kin.samePointer (a b:Option Addr):Kin Γ P (samePointer a b):=by
 unfold Go.samePointer
 split
 ·exact Kin.sameAddr _ _
 ·exact Kin.pureM _
class KI (Γ:Nat→Prop) (P:Two) {α:Type} (s:Sem α):Prop where
 k:Kin Γ P s
instance (a:α):KI Γ P (Pure.pure a:Sem α):=⟨Kin.pureM _⟩
instance (m:String):KI Γ P (Go.stuck m:Sem α):=⟨Kin.stuck _⟩
instance (m:Unsupported):KI Γ P (Go.unsupported m:Sem α):=⟨Kin.unsupported _⟩
instance (m:Value):KI Γ P (Go.goPanic m:Sem α):=⟨Kin.goPanic _⟩
instance (a:α):KI Γ P (Sem.pure a):=⟨Kin.pure _⟩
instance (v:Value):KI Γ P (asIntOf v):=⟨Kin.asIntOf _⟩
instance (v:Value):KI Γ P (asInt v):=⟨Kin.asInt _⟩
instance (v:Value):KI Γ P (asBool v):=⟨Kin.asBool _⟩
instance (v:Value):KI Γ P (asString v):=⟨Kin.asString _⟩
instance (v:Value):KI Γ P (asAgg v):=⟨Kin.asAgg _⟩
instance (v:Value):KI Γ P (asAddr v):=⟨Kin.asAddr _⟩
instance (t:TypeId):KI Γ P (underlying t):=⟨Kin.underlying _⟩
instance (t:TypeId):KI Γ P (typeInfo t):=⟨Kin.typeInfo _⟩
instance (t:TypeId):KI Γ P (typeStr t):=⟨Kin.typeStr _⟩
instance (t:TypeId):KI Γ P (sizeOf t):=⟨Kin.sizeOf _⟩
instance (t:TypeId):KI Γ P (zeroValue t):=⟨Kin.zeroValue _⟩
instance (t:TypeId):KI Γ P (isAgg t):=⟨Kin.isAgg _⟩
instance (t:TypeId):KI Γ P (elemOf t):=⟨Kin.elemOf _⟩
instance (v:Value):KI Γ P (Instr.sureAddr v):=⟨Kin.sureAddr _⟩
instance (e:RuntimeError):KI Γ P (runtimePanic e:Sem α):=⟨Kin.runtimePanic _⟩
instance (k:IntKind) (x y:Int) (c:BoundsCode):KI Γ P (boundsPanic k x y c:Sem α):=⟨Kin.boundsPanic _ _ _ _⟩
instance (q:Question):KI Γ P (Go.choose q):=⟨Kin.chooseK _⟩
instance (a:Addr) (m:Mode):KI Γ P (Go.load a m):=⟨Kin.loadK _ _⟩
instance (a:Addr) (v:Value) (m:Mode):KI Γ P (Go.store a v m):=⟨Kin.storeK _ _ _⟩
instance (a:Addr) (n:Nat):KI Γ P (loadCells a n):=⟨Kin.loadCells _ _⟩
instance (a:Addr) (l:List Value) (i:Nat):KI Γ P (storeCells a l i):=⟨Kin.storeCells _ _ _⟩
instance (t:TypeId) (a:Addr):KI Γ P (loadVar t a):=⟨Kin.loadVar _ _⟩
instance (t:TypeId) (a:Addr) (v:Value):KI Γ P (storeVar t a v):=⟨Kin.storeVar _ _ _⟩
instance (e:TypeId) (c:Array Value):KI Γ P (newRow e c):=⟨Kin.newRow _ _⟩
instance (e:TypeId) (v:Value):KI Γ P (newVar e v):=⟨Kin.newVar _ _⟩
instance (t:TypeId) (c:Array Value) (o:Nat):KI Γ P (part t c o):=⟨Kin.part _ _ _⟩
instance (n:Nat):KI Γ P (askRoom n):=⟨Kin.askRoom _⟩
instance (r:Nat):KI Γ P (viewAt r):=⟨Kin.viewAt _⟩
instance (r:Nat):KI Γ P (numberAt r):=⟨Kin.numberAt _⟩
instance (r:Nat):KI Γ P (cellsIn r):=⟨Kin.cellsIn _⟩
instance (n:Addr):KI Γ P (behindNumber n):=⟨Kin.behindNumber _⟩
instance (a b:Addr):KI Γ P (sameAddr a b):=⟨Kin.sameAddr _ _⟩
instance (a:Addr):KI Γ P (byteOf a):=⟨Kin.byteOf _⟩
theorem Kin.indexAt (t:TypeId)(x i:Value):Kin Γ P (Instr.indexAt t x i):=by
 unfold Instr.indexAt
 repeat' (first|exact KI.k|with_reducible refine Kin.bindM ?_ fun _=>?_|with_reducible refine Kin.ite (fun _=>?_) fun _=>?_|split|dsimp only)
theorem Kin.sliceBound (x:Value)(y:Nat)(c:BoundsCode):Kin Γ P (Instr.sliceBound x y c):=by
 unfold Instr.sliceBound
 repeat' (first|exact KI.k|with_reducible refine Kin.bindM ?_ fun _=>?_|with_reducible refine Kin.ite (fun _=>?_) fun _=>?_|split|dsimp only)
theorem Kin.sliceBounds (b:Bool)(l c:Nat)(x y z:Option Value):Kin Γ P (Instr.sliceBounds b l c x y z):=by
 unfold Instr.sliceBounds
 repeat' first
  | with_reducible exact Kin.sliceBound _ _ _
  | (first|exact KI.k|with_reducible refine Kin.bindM ?_ fun _=>?_|with_reducible refine Kin.ite (fun _=>?_) fun _=>?_|split|dsimp only)
theorem Kin.slice (t:TypeId)(v:Value)(x y z:Option Value):Kin Γ P (Instr.slice t v x y z):=by
 unfold Instr.slice
 repeat' first
  | with_reducible exact Kin.sliceBounds _ _ _ _ _ _
  | (first|exact KI.k|with_reducible refine Kin.bindM ?_ fun _=>?_|with_reducible refine Kin.ite (fun _=>?_) fun _=>?_|split|dsimp only)
theorem Kin.sliceAt (t:TypeId)(v:Value)(x y z:Option Value):Kin Γ P (Instr.sliceAt t v x y z):=by
 unfold Instr.sliceAt
 repeat' first
  | with_reducible exact Kin.sliceBounds _ _ _ _ _ _
  | with_reducible exact Kin.slice _ _ _ _ _
  | (first|exact KI.k|with_reducible refine Kin.bindM ?_ fun _=>?_|with_reducible refine Kin.ite (fun _=>?_) fun _=>?_|split|dsimp only)
theorem Kin.box (t:TypeId)(v:Value):Kin Γ P (Instr.box t v):=by
 unfold Instr.box
 repeat' (first|exact KI.k|with_reducible refine Kin.bindM ?_ fun _=>?_|with_reducible refine Kin.ite (fun _=>?_) fun _=>?_|split|dsimp only)
theorem Kin.buildSlice (t:TypeId)(n:Nat)(v:Array (Nat × Value)):Kin Γ P (Instr.buildSlice t n v):=by
 unfold Instr.buildSlice
 repeat' (first|exact KI.k|with_reducible refine Kin.bindM ?_ fun _=>?_|with_reducible refine Kin.ite (fun _=>?_) fun _=>?_|split|dsimp only)
theorem Kin.field (t:TypeId)(v:Value)(n:Nat):Kin Γ P (Instr.field t v n):=by
 unfold Instr.field
 repeat' (first|exact KI.k|with_reducible refine Kin.bindM ?_ fun _=>?_|with_reducible refine Kin.ite (fun _=>?_) fun _=>?_|split|dsimp only)
theorem Kin.index (t:TypeId)(v x:Value):Kin Γ P (Instr.index t v x):=by
 unfold Instr.index
 repeat' (first|exact KI.k|with_reducible refine Kin.bindM ?_ fun _=>?_|with_reducible refine Kin.ite (fun _=>?_) fun _=>?_|split|dsimp only)
theorem Kin.makeInterface (t:TypeId)(v:Value):Kin Γ P (Instr.makeInterface t v):=by
 unfold Instr.makeInterface
 repeat' (first|exact KI.k|with_reducible refine Kin.bindM ?_ fun _=>?_|with_reducible refine Kin.ite (fun _=>?_) fun _=>?_|split|dsimp only)
theorem Kin.makeSlice (t:TypeId)(v x:Value):Kin Γ P (Instr.makeSlice t v x):=by
 unfold Instr.makeSlice
 repeat' (first|exact KI.k|with_reducible refine Kin.bindM ?_ fun _=>?_|with_reducible refine Kin.ite (fun _=>?_) fun _=>?_|split|dsimp only)
theorem Kin.extract (v:Value)(n:Nat):Kin Γ P (Instr.extract v n):=by
 unfold Instr.extract
 repeat' (first|exact KI.k|with_reducible refine Kin.bindM ?_ fun _=>?_|with_reducible refine Kin.ite (fun _=>?_) fun _=>?_|split|dsimp only)
theorem Kin.lenOf (v:Value):Kin Γ P (Builtin.lenOf v):=by
 unfold Builtin.lenOf
 repeat' (first|exact KI.k|with_reducible refine Kin.bindM ?_ fun _=>?_|with_reducible refine Kin.ite (fun _=>?_) fun _=>?_|split|dsimp only)
theorem Kin.firstCells (a b:Nat)(v:Value):Kin Γ P (Builtin.firstCells a b v):=by
 unfold Builtin.firstCells
 repeat' (first|exact KI.k|with_reducible refine Kin.bindM ?_ fun _=>?_|with_reducible refine Kin.ite (fun _=>?_) fun _=>?_|split|dsimp only)
theorem Kin.copy_ (t:Array TypeId)(u:TypeId)(v:Array Value):Kin Γ P (Builtin.copy_ t u v):=by
 unfold Builtin.copy_
 repeat' first
  | with_reducible exact Kin.lenOf _
  | with_reducible exact Kin.firstCells _ _ _
  | (first|exact KI.k|with_reducible refine Kin.bindM ?_ fun _=>?_|with_reducible refine Kin.ite (fun _=>?_) fun _=>?_|split|dsimp only)
theorem Kin.intArith (op:BinOp)(k:IntKind)(a b:Int):Kin Γ P (Op.intArith op k a b):=by
 unfold Op.intArith
 repeat' (first|exact KI.k|with_reducible refine Kin.bindM ?_ fun _=>?_|with_reducible refine Kin.ite (fun _=>?_) fun _=>?_|split|dsimp only)
theorem Kin.intDiv (op:BinOp)(k:IntKind)(a b:Int):Kin Γ P (Op.intDiv op k a b):=by
 unfold Op.intDiv
 repeat' (first|exact KI.k|with_reducible refine Kin.bindM ?_ fun _=>?_|with_reducible refine Kin.ite (fun _=>?_) fun _=>?_|split|dsimp only)
theorem Kin.intBits (op:BinOp)(k:IntKind)(a b:Int):Kin Γ P (Op.intBits op k a b):=by
 unfold Op.intBits
 repeat' (first|exact KI.k|with_reducible refine Kin.bindM ?_ fun _=>?_|with_reducible refine Kin.ite (fun _=>?_) fun _=>?_|split|dsimp only)
theorem Kin.intCmp (op:BinOp)(a b:Int):Kin Γ P (Op.intCmp op a b):=by
 unfold Op.intCmp
 repeat' (first|exact KI.k|with_reducible refine Kin.bindM ?_ fun _=>?_|with_reducible refine Kin.ite (fun _=>?_) fun _=>?_|split|dsimp only)
theorem Kin.shift (op:BinOp)(k:IntKind)(a:Int)(k2:IntKind)(b:Int):Kin Γ P (Op.shift op k a k2 b):=by
 unfold Op.shift
 repeat' (first|exact KI.k|with_reducible refine Kin.bindM ?_ fun _=>?_|with_reducible refine Kin.ite (fun _=>?_) fun _=>?_|split|dsimp only)
theorem Kin.stringOp (op:BinOp)(a b:ByteArray):Kin Γ P (Op.stringOp op a b):=by
 unfold Op.stringOp
 repeat' (first|exact KI.k|with_reducible refine Kin.bindM ?_ fun _=>?_|with_reducible refine Kin.ite (fun _=>?_) fun _=>?_|split|dsimp only)
theorem Kin.unary (op:UnOp)(x:Value):Kin Γ P (Op.unary op x):=by
 unfold Op.unary
 repeat' first
  | with_reducible exact Kin.intArith _ _ _ _
  | with_reducible exact Kin.intBits _ _ _ _
  | (first|exact KI.k|with_reducible refine Kin.bindM ?_ fun _=>?_|with_reducible refine Kin.ite (fun _=>?_) fun _=>?_|split|dsimp only)
theorem Kin.max2 (x y:Value):Kin Γ P (Builtin.max2 x y):=by
 unfold Builtin.max2
 repeat' first
  | with_reducible exact Kin.stringOp _ _ _
  | (first|exact KI.k|with_reducible refine Kin.bindM ?_ fun _=>?_|with_reducible refine Kin.ite (fun _=>?_) fun _=>?_|split|dsimp only)
theorem Kin.max_ (t:Array TypeId)(u:TypeId)(v:Array Value):Kin Γ P (Builtin.max_ t u v):=by
 unfold Builtin.max_
 repeat' first
  | with_reducible exact Kin.foldlM (fun _ _=>Kin.max2 _ _) _
  | (first|exact KI.k|with_reducible refine Kin.bindM ?_ fun _=>?_|with_reducible refine Kin.ite (fun _=>?_) fun _=>?_|split|dsimp only)
theorem Kin.min2 (x y:Value):Kin Γ P (Builtin.min2 x y):=by
 unfold Builtin.min2
 repeat' first
  | with_reducible exact Kin.stringOp _ _ _
  | (first|exact KI.k|with_reducible refine Kin.bindM ?_ fun _=>?_|with_reducible refine Kin.ite (fun _=>?_) fun _=>?_|split|dsimp only)
theorem Kin.min_ (t:Array TypeId)(u:TypeId)(v:Array Value):Kin Γ P (Builtin.min_ t u v):=by
 unfold Builtin.min_
 repeat' first
  | with_reducible exact Kin.foldlM (fun _ _=>Kin.min2 _ _) _
  | (first|exact KI.k|with_reducible refine Kin.bindM ?_ fun _=>?_|with_reducible refine Kin.ite (fun _=>?_) fun _=>?_|split|dsimp only)
theorem Kin.equalIn (d:Nat):∀ (t:TypeId)(x y:Value),Kin Γ P (Op.equalIn d t x y):=by
 induction d with
 | zero=>intro t x y;exact Kin.halt _
 | succ d ih =>
  intro t x y
  unfold Op.equalIn
  repeat' first
   | with_reducible exact Kin.samePointer _ _
   | with_reducible exact ih _ _ _
   | (first|exact KI.k|with_reducible exact Kin.halt _|((with_reducible refine Kin.programB ?_ ?e);case e=>first|with_reducible rfl|(simp only[two_byteOfCell,two_rowAt,two_liesAt,two_stoodInHeld,two_holdsStoodIn,two_holdsPacked,two_cellAtBytes,two_eqGuardType]<;>rfl)|rfl)|with_reducible refine Kin.bindM ?_ fun _=>?_|with_reducible refine Kin.ite (fun _=>?_) fun _=>?_|with_reducible refine Kin.forInA (fun _ _=>?_) _|with_reducible refine Kin.forInR (fun _ _=>?_) _|split|dsimp only)
theorem Kin.eqGuardIn (d:Nat):∀ (t:TypeId)(x y:Value),Kin Γ P (Op.eqGuardIn d t x y):=by
 induction d with
 | zero=>intro t x y;exact Kin.halt _
 | succ d ih =>
  intro t x y
  unfold Op.eqGuardIn
  repeat' first
   | with_reducible exact ih _ _ _
   | (first|exact KI.k|with_reducible exact Kin.halt _|((with_reducible refine Kin.programB ?_ ?e);case e=>first|with_reducible rfl|rfl)|with_reducible refine Kin.bindM ?_ fun _=>?_|with_reducible refine Kin.ite (fun _=>?_) fun _=>?_|with_reducible refine Kin.forInA (fun _ _=>?_) _|with_reducible refine Kin.forInR (fun _ _=>?_) _|split|dsimp only)
end
end Go.Proofs.YtdianedehhecoaaGreatDoor.Co
/- Kin of the operations, second part. -/
namespace Go.Proofs.YtdianedehhecoaaGreatDoor.Co
variable [Loops]
section
variable {Γ:Nat→Prop} {P:Two} {α β:Type}
theorem Kin.shapeBadM {f:Option (TypeId × Nat)→Sem α}(r:Nat)(hk:∀ s,Kin Γ P (f s))(hn:∃ x,badH x∧∀ w,(f none).run P.s w=.halt x w):Kin Γ P (Go.shape r >>= f):=Kin.shapeBad r hk hn
theorem Kin.getObjM {k:Obj→Sem α}(r:Nat)(hk:∀ o,Kin Γ P (k o))(hp:∀ c t,∃ x,badH x∧∀ w,(k (.pending c t)).run P.s w=.halt x w)(hX:(∀ l,k (.loop l)=k nix)∨∃ x,badH x∧∀ w,(k nix).run P.s w=.halt x w:=by first|exact .inl (fun _=>by with_unfolding_all rfl)|exact .inr ⟨_,trivial,fun _=>by with_unfolding_all rfl⟩):Kin Γ P (Go.getObj r >>= k):=Kin.getObj r hk hp hX
theorem Kin.newK (o:Obj)(hn:∀ l,o≠.loop l:=by intro l h;cases h):Kin Γ P (Go.newObj o):=Kin.new _ (fun _=>Kin.pure _) hn
instance (a b:Option Addr):KI Γ P (samePointer a b):=⟨Kin.samePointer _ _⟩
instance (a:Addr):KI Γ P (noView a):=⟨Kin.noView _⟩
instance (a:Addr) (f:Field):KI Γ P (fieldPlace a f):=⟨Kin.fieldPlace _ _⟩
instance (op:BinOp) (k:IntKind) (a b:Int):KI Γ P (Op.intArith op k a b):=⟨Kin.intArith _ _ _ _⟩
instance (op:BinOp) (k:IntKind) (a b:Int):KI Γ P (Op.intDiv op k a b):=⟨Kin.intDiv _ _ _ _⟩
instance (op:BinOp) (k:IntKind) (a b:Int):KI Γ P (Op.intBits op k a b):=⟨Kin.intBits _ _ _ _⟩
instance (op:BinOp) (a b:Int):KI Γ P (Op.intCmp op a b):=⟨Kin.intCmp _ _ _⟩
instance (op:BinOp) (k:IntKind) (a:Int) (k2:IntKind) (b:Int):KI Γ P (Op.shift op k a k2 b):=⟨Kin.shift _ _ _ _ _⟩
instance (op:BinOp) (a b:ByteArray):KI Γ P (Op.stringOp op a b):=⟨Kin.stringOp _ _ _⟩
instance (d:Nat) (t:TypeId) (x y:Value):KI Γ P (Op.equalIn d t x y):=⟨Kin.equalIn _ _ _ _⟩
instance (d:Nat) (t:TypeId) (x y:Value):KI Γ P (Op.eqGuardIn d t x y):=⟨Kin.eqGuardIn _ _ _ _⟩
instance (v:Value):KI Γ P (Builtin.lenOf v):=⟨Kin.lenOf _⟩
instance (a b:Nat) (v:Value):KI Γ P (Builtin.firstCells a b v):=⟨Kin.firstCells _ _ _⟩
theorem Kin.cap_ (t:Array TypeId)(u:TypeId)(v:Array Value):Kin Γ P (Builtin.cap_ t u v):=by
 unfold Builtin.cap_
 repeat' (first|exact KI.k|with_reducible exact Kin.halt _|((with_reducible refine Kin.programB ?_ ?e);case e=>first|with_reducible rfl|rfl)|with_reducible refine Kin.shapeBadM _ (fun _=>?_) ?_|with_reducible refine Kin.getObjM _ (fun _=>?_) (fun _ _=>?_)|exact ⟨.stuck _,trivial,fun _=>rfl⟩|exact ⟨.unsupported _,trivial,fun _=>rfl⟩|with_reducible refine Kin.bindM ?_ fun _=>?_|with_reducible refine Kin.ite (fun _=>?_) fun _=>?_|with_reducible refine Kin.forInA (fun _ _=>?_) _|with_reducible refine Kin.forInR (fun _ _=>?_) _|split|dsimp only)
theorem Kin.len_ (t:Array TypeId)(u:TypeId)(v:Array Value):Kin Γ P (Builtin.len_ t u v):=by
 unfold Builtin.len_
 repeat' (first|exact KI.k|with_reducible exact Kin.halt _|((with_reducible refine Kin.programB ?_ ?e);case e=>first|with_reducible rfl|rfl)|with_reducible refine Kin.shapeBadM _ (fun _=>?_) ?_|with_reducible refine Kin.getObjM _ (fun _=>?_) (fun _ _=>?_)|exact ⟨.stuck _,trivial,fun _=>rfl⟩|exact ⟨.unsupported _,trivial,fun _=>rfl⟩|with_reducible refine Kin.bindM ?_ fun _=>?_|with_reducible refine Kin.ite (fun _=>?_) fun _=>?_|with_reducible refine Kin.forInA (fun _ _=>?_) _|with_reducible refine Kin.forInR (fun _ _=>?_) _|split|dsimp only)
theorem Kin.unsafeAdd_ (t:Array TypeId)(u:TypeId)(v:Array Value):Kin Γ P (Builtin.unsafeAdd_ t u v):=by
 rcases v with ⟨_|⟨x,_|⟨y,_|⟨z,l⟩⟩⟩⟩
 ·exact Kin.halt _
 ·cases x<;>exact Kin.halt _
 ·cases x<;>first|exact Kin.halt _|skip
  refine Kin.bindM (Kin.asInt y) fun n=>?_
  repeat' (first|exact KI.k|with_reducible exact Kin.halt _|((with_reducible refine Kin.programB ?_ ?e);case e=>first|with_reducible rfl|(simp only[two_byteOfCell,two_rowAt,two_liesAt,two_stoodInHeld,two_holdsStoodIn,two_holdsPacked,two_cellAtBytes,two_eqGuardType]<;>rfl)|rfl)|with_reducible refine Kin.shapeBadM _ (fun _=>?_) ?_|with_reducible refine Kin.getObjM _ (fun _=>?_) (fun _ _=>?_)|exact ⟨.stuck _,trivial,fun _=>rfl⟩|exact ⟨.unsupported _,trivial,fun _=>rfl⟩|with_reducible refine Kin.bindM ?_ fun _=>?_|with_reducible refine Kin.ite (fun _=>?_) fun _=>?_|with_reducible refine Kin.forInA (fun _ _=>?_) _|with_reducible refine Kin.forInR (fun _ _=>?_) _|split|dsimp only)
 ·cases x<;>exact Kin.halt _
theorem Kin.unsafeSliceData_ (t:Array TypeId)(u:TypeId)(v:Array Value):Kin Γ P (Builtin.unsafeSliceData_ t u v):=by
 rcases v with ⟨_|⟨x,_|⟨y,l⟩⟩⟩
 ·exact Kin.halt _
 ·cases x<;>first|exact Kin.halt _|skip
  rename_i a n c
  cases a with
  | none=>exact Kin.pureM _
  | some a=>exact Kin.ite (fun _=>Kin.pureM _) fun _=>Kin.bindM (Kin.viewAt _) fun _=>Kin.ite (fun _=>Kin.pureM _) fun _=>Kin.bindM (Kin.elemOf _) fun _=>Kin.bindM (Kin.newK _) fun _=>Kin.pureM _
 ·cases x<;>exact Kin.halt _
theorem Kin.twoPlaces (a b:Addr):Kin Γ P (Op.twoPlaces a b):=by
 unfold Op.twoPlaces
 repeat' (first|exact KI.k|with_reducible exact Kin.halt _|((with_reducible refine Kin.programB ?_ ?e);case e=>first|with_reducible rfl|rfl)|with_reducible refine Kin.bindM ?_ fun _=>?_|with_reducible refine Kin.ite (fun _=>?_) fun _=>?_|split|dsimp only)
theorem Kin.addrSub (k:IntKind)(a b:Addr):Kin Γ P (Op.addrSub k a b):=by
 unfold Op.addrSub
 repeat' first
  | with_reducible exact Kin.twoPlaces _ _
  | (first|exact KI.k|with_reducible refine Kin.bindM ?_ fun _=>?_|with_reducible refine Kin.ite (fun _=>?_) fun _=>?_|split|dsimp only)
theorem Kin.addrCmp (k:BinOp)(a b:Addr):Kin Γ P (Op.addrCmp k a b):=by
 unfold Op.addrCmp
 repeat' first
  | with_reducible exact Kin.twoPlaces _ _
  | (first|exact KI.k|with_reducible refine Kin.bindM ?_ fun _=>?_|with_reducible refine Kin.ite (fun _=>?_) fun _=>?_|split|dsimp only)
theorem Kin.addrMod (k:IntKind)(a:Addr)(n:Int):Kin Γ P (Op.addrMod k a n):=by
 unfold Op.addrMod
 repeat' (first|exact KI.k|with_reducible exact Kin.halt _|((with_reducible refine Kin.programB ?_ ?e);case e=>first|with_reducible rfl|rfl)|with_reducible refine Kin.shapeBadM _ (fun _=>?_) ?_|with_reducible refine Kin.getObjM _ (fun _=>?_) (fun _ _=>?_)|exact ⟨.stuck _,trivial,fun _=>rfl⟩|exact ⟨.unsupported _,trivial,fun _=>rfl⟩|with_reducible refine Kin.bindM ?_ fun _=>?_|with_reducible refine Kin.ite (fun _=>?_) fun _=>?_|with_reducible refine Kin.forInA (fun _ _=>?_) _|with_reducible refine Kin.forInR (fun _ _=>?_) _|split|dsimp only)
theorem Kin.floatArith (op:BinOp)(k:FloatKind)(a b:Nat):Kin Γ P (Op.floatArith op k a b):=by
 unfold Op.floatArith
 repeat' (first|exact KI.k|with_reducible refine Kin.bindM ?_ fun _=>?_|with_reducible refine Kin.ite (fun _=>?_) fun _=>?_|split|dsimp only)
theorem Kin.floatCmp (op:BinOp)(k:FloatKind)(a b:Nat):Kin Γ P (Op.floatCmp op k a b):=by
 unfold Op.floatCmp
 repeat' (first|exact KI.k|with_reducible refine Kin.bindM ?_ fun _=>?_|with_reducible refine Kin.ite (fun _=>?_) fun _=>?_|split|dsimp only)
theorem Kin.intToFloat (k:FloatKind)(b:Int):Kin Γ P (Conv.intToFloat k b):=by
 unfold Conv.intToFloat
 repeat' (first|exact KI.k|with_reducible refine Kin.bindM ?_ fun _=>?_|with_reducible refine Kin.ite (fun _=>?_) fun _=>?_|split|dsimp only)
theorem Kin.floatToInt (k:FloatKind)(b:Nat)(i:IntKind):Kin Γ P (Conv.floatToInt k b i):=by
 unfold Conv.floatToInt
 repeat' (first|exact KI.k|with_reducible refine Kin.bindM ?_ fun _=>?_|with_reducible refine Kin.ite (fun _=>?_) fun _=>?_|split|dsimp only)
theorem Kin.floatToFloat (k:FloatKind)(b:Nat)(i:FloatKind):Kin Γ P (Conv.floatToFloat k b i):=by
 unfold Conv.floatToFloat
 repeat' (first|exact KI.k|with_reducible refine Kin.bindM ?_ fun _=>?_|with_reducible refine Kin.ite (fun _=>?_) fun _=>?_|split|dsimp only)
theorem Kin.intToString (b:Int):Kin Γ P (Conv.intToString b):=by
 unfold Conv.intToString
 repeat' (first|exact KI.k|with_reducible refine Kin.bindM ?_ fun _=>?_|with_reducible refine Kin.ite (fun _=>?_) fun _=>?_|split|dsimp only)
theorem Kin.bytesToString (b:Value):Kin Γ P (Conv.bytesToString b):=by
 unfold Conv.bytesToString
 repeat' (first|exact KI.k|with_reducible exact Kin.halt _|((with_reducible refine Kin.programB ?_ ?e);case e=>first|with_reducible rfl|rfl)|with_reducible refine Kin.shapeBadM _ (fun _=>?_) ?_|with_reducible refine Kin.getObjM _ (fun _=>?_) (fun _ _=>?_)|exact ⟨.stuck _,trivial,fun _=>rfl⟩|exact ⟨.unsupported _,trivial,fun _=>rfl⟩|with_reducible refine Kin.bindM ?_ fun _=>?_|with_reducible refine Kin.ite (fun _=>?_) fun _=>?_|with_reducible refine Kin.forInA (fun _ _=>?_) _|with_reducible refine Kin.forInR (fun _ _=>?_) _|split|dsimp only)
theorem Kin.runesToString (b:Value):Kin Γ P (Conv.runesToString b):=by
 unfold Conv.runesToString
 repeat' (first|exact KI.k|with_reducible exact Kin.halt _|((with_reducible refine Kin.programB ?_ ?e);case e=>first|with_reducible rfl|rfl)|with_reducible refine Kin.shapeBadM _ (fun _=>?_) ?_|with_reducible refine Kin.getObjM _ (fun _=>?_) (fun _ _=>?_)|exact ⟨.stuck _,trivial,fun _=>rfl⟩|exact ⟨.unsupported _,trivial,fun _=>rfl⟩|with_reducible refine Kin.bindM ?_ fun _=>?_|with_reducible refine Kin.ite (fun _=>?_) fun _=>?_|with_reducible refine Kin.forInA (fun _ _=>?_) _|with_reducible refine Kin.forInR (fun _ _=>?_) _|split|dsimp only)
theorem Kin.stringToRunes (e:TypeId)(b:ByteArray):Kin Γ P (Conv.stringToRunes e b):=by
 unfold Conv.stringToRunes
 repeat' (first|exact KI.k|with_reducible refine Kin.bindM ?_ fun _=>?_|with_reducible refine Kin.ite (fun _=>?_) fun _=>?_|split|dsimp only)
theorem Kin.get (t:TypeId)(b:Place):Kin Γ P (Place.get t b):=by
 unfold Place.get
 repeat' (first|exact KI.k|with_reducible refine Kin.bindM ?_ fun _=>?_|with_reducible refine Kin.ite (fun _=>?_) fun _=>?_|split|dsimp only)
end
end Go.Proofs.YtdianedehhecoaaGreatDoor.Co
/- Kin of the operations, third part. -/
namespace Go.Proofs.YtdianedehhecoaaGreatDoor.Co
variable [Loops]
section
variable {Γ:Nat→Prop} {P:Two} {α β γ:Type}
theorem Kin.sureBad {s:Sem α}{x:Halt}(hx:badH x)(h:∀ w,s.run P.s w=.halt x w):Kin Γ P s:=fun w b hg es=>Kin.of_bad w b es hx fun t d=>h _
def Tame (P:Two)(s:Sem α):Prop:=∀ w:World,∃ r,s.run P.s w=.ok r w
theorem Tame.pureM (a:α):Tame P (Pure.pure a:Sem α):=fun w=>⟨a,rfl⟩
theorem Tame.bindM {s:Sem α}{f:α→Sem β}(h:Tame P s)(hf:∀ a,Tame P (f a)):Tame P (s >>= f):=fun w=>by
 obtain ⟨a,ha⟩:=h w
 obtain ⟨r,hr⟩:=hf a w
 exact ⟨r,(Sem.run_bind' P.s _ _ _).trans (by rw[ha];exact hr)⟩
theorem Tame.frozen (a:Addr):Tame P (Go.frozen a):=fun w=>⟨_,rfl⟩
theorem Tame.ite {c:Prop} [Decidable c] {x y:Sem α}(hx:Tame P x)(hy:Tame P y):Tame P (if c then x else y):=by
 split
 ·exact hx
 ·exact hy
theorem Tame.shape (r:Nat):Tame P (Go.shape r):=fun w=>⟨_,rfl⟩
theorem Tame.holds (a:Addr)(n:Nat):Tame P (Builtin.holdsCells a n):=by
 unfold Builtin.holdsCells
 refine Tame.bindM (Tame.shape _) fun s=>?_
 split<;>exact Tame.pureM _
theorem Tame.mayShare (a b c:Nat)(d:Option Addr)(x:Value):Tame P (Builtin.mayShare a b c d x):=by
 unfold Builtin.mayShare
 repeat' first
  | with_reducible exact Tame.pureM _
  | with_reducible exact Tame.holds _ _
  | with_reducible exact Tame.frozen _
  | with_reducible refine Tame.bindM ?_ fun _=>?_
  | with_reducible refine Tame.ite ?_ ?_
  | split
  | dsimp only
theorem Kin.errThen (m:String)(f:α→Sem β):Kin Γ P (Go.runtimePanic (.error m) >>= f):=Kin.program (Kin.halt _)
theorem Kin.stuckThen (m:String)(f:α→Sem β):Kin Γ P (Go.stuck m >>= f):=Kin.halt _
theorem Kin.unsupThen (m:Unsupported)(f:α→Sem β):Kin Γ P (Go.unsupported m >>= f):=Kin.halt _
theorem Kin.shareBad (a b c:Nat)(d:Option Addr)(x:Value)(u:Unsupported):Kin Γ P (Builtin.mayShare a b c d x >>= fun y=>if (!y)=true then (Go.mark .noRoom >>= fun _=>Go.unsupported u) else (Go.unsupported u:Sem β)):=by
 refine Kin.sureBad (x:=.unsupported u) trivial fun w=>?_
 obtain ⟨r,hr⟩:=Tame.mayShare (P:=P) a b c d x w
 refine (Sem.run_bind' P.s _ _ _).trans ?_
 rw[hr]
 cases r<;>rfl
instance (t:Array TypeId) (u:TypeId) (v:Array Value):KI Γ P (Builtin.cap_ t u v):=⟨Kin.cap_ _ _ _⟩
instance (t:Array TypeId) (u:TypeId) (v:Array Value):KI Γ P (Builtin.len_ t u v):=⟨Kin.len_ _ _ _⟩
instance (t:Array TypeId) (u:TypeId) (v:Array Value):KI Γ P (Builtin.unsafeAdd_ t u v):=⟨Kin.unsafeAdd_ _ _ _⟩
instance (t:Array TypeId) (u:TypeId) (v:Array Value):KI Γ P (Builtin.unsafeSliceData_ t u v):=⟨Kin.unsafeSliceData_ _ _ _⟩
instance (k:IntKind) (a b:Addr):KI Γ P (Op.addrSub k a b):=⟨Kin.addrSub _ _ _⟩
instance (k:BinOp) (a b:Addr):KI Γ P (Op.addrCmp k a b):=⟨Kin.addrCmp _ _ _⟩
instance (k:IntKind) (a:Addr) (n:Int):KI Γ P (Op.addrMod k a n):=⟨Kin.addrMod _ _ _⟩
instance (op:BinOp) (k:FloatKind) (a b:Nat):KI Γ P (Op.floatArith op k a b):=⟨Kin.floatArith _ _ _ _⟩
instance (op:BinOp) (k:FloatKind) (a b:Nat):KI Γ P (Op.floatCmp op k a b):=⟨Kin.floatCmp _ _ _ _⟩
instance (t:TypeId) (b:Place):KI Γ P (Place.get t b):=⟨Kin.get _ _⟩
instance (k:FloatKind) (b:Int):KI Γ P (Conv.intToFloat k b):=⟨Kin.intToFloat _ _⟩
instance (k:FloatKind) (b:Nat) (i:IntKind):KI Γ P (Conv.floatToInt k b i):=⟨Kin.floatToInt _ _ _⟩
instance (k:FloatKind) (b:Nat) (i:FloatKind):KI Γ P (Conv.floatToFloat k b i):=⟨Kin.floatToFloat _ _ _⟩
instance (b:Int):KI Γ P (Conv.intToString b):=⟨Kin.intToString _⟩
instance (b:Value):KI Γ P (Conv.bytesToString b):=⟨Kin.bytesToString _⟩
instance (b:Value):KI Γ P (Conv.runesToString b):=⟨Kin.runesToString _⟩
instance (e:TypeId) (b:ByteArray):KI Γ P (Conv.stringToRunes e b):=⟨Kin.stringToRunes _ _⟩
instance (m:String) (f:α→Sem β):KI Γ P (Go.runtimePanic (.error m) >>= f):=⟨Kin.errThen _ _⟩
instance (m:String) (f:α→Sem β):KI Γ P (Go.stuck m >>= f):=⟨Kin.stuckThen _ _⟩
instance (m:Unsupported) (f:α→Sem β):KI Γ P (Go.unsupported m >>= f):=⟨Kin.unsupThen _ _⟩
theorem Kin.append_ (t:Array TypeId)(u:TypeId)(v:Array Value):Kin Γ P (Builtin.append_ t u v):=by
 unfold Builtin.append_
 dsimp only
 repeat' (first|exact KI.k|with_reducible exact Kin.halt _|((with_reducible refine Kin.programB ?_ ?e);case e=>first|with_reducible rfl|rfl)|with_reducible exact Kin.shareBad _ _ _ _ _ _|((with_reducible refine Kin.newK _ ?n);case n=>intro l h;cases h)|with_reducible refine Kin.shapeBadM _ (fun _=>?_) ?_|with_reducible refine Kin.getObjM _ (fun _=>?_) (fun _ _=>?_)|exact ⟨.stuck _,trivial,fun _=>rfl⟩|exact ⟨.unsupported _,trivial,fun _=>rfl⟩|with_reducible refine Kin.bindM ?_ fun _=>?_|with_reducible refine Kin.ite (fun _=>?_) fun _=>?_|with_reducible refine Kin.forInA (fun _ _=>?_) _|with_reducible refine Kin.forInR (fun _ _=>?_) _|split|dsimp only)
theorem Kin.getMap {k:Obj→Sem α}(r:Nat){J:Sem α}(hJ:Kin Γ P J)(hk:∀ es c,k (.map es c)=Sem.setObj r (.map #[] c) J)(hb:∀ o,(∀ es c,o≠.map es c)→∃ x,badH x∧∀ w,(k o).run P.s w=.halt x w):Kin Γ P (Go.getObj r >>= k):=by
  intro w b hg es
  show ∃ (n:Nat) (q:Result α) (ev:Array Event),(∀ t d,_→(Sem.getObj r k).run P.s _=_)∧(_∨Beside Γ P (Sem.getObj r k) b es n q ev)
  by_cases hr:Γ r
  · obtain ⟨c,t,e1,e2,e3,e4⟩:=hg.shapeG hr
    obtain ⟨x,hx,h⟩:=hb (.pending c t) (by intro _ _ e;cases e)
    exact Kin.of_bad w b es hx fun t d=>by simp only[Sem.run,re_heap,e1,h]
  · rcases hg.same r hr with ⟨en,hs⟩|⟨l,_,hs1,hs2⟩
    rotate_left
    · obtain ⟨x,hx,h⟩:=hb nix (by intro _ _ e;cases e)
      exact Kin.of_bad w b es hx fun t d=>by simp only[Sem.run,re_heap,hs2];exact h _
    cases ho:w.heap[r]? with
    | none => exact Kin.of_bad w b es (x := .stuck "getObj: no such block") trivial fun t d => by simp only [Sem.run, re_heap, ho]
    | some o =>
      rw[ho]at hs
      by_cases hm:∃ m c,o=.map m c
      · obtain ⟨m,c,rfl⟩:=hm
        obtain ⟨g1,g2⟩:=hg.setObj hr en (.map #[] c) (by intro l e;cases e)
        refine Kin.on w b { w with heap:=w.heap.setIfInBounds r (.map #[] c) } { b with heap:=b.heap.setIfInBounds r (.map #[] c) } es #[⟨.obj r,false,false⟩,⟨.obj r,true,false⟩] hJ g1 (fun t d=>?_) ?_ rfl rfl g2 (fun e he=>by simp at he;rcases he with rfl|rfl<;>exact hr)
        · simp only[Sem.run,re_heap,ho,hk];rfl
        · rw[show es++#[(⟨.obj r,false,false⟩:Event),⟨.obj r,true,false⟩]=(es.push ⟨.obj r,false,false⟩).push ⟨.obj r,true,false⟩ by rw[Array.push_eq_append,Array.push_eq_append,Array.append_assoc];rfl]
          simp only[Sem.runT,hs,hk]
          rfl
      · obtain ⟨x,hx,h⟩:=hb o (fun m c e=>hm ⟨m,c,e⟩)
        by_cases hc:∃ c t f,o=.cells c t f
        · obtain ⟨c,t,f,rfl⟩:=hc
          exact Kin.of_bad w b es (x := .stuck "getObj: a row of cells") trivial fun t d => by simp only [Sem.run, re_heap, ho]
        · refine Kin.of_bad w b es hx fun t d=>?_
          cases o<;>first|exact absurd ⟨_,_,_,rfl⟩ hc|(simp only[Sem.run,re_heap,ho];exact h _)
theorem Kin.clear_ (t:Array TypeId)(u:TypeId)(v:Array Value):Kin Γ P (Builtin.clear_ t u v):=by
  unfold Builtin.clear_
  dsimp only
  split
  · refine Kin.bindM (Kin.underlying _) fun d=>?_
    split
    all_goals first
      | exact Kin.pureM _
      | exact Kin.stuck _
      | exact Kin.stuckThen _ _
      | exact Kin.bindM (Kin.bindM (Kin.zeroValue _) fun _=>Kin.storeCells _ _ _) fun _=>Kin.pureM _
      | exact Kin.bindM (Kin.zeroValue _) fun _=>Kin.bindM (Kin.storeCells _ _ _) fun _=>Kin.pureM _
      | (refine Kin.getMap _ (J:=Pure.pure (.tuple #[])) (Kin.pureM _) (fun es c=>rfl) (fun o ho=>?_)
         cases o<;>first|exact absurd rfl (ho _ _)|exact ⟨.stuck _,trivial,fun _=>rfl⟩)
  · exact Kin.stuck _
end
end Go.Proofs.YtdianedehhecoaaGreatDoor.Co
/- Kin of the operations, fourth part. -/
namespace Go.Proofs.YtdianedehhecoaaGreatDoor.Co
variable [Loops]
section
variable {Γ:Nat→Prop} {P:Two} {α β γ:Type}
instance (t:Array TypeId) (u:TypeId) (v:Array Value):KI Γ P (Builtin.append_ t u v):=⟨Kin.append_ _ _ _⟩
theorem Kin.arith (op:BinOp)(k:FloatKind)(a b:Nat):Kin Γ P (Op.Complex.arith op k a b):=by
 unfold Op.Complex.arith
 repeat' (first|exact KI.k|with_reducible refine Kin.bindM ?_ fun _=>?_|with_reducible refine Kin.ite (fun _=>?_) fun _=>?_|split|dsimp only)
theorem Kin.cmp (op:BinOp)(k:FloatKind)(a b:Nat):Kin Γ P (Op.Complex.cmp op k a b):=by
 unfold Op.Complex.cmp
 repeat' (first|exact KI.k|with_reducible refine Kin.bindM ?_ fun _=>?_|with_reducible refine Kin.ite (fun _=>?_) fun _=>?_|split|dsimp only)
theorem Kin.conv (op:FloatKind)(k:Nat)(a:FloatKind):Kin Γ P (Op.Complex.conv op k a):=by
 unfold Op.Complex.conv
 repeat' (first|exact KI.k|with_reducible refine Kin.bindM ?_ fun _=>?_|with_reducible refine Kin.ite (fun _=>?_) fun _=>?_|split|dsimp only)
theorem Kin.cadd (a b:Nat):Kin Γ P (Op.Complex.add a b):=Kin.arith _ _ _ _
theorem Kin.csub (a b:Nat):Kin Γ P (Op.Complex.sub a b):=Kin.arith _ _ _ _
theorem Kin.cmul (a b:Nat):Kin Γ P (Op.Complex.mul a b):=Kin.arith _ _ _ _
theorem Kin.cquo (a b:Nat):Kin Γ P (Op.Complex.quo a b):=Kin.arith _ _ _ _
theorem Kin.product (a b c d:Nat):Kin Γ P (Op.Complex.product a b c d):=by
 unfold Op.Complex.product
 repeat' first
  | with_reducible exact Kin.arith _ _ _ _
  | with_reducible exact Kin.cmp _ _ _ _
  | with_reducible exact Kin.conv _ _ _
  | with_reducible exact Kin.cadd _ _
  | with_reducible exact Kin.csub _ _
  | with_reducible exact Kin.cmul _ _
  | with_reducible exact Kin.cquo _ _
  | (first|exact KI.k|with_reducible refine Kin.bindM ?_ fun _=>?_|with_reducible refine Kin.ite (fun _=>?_) fun _=>?_|split|dsimp only)
theorem Kin.corrected (e a b c d:Nat):Kin Γ P (Op.Complex.corrected e a b c d):=by
 unfold Op.Complex.corrected
 repeat' first
  | with_reducible exact Kin.arith _ _ _ _
  | with_reducible exact Kin.cmp _ _ _ _
  | with_reducible exact Kin.conv _ _ _
  | with_reducible exact Kin.cadd _ _
  | with_reducible exact Kin.csub _ _
  | with_reducible exact Kin.cmul _ _
  | with_reducible exact Kin.cquo _ _
  | (first|exact KI.k|with_reducible refine Kin.bindM ?_ fun _=>?_|with_reducible refine Kin.ite (fun _=>?_) fun _=>?_|split|dsimp only)
theorem Kin.quotient (a b c d:Nat):Kin Γ P (Op.Complex.quotient a b c d):=by
 unfold Op.Complex.quotient
 repeat' first
  | with_reducible exact Kin.arith _ _ _ _
  | with_reducible exact Kin.cmp _ _ _ _
  | with_reducible exact Kin.conv _ _ _
  | with_reducible exact Kin.cadd _ _
  | with_reducible exact Kin.csub _ _
  | with_reducible exact Kin.cmul _ _
  | with_reducible exact Kin.cquo _ _
  | with_reducible exact Kin.corrected _ _ _ _ _
  | (first|exact KI.k|with_reducible refine Kin.bindM ?_ fun _=>?_|with_reducible refine Kin.ite (fun _=>?_) fun _=>?_|split|dsimp only)
theorem Kin.complexOp (op:BinOp)(k:FloatKind)(a b c d:Nat):Kin Γ P (Op.complexOp op k a b c d):=by
 unfold Op.complexOp
 repeat' first
  | with_reducible exact Kin.arith _ _ _ _
  | with_reducible exact Kin.cmp _ _ _ _
  | with_reducible exact Kin.conv _ _ _
  | with_reducible exact Kin.cadd _ _
  | with_reducible exact Kin.csub _ _
  | with_reducible exact Kin.cmul _ _
  | with_reducible exact Kin.cquo _ _
  | with_reducible exact Kin.product _ _ _ _
  | with_reducible exact Kin.quotient _ _ _ _
  | (first|exact KI.k|with_reducible refine Kin.bindM ?_ fun _=>?_|with_reducible refine Kin.ite (fun _=>?_) fun _=>?_|split|dsimp only)
theorem Kin.complexToComplex (op:FloatKind)(a b:Nat)(k:FloatKind):Kin Γ P (Conv.complexToComplex op a b k):=by
 unfold Conv.complexToComplex
 repeat' (first|exact KI.k|with_reducible refine Kin.bindM ?_ fun _=>?_|with_reducible refine Kin.ite (fun _=>?_) fun _=>?_|split|dsimp only)
theorem Kin.asNumber (a:Addr)(l:Bool):Kin Γ P (Go.asNumber a l):=Kin.bindM (Kin.newK _) fun _=>Kin.pureM _
theorem Kin.movedNumber (t:TypeId)(x y:Value):Kin Γ P (Go.movedNumber t x y):=by
 unfold Go.movedNumber
 repeat' first
  | with_reducible exact Kin.asNumber _ _
  | (first|exact KI.k|with_reducible refine Kin.bindM ?_ fun _=>?_|with_reducible refine Kin.ite (fun _=>?_) fun _=>?_|split|dsimp only)
theorem Kin.movedPointer (t:TypeId)(x y:Value):Kin Γ P (Go.movedPointer t x y):=by
 unfold Go.movedPointer
 repeat' (first|exact KI.k|with_reducible refine Kin.bindM ?_ fun _=>?_|with_reducible refine Kin.ite (fun _=>?_) fun _=>?_|split|dsimp only)
theorem Kin.eqGuard (o:BinOp)(t:TypeId)(x y:Operand)(a b:Value):Kin Γ P (Go.eqGuard o t x y a b):=by
 unfold Go.eqGuard
 repeat' (first|exact KI.k|with_reducible exact Kin.halt _|((with_reducible refine Kin.programB ?_ ?e);case e=>first|with_reducible rfl|(simp only[two_byteOfCell,two_rowAt,two_liesAt,two_stoodInHeld,two_holdsStoodIn,two_holdsPacked,two_cellAtBytes,two_eqGuardType]<;>rfl)|rfl)|with_reducible exact Kin.shareBad _ _ _ _ _ _|((with_reducible refine Kin.newK _ ?n);case n=>intro l h;cases h)|with_reducible refine Kin.shapeBadM _ (fun _=>?_) ?_|with_reducible refine Kin.getObjM _ (fun _=>?_) (fun _ _=>?_)|exact ⟨.stuck _,trivial,fun _=>rfl⟩|exact ⟨.unsupported _,trivial,fun _=>rfl⟩|with_reducible refine Kin.bindM ?_ fun _=>?_|with_reducible refine Kin.ite (fun _=>?_) fun _=>?_|with_reducible refine Kin.forInA (fun _ _=>?_) _|with_reducible refine Kin.forInR (fun _ _=>?_) _|split|dsimp only)
theorem Kin.equal (t:TypeId)(x y:Value):Kin Γ P (Op.equal t x y):=by
 unfold Op.equal
 repeat' (first|exact KI.k|with_reducible refine Kin.bindM ?_ fun _=>?_|with_reducible refine Kin.ite (fun _=>?_) fun _=>?_|split|dsimp only)
theorem Kin.binOp (o:BinOp)(t:TypeId)(a b:Value):Kin Γ P (Go.binOp o t a b):=by
 unfold Go.binOp
 repeat' first
  | with_reducible exact Kin.complexOp _ _ _ _ _ _
  | with_reducible exact Kin.movedNumber _ _ _
  | with_reducible exact Kin.movedPointer _ _ _
  | with_reducible exact Kin.equal _ _ _
  | (first|exact KI.k|with_reducible refine Kin.bindM ?_ fun _=>?_|with_reducible refine Kin.ite (fun _=>?_) fun _=>?_|split|dsimp only)
theorem Kin.follow (l:List FieldStep):∀ (t:TypeId)(x:Place),Kin Γ P (Go.follow l t x):=by
 induction l with
 | nil=>intro t x;exact Kin.pureM _
 | cons a l ih =>
  intro t x
  unfold Go.follow
  repeat' first
   | with_reducible exact ih _ _
   | (first|exact KI.k|with_reducible refine Kin.bindM ?_ fun _=>?_|with_reducible refine Kin.ite (fun _=>?_) fun _=>?_|split|dsimp only)
theorem Kin.followBlind (l:List FieldStep):∀ (t:TypeId)(x:Option Value),Kin Γ P (Go.followBlind l t x):=by
 induction l with
 | nil=>intro t x;exact Kin.pureM _
 | cons a l ih =>
  intro t x
  unfold Go.followBlind
  repeat' first
   | with_reducible exact ih _ _
   | (first|exact KI.k|with_reducible refine Kin.bindM ?_ fun _=>?_|with_reducible refine Kin.ite (fun _=>?_) fun _=>?_|split|dsimp only)
end
end Go.Proofs.YtdianedehhecoaaGreatDoor.Co
/- Kin of the operations, fifth part. -/
namespace Go.Proofs.YtdianedehhecoaaGreatDoor.Co
variable [Loops]
section
variable {Γ:Nat→Prop} {P:Two} {α β γ:Type}
theorem Kin.mapMA {l:Array β}{f:β→Sem α}(h:∀ x,Kin Γ P (f x)):Kin Γ P (l.mapM f):=by
 rw[Array.mapM_eq_foldlM,← Array.foldlM_toList]
 exact Kin.foldlM (fun s x=>Kin.bindM (h x) fun _=>Kin.pureM _) _
instance (o:BinOp) (t:TypeId) (a b:Value):KI Γ P (Go.binOp o t a b):=⟨Kin.binOp _ _ _ _⟩
instance (l:List FieldStep) (t:TypeId) (x:Place):KI Γ P (Go.follow l t x):=⟨Kin.follow _ _ _⟩
instance (l:List FieldStep) (t:TypeId) (x:Option Value):KI Γ P (Go.followBlind l t x):=⟨Kin.followBlind _ _ _⟩
instance (a:Addr) (l:Bool):KI Γ P (Go.asNumber a l):=⟨Kin.asNumber _ _⟩
instance (op:FloatKind) (a b:Nat) (k:FloatKind):KI Γ P (Conv.complexToComplex op a b k):=⟨Kin.complexToComplex _ _ _ _⟩
theorem Kin.ssaWrap (t:Array TypeId)(u:TypeId)(p:Value)(a b:ByteArray):Kin Γ P (Builtin.ssaWrapNilChk_ t u #[p,.string a,.string b]):=by
 show Kin Γ P (match p with|.pointer (some _)=>_|.pointer none=>_|_=>_)
 repeat' first
  | with_reducible exact Kin.mapMA (fun _=>Kin.bindM (Kin.sizeOf _) fun _=>Kin.pureM _)
  | (first|exact KI.k|with_reducible refine Kin.bindM ?_ fun _=>?_|with_reducible refine Kin.ite (fun _=>?_) fun _=>?_|split|dsimp only)
theorem Kin.build (t:TypeId)(v:Array (Nat × Value)):Kin Γ P (Instr.build t v):=by
 unfold Instr.build
 repeat' first
  | with_reducible exact Kin.mapMA (fun _=>Kin.bindM (Kin.sizeOf _) fun _=>Kin.pureM _)
  | (first|exact KI.k|with_reducible refine Kin.bindM ?_ fun _=>?_|with_reducible refine Kin.ite (fun _=>?_) fun _=>?_|split|dsimp only)
theorem Kin.receiverAt (t:TypeId)(x:Place)(b:Bool)(w:Option String):Kin Γ P (Go.receiverAt t x b w):=by
 unfold Go.receiverAt
 unfold strVal
 repeat' first
  | with_reducible exact Kin.ssaWrap _ _ _ _ _
  | (first|exact KI.k|with_reducible refine Kin.bindM ?_ fun _=>?_|with_reducible refine Kin.ite (fun _=>?_) fun _=>?_|split|dsimp only)
theorem Kin.receiverVia (t:TypeId)(v:Value)(p:Array FieldStep)(b:Bool):Kin Γ P (Go.receiverVia t v p b):=by
 unfold Go.receiverVia
 repeat' first
  | with_reducible exact Kin.receiverAt _ _ _ _
  | (first|exact KI.k|with_reducible refine Kin.bindM ?_ fun _=>?_|with_reducible refine Kin.ite (fun _=>?_) fun _=>?_|split|dsimp only)
theorem Kin.method (n:Nat):∀ (t:TypeId)(v:Value)(m:String),Kin Γ P (Go.method n t v m):=by
 induction n with
 | zero=>intro t v m;exact Kin.halt _
 | succ n ih =>
  intro t v m
  unfold Go.method
  repeat' first
   | with_reducible exact ih _ _ _
   | with_reducible exact Kin.receiverAt _ _ _ _
   | (first|exact KI.k|with_reducible refine Kin.bindM ?_ fun _=>?_|with_reducible refine Kin.ite (fun _=>?_) fun _=>?_|split|dsimp only)
theorem Kin.nilAhead (n:Nat):∀ (t:TypeId)(v:Value)(m:String),Kin Γ P (Go.nilAhead n t v m):=by
 induction n with
 | zero=>intro t v m;exact Kin.pureM _
 | succ n ih =>
  intro t v m
  unfold Go.nilAhead
  repeat' first
   | with_reducible exact ih _ _ _
   | (first|exact KI.k|with_reducible refine Kin.bindM ?_ fun _=>?_|with_reducible refine Kin.ite (fun _=>?_) fun _=>?_|split|dsimp only)
theorem Kin.loadBytes (n:Nat):∀ (a:Addr)(acc:ByteArray),Kin Γ P (Go.loadBytes a acc n):=by
 induction n with
 | zero=>intro a c;exact Kin.pureM _
 | succ n ih =>
  intro a c
  unfold Go.loadBytes
  repeat' first
   | with_reducible exact ih _ _
   | (first|exact KI.k|with_reducible refine Kin.bindM ?_ fun _=>?_|with_reducible refine Kin.ite (fun _=>?_) fun _=>?_|split|dsimp only)
theorem Kin.stringToBytes (e:TypeId)(b:ByteArray):Kin Γ P (Conv.stringToBytes e b):=by
 unfold Conv.stringToBytes
 refine Kin.bindM (Kin.chooseK _) fun c=>?_
 refine Kin.newFresh _ fun r hr=>?_
 show Kin Γ P (markStringish ⟨r,0,none⟩ >>= _)
 refine Kin.bindM ?_ fun _=>Kin.pureM _
 unfold markStringish
 refine Kin.shapeIs _ (fun s=>?_) (fun h=>absurd h hr)
 rcases s with _|⟨t,n⟩
 ·exact Kin.pureM _
 ·exact Kin.freeze _ _ hr (Kin.pure _)
theorem Kin.variablesAt (a:Addr)(u:TypeId)(n:Nat)(ha:¬ Γ a.block):Kin Γ P (Go.variablesAt a u n):=by
 unfold Go.variablesAt
 refine Kin.programB <| ?_
 refine Kin.shapeIs _ (fun s=>?_) (fun h=>absurd h ha)
 rcases s with _|⟨t,n⟩<;>exact Kin.pureM _
theorem variablesAt_ghost {w b:World}(hg:Gh Γ w b)(a:Addr)(u:TypeId)(n:Nat)(ha:Γ a.block)(t:Nat→Question→Nat)(d:Nat):(Go.variablesAt a u n).run P.s (Go.Proofs.YtdianedehhecoaaGreatDoor.Co.re w t d)=.ok false (Go.Proofs.YtdianedehhecoaaGreatDoor.Co.re w t d):=by
 obtain ⟨c,t',e1,e2,e3,e4⟩:=hg.shapeG ha
 unfold Go.variablesAt
 show (Sem.program _).run P.s _=_
 simp only[Sem.run]
 show (Sem.shape _ _).run P.s _=_
 simp only[Sem.run,re_shape,e2]
 rfl
theorem Kin.varsThen (a:Addr)(u:TypeId)(n:Nat){X:Sem α}(e:Unsupported)(hX:¬ Γ a.block→Kin Γ P X):Kin Γ P (Go.variablesAt a u n >>= fun b=>if b=true then X else Go.unsupported e):=by
 by_cases ha:Γ a.block
 ·intro w b hg es
  refine Kin.of_bad w b es (x:=.unsupported e) trivial fun t d=>?_
  refine (Sem.run_bind' P.s _ _ _).trans ?_
  rw[variablesAt_ghost hg a u n ha]
  rfl
 ·exact Kin.bindM (Kin.variablesAt a u n ha) fun _=>Kin.ite (fun _=>hX ha) fun _=>Kin.unsupported _
theorem Kin.freezeK (a:Addr)(n:Nat)(ha:¬ Γ a.block):Kin Γ P (Go.freeze a n):=Kin.freeze a n ha (Kin.pure _)
theorem Kin.unsafeString_ (t:Array TypeId)(u:TypeId)(v:Array Value):Kin Γ P (Builtin.unsafeString_ t u v):=by
 rcases v with ⟨_|⟨x,_|⟨y,_|⟨z,l⟩⟩⟩⟩
 ·exact Kin.halt _
 ·cases x<;>exact Kin.halt _
 ·cases x<;>first|exact Kin.halt _|skip
  refine Kin.bindM (Kin.asInt y) fun n=>?_
  repeat' first
   | with_reducible exact Kin.errThen _ _
   | with_reducible exact Kin.stuckThen _ _
   | with_reducible exact Kin.unsupThen _ _
   | with_reducible exact Kin.pureM _
   | with_reducible exact Kin.stuck _
   | with_reducible exact Kin.unsupported _
   | with_reducible exact Kin.runtimePanic _
   | with_reducible exact Kin.elemOf _
   | with_reducible refine Kin.varsThen _ _ _ _ (fun h=>Kin.bindM (Kin.loadBytes _ _ _) fun _=>Kin.bindM (Kin.freezeK _ _ h) fun _=>Kin.pureM _)
   | with_reducible refine Kin.bindM ?_ fun _=>?_
   | with_reducible refine Kin.ite (fun _=>?_) fun _=>?_
   | split
   | dsimp only
 ·cases x<;>exact Kin.halt _
theorem Kin.seenAt (a:Addr):Kin Γ P (Conv.seenAt a):=by
 unfold Conv.seenAt
 repeat' (first|exact KI.k|with_reducible exact Kin.halt _|((with_reducible refine Kin.programB ?_ ?e);case e=>first|with_reducible rfl|(simp only[two_byteOfCell,two_rowAt,two_liesAt,two_stoodInHeld,two_holdsStoodIn,two_holdsPacked,two_cellAtBytes,two_eqGuardType]<;>rfl)|rfl)|with_reducible exact Kin.shareBad _ _ _ _ _ _|((with_reducible refine Kin.newK _ ?n);case n=>intro l h;cases h)|with_reducible refine Kin.shapeBadM _ (fun _=>?_) ?_|with_reducible refine Kin.getObjM _ (fun _=>?_) (fun _ _=>?_)|exact ⟨.stuck _,trivial,fun _=>rfl⟩|exact ⟨.unsupported _,trivial,fun _=>rfl⟩|with_reducible refine Kin.bindM ?_ fun _=>?_|with_reducible refine Kin.ite (fun _=>?_) fun _=>?_|with_reducible refine Kin.forInA (fun _ _=>?_) _|with_reducible refine Kin.forInR (fun _ _=>?_) _|split|dsimp only)
end
end Go.Proofs.YtdianedehhecoaaGreatDoor.Co
/- Kin of the operations, sixth part. -/
namespace Go.Proofs.YtdianedehhecoaaGreatDoor.Co
variable [Loops]
section
variable {Γ:Nat→Prop} {P:Two} {α β γ:Type}
theorem Kin.varsOr (a:Addr)(u:TypeId)(n:Nat)(c:Bool){X:Sem α}{Y:Option (TypeId × Nat)→Sem α}(hX:Kin Γ P X)(hY:∀ s,Kin Γ P (Y s))(hn:∃ x,badH x∧∀ w,(Y none).run P.s w=.halt x w):Kin Γ P (Go.variablesAt a u n >>= fun b=>if (c || b)=true then X else (Go.shape a.block >>= Y)):=by
 by_cases ha:Γ a.block
 ·intro w b hg es
  have e1:∀ t d,Sem.run P.s (Go.variablesAt a u n >>= fun b=>if (c || b)=true then X else (Go.shape a.block >>= Y)) (Go.Proofs.YtdianedehhecoaaGreatDoor.Co.re w t d)=Sem.run P.s (if c=true then X else (Go.shape a.block >>= Y)) (Go.Proofs.YtdianedehhecoaaGreatDoor.Co.re w t d):=fun t d=>by
   refine (Sem.run_bind' P.s _ _ _).trans ?_
   rw[variablesAt_ghost hg a u n ha]
   cases c<;>rfl
  cases c with
  | true =>
   refine Kin.on w b w b es #[] hX hg (fun t d=>?_) ?_ rfl rfl (fun _ _=>rfl) (fun e he=>by simp at he)
   ·rw[e1];rfl
   ·obtain ⟨c,t',f1,f2,f3,f4⟩:=hg.shapeG ha
    have:(Go.variablesAt a u n).runT P.g b es=(.ok (liesAt P.g P.g.depth t' (c.size / P.g.cellsOf t') a.off u n) b,es):=by
     unfold Go.variablesAt
     show (Sem.program _).runT P.g b es=_
     simp only[Sem.runT]
     show (Sem.shape _ _).runT P.g b es=_
     simp only[Sem.runT,f3]
     rfl
    refine (Sem.runT_bind' P.g _ _ _ _).trans ?_
    rw[this]
    simp only[Bool.true_or,if_true,Array.append_empty]
  | false =>
   obtain ⟨x,hx,hh⟩:=hn
   refine Kin.of_bad w b es hx fun t d=>?_
   rw[e1]
   obtain ⟨c,t',f1,f2,f3,f4⟩:=hg.shapeG ha
   show (Sem.shape a.block Y).run P.s _=_
   simp only[Sem.run,re_shape,f2,hh]
 ·refine Kin.bindM (Kin.variablesAt a u n ha) fun _=>Kin.ite (fun _=>hX) fun _=>?_
  exact Kin.shapeBadM _ hY hn
instance (a:Addr):KI Γ P (Conv.seenAt a):=⟨Kin.seenAt _⟩
instance (e:TypeId) (b:ByteArray):KI Γ P (Conv.stringToBytes e b):=⟨Kin.stringToBytes _ _⟩
instance (t:Array TypeId) (u:TypeId) (v:Array Value):KI Γ P (Builtin.unsafeString_ t u v):=⟨Kin.unsafeString_ _ _ _⟩
instance (t:TypeId) (v:Array (Nat × Value)):KI Γ P (Instr.build t v):=⟨Kin.build _ _⟩
instance (t:TypeId) (v:Value) (p:Array FieldStep) (b:Bool):KI Γ P (Go.receiverVia t v p b):=⟨Kin.receiverVia _ _ _ _⟩
instance (n:Nat) (t:TypeId) (v:Value) (m:String):KI Γ P (Go.method n t v m):=⟨Kin.method _ _ _ _⟩
instance (n:Nat) (t:TypeId) (v:Value) (m:String):KI Γ P (Go.nilAhead n t v m):=⟨Kin.nilAhead _ _ _ _⟩
theorem Kin.unsafePointer (t u:TypeId)(x:Value):Kin Γ P (Conv.unsafePointer t u x):=by
 unfold Conv.unsafePointer
 repeat' first
  | with_reducible refine Kin.varsOr _ _ _ _ ?_ (fun _=>?_) ?_
  | (first|exact KI.k|with_reducible exact Kin.halt _|((with_reducible refine Kin.programB ?_ ?e);case e=>first|with_reducible rfl|(simp only[two_byteOfCell,two_rowAt,two_liesAt,two_stoodInHeld,two_holdsStoodIn,two_holdsPacked,two_cellAtBytes,two_eqGuardType]<;>rfl)|rfl)|with_reducible exact Kin.shareBad _ _ _ _ _ _|((with_reducible refine Kin.newK _ ?n);case n=>intro l h;cases h)|with_reducible refine Kin.shapeBadM _ (fun _=>?_) ?_|with_reducible refine Kin.getObjM _ (fun _=>?_) (fun _ _=>?_)|exact ⟨.stuck _,trivial,fun _=>rfl⟩|exact ⟨.unsupported _,trivial,fun _=>rfl⟩|with_reducible refine Kin.bindM ?_ fun _=>?_|with_reducible refine Kin.ite (fun _=>?_) fun _=>?_|with_reducible refine Kin.forInA (fun _ _=>?_) _|with_reducible refine Kin.forInR (fun _ _=>?_) _|split|dsimp only)
theorem Kin.intToInt (k:IntKind)(n:Int):Kin Γ P (Conv.intToInt k n):=Kin.pureM _
theorem Kin.underlyingThen {t:TypeId}{f:TypeDesc→Sem α}(h:∀ d,P.g.underlying t=some d→Kin Γ P (f d)):Kin Γ P (Go.underlying t >>= f):=by
  refine Kin.program ?_
  show Kin Γ P ((match P.g.underlying t with | some d => Pure.pure d | none => Go.stuck "no such type" : Sem TypeDesc) >>= f)
  cases hu:P.g.underlying t with
  | none=>exact Kin.halt _
  | some d=>exact h d hu
theorem Kin.convert (t u:TypeId)(x:Value)(hs:∀ a b,P.g.underlying t=some (.slice a)→P.g.underlying u≠some (.slice b)):Kin Γ P (Go.convert t u x):=by
 unfold Go.convert
 refine Kin.underlyingThen fun d1 h1=>Kin.underlyingThen fun d2 h2=>?_
 repeat' first
  | with_reducible exact Kin.unsafePointer _ _ _
  | with_reducible exact Kin.intToInt _ _
  | (exfalso;exact hs _ _ (by assumption) (by assumption))
  | (first|exact KI.k|with_reducible exact Kin.halt _|((with_reducible refine Kin.programB ?_ ?e);case e=>first|with_reducible rfl|rfl)|with_reducible exact Kin.shareBad _ _ _ _ _ _|((with_reducible refine Kin.newK _ ?n);case n=>intro l h;cases h)|with_reducible refine Kin.shapeBadM _ (fun _=>?_) ?_|with_reducible refine Kin.getObjM _ (fun _=>?_) (fun _ _=>?_)|exact ⟨.stuck _,trivial,fun _=>rfl⟩|exact ⟨.unsupported _,trivial,fun _=>rfl⟩|with_reducible refine Kin.bindM ?_ fun _=>?_|with_reducible refine Kin.ite (fun _=>?_) fun _=>?_|with_reducible refine Kin.forInA (fun _ _=>?_) _|with_reducible refine Kin.forInR (fun _ _=>?_) _|split|dsimp only)
end
end Go.Proofs.YtdianedehhecoaaGreatDoor.Co
/- Kin of the operations, seventh part. -/
namespace Go.Proofs.YtdianedehhecoaaGreatDoor.Co
variable [Loops]
section
variable {Γ:Nat→Prop} {P:Two} {α β γ:Type}
theorem sys_env (w:World):w.sys .env=(.strings w.os.env,w):=by rfl
theorem Kin.sysEnv:Kin Γ P (Go.sys .env):=by
 intro w b hg es
 refine ⟨0,.ok (.strings w.os.env) w,#[⟨.output,true,false⟩],fun t d _=>?_,.inr ⟨⟨b,?_,hg,rfl,rfl,fun _ _=>rfl⟩,fun e he=>(by simp at he;subst he;trivial),fun x u e=>(by cases e)⟩⟩
 ·show (Sem.sys .env _).run P.s _=_
  simp only[Sem.run,sys_env];rfl
 ·show (Sem.sys .env _).runT P.g _ _=_
  simp only[Sem.runT,sys_env,hg.os];simp[onW]
instance (t u:TypeId) (x:Value):KI Γ P (Conv.unsafePointer t u x):=⟨Kin.unsafePointer _ _ _⟩
instance (k:IntKind) (n:Int):KI Γ P (Conv.intToInt k n):=⟨Kin.intToInt _ _⟩
instance (e:TypeId) (h:Bool) (v:Value):KI Γ P (Instr.alloc e h v):=⟨Kin.alloc _ _ _⟩
instance (t:TypeId) (v:Value):KI Γ P (Instr.box t v):=⟨Kin.box _ _⟩
instance (t:TypeId) (n:Nat) (v:Array (Nat × Value)):KI Γ P (Instr.buildSlice t n v):=⟨Kin.buildSlice _ _ _⟩
instance (t:TypeId) (v:Value):KI Γ P (Instr.loadAt t v):=⟨Kin.loadAt _ _⟩
instance (t:TypeId) (v x:Value):KI Γ P (Instr.storeAt t v x):=⟨Kin.storeAt _ _ _⟩
instance (op:UnOp) (x:Value):KI Γ P (Op.unary op x):=⟨Kin.unary _ _⟩
instance (t:TypeId) (v:Value):KI Γ P (Instr.makeInterface t v):=⟨Kin.makeInterface _ _⟩
instance (t:TypeId) (v x:Value):KI Γ P (Instr.makeSlice t v x):=⟨Kin.makeSlice _ _ _⟩
instance (t:TypeId) (v:Value) (x y z:Option Value):KI Γ P (Instr.sliceAt t v x y z):=⟨Kin.sliceAt _ _ _ _ _⟩
instance (t:TypeId) (v:Value) (n:Nat):KI Γ P (Instr.fieldAt t v n):=⟨Kin.fieldAt _ _ _⟩
instance (t:TypeId) (v:Value) (n:Nat):KI Γ P (Instr.field t v n):=⟨Kin.field _ _ _⟩
instance (t:TypeId) (x i:Value):KI Γ P (Instr.indexAt t x i):=⟨Kin.indexAt _ _ _⟩
instance (t:TypeId) (v x:Value):KI Γ P (Instr.index t v x):=⟨Kin.index _ _ _⟩
instance (v:Value) (n:Nat):KI Γ P (Instr.extract v n):=⟨Kin.extract _ _⟩
instance (o:BinOp) (t:TypeId) (x y:Operand) (a b:Value):KI Γ P (Go.eqGuard o t x y a b):=⟨Kin.eqGuard _ _ _ _ _ _⟩
instance (t:Array TypeId) (u:TypeId) (v:Array Value):KI Γ P (Builtin.max_ t u v):=⟨Kin.max_ _ _ _⟩
instance (t:Array TypeId) (u:TypeId) (v:Array Value):KI Γ P (Builtin.min_ t u v):=⟨Kin.min_ _ _ _⟩
instance (t:Array TypeId) (u:TypeId) (v:Array Value):KI Γ P (Builtin.copy_ t u v):=⟨Kin.copy_ _ _ _⟩
theorem Kin.panicnil :Kin Γ P (Instr.panicnil):=by
 unfold Instr.panicnil
 repeat' first
  | with_reducible exact Kin.sysEnv
  | (first|exact KI.k|with_reducible exact Kin.halt _|((with_reducible refine Kin.programB ?_ ?e);case e=>first|with_reducible rfl|rfl)|with_reducible refine Kin.bindM ?_ fun _=>?_|with_reducible refine Kin.ite (fun _=>?_) fun _=>?_|split|dsimp only)
theorem Kin.panic (x:Value):Kin Γ P (Instr.panic x):=by
 unfold Instr.panic
 repeat' first
  | with_reducible exact Kin.panicnil
  | (first|exact KI.k|with_reducible refine Kin.bindM ?_ fun _=>?_|with_reducible refine Kin.ite (fun _=>?_) fun _=>?_|split|dsimp only)
def okB:Builtin→Bool
 | .append|.cap|.clear|.copy|.len|.max|.min|.panic|.unsafeAdd|.unsafeSliceData|.unsafeString|.make|.new|.unsafeSizeof|.unsafeAlignof|.unsafeOffsetof=>true
 | _=>false
theorem Kin.builtin (b:Builtin)(t:Array TypeId)(u:TypeId)(c:Array Bool)(v:Array Value)(hb:okB b=true):Kin Γ P (Go.builtin b t u c v):=by
 unfold Go.builtin
 cases b<;>first|(exact absurd hb (by decide))|skip
 all_goals dsimp only
 all_goals first
  | exact Kin.bindM (Kin.append_ _ _ _) fun _=>Kin.pureM _
  | exact Kin.bindM (Kin.clear_ _ _ _) fun _=>Kin.pureM _
  | exact Kin.bindM (Kin.cap_ _ _ _) fun _=>Kin.pureM _
  | exact Kin.bindM (Kin.copy_ _ _ _) fun _=>Kin.pureM _
  | exact Kin.bindM (Kin.len_ _ _ _) fun _=>Kin.pureM _
  | exact Kin.bindM (Kin.max_ _ _ _) fun _=>Kin.pureM _
  | exact Kin.bindM (Kin.min_ _ _ _) fun _=>Kin.pureM _
  | exact Kin.bindM (Kin.panic _) fun _=>Kin.pureM _
  | exact Kin.bindM (Kin.unsafeAdd_ _ _ _) fun _=>Kin.pureM _
  | exact Kin.bindM (Kin.unsafeSliceData_ _ _ _) fun _=>Kin.pureM _
  | exact Kin.bindM (Kin.unsafeString_ _ _ _) fun _=>Kin.pureM _
  | exact Kin.bindM (Kin.typeInfo _) fun _=>Kin.pureM _
  | exact Kin.pureM _
  | exact Kin.halt _
theorem Kin.ofValue (f:Value)(v:Array Value):Kin Γ P (Deferred.ofValue f v):=by
 unfold Deferred.ofValue
 split<;>first|exact Kin.pureM _|exact Kin.halt _
theorem Kin.resolve (ρ:Operand→Value)(c:Call)(t:TypeId):Kin Γ P (Go.resolve ρ c t):=by
 unfold Go.resolve
 dsimp only
 split<;>first|exact Kin.pureM _|exact Kin.ofValue _ _
theorem Kin.callMethod (hE:∀ f args,Kin Γ P (Go.callFunc f args))(r:Value)(n:String)(v:Array Value):Kin Γ P (Go.callMethod r n v):=by
 unfold Go.callMethod
 repeat' first
  | with_reducible exact hE _ _
  | (first|exact KI.k|with_reducible exact Kin.halt _|((with_reducible refine Kin.programB ?_ ?e);case e=>first|with_reducible rfl|rfl)|with_reducible refine Kin.bindM ?_ fun _=>?_|with_reducible refine Kin.ite (fun _=>?_) fun _=>?_|split|dsimp only)
theorem yield_bad {w:World}(hw:∀ (k:Nat)(o:Obj),w.heap[k]? = some o→∀ l,o≠.loop l)(l:Nat)(v:Array Value):∃ x,badH x∧∀ t d,(Instr.yield l v).run P.s (Go.Proofs.YtdianedehhecoaaGreatDoor.Co.re w t d)=.halt x (Go.Proofs.YtdianedehhecoaaGreatDoor.Co.re w t d):=by
  unfold Instr.yield Instr.getLoop
  cases ho:w.heap[l]? with
  | none => exact ⟨.stuck "getObj: no such block", trivial, fun t d => by show (Sem.getObj l _).run P.s _ = _; simp only [Sem.run, re_heap, ho]⟩
  | some o =>
    have hl:=hw l o ho
    cases o with
    | loop r=>exact absurd rfl (hl r)
    | cells c t f => exact ⟨.stuck "getObj: a row of cells", trivial, fun t d => by show (Sem.getObj l _).run P.s _ = _; simp only [Sem.run, re_heap, ho]⟩
    | _ => exact ⟨.stuck "range over a function: no such loop", trivial, fun t d => by show (Sem.getObj l _).run P.s _ = _; simp only [Sem.run, re_heap, ho]; rfl⟩
theorem Kin.yield (l:Nat)(v:Array Value):Kin Γ P (Instr.yield l v):=by
 intro w b hg es
 obtain ⟨x,hx,h⟩:=yield_bad (P:=P) hg.calm l v
 exact Kin.of_bad w b es hx h
def okT:Target→Bool
 | .builtin b _ _ _=>okB b
 | .collected _|.coroexit _=>false
 | _=>true
theorem Kin.invoke (hE:∀ f args,Kin Γ P (Go.callFunc f args))(t:Target)(v:Array Value)(ht:okT t=true):Kin Γ P (Go.invoke t v):=by
 unfold Go.invoke
 cases t with
 | builtin b _ _ _=>exact Kin.builtin _ _ _ _ _ ht
 | _ =>
  repeat' first
   | with_reducible exact hE _ _
   | with_reducible exact Kin.callMethod hE _ _ _
   | with_reducible exact Kin.yield _ _
   | contradiction
   | (first|exact KI.k|with_reducible refine Kin.bindM ?_ fun _=>?_|with_reducible refine Kin.ite (fun _=>?_) fun _=>?_|split|dsimp only)
end
end Go.Proofs.YtdianedehhecoaaGreatDoor.Co
/- Kin of the operations: whatever operation of those that stand in the program. -/
namespace Go.Proofs.YtdianedehhecoaaGreatDoor.Co
variable [Loops]
section
variable {Γ:Nat→Prop} {P:Two} {α β γ:Type}
def okCall (c:Call):Bool:=match c.callee with
 | .builtin b=>okB b
 | _=>true
def isSlice (P:Program)(t:TypeId):Bool:=match P.underlying t with
 | some (.slice _)=>true
 | _=>false
def okOp (P:Program):Op→Bool
 | .move _|.assign _|.pick ..|.alloc _|.box ..|.build ..|.buildSlice ..|.load ..|.store ..|.nilCheck _|.binOp ..|.unOp ..|.makeInterface ..|.makeFunc ..|.makeSlice ..|.slice ..|.fieldAddr ..|.field ..|.indexAddr ..|.index ..|.extract ..|.panic _=>true
 | .convert s d _=>!(isSlice P s && isSlice P d)
 | .call c|.defer c=>okCall c
 | _=>false
theorem Kin.v {s:Sem Value}(h:Kin Γ P s):Kin Γ P (do Pure.pure (Next.value (← s)):Sem Next):=Kin.bindM h fun _=>Kin.pureM _
theorem Kin.u {s:Sem Unit}(h:Kin Γ P s):Kin Γ P (do s;Pure.pure Next.skip:Sem Next):=Kin.bindM h fun _=>Kin.pureM _
theorem okT_resolve {ρ:Operand→Value}{c:Call}{t:TypeId}(hc:okCall c=true){w w':World}{d:Deferred}(h:(Go.resolve ρ c t).run P.s w=.ok d w'):okT d.target=true:=by
 unfold Go.resolve at h
 unfold okCall at hc
 dsimp only at h
 split at h
 ·cases h;rename_i b hb;rw[hb]at hc;exact hc
 ·cases h;rfl
 ·unfold Deferred.ofValue at h
  split at h
  ·cases h;rfl
  ·cases h;rfl
  ·cases h
theorem Kin.bindOk {s:Sem α}{f:α→Sem β}(h:Kin Γ P s)(hf:∀ a,(∃ w w',s.run P.s w=.ok a w')→Kin Γ P (f a)):Kin Γ P (s >>= f):=by
 intro w b hg es
 obtain ⟨k,r,ev,h1,h2⟩:=h w b hg es
 cases r with
 | halt x u =>
  refine ⟨k,.halt x u,ev,fun t d ht=>?_,?_⟩
  ·refine (Sem.run_bind' P.s _ _ _).trans ?_
   rw[h1 t d ht];rfl
  ·rcases h2 with h2|⟨⟨b',hr,hg',e1,e2,e3⟩,hs,hfn⟩
   ·exact .inl h2
   ·refine .inr ⟨⟨b',(Sem.runT_bind' P.g _ _ _ _).trans ?_,hg',e1,e2,e3⟩,hs,fun y v e=>by cases e;exact hfn _ _ rfl⟩
    rw[hr];rfl
 | ok a u =>
  rcases h2 with h2|⟨⟨b',hr,hg',e1,e2,e3⟩,hs,_⟩
  ·exact h2.elim
  ·obtain ⟨k2,r2,ev2,g1,g2⟩:=hf a ⟨_,_,h1 b.tape b.drawn fun _ _ _=>rfl⟩ u b' hg' (es++ev)
   refine ⟨k+k2,r2,ev++ev2,fun t d ht=>?_,?_⟩
   ·refine (Sem.run_bind' P.s _ _ _).trans ?_
    rw[h1 t d (fun i q hi=>ht i q (by omega))]
    show (f a).run P.s (Go.Proofs.YtdianedehhecoaaGreatDoor.Co.re u t (d+k))=_
    rw[g1 t (d+k) (fun i q hi=>by
     have:=ht (k+i) q (by omega)
     rw[e1,e2,show b.drawn+k+i=b.drawn+(k+i) by omega,show d+k+i=d+(k+i) by omega]
     exact this)]
    rw[show d+k+k2=d+(k+k2) by omega]
   ·rcases g2 with g2|⟨⟨b2,hr2,hg2,e4,e5,e6⟩,hs2,hfn2⟩
    ·exact .inl g2
    ·refine .inr ⟨⟨b2,?_,hg2,e4.trans e1,by rw[e5,e2];omega,fun j hj=>(e6 j hj).trans (e3 j hj)⟩,fun e he=>(Array.mem_append.1 he).elim (hs e) (hs2 e),hfn2⟩
     refine (Sem.runT_bind' P.g _ _ _ _).trans ?_
     rw[hr]
     show (f a).runT P.g b' (es++ev)=_
     rw[hr2,Array.append_assoc]
theorem isSlice_of {t a:TypeId}(h:P.g.underlying t=some (.slice a)):isSlice P.g t=true:=by unfold isSlice;rw [h]
theorem Kin.execOp (hE:∀ f args,Kin Γ P (Go.callFunc f args)) (ρ:Operand→Value)(o:Oper)(ho:okOp P.g o.op=true):Kin Γ P (Go.execOp ρ o):=by
 unfold Go.execOp
 dsimp only
 generalize o.op=op at ho
 cases op with
 | move x=>exact Kin.pureM _
 | assign x=>exact Kin.pureM _
 | pick c a b=>exact Kin.bindM (Kin.asBool _) fun _=>Kin.pureM _
 | alloc e=>exact Kin.v (Kin.alloc _ _ _)
 | box e x=>exact Kin.v (Kin.box _ _)
 | build t p=>exact Kin.v (Kin.build _ _)
 | buildSlice t n p=>exact Kin.v (Kin.buildSlice _ _ _)
 | load t a=>exact Kin.v (Kin.loadAt _ _)
 | store t a x=>exact Kin.u (Kin.storeAt _ _ _)
 | nilCheck x =>
  dsimp only
  repeat' first
   | with_reducible exact Kin.pureM _
   | with_reducible exact Kin.runtimePanic _
   | with_reducible exact Kin.unsupported _
   | ((with_reducible refine Kin.programB ?_ ?e);case e=>first|with_reducible rfl|(simp only[two_byteOfCell,two_rowAt,two_liesAt,two_stoodInHeld,two_holdsStoodIn,two_holdsPacked,two_cellAtBytes,two_eqGuardType]<;>rfl)|rfl)
   | with_reducible exact Kin.nilAhead _ _ _ _
   | with_reducible exact Kin.unsupThen _ _
   | with_reducible refine Kin.bindM ?_ fun _=>?_
   | with_reducible refine Kin.ite (fun _=>?_) fun _=>?_
   | split
   | dsimp only
 | binOp p t x y _=>exact Kin.v (Kin.bindM (Kin.eqGuard _ _ _ _ _ _) fun _=>Kin.binOp _ _ _ _)
 | unOp p t x=>exact Kin.v (Kin.unary _ _)
 | convert s d x =>
  refine Kin.v (Kin.convert _ _ _ fun a b h1 h2=>?_)
  simp only[okOp,isSlice_of h1,isSlice_of h2]at ho
  cases ho
 | makeInterface t x=>exact Kin.v (Kin.makeInterface _ _)
 | makeFunc f a c=>exact Kin.v (Kin.pureM _)
 | makeSlice t l c=>exact Kin.v (Kin.makeSlice _ _ _)
 | slice t x a b c=>exact Kin.v (Kin.sliceAt _ _ _ _ _)
 | fieldAddr s x f=>exact Kin.v (Kin.fieldAt _ _ _)
 | field t x f=>exact Kin.v (Kin.field _ _ _)
 | indexAddr t x i=>exact Kin.v (Kin.indexAt _ _ _)
 | index t x i=>exact Kin.v (Kin.index _ _ _)
 | extract t i=>exact Kin.v (Kin.extract _ _)
 | call c=>exact Kin.bindOk (Kin.resolve _ _ _) fun d ⟨w,w',h⟩=>Kin.invoke hE _ _ (okT_resolve ho h)
 | defer c=>exact Kin.bindM (Kin.resolve _ _ _) fun d=>Kin.pureM _
 | panic x=>exact Kin.v (Kin.panic _)
 | _=>exact absurd ho (by simp[okOp])
end
end Go.Proofs.YtdianedehhecoaaGreatDoor.Co
/- Kin of externs: atomics and marks. -/
namespace Go.Proofs.YtdianedehhecoaaGreatDoor.Co
variable [Loops]
section
variable {Γ:Nat→Prop} {P:Two} {α β γ:Type}
theorem Kin.anyM {l:List β}{f:β→Sem Bool}(h:∀ x,Kin Γ P (f x)):Kin Γ P (l.anyM f):=by
 induction l with
 | nil=>exact Kin.pureM _
 | cons x l ih =>
  unfold List.anyM
  refine Kin.bindM (h x) fun r=>?_
  split
  ·exact Kin.pureM _
  ·exact ih
theorem Kin.frozenK (a:Addr):Kin Γ P (Go.frozen a):=Kin.frozen _ fun _=>Kin.pure _
theorem Kin.markK (m:Mark)(hm:dumb m):Kin Γ P (Go.mark m):=Kin.mark _ hm (Kin.pure _)
theorem Kin.touchesFrozen (a:Addr):Kin Γ P (Extern.Atomic.touchesFrozen a):=by
 unfold Extern.Atomic.touchesFrozen
 repeat' first
  | with_reducible exact Kin.frozenK _
  | with_reducible exact Kin.anyM (fun _=>Kin.frozenK _)
  | (first|exact KI.k|with_reducible refine Kin.bindM ?_ fun _=>?_|with_reducible refine Kin.ite (fun _=>?_) fun _=>?_|split|dsimp only)
theorem Kin.aread (t:Extern.Atomic.T)(a:Addr):Kin Γ P (Extern.Atomic.read t a):=by
 unfold Extern.Atomic.read
 repeat' (first|exact KI.k|with_reducible refine Kin.bindM ?_ fun _=>?_|with_reducible refine Kin.ite (fun _=>?_) fun _=>?_|split|dsimp only)
theorem Kin.aload (t:Extern.Atomic.T)(v:Array Value):Kin Γ P (Extern.Atomic.loadT t v):=by
 rcases v with ⟨_|⟨x,_|⟨y,l⟩⟩⟩
 ·exact Kin.halt _
 ·exact Kin.bindM (Kin.asAddr _) fun _=>Kin.aread _ _
 ·exact Kin.halt _
theorem Kin.astore (v:Array Value):Kin Γ P (Extern.Atomic.storeT v):=by
 rcases v with ⟨_|⟨x,_|⟨y,_|⟨z,l⟩⟩⟩⟩
 ·exact Kin.halt _
 ·exact Kin.halt _
 ·exact Kin.bindM (Kin.asAddr _) fun _=>Kin.bindM (Kin.storeK _ _ _) fun _=>Kin.pureM _
 ·exact Kin.halt _
theorem Kin.aupdate {op:IntKind→Int→Int→Sem Value}(hop:∀ k a b,Kin Γ P (op k a b))(k:IntKind)(r:Bool)(v:Array Value):Kin Γ P (Extern.Atomic.update op k r v):=by
 rcases v with ⟨_|⟨x,_|⟨y,_|⟨z,l⟩⟩⟩⟩
 ·exact Kin.halt _
 ·exact Kin.halt _
 ·exact Kin.bindM (Kin.asAddr _) fun _=>Kin.bindM (Kin.aread _ _) fun _=>Kin.bindM (Kin.asInt _) fun _=>Kin.bindM (Kin.asInt _) fun _=>Kin.bindM (hop _ _ _) fun _=>Kin.bindM (Kin.storeK _ _ _) fun _=>Kin.pureM _
 ·exact Kin.halt _
theorem Kin.acas (t:Extern.Atomic.T)(v:Array Value):Kin Γ P (Extern.Atomic.casT t v):=by
 rcases v with ⟨_|⟨x,_|⟨y,_|⟨z,_|⟨u,l⟩⟩⟩⟩⟩
 ·exact Kin.halt _
 ·exact Kin.halt _
 ·exact Kin.halt _
 ·refine Kin.bindM (Kin.asAddr _) fun _=>?_
  repeat' first
   | with_reducible exact Kin.touchesFrozen _
   | with_reducible exact Kin.aread _ _
   | (first|exact KI.k|with_reducible refine Kin.bindM ?_ fun _=>?_|with_reducible refine Kin.ite (fun _=>?_) fun _=>?_|split|dsimp only)
 ·exact Kin.halt _
end
end Go.Proofs.YtdianedehhecoaaGreatDoor.Co
/- Kin of a call: a function that is barred in the small world halts badly there; one with a body is entered; of those without one a few are allowed. -/
namespace Go.Proofs.YtdianedehhecoaaGreatDoor.Co
variable [Loops]
section
variable {Γ:Nat→Prop} {P:Two} {α β γ:Type}
def barredF : Func := { (default : Func) with name := "barred", body := none }
def kinExt (Γ:Nat→Prop)(P:Two)(fn:Func):Prop :=
 Extern.findNext fn=none∧(∀ e,Extern.find fn=some e→∀ v,Kin Γ P (e v))
def isStub (P : Two) (f : Nat) : Prop := ∃ sf fn x y, P.fs[f]? = some sf ∧ P.fg[f]? = some fn ∧ sf.body = some x ∧ fn.body = some y ∧ (sf.name == "runtime.NumGoroutine") = false ∧ (fn.name == "runtime.NumGoroutine") = false ∧ P.fs[f]? ≠ P.fg[f]?
structure Bars (Γ:Nat→Prop)(P:Two):Prop where
  size:P.fs.size=P.fg.size
  each : ∀ f : Nat, f < P.fg.size → P.fs[f]? = some barredF ∨ isStub P f ∨ (P.fs[f]? = P.fg[f]? ∧ ∀ fn, P.fg[f]? = some fn → (fn.name == "runtime.NumGoroutine") = false ∧ (fn.body = none → kinExt Γ P fn))
theorem barred_next:Extern.findNext barredF=none:=by kernel_rfl
theorem barred_find:Extern.find barredF=none:=by kernel_rfl
theorem barred_init : (barredF.name.endsWith ".init" && !barredF.name.startsWith "(" && !barredF.name.startsWith "gosem.") = false := by kernel_rfl
theorem barred_num : (barredF.name == "runtime.NumGoroutine") = false := by kernel_rfl
theorem barred_body:barredF.body.isNone=true:=by kernel_rfl
theorem barred_run (f : Nat) (v : Array Value) (h : P.fs[f]? = some barredF) (w : World) : (Go.callFunc f v).run P.s w = .halt (.unsupported (.extern "barred")) w := by
  unfold Go.callFunc
  show (Sem.program _).run P.s w=_
  simp only[Sem.run]
  show (match P.s.funcs[f]? with|none=>_|some fn=>_:Sem Next).run P.s w=_
  rw[h]
  simp only[barred_num,barred_body,barred_next,barred_find,barred_init,if_true,Bool.false_eq_true,if_false]
  rfl
theorem Kin.callFunc (hB:Bars Γ P)(f:FuncId)(v:Array Value):Kin Γ P (Go.callFunc f v):=by
  by_cases hf:f<P.fg.size
  · rcases hB.each f hf with h|⟨sf,fn,x,y,h1,h2,h3,h4,h5,h6,_⟩|⟨h,hx⟩
    rotate_left
    · unfold Go.callFunc
      have e1:P.s.funcs[f]? = some sf:=h1
      have e2:P.g.funcs[f]? = some fn:=h2
      refine Kin.programB ?_ (by simp only[e1,e2,h3,h4,h5,h6,Bool.false_eq_true,if_false,Option.isNone_some])
      rw[e2]
      dsimp only
      simp only[h4,h6,Bool.false_eq_true,if_false,Option.isNone_some]
      exact Kin.pureM _
    rotate_left
    · exact fun w b hg es => Kin.of_bad w b es (x := .unsupported (.extern "barred")) trivial fun t d => barred_run f v h _
    · unfold Go.callFunc
      refine Kin.programB ?_ (by simp only[h])
      cases hfn:P.fg[f]? with
      | none=>exact Kin.halt _
      | some fn =>
        dsimp only
        refine Kin.ite (fun _=>Kin.pureM _) fun _=>Kin.ite (fun hb=>?_) fun _=>Kin.pureM _
        have hk:=(hx fn hfn).2 (by simpa using hb)
        refine Kin.bindM (Kin.markK _ trivial) fun _=>?_
        split
        · rename_i e he
          rw[hk.1]at he;cases he
        · split
          · rename_i e he
            exact Kin.bindM (hk.2 _ he _) fun _=>Kin.pureM _
          · refine Kin.ite (fun _=>Kin.pureM _) fun _=>Kin.unsupported _
  · unfold Go.callFunc
    have e1:P.s.funcs[f]? = none:=Array.getElem?_eq_none (hB.size▸Nat.le_of_not_lt hf)
    have e2:P.g.funcs[f]? = none:=Array.getElem?_eq_none (Nat.le_of_not_lt hf)
    refine Kin.programB ?_ (by simp only[e1,e2])
    rw[e2]
    exact Kin.halt _
theorem Kin.noEscape (v:Array Value):Kin Γ P (Extern.AbiNoEscape.same v):=by
 rcases v with ⟨_|⟨x,_|⟨y,l⟩⟩⟩
 ·exact Kin.halt _
 ·exact Kin.pure _
 ·exact Kin.halt _
theorem Kin.makeNoZero (p r:Array TypeId)(v:Array Value):Kin Γ P (Extern.BytealgMakeNoZero.makeNoZero p r v):=by
 rcases v with ⟨_|⟨x,_|⟨y,l⟩⟩⟩
 ·exact Kin.halt _
 ·cases x with
  | int k n =>
   cases k with
   | i64 =>
    show Kin Γ P (match r[0]? with|some t=>_|_=>_)
    cases r[0]? with
    | none=>exact Kin.halt _
    | some t =>
     refine Kin.bindM (Kin.underlying t) fun d=>?_
     cases d with
     | slice e =>
      show Kin Γ P (if (decide (n<0) || decide (n > 2 ^ 48))=true then _ else _)
      refine Kin.ite (fun _=>Kin.errThen _ _) fun _=>?_
      exact Kin.bindM (Kin.chooseK _) fun _=>Kin.bindM (Kin.askRoom _) fun _=>Kin.bindM (Kin.chooseK _) fun _=>Kin.bindM (Kin.newRow _ _) fun _=>Kin.pureM _
     | _=>exact Kin.halt _
   | _=>exact Kin.halt _
  | _=>exact Kin.halt _
 ·cases x with
  | int k n=>cases k<;>exact Kin.halt _
  | _=>exact Kin.halt _
end
end Go.Proofs.YtdianedehhecoaaGreatDoor.Co