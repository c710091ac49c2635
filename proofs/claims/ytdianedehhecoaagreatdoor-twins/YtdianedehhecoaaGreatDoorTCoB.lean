/- What an operation that may stand yields: a value, nothing, a call, a deferred call, a go statement. -/
import Derived.Test.YtdianedehhecoaaGreatDoorTCoA
import Derived.Conc.Own
import Derived.Conc.Beside
import Derived.Conc.Own4
import Derived.Orders
set_option linter.unusedSectionVars false
set_option linter.unusedVariables false
set_option linter.unusedSimpArgs false
set_option maxRecDepth 20000
namespace Go.Proofs.YtdianedehhecoaaGreatDoor.Co
variable [Loops]
section
variable {Γ:Nat→Prop} {P:Two} {α β γ:Type}
theorem ok_bind {p:Program}{s:Sem α}{f:α→Sem β}{w w':World}{n:β}(h:(s >>= f).run p w=.ok n w'):∃ a w1,s.run p w=.ok a w1∧(f a).run p w1=.ok n w':=by
 have e:=Sem.run_bind' p s f w
 rw[show (s >>= f)=s.bind f from rfl,e]at h
 cases hs:s.run p w with
 | ok a w1=>rw[hs]at h;exact ⟨a,w1,rfl,h⟩
 | halt x w1=>rw[hs]at h;cases h
def okNext:Next→Prop
 | .value _|.skip|.enter _ _=>True
 | .defer d=>okT d.target=true
 | _=>False
theorem shape_v {s:Sem Value}{p:Program}{w w':World}{n:Next}(h:(do Pure.pure (Next.value (← s)):Sem Next).run p w=.ok n w'):okNext n:=by
 obtain ⟨a,w1,_,h2⟩:=ok_bind h
 cases h2;trivial
theorem shape_u {s:Sem Unit}{p:Program}{w w':World}{n:Next}(h:(do s;Pure.pure Next.skip:Sem Next).run p w=.ok n w'):okNext n:=by
 obtain ⟨a,w1,_,h2⟩:=ok_bind h
 cases h2;trivial
theorem shape_call (hB:Bars Γ P)(f:FuncId)(v:Array Value){w w':World}{n:Next}(h:(Go.callFunc f v).run P.s w=.ok n w'):okNext n:=by
 by_cases hf:f<P.fg.size
 ·rcases hB.each f hf with hb|⟨sf,fn,x,y,h1,_,h3,_,h5,_⟩|⟨hs,hx⟩
  ·rw[barred_run f v hb]at h;cases h
  ·unfold Go.callFunc at h
   obtain ⟨p,w1,q1,q2⟩:=ok_bind h
   have:p=P.s:=by cases q1;rfl
   subst this
   have e1:P.s.funcs[f]? = some sf:=h1
   rw[e1]at q2
   simp only[h3,h5,Bool.false_eq_true,if_false,Option.isNone_some]at q2
   cases q2;trivial
  ·unfold Go.callFunc at h
   obtain ⟨p,w1,h1,h2⟩:=ok_bind h
   have:p=P.s:=by cases h1;rfl
   subst this
   have e:P.s.funcs[f]? = P.fg[f]?:=hs
   rw[e]at h2
   cases hfn:P.fg[f]? with
   | none=>rw[hfn]at h2;cases h2
   | some fn =>
    obtain ⟨hn,hk⟩:=hx fn hfn
    rw[hfn]at h2
    simp only[hn,Bool.false_eq_true,if_false]at h2
    split at h2
    ·rename_i hb
     have hk:=hk (by simpa using hb)
     obtain ⟨_,w2,_,h3⟩:=ok_bind h2
     rw[hk.1]at h3
     split at h3
     ·rename_i e he
      cases he
     ·split at h3
      ·exact shape_v h3
      ·split at h3
       ·cases h3;trivial
       ·cases h3
    ·cases h2;trivial
 ·unfold Go.callFunc at h
  obtain ⟨p,w1,h1,h2⟩:=ok_bind h
  have:p=P.s:=by cases h1;rfl
  subst this
  have e1:P.s.funcs[f]? = none:=Array.getElem?_eq_none (hB.size▸Nat.le_of_not_lt hf)
  rw[e1]at h2
  cases h2
theorem shape_method (hB:Bars Γ P)(r:Value)(name:String)(v:Array Value){w w':World}{n:Next}(h:(Go.callMethod r name v).run P.s w=.ok n w'):okNext n:=by
 unfold Go.callMethod at h
 split at h
 ·obtain ⟨p,w1,_,h2⟩:=ok_bind h
  obtain ⟨⟨f,rc⟩,w2,_,h3⟩:=ok_bind h2
  exact shape_call hB _ _ h3
 ·cases h
 ·cases h
theorem shape_invoke (hB:Bars Γ P)(t:Target)(v:Array Value)(ht:okT t=true){w w':World}(hw:∀ (k:Nat)(o:Obj),w.heap[k]? = some o→∀ l,o≠.loop l){n:Next}(h:(Go.invoke t v).run P.s w=.ok n w'):okNext n:=by
 unfold Go.invoke at h
 cases t with
 | nil=>cases h
 | builtin b at_ ty c =>
  have hb:okB b=true:=ht
  unfold Go.builtin at h
  cases b<;>first|(exact absurd hb (by decide))|exact shape_v h|(cases h;done)|(obtain ⟨a,w1,_,h2⟩:=ok_bind h;cases h2;trivial)
 | fn f cap =>
  cases f with
  | func f=>exact shape_call hB _ _ h
  | method name =>
   dsimp only at h
   split at h
   ·exact shape_method hB _ _ _ h
   ·cases h
  | methodOf t name =>
   dsimp only at h
   split at h
   ·obtain ⟨d,w1,_,h2⟩:=ok_bind h
    exact shape_method hB _ _ _ h2
   ·cases h
  | via t path f pt =>
   dsimp only at h
   split at h
   ·obtain ⟨d,w1,_,h2⟩:=ok_bind h
    exact shape_call hB _ _ h2
   ·cases h
  | yield l =>
   obtain ⟨x,_,hx⟩:=yield_bad (P:=P) hw l v
   have:=hx w.tape w.drawn
   rw[show Go.Proofs.YtdianedehhecoaaGreatDoor.Co.re w w.tape w.drawn=w from rfl]at this
   dsimp only at h
   rw[this]at h;cases h
 | collected _=>cases ht
 | coroexit _=>cases ht
theorem shape_exec (hB:Bars Γ P) (ρ:Operand→Value)(o:Oper)(ho:okOp P.g o.op=true){w w':World}(hw:∀ (k:Nat)(o:Obj),w.heap[k]? = some o→∀ l,o≠.loop l){n:Next}(h:(Go.execOp ρ o).run P.s w=.ok n w'):okNext n:=by
 unfold Go.execOp at h
 dsimp only at h
 generalize o.op=op at ho h
 cases op with
 | move x=>cases h;trivial
 | assign x=>cases h;trivial
 | pick c a b=>obtain ⟨x,w1,_,h2⟩:=ok_bind h;cases h2;trivial
 | alloc e=>exact shape_v h
 | box e x=>exact shape_v h
 | build t p=>exact shape_v h
 | buildSlice t n p=>exact shape_v h
 | load t a=>exact shape_v h
 | store t a x=>exact shape_u h
 | nilCheck x =>
  dsimp only at h
  split at h
  ·cases h
  ·cases h
  ·cases h
  ·split at h
   ·cases h
   ·obtain ⟨p,w1,_,h2⟩:=ok_bind h
    obtain ⟨q,w2,_,h3⟩:=ok_bind h2
    split at h3
    ·obtain ⟨q,w3,h4,_⟩:=ok_bind h3
     cases h4
    ·cases h3;trivial
   ·cases h;trivial
  ·cases h;trivial
 | binOp p t x y _=>exact shape_v h
 | unOp p t x=>exact shape_v h
 | convert s d x=>exact shape_v h
 | makeInterface t x=>exact shape_v h
 | makeFunc f a c=>exact shape_v h
 | makeSlice t l c=>exact shape_v h
 | slice t x a b c=>exact shape_v h
 | fieldAddr s x f=>exact shape_v h
 | field t x f=>exact shape_v h
 | indexAddr t x i=>exact shape_v h
 | index t x i=>exact shape_v h
 | extract t i=>exact shape_v h
 | call c =>
  obtain ⟨d,w1,h1,h2⟩:=ok_bind h
  have e:w1=w:=by
   unfold Go.resolve at h1
   dsimp only at h1
   split at h1
   ·cases h1;rfl
   ·cases h1;rfl
   ·unfold Deferred.ofValue at h1
    split at h1<;>cases h1<;>rfl
  subst e
  exact shape_invoke hB _ _ (okT_resolve ho h1) hw h2
 | defer c=>obtain ⟨a,w1,h1,h2⟩:=ok_bind h;cases h2;exact okT_resolve ho h1
 | panic x=>exact shape_v h
 | _=>exact absurd ho (by simp[okOp])
end
end Go.Proofs.YtdianedehhecoaaGreatDoor.Co
/- A step of a goroutine in the small world is the same step in the great one. -/
namespace Go.Proofs.YtdianedehhecoaaGreatDoor.Co
variable [Loops]
open Go.Conc (G)
def okC (P:Program):Code→Bool
 | .seq a b=>okC P a && okC P b
 | .cond _ a b=>okC P a && okC P b
 | .block _ c=>okC P c
 | .loop c=>okC P c
 | .scope c=>okC P c
 | .region _ ops _=>ops.all fun o=>okOp P o.op
 | .rangeFunc ..=>false
 | _=>true
def okItem (P:Program):Item→Bool
 | .code c=>okC P c
 | .inBlock _=>true
 | .inLoop c=>okC P c
 | .inScope c=>okC P c
 | .inRegion ops _=>ops.all fun o=>okOp P o.op
 | _=>false
structure okF (P:Two)(fr:Frame):Prop where
 same:P.fs[fr.fn]? = P.fg[fr.fn]?
 todo:∀ i∈fr.todo,okItem P.g i=true
 defers:∀ d∈fr.defers,okT d.target=true
 round:fr.roundOf=none
 kind:fr.kind=.normal∨fr.kind=.deferred
 unrec:∀ ch,fr.mode=.panicking ch→∀ e∈ch,e.recovered=false
def doom (P : Two) : Frame := { fn := P.fs.size, tmps := #[], todo := [.call { target := .collected 0, args := #[] } false "fmt's door" #[]], defers := [], mode := .run, kind := .normal }
def Dead (P:Two)(fr:Frame)(cs:List Frame):Prop:=cs≠[doom P]∧∀ w,∃ o w',(stepG P.s true (G fr cs) w).bare=.ended o w'
def Lost (P:Two)(s:GStep):Prop:=(∃ o w',s=.ended o w')∨∃ fr' cs' w',s=.go (G fr' cs') w'∧Dead P fr' cs'
def win (b:World)(k:Nat)(t:Nat→Question→Nat)(d:Nat):Prop:=∀ i q,i<k→t (d+i) q=b.tape (b.drawn+i) q
structure Fit (Γ:Nat→Prop)(P:Two):Prop where
 bars:Bars Γ P
 code:∀ (f:Nat) fn c,P.fg[f]? = some fn→P.fs[f]? = P.fg[f]?→fn.body=some c→okC P.g c=true
 ahead:P.T.follows .staticDataAhead=true
 readies:∀ g,P.s.stepOf g=none
def panF (fr:Frame):Prop:=∃ ch,fr.mode=.panicking ch
def Pan (l:List Frame):Prop:=∃ x∈l,panF x
def Top (P:Two)(l:List Frame)(fs fg:Frame):Prop:=(fs=fg∧okF P fg)∨∃ f v k,l≠[]∧isStub P f∧(k=.normal∨k=.deferred)∧fs=Frame.enter P.s f v k∧fg=Frame.enter P.g f v k
def Pair (Γ:Nat→Prop)(P:Two)(cs:List Frame)(w b:World)(pn:Prop)(S:World→GStep)(B:GStep):Prop :=
 ∃ k,(∀ t d,win b k t d→Lost P (S (re w t d)).bare) ∨
  ∃ fs' fr' up' w' b' ev,Top P up' fs' fr'∧(∀ x∈up',okF P x)∧(pn→Pan (fs' :: up'))∧(∀ t d,win b k t d→(S (re w t d)).bare=.go (G fs' (up'++[doom P])) (re w' t (d+k))) ∧
   B=.go (G fr' (up'++cs)) b' ev∧Gh Γ w' b'∧b'.tape=b.tape∧b'.drawn=b.drawn+k∧(∀ j:Nat,Γ j→b'.heap[j]? = b.heap[j]?)∧∀ e∈ev,shuns Γ e
section
variable {Γ:Nat→Prop} {P:Two} {cs:List Frame} {w b:World} {pn:Prop} {S:World→GStep} {B:GStep} {α:Type}
theorem Pair.still (hg:Gh Γ w b){fr':Frame}{up':List Frame}(hf:okF P fr')(hu:∀ x∈up',okF P x)(hp:pn→Pan (fr' :: up'))(hS:∀ W,(S W).bare=.go (G fr' (up'++[doom P])) W)(hB:B=.go (G fr' (up'++cs)) b):Pair Γ P cs w b pn S B :=
 ⟨0,.inr ⟨fr',fr',up',w,b,#[],.inl ⟨rfl,hf⟩,hu,hp,fun t d _=>hS _,hB,hg,rfl,rfl,fun _ _=>rfl,fun e he=>by simp at he⟩⟩
theorem Pair.lost (hS:∀ W,Lost P (S W).bare):Pair Γ P cs w b pn S B:=⟨0,.inl fun t d _=>hS _⟩
theorem Pair.sem {s:Sem α}(hk:Kin Γ P s)(hg:Gh Γ w b)(okA:α→Prop)(hsh:∀ W a W',W.heap=w.heap→s.run P.s W=.ok a W'→okA a)
  (hbad:∀ x W W',badH x→s.run P.s W=.halt x W'→∃ o w',(S W).bare=.ended o w')
  (hok:∀ a,okA a→(∀ W W',s.run P.s W=.ok a W'→Lost P (S W).bare)∨∃ fs' fr' up',Top P up' fs' fr'∧(∀ x∈up',okF P x)∧(pn→Pan (fs' :: up'))∧(∀ W W',s.run P.s W=.ok a W'→(S W).bare=.go (G fs' (up'++[doom P])) W') ∧
   ∀ b' es,s.runT P.g b #[]=(.ok a b',es)→∃ ev,(∀ e∈ev,e∈es)∧B=.go (G fr' (up'++cs)) b' ev)
  (hha:∀ v,(∀ W W',s.run P.s W=.halt (.panic v) W'→Lost P (S W).bare)∨∃ fs' fr' up',Top P up' fs' fr'∧(∀ x∈up',okF P x)∧(pn→Pan (fs' :: up'))∧(∀ W W',s.run P.s W=.halt (.panic v) W'→(S W).bare=.go (G fs' (up'++[doom P])) W') ∧
   ∀ b' es,s.runT P.g b #[]=(.halt (.panic v) b',es)→∃ ev,(∀ e∈ev,e∈es)∧B=.go (G fr' (up'++cs)) b' ev):Pair Γ P cs w b pn S B:=by
 obtain ⟨k,r,ev,h1,h2⟩:=hk w b hg #[]
 refine ⟨k,?_⟩
 have h0:=h1 b.tape b.drawn (fun _ _ _=>rfl)
 cases r with
 | ok a u =>
  have ha:okA a:=hsh (re w b.tape b.drawn) a _ rfl h0
  rcases hok a ha with h|⟨fs',fr',up',q1,q2,q0,q3,q4⟩
  ·exact .inl fun t d ht=>h _ _ (h1 t d ht)
  ·rcases h2 with h2|⟨⟨b',e1,e2,e3,e4,e5⟩,hs,_⟩
   ·exact h2.elim
   ·obtain ⟨ev',m,eB⟩:=q4 b' (#[]++ev) e1
    exact .inr ⟨fs',fr',up',u,b',ev',q1,q2,q0,fun t d ht=>q3 _ _ (h1 t d ht),eB,e2,e3,e4,e5,fun e he=>hs e (by simpa using m e he)⟩
 | halt x u =>
  rcases h2 with h2|⟨⟨b',e1,e2,e3,e4,e5⟩,hs,hfn⟩
  ·exact .inl fun t d ht=>.inl (hbad x _ _ h2 (h1 t d ht))
  ·obtain ⟨v,rfl⟩:=hfn x u rfl
   rcases hha v with h|⟨fs',fr',up',q1,q2,q0,q3,q4⟩
   ·exact .inl fun t d ht=>h _ _ (h1 t d ht)
   ·obtain ⟨ev',m,eB⟩:=q4 b' (#[]++ev) e1
    exact .inr ⟨fs',fr',up',u,b',ev',q1,q2,q0,fun t d ht=>q3 _ _ (h1 t d ht),eB,e2,e3,e4,e5,fun e he=>hs e (by simpa using m e he)⟩
theorem Pan.push {l:List Frame}(x:Frame)(h:Pan l):Pan (x :: l):=by
 obtain ⟨y,hy,hp⟩:=h
 exact ⟨y,by simp[hy],hp⟩
theorem Pan.tail {fr:Frame}{l:List Frame}(h:Pan (fr :: l))(hr:fr.mode=.run∨fr.mode=.returning):Pan l:=by
 obtain ⟨y,hy,hp⟩:=h
 rcases List.mem_cons.1 hy with rfl|hy
 ·obtain ⟨ch,hm⟩:=hp
  rcases hr with hr|hr<;>(rw[hr]at hm;cases hm)
 ·exact ⟨y,hy,hp⟩
theorem seen_sub (p:Program)(f:FuncId)(es:Array Event):∀ e∈Go.seen p f es,e∈es:=by
 unfold Go.seen
 obtain ⟨l⟩:=es
 have key:∀ (l:List Event) (q:Bool) (kept:Array Event),∀ e∈(l.foldl (fun (x:Bool × Array Event) e=>match e.loc with
   | .mark (.extern f)=>((p.funcs[f]?).any (·.norace),x.2)
   | _=>(x.1,if x.1 && !e.sync then x.2 else x.2.push e)) (q,kept)).2,e∈kept∨e∈l:=by
  intro l
  induction l with
  | nil=>intro q kept e he;exact .inl he
  | cons x l ih =>
   intro q kept e he
   rw[List.foldl_cons]at he
   have h2:∀ (q':Bool) (k':Array Event),(∀ y∈k',y∈kept∨y=x)→e∈(l.foldl (fun (x:Bool × Array Event) e=>match e.loc with
     | .mark (.extern f)=>((p.funcs[f]?).any (·.norace),x.2)
     | _=>(x.1,if x.1 && !e.sync then x.2 else x.2.push e)) (q',k')).2→e∈kept∨e∈x :: l:=by
    intro q' k' hk' he'
    rcases ih q' k' e he' with h|h
    ·rcases hk' e h with h|h
     ·exact .inl h
     ·exact .inr (by simp[h])
    ·exact .inr (by simp[h])
   dsimp only at he
   split at he
   ·exact h2 _ _ (fun y hy=>.inl hy) he
   ·refine h2 _ _ (fun y hy=>?_) he
    split at hy
    ·exact .inl hy
    ·rcases Array.mem_push.1 hy with h|h
     ·exact .inl h
     ·exact .inr h
 intro e he
 dsimp only at he
 rw[← Array.foldl_toList]at he
 have:=key l _ #[] e he
 simpa using this
theorem doom_fn:P.s.funcs[(doom P).fn]? = none:=Array.getElem?_eq_none (Nat.le_refl _)
theorem no_door : Extern.next "fmt's door" = none := by kernel_rfl
theorem dead_doom:Dead P (doom P) []:=⟨(fun h=>by cases h),fun w=>⟨_,_,rfl⟩⟩
theorem dead_finish (v:Value):Dead P ((doom P).finish v) []:=by
  refine ⟨(fun h => by cases h), fun w => ⟨.stuck ("no extern row " ++ "fmt's door") (((doom P).finish v).pos P.s), w, ?_⟩⟩
  have e : (doom P).finish v = { fn := P.fs.size, tmps := #[], todo := [.extern "fmt's door" (#[].push v)], defers := [], mode := .run, kind := .normal } := rfl
  rw[e]
  unfold stepG G stepG.exec
  simp only[no_door]
  rfl
theorem dead_raise (chain:List PanicEntry):Dead P ((doom P).raise chain) []:=by
  refine ⟨(fun h => by cases h), fun w => ⟨.unsupported (.noEntry "a panic or Goexit out of a method that fmt calls behind a cut's door") (((doom P).raise chain).pos P.s), w, ?_⟩⟩
  have e:(doom P).raise chain={ doom P with mode:=.panicking chain }:=rfl
  have hc:Frame.catches P.s ((doom P).raise chain)=true:=by
    unfold Frame.catches
    rw[show P.s.funcs[((doom P).raise chain).fn]? = none from doom_fn]
    kernel_rfl
  have h2 : stepG P.s true (G ((doom P).raise chain) []) w = .ended (.unsupported (.noEntry "a panic or Goexit out of a method that fmt calls behind a cut's door") (((doom P).raise chain).pos P.s)) w := by
    rw[e]at hc ⊢
    unfold stepG G
    dsimp only[doom]at hc ⊢
    unfold unwind
    dsimp only
    rw[if_pos hc]
  rw[h2]
  rfl
theorem dead_barred (f:Nat)(v:Array Value)(k:CallKind)(cs':List Frame)(hc:cs'≠[doom P])(h:P.fs[f]? = some barredF):Dead P (Frame.enter P.s f v k) cs':=by
  have : Frame.enter P.s f v k = { fn := f, tmps := v ++ Array.replicate (barredF.ntmps - v.size) undef, todo := [.code (.refuse "unsupported: a function without a Go body is entered")], defers := [], mode := .run, kind := k } := by
    unfold Frame.enter
    rw[show P.s.funcs[f]? = some barredF from h]
    rfl
  rw[this]
  exact ⟨hc,fun w=>⟨_,_,rfl⟩⟩
theorem long_ne (fr:Frame)(up:List Frame):fr :: (up++[doom P])≠[doom P]:=fun h=>by
 have:=congrArg List.length h
 simp at this
theorem enter_same (f:Nat)(v:Array Value)(k:CallKind)(h:P.fs[f]? = P.fg[f]?):Frame.enter P.s f v k=Frame.enter P.g f v k:=by
 unfold Frame.enter
 rw[show P.s.funcs[f]? = P.g.funcs[f]? from h]
theorem enter_ok (hF:Fit Γ P)(f:Nat)(v:Array Value)(k:CallKind)(hk:k=.normal∨k=.deferred)(h:P.fs[f]? = P.fg[f]?):okF P (Frame.enter P.g f v k):=by
 refine ⟨h,fun i hi=>?_,fun d hd=>(by cases hd),rfl,hk,fun ch h=>(by cases h)⟩
 simp only[Frame.enter,List.mem_singleton]at hi
 subst hi
 show okC P.g _=true
 cases hfn:P.fg[f]? with
 | none=>rfl
 | some fn =>
  cases hb:fn.body with
  | none=>simp only[Option.bind,hb];rfl
  | some c=>simp only[Option.bind,hb];exact hF.code f fn c hfn h hb
theorem enter_pair (hF:Fit Γ P)(f:Nat)(v:Array Value)(k:CallKind)(hk:k=.normal∨k=.deferred)(l:List Frame)(hl:l≠[]):(∀ cs',cs'≠[doom P]→Dead P (Frame.enter P.s f v k) cs')∨Top P l (Frame.enter P.s f v k) (Frame.enter P.g f v k):=by
 by_cases hf:f<P.fg.size
 ·rcases hF.bars.each f hf with h|h|⟨h,_⟩
  ·exact .inl fun cs' hc=>dead_barred f v k cs' hc h
  ·exact .inr (.inr ⟨f,v,k,hl,h,hk,rfl,rfl⟩)
  ·exact .inr (.inl ⟨enter_same f v k h,enter_ok hF f v k hk h⟩)
 ·have e1:P.fs[f]? = none:=Array.getElem?_eq_none (hF.bars.size▸Nat.le_of_not_lt hf)
  have e2:P.fg[f]? = none:=Array.getElem?_eq_none (Nat.le_of_not_lt hf)
  have h:P.fs[f]? = P.fg[f]?:=e1.trans e2.symm
  exact .inr (.inl ⟨enter_same f v k h,enter_ok hF f v k hk h⟩)
end
end Go.Proofs.YtdianedehhecoaaGreatDoor.Co
/- A step of a goroutine, on: an operation; a deferred call; a return. -/
namespace Go.Proofs.YtdianedehhecoaaGreatDoor.Co
variable [Loops]
open Go.Conc (G)
section
variable {Γ:Nat→Prop} {P:Two} {cs:List Frame} {w b:World} {α:Type}
theorem runT_of {p:Program}{s:Sem α}{W:World}{r:Result α}(h:s.run p W=r):s.runT p W #[]=(r,s.events p W #[]):=by rw [Sem.runT_eq,h]
theorem ev_sub {p:Program}{f:FuncId}{c:Bool}{es:Array Event}:∀ e∈Go.seen p f (if c=true then #[] else es)++#[],e∈es:=by
 intro e he
 have:=seen_sub _ _ _ e (by simpa using he)
 split at this
 ·simp at this
 ·exact this
theorem apply_value {p:Program}{fr:Frame}{cs:List Frame}{s:Sem Next}{W W':World}{es:Array Event}{v:Value}(h:s.runT p W #[]=(.ok (.value v) W',es)):∃ ev,(∀ e∈ev,e∈es)∧stepG.apply p true fr cs none s W=.go (G (fr.finish v) cs) W' ev:=by
 unfold stepG.apply
 rw[if_pos rfl,h]
 exact ⟨_,ev_sub,rfl⟩
theorem apply_skip {p:Program}{fr:Frame}{cs:List Frame}{s:Sem Next}{W W':World}{es:Array Event}(h:s.runT p W #[]=(.ok .skip W',es)):∃ ev,(∀ e∈ev,e∈es)∧stepG.apply p true fr cs none s W=.go (G (fr.finish undef) cs) W' ev:=by
 unfold stepG.apply
 rw[if_pos rfl,h]
 exact ⟨_,ev_sub,rfl⟩
theorem apply_defer {p:Program}{fr:Frame}{cs:List Frame}{s:Sem Next}{W W':World}{es:Array Event}{d:Deferred}(h:s.runT p W #[]=(.ok (.defer d) W',es)):∃ ev,(∀ e∈ev,e∈es)∧stepG.apply p true fr cs none s W=.go (G ({ fr with defers:=d :: fr.defers }.finish undef) cs) W' ev:=by
 unfold stepG.apply
 rw[if_pos rfl,h]
 exact ⟨_,ev_sub,rfl⟩
theorem apply_enter {p:Program}{fr:Frame}{cs:List Frame}{s:Sem Next}{W W':World}{es:Array Event}{f:FuncId}{v:Array Value}{ops:Array Oper}{is:List Nat}{k:List Item}(hto:fr.todo=.inRegion ops is :: k)(h:s.runT p W #[]=(.ok (.enter f v) W',es)):∃ ev,(∀ e∈ev,e∈es)∧stepG.apply p true fr cs none s W=.go (G (Frame.enter p f v .normal) (fr :: cs)) W' ev:=by
 unfold stepG.apply
 rw[if_pos rfl,h]
 refine ⟨Go.seen p fr.fn (if (fr.kind == CallKind.early)=true then #[] else es)++#[],ev_sub,?_⟩
 rw[hto]
 rfl
theorem apply_panic {p:Program}{fr:Frame}{cs:List Frame}{s:Sem Next}{W W':World}{es:Array Event}{v:Value}(h:s.runT p W #[]=(.halt (.panic v) W',es)):∃ ev,(∀ e∈ev,e∈es)∧stepG.apply p true fr cs none s W=.go (G (fr.raise [{ v,recovered:=false }]) cs) W' ev:=by
 unfold stepG.apply
 rw[if_pos rfl,h]
 exact ⟨_,ev_sub,rfl⟩
theorem okF_finish {fr:Frame}(h:okF P fr){ops:Array Oper}{is:List Nat}{k:List Item}(hto:fr.todo=.inRegion ops is :: k)(v:Value):okF P (fr.finish v):=by
 unfold Frame.finish
 rw[hto]
 cases is with
 | nil=>exact h
 | cons i rest =>
  have ht:=h.todo
  rw[hto]at ht
  refine ⟨h.same,fun x hx=>?_,h.defers,h.round,h.kind,h.unrec⟩
  rcases List.mem_cons.1 hx with rfl|hx
  ·exact ht (.inRegion ops (i :: rest)) (by simp)
  ·exact ht x (by simp[hx])
theorem okF_raise {fr:Frame}(h:okF P fr)(c:List PanicEntry)(hc:∀ e∈c,e.recovered=false):okF P (fr.raise c):=by
 unfold Frame.raise
 split
 ·rename_i ch hm
  refine ⟨h.same,h.todo,h.defers,h.round,h.kind,fun ch' e x hx=>?_⟩
  simp only[FrameMode.panicking.injEq]at e
  subst e
  rcases List.mem_append.1 hx with hx|hx
  ·exact hc x hx
  ·exact h.unrec _ hm x hx
 ·refine ⟨h.same,h.todo,h.defers,h.round,h.kind,fun ch' e x hx=>?_⟩
  simp only[FrameMode.panicking.injEq]at e
  subst e
  exact hc x hx
theorem one_unrec {v:Value}:∀ e∈[({ v,recovered:=false }:PanicEntry)],e.recovered=false:=fun e he=>by
 rw[List.mem_singleton]at he
 subst he;rfl
theorem okF_ret {fr:Frame}(h:okF P fr):okF P { fr with mode:=.returning }:=⟨h.same,h.todo,h.defers,h.round,h.kind,fun ch e=>by cases e⟩
theorem early_bad (hF:Fit Γ P){fr:Frame}{cs:List Frame}{g:Nat}{W:World}:∃ o w',early P.s fr cs none g W=.ended o w':=by
 unfold early
 have e1:P.s.follows .staticDataAhead=true:=hF.ahead
 simp only[e1,hF.readies g,Bool.not_true,Bool.false_eq_true,if_false]
 exact ⟨_,_,rfl⟩
theorem apply_bad (hF:Fit Γ P){fr:Frame}{cs:List Frame}{s:Sem Next}{x:Halt}{W W':World}(hx:badH x)(h:s.run P.s W=.halt x W'):∃ o w',(stepG.apply P.s true fr cs none s W).bare=.ended o w':=by
 unfold stepG.apply
 rw[if_pos rfl,runT_of h]
 simp only[GStep.bare_after]
 cases x with
 | stuck s=>exact ⟨_,_,rfl⟩
 | unsupported u =>
  cases u with
  | initOrder g =>
   obtain ⟨o,w',e⟩:=early_bad hF (fr:=fr) (cs:=cs) (g:=g) (W:=W')
   exact ⟨o,w',by show (early P.s fr cs none g W').bare=_;rw[e];rfl⟩
  | _=>exact ⟨_,_,rfl⟩
 | _=>exact hx.elim
theorem pair_apply (hF:Fit Γ P)(hg:Gh Γ w b){fr:Frame}{up:List Frame}(hf:okF P fr)(hu:∀ x∈up,okF P x)(hrun:fr.mode=.run){ops:Array Oper}{is:List Nat}{k:List Item}(hto:fr.todo=.inRegion ops is :: k){s:Sem Next}(hk:Kin Γ P s)
  (hsh:∀ W n W',W.heap=w.heap→s.run P.s W=.ok n W'→okNext n):Pair Γ P cs w b (Pan (fr :: up)) (fun W=>stepG.apply P.s true fr (up++[doom P]) none s W) (stepG.apply P.g true fr (up++cs) none s b):=by
 refine Pair.sem hk hg okNext hsh (fun x W W' hx h=>apply_bad hF hx h) (fun n hn=>?_) (fun v=>?_)
 ·cases n with
  | value v=>exact .inr ⟨fr.finish v,fr.finish v,up,.inl ⟨rfl,okF_finish hf hto v⟩,hu,fun h=>(h.tail (.inl hrun)).push _,fun W W' h=>by obtain ⟨ev,_,e⟩:=apply_value (fr:=fr) (cs:=up++[doom P]) (runT_of h);rw[e];rfl,fun b' es h=>apply_value h⟩
  | skip=>exact .inr ⟨fr.finish undef,fr.finish undef,up,.inl ⟨rfl,okF_finish hf hto undef⟩,hu,fun h=>(h.tail (.inl hrun)).push _,fun W W' h=>by obtain ⟨ev,_,e⟩:=apply_skip (fr:=fr) (cs:=up++[doom P]) (runT_of h);rw[e];rfl,fun b' es h=>apply_skip h⟩
  | enter f v =>
   have hS:∀ W W',s.run P.s W=.ok (.enter f v) W'→(stepG.apply P.s true fr (up++[doom P]) none s W).bare=.go (G (Frame.enter P.s f v .normal) (fr :: (up++[doom P]))) W':=fun W W' h=>by
    obtain ⟨ev,_,e⟩:=apply_enter (p:=P.s) (cs:=up++[doom P]) hto (runT_of h)
    rw[e];rfl
   rcases enter_pair hF f v .normal (.inl rfl) (fr :: up) (by simp) with h|h1
   ·exact .inl fun W W' hr=>.inr ⟨_,_,_,hS W W' hr,h _ (long_ne _ _)⟩
   ·exact .inr ⟨Frame.enter P.s f v .normal,Frame.enter P.g f v .normal,fr :: up,h1,fun x hx=>(List.mem_cons.1 hx).elim (fun e=>e▸hf) (hu x),fun h=>h.push _,fun W W' hr=>hS W W' hr,fun b' es h=>apply_enter hto h⟩
  | defer d =>
   exact .inr ⟨_,_,up,.inl ⟨rfl,okF_finish (fr:={ fr with defers:=d :: fr.defers }) ⟨hf.same,hf.todo,fun x hx=>(List.mem_cons.1 hx).elim (fun e=>e▸hn) (hf.defers x),hf.round,hf.kind,hf.unrec⟩ hto undef⟩,hu,fun h=>(h.tail (.inl hrun)).push _,fun W W' h=>by obtain ⟨ev,_,e⟩:=apply_defer (fr:=fr) (cs:=up++[doom P]) (runT_of h);rw[e];rfl,fun b' es h=>apply_defer h⟩
  | _=>exact hn.elim
 ·exact .inr ⟨_,_,up,.inl ⟨rfl,okF_raise hf _ one_unrec⟩,hu,fun h=>(h.tail (.inl hrun)).push _,fun W W' h=>by obtain ⟨ev,_,e⟩:=apply_panic (fr:=fr) (cs:=up++[doom P]) (runT_of h);rw[e];rfl,fun b' es h=>apply_panic h⟩
end
end Go.Proofs.YtdianedehhecoaaGreatDoor.Co
/- A step of a goroutine, on: all of it. -/
namespace Go.Proofs.YtdianedehhecoaaGreatDoor.Co
variable [Loops]
open Go.Conc (G)
section
variable {Γ:Nat→Prop} {P:Two} {cs:List Frame} {w b:World} {α:Type} {S:World→GStep} {B:GStep}
theorem ev_sub2 {p:Program}{f:FuncId}{es:Array Event}:∀ e∈Go.seen p f es++#[],e∈es:=fun e he=>seen_sub _ _ _ e (by simpa using he)
theorem def_enter {p:Program}{fr:Frame}{cs:List Frame}{d:Deferred}(hc:¬ (d.target=.nil∧∃ c,fr.mode=.panicking c)){W W':World}{es:Array Event}{f:FuncId}{v:Array Value}(h:(invoke d.target d.args).runT p W #[]=(.ok (.enter f v) W',es)):∃ ev,(∀ e∈ev,e∈es)∧callDeferred p fr cs none d W=.go (G (Frame.enter p f v .deferred) (fr :: cs)) W' ev:=by
 unfold callDeferred
 rw[if_neg,h]
 ·exact ⟨_,ev_sub2,rfl⟩
 ·revert hc;cases d.target<;>cases fr.mode<;>simp
theorem def_go {p:Program}{fr:Frame}{cs:List Frame}{d:Deferred}(hc:¬ (d.target=.nil∧∃ c,fr.mode=.panicking c)){W W':World}{es:Array Event}{n:Next}(hn:(∃ v,n=.value v)∨n=.skip∨∃ d,n=.defer d)(h:(invoke d.target d.args).runT p W #[]=(.ok n W',es)):∃ ev,(∀ e∈ev,e∈es)∧callDeferred p fr cs none d W=.go (G fr cs) W' ev:=by
 unfold callDeferred
 rw[if_neg,h]
 case hnc=>revert hc;cases d.target<;>cases fr.mode<;>simp
 rcases hn with ⟨v,rfl⟩|rfl|⟨d,rfl⟩<;>exact ⟨_,ev_sub2,rfl⟩
theorem def_panic {p:Program}{fr:Frame}{cs:List Frame}{d:Deferred}(hc:¬ (d.target=.nil∧∃ c,fr.mode=.panicking c)){W W':World}{es:Array Event}{v:Value}(h:(invoke d.target d.args).runT p W #[]=(.halt (.panic v) W',es)):∃ ev,(∀ e∈ev,e∈es)∧callDeferred p fr cs none d W=.go (G (fr.raise [{ v,recovered:=false }]) cs) W' ev:=by
 unfold callDeferred
 rw[if_neg,h]
 ·exact ⟨_,ev_sub2,rfl⟩
 ·revert hc;cases d.target<;>cases fr.mode<;>simp
theorem if_bare {c:Prop} [Decidable c] {x y:GStep}(hx:∃ o w',x.bare=.ended o w')(hy:∃ o w',y.bare=.ended o w'):∃ o w',(if c then x else y).bare=.ended o w':=by
 split
 ·exact hx
 ·exact hy
theorem def_bad {p:Program}{fr:Frame}{cs:List Frame}{d:Deferred}{W W':World}{x:Halt}(hx:badH x)(h:(invoke d.target d.args).run p W=.halt x W'):∃ o w',(callDeferred p fr cs none d W).bare=.ended o w':=by
 unfold callDeferred
 rw[runT_of h]
 refine if_bare ⟨_,_,rfl⟩ ?_
 cases x with
 | stuck s=>exact ⟨_,_,rfl⟩
 | unsupported s=>exact ⟨_,_,rfl⟩
 | _=>exact hx.elim
theorem panF_raise (fr:Frame)(c:List PanicEntry):panF (fr.raise c):=by
 unfold Frame.raise
 split<;>exact ⟨_,rfl⟩
theorem Pan.raise {fr:Frame}{up:List Frame}(h:Pan (fr :: up))(v:Value):Pan (fr.raise [{ v,recovered:=false }] :: up):=by
 obtain ⟨x,hx,hp⟩:=h
 rcases List.mem_cons.1 hx with rfl|hx
 ·exact ⟨_,List.mem_cons_self ..,panF_raise _ _⟩
 ·exact ⟨x,by simp[hx],hp⟩
theorem pair_deferred (hF : Fit Γ P) (hg : Gh Γ w b) {fr : Frame} {up : List Frame} (hf : okF P fr) (hu : ∀ x ∈ up, okF P x) (d : Deferred) (hd : okT d.target = true) :
    Pair Γ P cs w b (Pan (fr :: up)) (fun W => callDeferred P.s fr (up ++ [doom P]) none d W) (callDeferred P.g fr (up ++ cs) none d b) := by
  by_cases hc : d.target = .nil ∧ ∃ c, fr.mode = .panicking c
  · refine Pair.lost fun W => .inl ?_
    unfold callDeferred
    obtain ⟨h1, c, h2⟩ := hc
    rw [h1, h2]
    exact ⟨_, _, rfl⟩
  · refine Pair.sem (Kin.invoke (Kin.callFunc hF.bars) d.target d.args hd) hg okNext (fun W n W' hW h => shape_invoke hF.bars _ _ hd (fun k o ho => hg.calm k o (hW ▸ ho)) h) (fun x W W' hx h => def_bad hx h) (fun n hn => ?_) (fun v => ?_)
    · have hgo : ((∃ v, n = .value v) ∨ n = .skip ∨ ∃ d, n = .defer d) → (∀ W W', (invoke d.target d.args).run P.s W = .ok n W' → Lost P (callDeferred P.s fr (up ++ [doom P]) none d W).bare) ∨ ∃ fs' fr' up', Top P up' fs' fr' ∧ (∀ x ∈ up', okF P x) ∧ (Pan (fr :: up) → Pan (fs' :: up')) ∧ (∀ W W', (invoke d.target d.args).run P.s W = .ok n W' → (callDeferred P.s fr (up ++ [doom P]) none d W).bare = .go (G fs' (up' ++ [doom P])) W') ∧
          ∀ b' es, (invoke d.target d.args).runT P.g b #[] = (.ok n b', es) → ∃ ev, (∀ e ∈ ev, e ∈ es) ∧ callDeferred P.g fr (up ++ cs) none d b = .go (G fr' (up' ++ cs)) b' ev := fun hn => by
        refine .inr ⟨fr, fr, up, .inl ⟨rfl, hf⟩, hu, id, fun W W' h => ?_, fun b' es h => def_go hc hn h⟩
        obtain ⟨ev, _, e⟩ := def_go (fr := fr) (cs := up ++ [doom P]) hc hn (runT_of h)
        rw [e]; rfl
      cases n with
      | value v => exact hgo (.inl ⟨v, rfl⟩)
      | skip => exact hgo (.inr (.inl rfl))
      | defer d => exact hgo (.inr (.inr ⟨d, rfl⟩))
      | enter f v =>
        have hS : ∀ W W', (invoke d.target d.args).run P.s W = .ok (.enter f v) W' → (callDeferred P.s fr (up ++ [doom P]) none d W).bare = .go (G (Frame.enter P.s f v .deferred) (fr :: (up ++ [doom P]))) W' := fun W W' h => by
          obtain ⟨ev, _, e⟩ := def_enter (fr := fr) (cs := up ++ [doom P]) hc (runT_of h)
          rw [e]; rfl
        rcases enter_pair hF f v .deferred (.inr rfl) (fr :: up) (by simp) with h | h1
        · exact .inl fun W W' hr => .inr ⟨_, _, _, hS W W' hr, h _ (long_ne _ _)⟩
        · exact .inr ⟨Frame.enter P.s f v .deferred, Frame.enter P.g f v .deferred, fr :: up, h1, fun x hx => (List.mem_cons.1 hx).elim (fun e => e ▸ hf) (hu x), fun h => h.push _, fun W W' hr => hS W W' hr, fun b' es h => def_enter hc h⟩
      | _ => exact hn.elim
    · refine .inr ⟨fr.raise [{ v, recovered := false }], fr.raise [{ v, recovered := false }], up, .inl ⟨rfl, okF_raise hf _ one_unrec⟩, hu, fun h => h.raise v, fun W W' h => ?_, fun b' es h => def_panic hc h⟩
      obtain ⟨ev, _, e⟩ := def_panic (fr := fr) (cs := up ++ [doom P]) hc (runT_of h)
      rw [e]; rfl
theorem okF_finish' {fr:Frame}(h:okF P fr)(v:Value):okF P (fr.finish v):=by
 have ht:=h.todo
 match htd:fr.todo with
 | .inRegion ops is :: k=>exact okF_finish h htd v
 | []=>unfold Frame.finish;rw[htd];exact h
 | .code c :: k=>unfold Frame.finish;rw[htd];exact h
 | .inBlock i :: k=>unfold Frame.finish;rw[htd];exact h
 | .inLoop c :: k=>unfold Frame.finish;rw[htd];exact h
 | .inScope c :: k=>unfold Frame.finish;rw[htd];exact h
 | .inRangeFunc l :: k=>rw[htd]at ht;exact absurd (ht _ (List.mem_cons_self ..)) (by simp[okItem])
 | .endRangeFunc l :: k=>rw[htd]at ht;exact absurd (ht _ (List.mem_cons_self ..)) (by simp[okItem])
 | .beginRound :: k=>rw[htd]at ht;exact absurd (ht _ (List.mem_cons_self ..)) (by simp[okItem])
 | .call _ _ _ _ :: k=>rw[htd]at ht;exact absurd (ht _ (List.mem_cons_self ..)) (by simp[okItem])
 | .extern _ _ :: k=>rw[htd]at ht;exact absurd (ht _ (List.mem_cons_self ..)) (by simp[okItem])
theorem finish_mode (c:Frame)(v:Value):(c.finish v).mode=c.mode:=by
 unfold Frame.finish
 split<;>rfl
theorem ret_up {fr c:Frame}{up:List Frame}(hf:okF P fr)(hc:okF P c)(v:Value):∃ fr',okF P fr'∧(panF c→panF fr')∧∀ (p:Program)(m:Bool)(ds:List Frame)(W:World),doReturn p m fr (c :: up++ds) none v W=.go (G fr' (up++ds)) W:=by
 rcases hf.kind with hk|hk
 ·exact ⟨c.finish v,okF_finish' hc v,fun ⟨ch,h1⟩=>⟨ch,(finish_mode c v).trans h1⟩,fun p m ds W=>by unfold doReturn;rw[hk];rfl⟩
 ·refine ⟨_,?_,?_,fun p m ds W=>by unfold doReturn;rw[hk];rfl⟩
  ·split
   ·rename_i hm
    exact absurd (hc.unrec _ hm _ (List.mem_cons_self ..)) (by simp)
   ·exact hc
  ·rintro ⟨ch,h1⟩
   split
   ·rename_i hm
    exact absurd (hc.unrec _ hm _ (List.mem_cons_self ..)) (by simp)
   ·exact ⟨ch,h1⟩
theorem ret_doom {fr:Frame}(hf:okF P fr)(v:Value){p:Program}{m:Bool}{W:World}:Lost P (doReturn p m fr [doom P] none v W).bare:=by
 rcases hf.kind with hk|hk
 ·exact .inr ⟨_,_,_,(by unfold doReturn;rw[hk];rfl),dead_finish v⟩
 ·exact .inr ⟨_,_,_,(by unfold doReturn;rw[hk];rfl),dead_doom⟩
theorem pan_ret {fr c fr':Frame}{up:List Frame}(hr:fr.mode=.returning)(h3:panF c→panF fr')(h:Pan (fr :: c :: up)):Pan (fr' :: up):=by
 obtain ⟨x,hx,hp⟩:=h.tail (.inr hr)
 rcases List.mem_cons.1 hx with rfl|hx
 ·exact ⟨fr',by simp,h3 hp⟩
 ·exact ⟨x,by simp[hx],hp⟩
theorem pair_return (hg:Gh Γ w b){fr:Frame}{up:List Frame}(hf:okF P fr)(hu:∀ x∈up,okF P x)(hr:fr.mode=.returning)(v:Value)(m:Bool):Pair Γ P cs w b (Pan (fr :: up)) (fun W=>doReturn P.s true fr (up++[doom P]) none v W) (doReturn P.g m fr (up++cs) none v b):=by
 cases up with
 | nil=>exact Pair.lost fun W=>ret_doom hf v
 | cons c up =>
  obtain ⟨fr',h1,h3,h2⟩:=ret_up (up:=up) hf (hu c (by simp)) v
  exact Pair.still (up':=up) hg h1 (fun x hx=>hu x (by simp[hx])) (pan_ret hr h3) (fun W=>by rw[h2];rfl) (by rw[h2])
theorem mapM_arr {β γ:Type}(l:Array β)(f:β→Sem γ)(h:∀ x,Kin Γ P (f x)):Kin Γ P (l.mapM f):=by
 rw[← Array.toArray_toList (xs:=l),List.mapM_toArray]
 refine Kin.bindM ?_ fun _=>Kin.pureM _
 induction l.toList with
 | nil=>simp only[List.mapM_nil];exact Kin.pureM _
 | cons x l ih=>simp only[List.mapM_cons];exact Kin.bindM (h x) fun _=>Kin.bindM ih fun _=>Kin.pureM _
theorem Kin.results (fn:Func)(tmps:Array Value):Kin Γ P (Go.results fn tmps):=by
 unfold Go.results
 refine Kin.bindM (mapM_arr _ _ fun x=>?_) fun _=>Kin.pureM _
 split
 ·exact Kin.pureM _
 ·exact Kin.bindM (Kin.asAddr _) fun _=>Kin.loadVar _ _
theorem okC_label {c rest:Code}{l:Nat}:findLabel c l=some rest→okC P.g c=true→okC P.g rest=true:=by
 induction c generalizing rest with
 | seq a b iha ihb =>
  intro h hc
  simp only[okC,Bool.and_eq_true]at hc
  unfold findLabel at h
  split at h
  ·rename_i r hr
   cases h
   simp only[okC,Bool.and_eq_true]
   exact ⟨iha hr hc.1,hc.2⟩
  ·exact ihb h hc.2
 | label l' =>
  intro h hc
  unfold findLabel at h
  split at h
  ·cases h;rfl
  ·cases h
 | _=>intro h hc;unfold findLabel at h;cases h
theorem ok_exitTo {id:Nat}{k k':List Item}:exitTo id k=some k'→(∀ i∈k,okItem P.g i=true)→∀ i∈k',okItem P.g i=true:=by
 induction k with
 | nil=>intro h;cases h
 | cons x k ih =>
  intro h hk
  unfold exitTo at h
  split at h
  ·rename_i id' k2 heq
   cases heq
   split at h
   ·cases h;exact fun i hi=>hk i (by simp[hi])
   ·exact ih h fun i hi=>hk i (by simp[hi])
  ·rename_i y k2 _ heq
   cases heq
   exact ih h fun i hi=>hk i (by simp[hi])
  ·rename_i heq;cases heq
theorem ok_gotoIn {l:Nat}{k k':List Item}:gotoIn l k=some k'→(∀ i∈k,okItem P.g i=true)→∀ i∈k',okItem P.g i=true:=by
 induction k with
 | nil=>intro h;cases h
 | cons x k ih =>
  intro h hk
  unfold gotoIn at h
  split at h
  ·rename_i body k2 heq
   cases heq
   split at h
   ·rename_i rest hr
    cases h
    intro i hi
    rcases List.mem_cons.1 hi with rfl|hi
    ·exact okC_label hr (hk (.inScope body) (by simp))
    ·exact hk i hi
   ·exact ih h fun i hi=>hk i (by simp[hi])
  ·rename_i y k2 _ heq
   cases heq
   exact ih h fun i hi=>hk i (by simp[hi])
  ·rename_i heq;cases heq
end
end Go.Proofs.YtdianedehhecoaaGreatDoor.Co
/- A step of a goroutine, on: the theorem. -/
namespace Go.Proofs.YtdianedehhecoaaGreatDoor.Co
variable [Loops]
open Go.Conc (G)
section
variable {Γ:Nat→Prop} {P:Two} {cs:List Frame} {w b:World} {α:Type} {S:World→GStep} {B:GStep}
theorem pair_to (hg:Gh Γ w b){fr:Frame}{up:List Frame}(hf:okF P fr)(hu:∀ x∈up,okF P x)(hrun:fr.mode=.run)(todo:List Item)(h:∀ i∈todo,okItem P.g i=true) :
  Pair Γ P cs w b (Pan (fr :: up)) (fun W=>.go (G { fr with todo:=todo } (up++[doom P])) W) (.go (G { fr with todo:=todo } (up++cs)) b) :=
 Pair.still (fr':={ fr with todo:=todo }) (up':=up) hg ⟨hf.same,h,hf.defers,hf.round,hf.kind,hf.unrec⟩ hu (fun h=>(h.tail (.inl hrun)).push _) (fun W=>rfl) rfl
theorem pair_eq {pn:Prop}{S':World→GStep}{B':GStep}(h:Pair Γ P cs w b pn S' B')(h1:∀ W,S W=S' W)(h2:B=B'):Pair Γ P cs w b pn S B:=by
 have:S=S':=funext h1
 rw[this,h2];exact h
theorem pair_exec (hF:Fit Γ P)(hg:Gh Γ w b){fr:Frame}{up:List Frame}(hf:okF P fr)(hu:∀ x∈up,okF P x)(hrun:fr.mode=.run)(m:Bool) :
  Pair Γ P cs w b (Pan (fr :: up)) (fun W=>stepG.exec P.s true true fr (up++[doom P]) none W) (stepG.exec P.g m true fr (up++cs) none b):=by
 have ht:=hf.todo
 have hto:∀ todo,(∀ (p:Program) (m:Bool) (ds:List Frame) (W:World),stepG.exec p m true fr ds none W=.go (G { fr with todo:=todo } ds) W)→(∀ i∈todo,okItem P.g i=true)→Pair Γ P cs w b (Pan (fr :: up)) (fun W=>stepG.exec P.s true true fr (up++[doom P]) none W) (stepG.exec P.g m true fr (up++cs) none b):=fun todo h1 h2 =>
  pair_eq (pair_to hg hf hu hrun todo h2) (fun W=>h1 _ _ _ _) (h1 _ _ _ _)
 have hret:(∀ (p:Program) (m:Bool) (ds:List Frame) (W:World),stepG.exec p m true fr ds none W=.go (G { fr with mode:=.returning } ds) W)→Pair Γ P cs w b (Pan (fr :: up)) (fun W=>stepG.exec P.s true true fr (up++[doom P]) none W) (stepG.exec P.g m true fr (up++cs) none b):=fun h1 =>
  Pair.still hg (okF_ret hf) hu (fun h=>(h.tail (.inl hrun)).push _) (fun W=>by rw[h1];rfl) (h1 _ _ _ _)
 match htd:fr.todo with
 | []=>exact hret fun p m ds W=>by unfold stepG.exec;rw[htd,hf.round];rfl
 | .code .ret :: k=>exact hret fun p m ds W=>by unfold stepG.exec;rw[htd,hf.round];rfl
 | .code .skip :: k=>rw[htd]at ht;exact hto k (fun p m ds W=>by unfold stepG.exec;rw[htd];rfl) fun i hi=>ht i (by simp[hi])
 | .code (.label l) :: k=>rw[htd]at ht;exact hto k (fun p m ds W=>by unfold stepG.exec;rw[htd];rfl) fun i hi=>ht i (by simp[hi])
 | .inBlock _ :: k=>rw[htd]at ht;exact hto k (fun p m ds W=>by unfold stepG.exec;rw[htd];rfl) fun i hi=>ht i (by simp[hi])
 | .inScope _ :: k=>rw[htd]at ht;exact hto k (fun p m ds W=>by unfold stepG.exec;rw[htd];rfl) fun i hi=>ht i (by simp[hi])
 | .code (.seq x y) :: k =>
  rw[htd]at ht
  have h1:=ht (.code (.seq x y)) (by simp)
  simp only[okItem,okC,Bool.and_eq_true]at h1
  refine hto (.code x :: .code y :: k) (fun p m ds W=>by unfold stepG.exec;rw[htd];rfl) fun i hi=>?_
  rcases List.mem_cons.1 hi with rfl|hi
  ·exact h1.1
  ·rcases List.mem_cons.1 hi with rfl|hi
   ·exact h1.2
   ·exact ht i (by simp[hi])
 | .code (.cond c x y) :: k =>
  rw[htd]at ht
  have h1:=ht (.code (.cond c x y)) (by simp)
  simp only[okItem,okC,Bool.and_eq_true]at h1
  by_cases hc:∃ t,fr.eval c=.bool t
  ·obtain ⟨t,hc⟩:=hc
   refine hto (.code (if t then x else y) :: k) (fun p m ds W=>by unfold stepG.exec;rw[htd];dsimp only;rw[hc];rfl) fun i hi=>?_
   rcases List.mem_cons.1 hi with rfl|hi
   ·cases t
    ·exact h1.2
    ·exact h1.1
   ·exact ht i (by simp[hi])
  ·refine Pair.lost fun W=>.inl ?_
   unfold stepG.exec
   rw[htd]
   dsimp only
   split
   ·rename_i t heq;exact absurd ⟨_,heq⟩ hc
   ·exact ⟨_,_,rfl⟩
 | .code (.block id c) :: k =>
  rw[htd]at ht
  have h1:=ht (.code (.block id c)) (by simp)
  refine hto (.code c :: .inBlock id :: k) (fun p m ds W=>by unfold stepG.exec;rw[htd];rfl) fun i hi=>?_
  rcases List.mem_cons.1 hi with rfl|hi
  ·exact h1
  ·rcases List.mem_cons.1 hi with rfl|hi
   ·rfl
   ·exact ht i (by simp[hi])
 | .code (.loop c) :: k =>
  rw[htd]at ht
  have h1:=ht (.code (.loop c)) (by simp)
  refine hto (.code c :: .inLoop c :: k) (fun p m ds W=>by unfold stepG.exec;rw[htd];rfl) fun i hi=>?_
  rcases List.mem_cons.1 hi with rfl|hi
  ·exact h1
  ·rcases List.mem_cons.1 hi with rfl|hi
   ·exact h1
   ·exact ht i (by simp[hi])
 | .inLoop c :: k =>
  rw[htd]at ht
  have h1:=ht (.inLoop c) (by simp)
  refine hto (.code c :: .inLoop c :: k) (fun p m ds W=>by unfold stepG.exec;rw[htd];rfl) fun i hi=>?_
  rcases List.mem_cons.1 hi with rfl|hi
  ·exact h1
  ·rcases List.mem_cons.1 hi with rfl|hi
   ·exact h1
   ·exact ht i (by simp[hi])
 | .code (.scope c) :: k =>
  rw[htd]at ht
  have h1:=ht (.code (.scope c)) (by simp)
  refine hto (.code c :: .inScope c :: k) (fun p m ds W=>by unfold stepG.exec;rw[htd];rfl) fun i hi=>?_
  rcases List.mem_cons.1 hi with rfl|hi
  ·exact h1
  ·rcases List.mem_cons.1 hi with rfl|hi
   ·exact h1
   ·exact ht i (by simp[hi])
 | .code (.exit id) :: k =>
  rw[htd]at ht
  cases he:exitTo id k with
  | some k'=>exact hto k' (fun p m ds W=>by unfold stepG.exec;rw[htd];dsimp only;rw[he];rfl) (ok_exitTo he fun i hi=>ht i (by simp[hi]))
  | none =>
   refine Pair.lost fun W=>.inl ?_
   unfold stepG.exec
   rw[htd]
   dsimp only
   rw[he,hf.round]
   exact ⟨_,_,rfl⟩
 | .code (.goto l) :: k =>
  rw[htd]at ht
  cases he:gotoIn l k with
  | some k'=>exact hto k' (fun p m ds W=>by unfold stepG.exec;rw[htd];dsimp only;rw[he];rfl) (ok_gotoIn he fun i hi=>ht i (by simp[hi]))
  | none =>
   refine Pair.lost fun W=>.inl ?_
   unfold stepG.exec
   rw[htd]
   dsimp only
   rw[he,hf.round]
   exact ⟨_,_,rfl⟩
 | .code (.refuse why) :: k =>
  refine Pair.lost fun W=>.inl ?_
  unfold stepG.exec
  rw[htd]
  exact ⟨_,_,rfl⟩
 | .code (.region id ops draw) :: k =>
  rw[htd]at ht
  have h1:=ht (.code (.region id ops draw)) (by simp)
  cases draw with
  | false =>
   refine hto (.inRegion ops (List.range ops.size) :: k) (fun p m ds W=>by unfold stepG.exec;rw[htd];rfl) fun i hi=>?_
   rcases List.mem_cons.1 hi with rfl|hi
   ·exact h1
   ·exact ht i (by simp[hi])
  | true =>
   have hS:∀ (p:Program) (m:Bool) (ds:List Frame) (W W':World) (t:Nat),(Go.choose (.order fr.fn id)).run p W=.ok t W'→stepG.exec p m true fr ds none W=.go (G { fr with todo:=.inRegion ops (Region.schedule (p.follows .mixedOrders) ops t) :: k } ds) W':=fun p m ds W W' t h=>by
    unfold stepG.exec;rw[htd];dsimp only;rw[h];rfl
   have hH:∀ (p:Program) (m:Bool) (ds:List Frame) (W W':World) (x:Halt),(Go.choose (.order fr.fn id)).run p W=.halt x W'→∃ o w',(stepG.exec p m true fr ds none W).bare=.ended o w':=fun p m ds W W' x h=>by
    unfold stepG.exec;rw[htd];dsimp only;rw[h];exact ⟨_,_,rfl⟩
   refine Pair.sem (Kin.chooseK (.order fr.fn id)) hg (fun _=>True) (fun _ _ _ _ _=>trivial) (fun x W W' _ h=>hH _ _ _ _ _ _ h) (fun t _=>.inr ⟨_,_,up,.inl ⟨rfl,?_⟩,hu,fun h=>(h.tail (.inl hrun)).push _,fun W W' h=>by rw[hS _ _ _ _ _ _ h];rfl,fun b' es h=>?_⟩) (fun v=>.inl fun W W' h=>.inl (hH _ _ _ _ _ _ h))
   ·refine ⟨hf.same,fun i hi=>?_,hf.defers,hf.round,hf.kind,hf.unrec⟩
    rcases List.mem_cons.1 hi with rfl|hi
    ·exact h1
    ·exact ht i (by simp[hi])
   ·refine ⟨#[],fun e he=>by simp at he,hS P.g m (up++cs) b b' t ?_⟩
    have:=Sem.runT_fst P.g (Go.choose (.order fr.fn id)) b #[]
    rw[h]at this
    exact this.symm
 | .inRegion ops [] :: k=>rw[htd]at ht;exact hto k (fun p m ds W=>by unfold stepG.exec;rw[htd];rfl) fun i hi=>ht i (by simp[hi])
 | .inRegion ops (i :: is) :: k =>
  rw[htd]at ht
  have h1:=ht (.inRegion ops (i :: is)) (by simp)
  cases hw:((ops[i]?).map (Region.wanted · (yielded ops fr.tmps))).getD false with
  | false=>exact Pair.still hg (okF_finish hf htd undef) hu (fun h=>(h.tail (.inl hrun)).push _) (fun W=>by unfold stepG.exec;rw[htd];dsimp only;rw[hw];rfl) (by unfold stepG.exec;rw[htd];dsimp only;rw[hw];rfl)
  | true =>
   cases ho:ops[i]? with
   | none=>rw[ho]at hw;cases hw
   | some o =>
    have hoo:okOp P.g o.op=true:=by
     simp only[okItem,Array.all_eq_true']at h1
     exact h1 o (Array.mem_of_getElem? ho)
    have e1:fr.oper? = some o:=by unfold Frame.oper?;rw[htd];exact ho
    have hS:∀ (p:Program) (m:Bool) (ds:List Frame) (W:World),stepG.exec p m true fr ds none W=stepG.apply p true fr ds none (execOp fr.eval o) W:=fun p m ds W=>by
     unfold stepG.exec;rw[htd];dsimp only;rw[hw]
     show stepG.oper p true fr ds none W=_
     unfold stepG.oper;rw[e1,hf.round]
    exact pair_eq (pair_apply hF hg hf hu hrun htd (Kin.execOp (Kin.callFunc hF.bars) fr.eval o hoo) fun W n W' hW h=>shape_exec hF.bars fr.eval o hoo (fun k o ho=>hg.calm k o (hW▸ho)) h) (fun W=>hS _ _ _ _) (hS _ _ _ _)
 | .code (.rangeFunc f p a c) :: k=>rw[htd]at ht;exact absurd (ht _ (List.mem_cons_self ..)) (by simp[okItem,okC])
 | .inRangeFunc l :: k=>rw[htd]at ht;exact absurd (ht _ (List.mem_cons_self ..)) (by simp[okItem])
 | .endRangeFunc l :: k=>rw[htd]at ht;exact absurd (ht _ (List.mem_cons_self ..)) (by simp[okItem])
 | .beginRound :: k=>rw[htd]at ht;exact absurd (ht _ (List.mem_cons_self ..)) (by simp[okItem])
 | .call _ _ _ _ :: k=>rw[htd]at ht;exact absurd (ht _ (List.mem_cons_self ..)) (by simp[okItem])
 | .extern _ _ :: k=>rw[htd]at ht;exact absurd (ht _ (List.mem_cons_self ..)) (by simp[okItem])
theorem pan_up {fr c:Frame}{up:List Frame}{chain:List PanicEntry}:Pan (c.raise chain :: up):=⟨_,List.mem_cons_self ..,panF_raise _ _⟩
theorem Pair.weak {pn pn':Prop}(h:Pair Γ P cs w b pn S B)(hp:pn'→pn):Pair Γ P cs w b pn' S B:=by
 obtain ⟨k,h|⟨fs',fr',up',w',b',ev,q1,q2,q3,q4⟩⟩:=h
 ·exact ⟨k,.inl h⟩
 ·exact ⟨k,.inr ⟨fs',fr',up',w',b',ev,q1,q2,fun x=>q3 (hp x),q4⟩⟩
theorem pair_unwind (hF:Fit Γ P)(hg:Gh Γ w b){fr:Frame}{up:List Frame}(hf:okF P fr)(hu:∀ x∈up,okF P x)(m:Bool) :
  Pair Γ P cs w b (Pan (fr :: up)) (fun W=>unwind P.s true fr (up++[doom P]) none W) (unwind P.g m fr (up++cs) none b):=by
 have hd:=hf.defers
 cases hds:fr.defers with
 | cons d ds =>
  rw[hds]at hd
  have hd1:=hd d (by simp)
  have e:∀ (p:Program) (m:Bool) (x:List Frame) (W:World),unwind p m fr x none W=callDeferred p { fr with defers:=ds } x none d W:=fun p m x W=>by
   unfold unwind
   rw[hds]
   obtain ⟨tg,ar⟩:=d
   cases tg with
   | collected _=>cases hd1
   | _=>rfl
  refine Pair.weak ?_ (show Pan (fr :: up)→Pan (({ fr with defers:=ds }:Frame) :: up) from fun ⟨x,hx,hp⟩=>(List.mem_cons.1 hx).elim (fun e=>⟨{ fr with defers:=ds },List.mem_cons_self ..,by subst e;exact hp⟩) fun hx=>⟨x,by simp[hx],hp⟩)
  exact pair_eq (pair_deferred hF hg (fr:={ fr with defers:=ds }) ⟨hf.same,hf.todo,fun x hx=>hd x (by simp[hx]),hf.round,hf.kind,hf.unrec⟩ hu d hd1) (fun W=>e _ _ _ _) (e _ _ _ _)
 | nil =>
  cases hm:fr.mode with
  | run =>
   refine Pair.lost fun W=>.inl ?_
   unfold unwind
   rw[hds,hm]
   exact ⟨_,_,rfl⟩
  | panicking chain =>
   have hcat:∀ p,Frame.catches p fr=false:=fun p=>by
    unfold Frame.catches
    split
    ·rename_i a1 a2 a3 a4 a5 a6 a7
     have:=hf.todo _ (a7▸List.mem_cons_self ..)
     simp[okItem]at this
    ·rfl
   have e:∀ (p:Program) (m:Bool) (c:Frame) (x:List Frame) (W:World),unwind p m fr (c :: x) none W=.go (G (c.raise chain) x) W:=fun p m c x W=>by
    unfold unwind
    rw[hds,hm]
    simp only[hcat,Bool.false_eq_true,if_false]
    rfl
   cases up with
   | nil =>
    refine Pair.lost fun W=>.inr ⟨(doom P).raise chain,[],W,?_,dead_raise chain⟩
    have h2:(unwind P.s true fr ([]++[doom P]) none W)=.go (G ((doom P).raise chain) []) W:=e _ _ _ _ _
    rw[h2];rfl
   | cons c up=>exact Pair.still (up':=up) hg (okF_raise (hu c (by simp)) chain (hf.unrec _ hm)) (fun x hx=>hu x (by simp[hx])) (fun _=>pan_up (fr:=fr)) (fun W=>by rw[show c :: up++[doom P]=c :: (up++[doom P]) from rfl,e];rfl) (e _ _ _ _ _)
  | returning =>
   cases hfn:P.fg[fr.fn]? with
   | none =>
    have e1:P.s.funcs[fr.fn]? = none:=hf.same.trans hfn
    have e2:P.g.funcs[fr.fn]? = none:=hfn
    refine pair_eq (pair_return hg hf hu hm (fr.tmps.getD 0 undef) m) (fun W=>?_) ?_
    ·unfold unwind;rw[hds,hm];dsimp only;rw[e1]
    ·unfold unwind;rw[hds,hm];dsimp only;rw[e2]
   | some fn =>
    have e1:P.s.funcs[fr.fn]? = some fn:=hf.same.trans hfn
    have e2:P.g.funcs[fr.fn]? = some fn:=hfn
    have hS:∀ (p:Program) (m:Bool) (x:List Frame) (W W':World) (v:Value) (es:Array Event),p.funcs[fr.fn]? = some fn→(results fn fr.tmps).runT p W #[]=(.ok v W',es)→unwind p m fr x none W=GStep.after (Go.seen p fr.fn es) (doReturn p m fr x none v W'):=fun p m x W W' v es hp h=>by
     unfold unwind;rw[hds,hm];dsimp only;rw[hp];dsimp only;rw[h]
    have hH:∀ (p:Program) (m:Bool) (x:List Frame) (W W':World) (y:Halt),p.funcs[fr.fn]? = some fn→(results fn fr.tmps).run p W=.halt y W'→∃ o w',(unwind p m fr x none W).bare=.ended o w':=fun p m x W W' y hp h=>by
     unfold unwind;rw[hds,hm];dsimp only;rw[hp];dsimp only;rw[runT_of h]
     cases y<;>exact ⟨_,_,rfl⟩
    refine Pair.sem (Kin.results fn fr.tmps) hg (fun _=>True) (fun _ _ _ _ _=>trivial) (fun x W W' _ h=>hH _ _ _ _ _ _ e1 h) (fun v _=>?_) (fun v=>.inl fun W W' h=>.inl (hH _ _ _ _ _ _ e1 h))
    cases up with
    | nil =>
     refine .inl fun W W' h=>?_
     rw[hS _ _ _ _ _ _ _ e1 (runT_of h),GStep.bare_after]
     exact ret_doom hf v
    | cons c up =>
     obtain ⟨fr',h1,h3,h2⟩:=ret_up (up:=up) hf (hu c (by simp)) v
     refine .inr ⟨fr',fr',up,.inl ⟨rfl,h1⟩,fun x hx=>hu x (by simp[hx]),pan_ret hm h3,fun W W' h=>?_,fun b' es h=>?_⟩
     ·rw[hS _ _ _ _ _ _ _ e1 (runT_of h),h2];rfl
     ·rw[hS _ _ _ _ _ _ _ e2 h,h2]
      exact ⟨_,ev_sub2,rfl⟩
theorem pair_step (hF:Fit Γ P)(hg:Gh Γ w b){fr:Frame}{up:List Frame}(hf:okF P fr)(hu:∀ x∈up,okF P x)(m:Bool) :
  Pair Γ P cs w b (Pan (fr :: up)) (fun W=>stepG P.s true (G fr (up++[doom P])) W) (stepG P.g m (G fr (up++cs)) b):=by
 cases hm:fr.mode with
 | run=>exact pair_eq (pair_exec hF hg hf hu hm m) (fun W=>by unfold stepG G;simp only[hm]) (by unfold stepG G;simp only[hm])
 | returning=>exact pair_eq (pair_unwind hF hg hf hu m) (fun W=>by unfold stepG G;simp only[hm]) (by unfold stepG G;simp only[hm])
 | panicking c=>exact pair_eq (pair_unwind hF hg hf hu m) (fun W=>by unfold stepG G;simp only[hm]) (by unfold stepG G;simp only[hm])
end
end Go.Proofs.YtdianedehhecoaaGreatDoor.Co
/- From lone runs on every tape to a tree of steps that has no endless branch. -/
namespace Go.Proofs.YtdianedehhecoaaGreatDoor.Co
variable [Loops]
open Go.Conc (G)
def Tree (P:Two)(Fin:Frame→World→Prop)(fr:Frame)(up:List Frame)(w:World):Prop :=
 ∀ S:Frame→List Frame→World→Prop,(∀ fr up w,((up=[]∧Fin fr w)∨∀ t d,∃ fr' up' w',(stepG P.s true (G fr (up++[doom P])) (re w t d)).bare=.go (G fr' (up'++[doom P])) w'∧S fr' up' w')→S fr up w)→S fr up w
section
variable {Γ:Nat→Prop} {P:Two} {Fin:Frame→World→Prop}
theorem Tree.intro {fr:Frame}{up:List Frame}{w:World}(h:(up=[]∧Fin fr w)∨∀ t d,∃ fr' up' w',(stepG P.s true (G fr (up++[doom P])) (re w t d)).bare=.go (G fr' (up'++[doom P])) w'∧Tree P Fin fr' up' w'):Tree P Fin fr up w:=by
 intro S hS
 refine hS _ _ _ (h.imp id fun h t d=>?_)
 obtain ⟨fr',up',w',e,ht⟩:=h t d
 exact ⟨fr',up',w',e,ht S hS⟩
theorem Tree.ind {S:Frame→List Frame→World→Prop}{fr:Frame}{up:List Frame}{w:World}(h:Tree P Fin fr up w)
  (hS:∀ fr up w,((up=[]∧Fin fr w)∨∀ t d,∃ fr' up' w',(stepG P.s true (G fr (up++[doom P])) (re w t d)).bare=.go (G fr' (up'++[doom P])) w'∧Tree P Fin fr' up' w'∧S fr' up' w')→S fr up w):S fr up w:=by
 have:=h (fun fr up w=>Tree P Fin fr up w∧S fr up w) fun fr up w h=>?_
 ·exact this.2
 ·refine ⟨Tree.intro (h.imp id fun h t d=>?_),hS _ _ _ h⟩
  obtain ⟨fr',up',w',e,ht,_⟩:=h t d
  exact ⟨fr',up',w',e,ht⟩
theorem Tree.cases {fr:Frame}{up:List Frame}{w:World}(h:Tree P Fin fr up w):(up=[]∧Fin fr w)∨∀ t d,∃ fr' up' w',(stepG P.s true (G fr (up++[doom P])) (re w t d)).bare=.go (G fr' (up'++[doom P])) w'∧Tree P Fin fr' up' w' :=
 h.ind (S:=fun fr up w=>(up=[]∧Fin fr w)∨∀ t d,∃ fr' up' w',(stepG P.s true (G fr (up++[doom P])) (re w t d)).bare=.go (G fr' (up'++[doom P])) w'∧Tree P Fin fr' up' w') fun fr up w h=>h.imp id fun h t d=>by
  obtain ⟨fr',up',w',e,ht,_⟩:=h t d
  exact ⟨fr',up',w',e,ht⟩
theorem Tree.notDead {fr:Frame}{up:List Frame}{w:World}(h:Tree P Fin fr up w):¬ Dead P fr (up++[doom P]):=by
 intro hd
 rcases h.cases with ⟨rfl,_⟩|h
 ·exact hd.1 rfl
 ·obtain ⟨fr',up',w',e,_⟩:=h (fun _ _=>0) 0
  obtain ⟨o,w2,e2⟩:=hd.2 (Go.Proofs.YtdianedehhecoaaGreatDoor.Co.re w (fun _ _=>0) 0)
  rw[e2]at e
  cases e
theorem Tree.re (hFin:∀ fr w t d,Fin fr w→Fin fr (re w t d)){fr:Frame}{up:List Frame}{w:World}(h:Tree P Fin fr up w):∀ t d,Tree P Fin fr up (Go.Proofs.YtdianedehhecoaaGreatDoor.Co.re w t d):=by
 refine h.ind (S:=fun fr up w=>∀ t d,Tree P Fin fr up (Go.Proofs.YtdianedehhecoaaGreatDoor.Co.re w t d)) fun fr up w h t d=>?_
 refine Tree.intro (h.imp (fun h=>⟨h.1,hFin _ _ _ _ h.2⟩) fun h t' d'=>?_)
 obtain ⟨fr',up',w',e,ht,_⟩:=h t' d'
 exact ⟨fr',up',w',e,ht⟩
def iter {α:Type}(f:α→α)(x:α):Nat→α
 | 0=>x
 | n+1=>f (iter f x n)
def sums (k:Nat→Nat):Nat→Nat
 | 0=>0
 | n+1=>sums k n+k n
theorem sums_mono (k:Nat→Nat){m n:Nat}(h:m≤n):sums k m≤sums k n:=by
 induction n with
 | zero=>cases h;exact Nat.le_refl _
 | succ n ih =>
  rcases Nat.lt_or_ge m (n+1) with h1|h1
  ·exact Nat.le_trans (ih (by omega)) (Nat.le_add_right _ _)
  ·have:m=n+1:=by omega
   rw[this];exact Nat.le_refl _
theorem tape_cat (t:Nat→Nat→Question→Nat)(d k:Nat→Nat):∃ T:Nat→Question→Nat,∀ n i q,i<k n→T (sums k n+i) q=t n (d n+i) q:=by
 classical
 refine ⟨fun j q=>if h:∃ n,sums k n≤j∧j<sums k (n+1) then t (Classical.choose h) (d (Classical.choose h)+(j-sums k (Classical.choose h))) q else 0,fun n i q hi=>?_⟩
 have hn:∃ m,sums k m≤sums k n+i∧sums k n+i<sums k (m+1):=⟨n,Nat.le_add_right _ _,by show _<sums k n+k n;omega⟩
 dsimp only
 rw[dif_pos hn]
 have hc:=Classical.choose_spec hn
 have e:Classical.choose hn=n:=by
  rcases Nat.lt_trichotomy (Classical.choose hn) n with h|h|h
  ·have:=sums_mono k (show Classical.choose hn+1≤n from h)
   omega
  ·exact h
  ·have:=sums_mono k (show n+1≤Classical.choose hn from h)
   have h2:sums k (n+1)=sums k n+k n:=rfl
   omega
 rw[e,show sums k n+i-sums k n=i by omega]
structure St where
 fr:Frame
 up:List Frame
 w:World
 b:World
structure Inv (Γ:Nat→Prop)(P:Two)(Fin:Frame→World→Prop)(x:St):Prop where
 ok:okF P x.fr
 oks:∀ y∈x.up,okF P y
 gh:Gh Γ x.w x.b
 no:¬ Tree P Fin x.fr x.up x.w
def endsAt (P:Two)(x:St)(t:Nat→Question→Nat)(d k:Nat):Prop :=
 ∀ (T:Nat→Question→Nat) (D:Nat),(∀ i q,i<k→T (D+i) q=t (d+i) q)→Lost P (stepG P.s true (G x.fr (x.up++[doom P])) (re x.w T D)).bare
def goesTo (P:Two)(x y:St)(t:Nat→Question→Nat)(d k:Nat):Prop :=
 ∀ (T:Nat→Question→Nat) (D:Nat),(∀ i q,i<k→T (D+i) q=t (d+i) q)→(stepG P.s true (G x.fr (x.up++[doom P])) (re x.w T D)).bare=.go (G y.fr (y.up++[doom P])) (re y.w T (D+k))
theorem inv_step (hsame:P.fs=P.fg)(hF:Fit Γ P)(hFin:∀ fr w t d,Fin fr w→Fin fr (re w t d)){x:St}(hx:Inv Γ P Fin x):∃ t d k,endsAt P x t d k∨∃ y,Inv Γ P Fin y∧goesTo P x y t d k:=by
 classical
 have h1:∃ t d,¬ ∃ fr' up' w',(stepG P.s true (G x.fr (x.up++[doom P])) (re x.w t d)).bare=.go (G fr' (up'++[doom P])) w'∧Tree P Fin fr' up' w':=by
  refine Classical.byContradiction fun h=>hx.no (Tree.intro (.inr fun t d=>?_))
  refine Classical.byContradiction fun h2=>h ⟨t,d,h2⟩
 obtain ⟨t,d,h1⟩:=h1
 have hg:Gh Γ x.w { x.b with tape:=t,drawn:=d }:=⟨hx.gh.os,hx.gh.output,hx.gh.size,hx.gh.same,hx.gh.ghost,hx.gh.calm,hx.gh.grew⟩
 obtain ⟨k,h|⟨fs',fr',up',w',b',ev,q1,q2,q0,q3,q4,q5,q6⟩⟩:=pair_step (cs:=[]) hF hg hx.ok hx.oks true
 ·exact ⟨t,d,k,.inl fun T D hT=>h T D hT⟩
 ·have hok:okF P fs':=by
   rcases q1 with ⟨rfl,h⟩|⟨f,v,k,_,_,hk,rfl,_⟩
   ·exact h
   ·have e:P.fs[f]? = P.fg[f]?:=by rw[hsame]
    rw[enter_same f v k e]
    exact enter_ok hF f v k hk e
  exact ⟨t,d,k,.inr ⟨⟨fs',up',w',b'⟩,⟨hok,q2,q5,fun ht=>h1 ⟨fs',up',_,q3 t d (fun _ _ _=>rfl),ht.re hFin _ _⟩⟩,fun T D hT=>q3 T D hT⟩⟩
theorem runN_one (p:Program)(n:Nat)(m m':Machine)(h:runN p n m=.next m'):runN p (n+1) m=step p m':=by
 rw[runN_add,h]
 show runN p 1 m'=_
 simp only[runN]
 cases step p m'<;>rfl
theorem runN_over {p:Program}{n:Nat}{m:Machine}{o:Outcome}{w:World}(h:runN p n m=.ended o w)(k:Nat):runN p (n+k) m=.ended o w:=by rw [runN_add,h]
theorem lone_inj {fr fr':Frame}{cs cs':List Frame}{w w':World}(h:lone fr cs w=lone fr' cs' w'):fr=fr'∧cs=cs'∧w=w':=by
 unfold lone at h
 simp only[Machine.mk.injEq]at h
 obtain ⟨h1,h2,_⟩:=h
 simp only[Array.mk.injEq,List.cons.injEq,Goroutine.mk.injEq]at h2
 exact ⟨h2.1.1,h2.1.2.1,h1⟩
theorem tree_of_same (hsame:P.fs=P.fg)(hF:Fit Γ P){Fin0:Frame→World→Prop}{fr:Frame}{up:List Frame}{w b:World}(hg:Gh Γ w b)(hf:okF P fr)(hu:∀ x∈up,okF P x)
  (H:∀ t d,∃ n fr' w',runN P.s n (lone fr (up++[doom P]) (re w t d))=.next (lone fr' [doom P] w')∧Fin0 fr' w'):Tree P (fun fr w=>∃ t d,Fin0 fr (re w t d)) fr up w:=by
 classical
 refine Classical.byContradiction fun hno=>?_
 have hFin:∀ (fr:Frame) (w:World) (t:Nat→Question→Nat) (d:Nat),(∃ t d,Fin0 fr (re w t d))→∃ t' d',Fin0 fr (re (re w t d) t' d'):=fun fr w t d h=>h
 let I:=Inv Γ P (fun fr w=>∃ t d,Fin0 fr (re w t d))
 let X:={ x:St // I x }
 let x0:X:=⟨⟨fr,up,w,b⟩,⟨hf,hu,hg,hno⟩⟩
 have key:∀ x:X,∃ t d k,endsAt P x.1 t d k∨∃ y,I y∧goesTo P x.1 y t d k:=fun x=>inv_step hsame hF hFin x.2
 let t:X→Nat→Question→Nat:=fun x=>Classical.choose (key x)
 let d:X→Nat:=fun x=>Classical.choose (Classical.choose_spec (key x))
 let k:X→Nat:=fun x=>Classical.choose (Classical.choose_spec (Classical.choose_spec (key x)))
 have hk:∀ x:X,endsAt P x.1 (t x) (d x) (k x)∨∃ y,I y∧goesTo P x.1 y (t x) (d x) (k x):=fun x=>Classical.choose_spec (Classical.choose_spec (Classical.choose_spec (key x)))
 let nx:X→X:=fun x=>if h:∃ y,I y∧goesTo P x.1 y (t x) (d x) (k x) then ⟨Classical.choose h,(Classical.choose_spec h).1⟩ else x
 have hnx:∀ x:X,(∃ y,I y∧goesTo P x.1 y (t x) (d x) (k x))→goesTo P x.1 (nx x).1 (t x) (d x) (k x):=fun x h=>by
  have:nx x=⟨Classical.choose h,(Classical.choose_spec h).1⟩:=dif_pos h
  rw[this]
  exact (Classical.choose_spec h).2
 let s:Nat→X:=iter nx x0
 obtain ⟨T,hT⟩:=tape_cat (fun n=>t (s n)) (fun n=>d (s n)) (fun n=>k (s n))
 let D:Nat→Nat:=sums fun n=>k (s n)
 have hrun:∀ n,(∀ m,m<n→∃ y,I y∧goesTo P (s m).1 y (t (s m)) (d (s m)) (k (s m)))→runN P.s n (lone fr (up++[doom P]) (re w T 0))=.next (lone (s n).1.fr ((s n).1.up++[doom P]) (re (s n).1.w T (D n))):=by
  intro n
  induction n with
  | zero=>intro _;rfl
  | succ n ih =>
   intro h
   rw[runN_one _ _ _ _ (ih fun m hm=>h m (by omega))]
   have:=hnx (s n) (h n (by omega)) T (D n) (fun i q hi=>hT n i q hi)
   exact step_lone_go this
 obtain ⟨N,fr',w',hN,hfin⟩:=H T 0
 by_cases hall:∀ m,m<N→∃ y,I y∧goesTo P (s m).1 y (t (s m)) (d (s m)) (k (s m))
 ·rw[hrun N hall]at hN
  injection hN with hN
  obtain ⟨e1,e2,e3⟩:=lone_inj hN
  have hup:(s N).1.up=[]:=by
   have:((s N).1.up++[doom P]).length=[doom P].length:=by rw[e2]
   simpa using this
  refine (s N).2.no (Tree.intro (.inl ⟨hup,T,D N,?_⟩))
  rw[e1,e3];exact hfin
 ·have hex:∃ m,m<N∧¬ ∃ y,I y∧goesTo P (s m).1 y (t (s m)) (d (s m)) (k (s m)):=by
   refine Classical.byContradiction fun h=>hall fun m hm=>Classical.byContradiction fun h2=>h ⟨m,hm,h2⟩
  have hleast:∃ m,(m<N∧¬ ∃ y,I y∧goesTo P (s m).1 y (t (s m)) (d (s m)) (k (s m)))∧∀ j,j<m→∃ y,I y∧goesTo P (s j).1 y (t (s j)) (d (s j)) (k (s j)):=by
   obtain ⟨m,hm⟩:=hex
   induction m using Nat.strongRecOn with
   | ind m ih =>
    by_cases hj:∀ j,j<m→∃ y,I y∧goesTo P (s j).1 y (t (s j)) (d (s j)) (k (s j))
    ·exact ⟨m,hm,hj⟩
    ·have:∃ j,j<m∧¬ ∃ y,I y∧goesTo P (s j).1 y (t (s j)) (d (s j)) (k (s j)):=by
      refine Classical.byContradiction fun h=>hj fun j hjm=>Classical.byContradiction fun h2=>h ⟨j,hjm,h2⟩
     obtain ⟨j,hjm,h2⟩:=this
     exact ih j hjm ⟨by omega,h2⟩
  obtain ⟨m,⟨hmN,hstop⟩,hbefore⟩:=hleast
  have hr:=hrun m hbefore
  have hend:=(hk (s m)).resolve_right hstop T (D m) (fun i q hi=>hT m i q hi)
  have hr1:=runN_one _ _ _ _ hr
  rcases hend with ⟨o,w2,he⟩|⟨fr2,cs2,w2,he,hdead⟩
  ·rw[step_lone_ended he]at hr1
   have:=runN_over hr1 (N-(m+1))
   rw[show m+1+(N-(m+1))=N by omega,hN]at this
   cases this
  ·rw[step_lone_go he]at hr1
   rcases Nat.lt_or_ge (m+1) N with hlt|hge
   ·have hr2:=runN_one _ _ _ _ hr1
    obtain ⟨o,w3,he3⟩:=hdead.2 w2
    rw[step_lone_ended he3]at hr2
    have:=runN_over hr2 (N-(m+1+1))
    rw[show m+1+1+(N-(m+1+1))=N by omega,hN]at this
    cases this
   ·have:m+1=N:=by omega
    rw[this,hN]at hr1
    injection hr1 with hr1
    obtain ⟨e1,e2,e3⟩:=lone_inj hr1
    exact hdead.1 e2.symm
abbrev Two.self (P:Two):Two:=⟨P.T,P.fs,P.fs⟩
theorem okOp_two (o:Op):okOp P.s o=okOp P.g o:=by
 cases o<;>rfl
theorem okC_two (c:Code):okC P.s c=okC P.g c:=by
 induction c with
 | seq a b ha hb=>simp only[okC,ha,hb]
 | cond o a b ha hb=>simp only[okC,ha,hb]
 | block _ c h=>simp only[okC,h]
 | loop c h=>simp only[okC,h]
 | scope c h=>simp only[okC,h]
 | region _ ops _=>simp only[okC,okOp_two]
 | _=>rfl
theorem okItem_two (i:Item):okItem P.s i=okItem P.g i:=by
 cases i with
 | code c=>exact okC_two c
 | inLoop c=>exact okC_two c
 | inScope c=>exact okC_two c
 | inRegion ops _=>simp only[okItem,okOp_two]
 | _=>rfl
theorem okF_self {fr:Frame}(h:okF P fr):okF P.self fr:=⟨rfl,fun i hi=>(okItem_two (P:=P) i).trans (h.todo i hi),h.defers,h.round,h.kind,h.unrec⟩
theorem tree_of_runs (hF:Fit Γ P.self){Fin0:Frame→World→Prop}{fr:Frame}{up:List Frame}{w b:World}(hg:Gh Γ w b)(hf:okF P fr)(hu:∀ x∈up,okF P x)
  (H:∀ t d,∃ n fr' w',runN P.s n (lone fr (up++[doom P]) (re w t d))=.next (lone fr' [doom P] w')∧Fin0 fr' w'):Tree P (fun fr w=>∃ t d,Fin0 fr (re w t d)) fr up w :=
 tree_of_same (P:=P.self) rfl hF hg (okF_self hf) (fun x hx=>okF_self (hu x hx)) H
end
end Go.Proofs.YtdianedehhecoaaGreatDoor.Co
/- A tree of goroutine 0's steps is carried out beside goroutines that only leave. -/
namespace Go.Proofs.YtdianedehhecoaaGreatDoor.Co
variable [Loops]
open Go.Conc (G crowd Leavers touchAt Knows Deaf QuitsD crowd_pick runT_crowd_go woken_quitsD woken_run awake_of noRace_append handedOver_app Deaf_own Deaf_other touch_mute touch_of getElem?_append_cases touchAt_of knows_own deafBehind_still woken awake)
open Go.ConcN (sumTo upd sumTo_upd upd_ne upd_same)
def ghostLoc (Γ:Nat→Prop):Loc→Prop
 | .cell a=>Γ a.block
 | .obj r=>Γ r
 | _=>False
section
variable {Γ:Nat→Prop} {P:Two} {t u:Trace}
theorem shuns_touch {e:Event}(h:shuns Γ e){x:Touch}(hx:(MemAct.ofEvent e).touch? = some x):¬ ghostLoc Γ x.loc:=by
 obtain ⟨loc,wr,sy⟩:=e
 cases loc with
 | cell a =>
  simp only[MemAct.ofEvent,MemAct.touch?,Option.some.injEq]at hx
  subst hx;exact h
 | obj r =>
  cases wr<;>cases sy<;>simp only[MemAct.ofEvent,MemAct.touch?,Option.some.injEq,reduceCtorEq]at hx
  all_goals (subst hx;exact h)
 | mark m =>
  cases m<;>simp only[MemAct.ofEvent,MemAct.touch?,reduceCtorEq]at hx
  all_goals exact h.elim
 | output=>simp only[MemAct.ofEvent,MemAct.touch?,Option.some.injEq]at hx;subst hx;exact id
 | goroutines=>simp only[MemAct.ofEvent,MemAct.touch?,Option.some.injEq]at hx;subst hx;exact id
theorem shuns_deaf {e:Event}(h:shuns Γ e):e.loc≠.mark .disable∧e.loc≠.mark .enable:=by
 obtain ⟨loc,wr,sy⟩:=e
 cases loc with
 | mark m=>cases m<;>first|exact h.elim|exact ⟨(by intro e;cases e),(by intro e;cases e)⟩
 | _=>exact ⟨(by intro e;cases e),(by intro e;cases e)⟩
end
def mild (Γ:Nat→Prop)(e:Event):Prop:=shuns Γ e∨e.loc=.mark .disable∨e.loc=.mark .enable∨(∃ a,e.loc=.mark (.acquire a))∨∃ a,e.loc=.mark (.releaseMerge a)
theorem mild_touch {Γ:Nat→Prop}{e:Event}(h:mild Γ e){x:Touch}(hx:(MemAct.ofEvent e).touch? = some x):¬ ghostLoc Γ x.loc:=by
 rcases h with h|h
 ·exact shuns_touch h hx
 ·obtain ⟨loc,wr,sy⟩:=e
  rcases h with h|h|⟨a,h⟩|⟨a,h⟩<;>(simp only at h;subst h;simp[MemAct.ofEvent,MemAct.touch?]at hx)
def soft (Γ:Nat→Prop)(e:Event):Prop:=∀ x,(MemAct.ofEvent e).touch? = some x→¬ ghostLoc Γ x.loc
theorem mild.soft {Γ:Nat→Prop}{e:Event}(h:mild Γ e):soft Γ e:=fun x hx=>mild_touch h hx
theorem runNT_add (p:Program)(a b:Nat)(m:Machine)(t:Trace):runNT p (a+b) m t=match runNT p a m t with
  | (.next m',t')=>runNT p b m' t'
  | r=>r:=by
 induction a generalizing m t with
 | zero=>simp[runNT]
 | succ a ih =>
  rw[show a+1+b=(a+b)+1 by omega]
  simp only[runNT]
  cases h:stepT p m with
  | mk r ops=>cases r<;>simp[ih]
structure Conf where
 gs:Array Goroutine
 w:World
 sl:Option (Nat × Nat)
 t:Trace
def Conf.m (c:Conf):Machine:=crowd c.gs c.w c.sl
def Leads (P:Program)(c:Conf)(X:Conf→Prop):Prop:=∃ N c',runNT P N c.m c.t=(.next c'.m,c'.t)∧X c'
theorem Leads.refl {P:Program}{c:Conf}{X:Conf→Prop}(h:X c):Leads P c X:=⟨0,c,rfl,h⟩
theorem Leads.trans {P:Program}{c:Conf}{X Y:Conf→Prop}(h:Leads P c X)(h2:∀ c,X c→Leads P c Y):Leads P c Y:=by
 obtain ⟨N,c1,e1,hx⟩:=h
 obtain ⟨M,c2,e2,hy⟩:=h2 c1 hx
 exact ⟨N+M,c2,by rw[runNT_add,e1];exact e2,hy⟩
theorem Leads.mono {P:Program}{c:Conf}{X Y:Conf→Prop}(h:Leads P c X)(hxy:∀ c,X c→Y c):Leads P c Y:=by
 obtain ⟨N,c1,e1,hx⟩:=h
 exact ⟨N,c1,e1,hxy _ hx⟩
theorem Leads.step {P:Program}{c c1:Conf}{X:Conf→Prop}{ops:Array MemOp}(h:stepT P c.m=(.next c1.m,ops))(ht:c1.t=c.t++ops)(h2:Leads P c1 X):Leads P c X:=by
 obtain ⟨N,c2,e,hx⟩:=h2
 exact ⟨N+1,c2,by simp only[runNT,h,← ht,e],hx⟩
def Small (P:Two)(fr:Frame)(up:List Frame)(w:World)(fr':Frame)(up':List Frame)(w':World):Prop :=
 ∃ t d,(stepG P.s true (G fr (up++[doom P])) (re w t d)).bare=.go (G fr' (up'++[doom P])) w'
def Path (P:Two)(Fin:Frame→World→Prop):Nat→Frame→List Frame→World→Frame→List Frame→World→Prop
 | 0,fr,up,w,fr',up',w'=>fr'=fr∧up'=up∧w'=w
 | n+1,fr,up,w,fr',up',w'=>¬ (up=[]∧Fin fr w)∧∃ f1 u1 w1,Small P fr up w f1 u1 w1∧Path P Fin n f1 u1 w1 fr' up' w'
section
variable {Γ:Nat→Prop} {P:Two} {Fin:Frame→World→Prop}
theorem G_inj {fr fr':Frame}{cs cs':List Frame}(h:G fr cs=G fr' cs'):fr=fr'∧cs=cs':=by
 simp only[G,Goroutine.mk.injEq]at h
 exact ⟨h.1,h.2.1⟩
theorem Gh.at {w b:World}(h:Gh Γ w b)(d:Nat):Gh Γ w (b.at d):=⟨h.os,h.output,h.size,h.same,h.ghost,h.calm,h.grew⟩
theorem Tree.child {fr fr':Frame}{up up':List Frame}{w w':World}(h:Tree P Fin fr up w)(hn:¬ (up=[]∧Fin fr w))(hs:Small P fr up w fr' up' w'):Tree P Fin fr' up' w':=by
 obtain ⟨t,d,e⟩:=hs
 obtain ⟨f1,u1,w1,e1,ht⟩:=h.cases.resolve_left hn t d
 rw[e]at e1
 simp only[GStep.go.injEq]at e1
 obtain ⟨q1,q2⟩:=G_inj e1.1
 have q3:up'=u1:=List.append_cancel_right q2
 rw[q1,q3,e1.2.1]
 exact ht
theorem Tree.strong {C:Frame→List Frame→World→Prop}(hC:∀ fr up w,Tree P Fin fr up w→(∀ n fr' up' w',Path P Fin (n+1) fr up w fr' up' w'→Tree P Fin fr' up' w'∧C fr' up' w')→C fr up w){fr:Frame}{up:List Frame}{w:World}(h:Tree P Fin fr up w):C fr up w:=by
 have key:∀ n fr' up' w',Path P Fin n fr up w fr' up' w'→Tree P Fin fr' up' w'∧C fr' up' w':=by
  refine h.ind (S:=fun fr up w=>∀ n fr' up' w',Path P Fin n fr up w fr' up' w'→Tree P Fin fr' up' w'∧C fr' up' w') fun fr up w h=>?_
  have ht:Tree P Fin fr up w:=Tree.intro (h.imp id fun h t d=>by obtain ⟨f1,u1,w1,e,x,_⟩:=h t d;exact ⟨f1,u1,w1,e,x⟩)
  have hdesc:∀ n fr' up' w',Path P Fin (n+1) fr up w fr' up' w'→Tree P Fin fr' up' w'∧C fr' up' w':=by
   rintro n fr' up' w' ⟨hn,f1,u1,w1,⟨t,d,e⟩,hp⟩
   obtain ⟨f2,u2,w2,e2,_,hS⟩:=(h.resolve_left hn) t d
   rw[e]at e2
   simp only[GStep.go.injEq]at e2
   obtain ⟨q1,q2⟩:=G_inj e2.1
   have q3:u1=u2:=List.append_cancel_right q2
   rw[← q1,← q3,← e2.2.1]at hS
   exact hS n fr' up' w' hp
  intro n
  cases n with
  | zero =>
   rintro fr' up' w' ⟨rfl,rfl,rfl⟩
   exact ⟨ht,hC _ _ _ ht hdesc⟩
  | succ n=>exact hdesc n
 exact (key 0 fr up w ⟨rfl,rfl,rfl⟩).2
theorem Path.trans {n m:Nat}{fr f1 f2:Frame}{up u1 u2:List Frame}{w w1 w2:World}(h:Path P Fin n fr up w f1 u1 w1)(h2:Path P Fin m f1 u1 w1 f2 u2 w2):Path P Fin (n+m) fr up w f2 u2 w2:=by
 induction n generalizing fr up w with
 | zero =>
  obtain ⟨rfl,rfl,rfl⟩:=h
  rw[Nat.zero_add];exact h2
 | succ n ih =>
  obtain ⟨hn,f3,u3,w3,hs,hp⟩:=h
  rw[show n+1+m=(n+m)+1 by omega]
  exact ⟨hn,f3,u3,w3,hs,ih hp⟩
theorem tree_step (hF:Fit Γ P)(cs:List Frame)(m:Bool){fr:Frame}{up:List Frame}{w b:World}(hg:Gh Γ w b)(hf:okF P fr)(hu:∀ x∈up,okF P x){S:Frame→List Frame→World→Prop}
  (h:∀ t d,∃ fr' up' w',(stepG P.s true (G fr (up++[doom P])) (re w t d)).bare=.go (G fr' (up'++[doom P])) w'∧Tree P Fin fr' up' w'∧S fr' up' w') :
  ∃ fs' fr' up' w' b' ev,Top P up' fs' fr'∧(∀ x∈up',okF P x)∧stepG P.g m (G fr (up++cs)) b=.go (G fr' (up'++cs)) b' ev∧Gh Γ w' b'∧b'.tape=b.tape∧(∀ j:Nat,Γ j→b'.heap[j]? = b.heap[j]?)∧(∀ e∈ev,shuns Γ e)∧Tree P Fin fs' up' w'∧S fs' up' w'∧(Pan (fr :: up)→Pan (fs' :: up'))∧Small P fr up w fs' up' w':=by
 obtain ⟨fr1,up1,w1,e1,ht,hS⟩:=h b.tape b.drawn
 obtain ⟨k,hl|⟨fs',fr',up',w',b',ev,q1,q2,q0,q3,q4,q5,q6,q7,q8,q9⟩⟩:=pair_step (cs:=cs) hF hg hf hu m
 ·rcases hl b.tape b.drawn (fun _ _ _=>rfl) with ⟨o,w2,e2⟩|⟨fr2,cs2,w2,e2,hd⟩
  ·rw[e2]at e1;cases e1
  ·rw[e2]at e1
   simp only[GStep.go.injEq]at e1
   obtain ⟨rfl,rfl⟩:=G_inj e1.1
   exact absurd hd ht.notDead
 ·have e2:=q3 b.tape b.drawn (fun _ _ _=>rfl)
  have e1':=e1
  rw[e2]at e1
  simp only[GStep.go.injEq]at e1
  obtain ⟨rfl,e3⟩:=G_inj e1.1
  have e4:up'=up1:=List.append_cancel_right e3
  subst e4
  have e5:=e1.2.1
  refine ⟨fs',fr',up',w1,b',ev,q1,q2,q4,?_,q6,q8,q9,ht,hS,q0,b.tape,b.drawn,e1'⟩
  rw[← e5]
  exact q5.re _ _
theorem Tree.noPan0 (hsame:P.fs=P.fg)(hF:Fit Γ P)(hFin:∀ fr w,Fin fr w→¬ panF fr){fr:Frame}{up:List Frame}{w:World}(h:Tree P Fin fr up w):∀ b,Gh Γ w b→okF P fr→(∀ x∈up,okF P x)→¬ Pan (fr :: up):=by
 refine h.ind (S:=fun fr up w=>∀ b,Gh Γ w b→okF P fr→(∀ x∈up,okF P x)→¬ Pan (fr :: up)) fun fr up w h b hg hf hu hp=>?_
 rcases h with ⟨rfl,hfin⟩|h
 ·obtain ⟨x,hx,hpx⟩:=hp
  rw[List.mem_singleton]at hx
  subst hx
  exact hFin _ _ hfin hpx
 ·obtain ⟨fs',fr',up',w',b',ev,q1,q2,q3,q4,q5,q6,q7,q8,q9,q10,_⟩:=tree_step hF [] true hg hf hu h
  have hok:okF P fs':=by
   rcases q1 with ⟨rfl,h⟩|⟨f,v,k,_,_,hk,rfl,_⟩
   ·exact h
   ·have e:P.fs[f]? = P.fg[f]?:=by rw[hsame]
    rw[enter_same f v k e]
    exact enter_ok hF f v k hk e
  exact q9 b' q4 hok q2 (q10 hp)
theorem Tree.noPan (hF:Fit Γ P.self)(hFin:∀ fr w,Fin fr w→¬ panF fr){fr:Frame}{up:List Frame}{w b:World}(h:Tree P Fin fr up w)(hg:Gh Γ w b)(hf:okF P.self fr)(hu:∀ x∈up,okF P.self x):¬ Pan (fr :: up) :=
 Tree.noPan0 (P:=P.self) rfl hF hFin h b hg hf hu
theorem deaf_shuns {ev:Array Event}(h:∀ e∈ev,shuns Γ e)(d:Nat):Go.deafBehind d ev=d:=Go.Conc.deafBehind_still (fun e he=>shuns_deaf (h e he)) d
end
structure Team (Γ:Nat→Prop)(P:Two) where
 main:Bool
 At:Nat→Goroutine→Conf→Prop
 turn:∀ {δ δ':Nat} {a:Goroutine} {X:Goroutine→World→Prop} (c:Conf),a.status=.running→At δ a c →
  (∀ b,(∀ w,Gh Γ w c.w→Gh Γ w b)→∃ a' b' ev,stepG P.g main a b=.go a' b' ev∧(∀ e∈ev,mild Γ e)∧Go.deafBehind δ ev=δ'∧(∀ j:Nat,Γ j→b'.heap[j]? = b.heap[j]?)∧X a' b') →
  Leads P.g c fun c'=>∃ a',At δ' a' c'∧X a' c'.w
section
variable {Γ:Nat→Prop} {P:Two} {Fin:Frame→World→Prop}
def Block (T:Team Γ P):Prop:=∀ (Fin:Frame→World→Prop)(cs:List Frame)(f:FuncId)(v:Array Value)(k:CallKind)(up:List Frame)(w:World)(c:Conf),(∀ fr w,Fin fr w→¬ panF fr)→isStub P f→(k=.normal∨k=.deferred)→up≠[]→Tree P Fin (Frame.enter P.s f v k) up w →
 (∀ x∈up,okF P x)→T.At 0 (G (Frame.enter P.g f v k) (up++cs)) c→Gh Γ w c.w →
  Leads P.g c fun c'=>∃ n fr2 up2 w2,Path P Fin n (Frame.enter P.s f v k) up w fr2 up2 w2∧okF P fr2∧(∀ x∈up2,okF P x)∧T.At 0 (G fr2 (up2++cs)) c'∧Gh Γ w2 c'.w
theorem tree_leads (T:Team Γ P)(hF:Fit Γ P)(hB:Block T)(hFin:∀ fr w,Fin fr w→¬ panF fr)(cs:List Frame){fr:Frame}{up:List Frame}{w:World}(h:Tree P Fin fr up w):∀ c:Conf,T.At 0 (G fr (up++cs)) c→Gh Γ w c.w→okF P fr→(∀ x∈up,okF P x) →
  Leads P.g c fun c'=>∃ fr' w',T.At 0 (G fr' cs) c'∧okF P fr'∧Fin fr' w'∧Gh Γ w' c'.w:=by
 refine h.strong (C:=fun fr up w=>∀ c:Conf,T.At 0 (G fr (up++cs)) c→Gh Γ w c.w→okF P fr→(∀ x∈up,okF P x) →
  Leads P.g c fun c'=>∃ fr' w',T.At 0 (G fr' cs) c'∧okF P fr'∧Fin fr' w'∧Gh Γ w' c'.w) fun fr up w ht hdesc=>?_
 by_cases hfin:up=[]∧Fin fr w
 ·obtain ⟨rfl,hfin⟩:=hfin
  exact fun c hM hg hf hu=>Leads.refl ⟨fr,w,hM,hf,hfin,hg⟩
 have h:∀ t d,∃ fr' up' w',(stepG P.s true (G fr (up++[doom P])) (re w t d)).bare=.go (G fr' (up'++[doom P])) w'∧Tree P Fin fr' up' w'∧True:=fun t d=>by
  obtain ⟨f1,u1,w1,e,x⟩:=ht.cases.resolve_left hfin t d
  exact ⟨f1,u1,w1,e,x,trivial⟩
 intro c hM hg hf hu
 refine (T.turn (δ':=0) (X:=fun a' b'=>∃ fs' fr' up' w',a'=G fr' (up'++cs)∧Top P up' fs' fr'∧(∀ x∈up',okF P x)∧Gh Γ w' b'∧Tree P Fin fs' up' w'∧Small P fr up w fs' up' w') c rfl hM fun b hb=>?_).trans ?_
 ·obtain ⟨fs',fr',up',w',b',ev,q1,q2,q3,q4,q5,q6,q7,q8,_,_,hsm⟩:=tree_step (S:=fun _ _ _=>True) hF cs T.main (hb w hg) hf hu h
  exact ⟨_,b',ev,q3,fun e he=>.inl (q7 e he),deaf_shuns q7 0,q6,fs',fr',up',w',rfl,q1,q2,q4,q8,hsm⟩
 ·rintro c1 ⟨a',hA,fs',fr',up',w',rfl,q1,q2,q4,q8,hsm⟩
  rcases q1 with ⟨rfl,hok⟩|⟨f,v,k,hne,hst2,hk,rfl,rfl⟩
  ·exact (hdesc 0 _ _ _ ⟨hfin,_,_,_,hsm,rfl,rfl,rfl⟩).2 _ hA q4 hok q2
  ·refine (hB Fin cs f v k up' w' _ hFin hst2 hk hne q8 q2 hA q4).trans fun c2 ⟨n,fr2,up2,w2,hp,ok2,oks2,m2,g2⟩=>?_
   exact (hdesc n _ _ _ ⟨hfin,_,_,_,hsm,hp⟩).2 c2 m2 g2 ok2 oks2
end
end Go.Proofs.YtdianedehhecoaaGreatDoor.Co
/- Goroutine 0 beside goroutines that only leave: a team. A call by its lone contract; its return. -/
namespace Go.Proofs.YtdianedehhecoaaGreatDoor.Co
variable [Loops]
open Go.Conc (G crowd Leavers touchAt Knows Deaf QuitsD crowd_pick runT_crowd_go woken_quitsD woken_run awake_of noRace_append handedOver_app Deaf_own Deaf_other touch_mute touch_of getElem?_append_cases touchAt_of knows_own deafBehind_still woken awake)
open Go.ConcN (sumTo upd sumTo_upd upd_ne upd_same)
structure PastD (Γ:Nat→Prop)(d:Nat)(t:Trace):Prop where
 clean:∀ said,¬ Race said t
 known:∀ i a,touchAt t i=some a→a.loc.isMemory=true→Knows t 0 i∨(ghostLoc Γ a.loc∧a.kind=.atomic)
 over:t.HandedOver
 deaf:Deaf t 0=d
section
variable {Γ:Nat→Prop} {P:Two} {t:Trace}
theorem PastD.own {d d':Nat}(h:PastD Γ d t){fn:FuncId}{pos:String}{es:Array Event}(hes:∀ e∈es,soft Γ e)(hd:Go.deafBehind d es=d'):PastD Γ d' (t++MemOp.ofEvents 0 fn pos es):=by
 have hu:∀ op∈MemOp.ofEvents 0 fn pos es,op.g=0:=fun op hop=>by obtain ⟨e,_,rfl⟩:=Go.Conc.mem_ofEvents hop;rfl
 refine ⟨fun said=>noRace_append (h.clean said) hu fun i a ha op hop b hb hc=>?_,fun i a ha hm=>?_,handedOver_app h.over fun op hop=>.inl (hu op hop),?_⟩
 ·obtain ⟨e,he,rfl⟩:=Go.Conc.mem_ofEvents hop
  rcases h.known i a ha hc.2.1 with hk|⟨hs,_⟩
  ·exact hk
  ·exact absurd (hc.1▸hs) (hes e he b hb)
 ·obtain ⟨x,hx,hxa⟩:=touch_of ha
  rcases getElem?_append_cases hx with ⟨_,hx'⟩|⟨_,hxu⟩
  ·exact (h.known i a (by rw[touchAt_of hx'];exact hxa) hm).imp (·.app _) id
  ·have:=knows_own hx
   rw[hu x hxu]at this
   exact .inl this
 ·rw[Deaf_own,h.deaf];exact hd
theorem PastD.mute {d:Nat}(h:PastD Γ d t){g:Nat}(hg:g≠0){fn:FuncId}{pos:String}{es:Array Event}(hm:∀ e∈es,e.mute=true):PastD Γ d (t++MemOp.ofEvents g fn pos es):=by
 have hu:∀ op∈MemOp.ofEvents g fn pos es,op.g=g:=fun op hop=>by obtain ⟨e,_,rfl⟩:=Go.Conc.mem_ofEvents hop;rfl
 have hn:∀ op∈MemOp.ofEvents g fn pos es,op.act.touch? = none:=fun op hop=>by obtain ⟨e,he,rfl⟩:=Go.Conc.mem_ofEvents hop;exact touch_mute (hm e he)
 refine ⟨fun said=>noRace_append (h.clean said) hu fun i a _ op hop b hb _=>(by rw[hn op hop]at hb;cases hb),fun i a ha hmm=>?_,handedOver_app h.over fun op hop=>.inr (hn op hop),(Deaf_other t hg _ hu).trans h.deaf⟩
 obtain ⟨x,hx,hxa⟩:=touch_of ha
 rcases getElem?_append_cases hx with ⟨_,hx'⟩|⟨_,hxu⟩
 ·exact (h.known i a (by rw[touchAt_of hx'];exact hxa) hmm).imp (·.app _) id
 ·rw[hn x hxu]at hxa;cases hxa
end
structure MainD (Γ:Nat→Prop)(P:Two)(d:Nat)(a:Goroutine)(c:Conf):Prop where
 zero:c.gs[0]? = some a
 leave:∃ q,Leavers P.g c.t c.gs q
 past:PastD Γ d c.t
section
variable {Γ:Nat→Prop} {P:Two}
theorem any_turnD {δ δ':Nat}{a:Goroutine}(ha:a.status=.running){X:Goroutine→World→Prop}:∀ c:Conf,(∀ d,∃ a' b' ev,stepG P.g true a (c.w.at d)=.go a' b' ev∧(∀ e∈ev,soft Γ e)∧Go.deafBehind δ ev=δ'∧X a' b')→MainD Γ P δ a c →
    Leads P.g c fun c'=>∃ a',MainD Γ P δ' a' c'∧X a' c'.w∧c'.gs.size=c.gs.size:=by
  have key:∀ M:Nat,∀ c:Conf,(∀ d,∃ a' b' ev,stepG P.g true a (c.w.at d)=.go a' b' ev∧(∀ e∈ev,soft Γ e)∧Go.deafBehind δ ev=δ'∧X a' b')→c.gs[0]? = some a→(∃ q,Leavers P.g c.t c.gs q∧sumTo c.gs.size q≤M)→PastD Γ δ c.t →
      Leads P.g c fun c'=>∃ a',MainD Γ P δ' a' c'∧X a' c'.w∧c'.gs.size=c.gs.size:=by
    intro M
    induction M with
    | zero=>?_
    | succ M ih=>?_
    all_goals
      intro c h h0 hq hP
      obtain ⟨q,hL,hM⟩:=hq
      have haw:∀ g∈c.gs,awake g:=by
        intro g hg
        obtain ⟨i,hi,rfl⟩:=Array.mem_iff_getElem.1 hg
        rcases Nat.eq_zero_or_pos i with rfl|hpos
        · have:c.gs[0]=a:=by simpa [Array.getElem?_eq_getElem hi] using h0
          rw[this];exact awake_of (.inl ha)
        · exact awake_of ((hL.old i _ hpos (Array.getElem?_eq_getElem hi)).status.elim .inl fun x=>.inr (.inr x))
      obtain ⟨i,g,d,sl',hi,hgr,hst⟩:=crowd_pick (P:=P.g) (w:=c.w) (sl:=c.sl) haw ⟨0,_,h0,ha⟩
      rcases Nat.eq_zero_or_pos i with rfl|hpos
      · obtain rfl:g=a:=by rw[h0]at hi;exact (Option.some.inj hi).symm
        obtain ⟨a',b',ev,q3,q7,q6,q8⟩:=h d
        have hrunT:=runT_crowd_go (P:=P.g) (sl:=sl') (i:=0) hi (show stepG P.g (0 == 0) g (c.w.at d)=_ from q3)
        have hlt:0<c.gs.size:=(Array.getElem?_eq_some_iff.1 h0).1
        refine Leads.step (c1:=⟨(c.gs.map (woken P.g g a' b')).setIfInBounds 0 a',b',sl',_⟩) (hst.trans hrunT) rfl (Leads.refl ⟨a',⟨by simp[hlt],⟨q,fun j x hj hx=>?_,fun j hj=>?_⟩,(hP.own q7 q6)⟩,q8,by simp⟩)
        · have hne:0≠j:=by omega
          rw[Array.getElem?_setIfInBounds_ne hne,Array.getElem?_map]at hx
          obtain ⟨y,hy,rfl⟩:=Option.map_eq_some_iff.1 hx
          have hqq:=hL.old j y hj hy
          rw[woken_quitsD hqq,Deaf_other c.t (by omega) _ (fun op hop=>by obtain ⟨e,_,rfl⟩:=Go.Conc.mem_ofEvents hop;rfl)]
          exact hqq
        · rw[Deaf_other c.t (g':=0) (by simp at hj;omega) _ (fun op hop=>by obtain ⟨e,_,rfl⟩:=Go.Conc.mem_ofEvents hop;rfl)]
          exact hL.above j (by simpa using hj)
      · have hqq:=hL.old i g hpos hi
        have hi0:(i == 0)=false:=by simp;omega
        have hlt:i<c.gs.size:=(Array.getElem?_eq_some_iff.1 hi).1
        cases hqi:q i with
        | zero=>rw[hqi]at hqq;rw[hqq.1]at hgr;cases hgr
        | succ k =>
          rw[hqi]at hqq
          rcases hqq with ⟨hff,_⟩|⟨_,g',es,hm,hstp,hq'⟩
          · rw[hff]at hgr;cases hgr
          have hrunT:=runT_crowd_go (P:=P.g) (sl:=sl') (i:=i) hi (by rw[hi0];exact hstp (c.w.at d))
          have hsz:((c.gs.map (woken P.g g g' (c.w.at d))).setIfInBounds i g').size=c.gs.size:=by simp
          have hsum:sumTo c.gs.size (upd q i k)+(k+1)=sumTo c.gs.size q+k:=by
            have:=sumTo_upd q k id hlt
            simpa [hqi] using this
          first
            | (exfalso;omega)
            | (refine Leads.step (c1:=⟨(c.gs.map (woken P.g g g' (c.w.at d))).setIfInBounds i g',c.w.at d,sl',_⟩) (hst.trans hrunT) rfl ?_
               refine (ih ⟨_,c.w.at d,sl',_⟩ h ?_ ⟨upd q i k,⟨fun j x hj hx=>?_,fun j hj=>?_⟩,?_⟩ (hP.mute (by omega) hm)).mono fun c' ⟨a2,r1,r2,r3⟩=>⟨a2,r1,r2,r3.trans hsz⟩
               · have hne:i≠0:=by omega
                 dsimp only
                 rw[Array.getElem?_setIfInBounds_ne hne,Array.getElem?_map,h0]
                 simp[woken_run ha]
               · by_cases hji:i=j
                 · subst hji
                   rw[Array.getElem?_setIfInBounds_self_of_lt (by simpa using hlt)]at hx
                   obtain rfl:=Option.some.inj hx
                   rw[upd_same,Deaf_own]
                   exact hq'
                 · rw[Array.getElem?_setIfInBounds_ne hji,Array.getElem?_map]at hx
                   obtain ⟨y,hy,rfl⟩:=Option.map_eq_some_iff.1 hx
                   have hqj:=hL.old j y hj hy
                   rw[woken_quitsD hqj,upd_ne q k (Ne.symm hji),Deaf_other c.t hji _ (fun op hop=>by obtain ⟨e,_,rfl⟩:=Go.Conc.mem_ofEvents hop;rfl)]
                   exact hqj
               · rw[Deaf_other c.t (g':=i) (by simp at hj;omega) _ (fun op hop=>by obtain ⟨e,_,rfl⟩:=Go.Conc.mem_ofEvents hop;rfl)]
                 exact hL.above j (by simpa using hj)
               · rw[hsz];omega)
  intro c h hM
  obtain ⟨q,hL⟩:=hM.leave
  exact key (sumTo c.gs.size q) c h hM.zero ⟨q,hL,Nat.le_refl _⟩ hM.past
def mainTeam (Γ:Nat→Prop)(P:Two):Team Γ P where
 main:=true
 At:=fun δ a c=>MainD Γ P δ a c
 turn:=fun c ha hM h=>(any_turnD ha c (fun d=>by
  obtain ⟨a',b',ev,q1,q2,q3,_,q4⟩:=h (c.w.at d) (fun w hw=>hw.at d)
  exact ⟨a',b',ev,q1,fun e he=>(q2 e he).soft,q3,q4⟩) hM).mono fun c' ⟨a',r1,r2,_⟩=>⟨a',r1,r2⟩
abbrev Main (Γ:Nat→Prop) (P:Two) (a:Goroutine) (c:Conf):Prop:=(mainTeam Γ P).At 0 a c
end
structure Rdy (Γ:Nat→Prop)(P:Two):Prop where
 fit:Fit Γ P
 own:Fit Γ P.self
 block:∀ T:Team Γ P,Block T
section
variable {Γ:Nat→Prop} {P:Two} {Fin:Frame→World→Prop}
theorem re_drawn {u w:World}{t t':Nat→Question→Nat}{d d':Nat}(h:re u t d=re w t' d'):d=d'∧u.heap=w.heap∧u.os=w.os∧u.output=w.output:=by
 simp only[Go.Proofs.YtdianedehhecoaaGreatDoor.Co.re,World.mk.injEq]at h
 exact ⟨h.2.2.1,h.1,h.2.2.2.1,h.2.2.2.2⟩
theorem Gh.like {w u b:World}(h:Gh Γ u b)(h1:u.heap=w.heap)(h2:u.os=w.os)(h3:u.output=w.output):Gh Γ w b :=
 ⟨h.os.trans h2,h.output.trans h3,h1▸h.size,h1▸h.same,h1▸h.ghost,h1▸h.calm,h1▸h.grew⟩
theorem kin_still {α:Type}{s:Sem α}(hk:Kin Γ P s){w:World}{v:α}(h:∃ t d,s.run P.s (re w t d)=.ok v (re w t d))(b:World)(hg:Gh Γ w b) :
  ∃ b' es,s.runT P.g b #[]=(.ok v b',es)∧Gh Γ w b'∧(∀ e∈es,shuns Γ e)∧b'.tape=b.tape∧b'.drawn=b.drawn∧∀ j:Nat,Γ j→b'.heap[j]? = b.heap[j]?:=by
 obtain ⟨t,d,hr⟩:=h
 obtain ⟨k,r,ev,h1,_⟩:=hk w { b with tape:=t,drawn:=d } ⟨hg.os,hg.output,hg.size,hg.same,hg.ghost,hg.calm,hg.grew⟩ #[]
 have e1:=h1 t d (fun _ _ _=>rfl)
 rw[hr]at e1
 have hall:∀ t' d',s.run P.s (re w t' d')=.ok v (re w t' d'):=by
  cases r with
  | halt x u=>simp only[onW]at e1;cases e1
  | ok a u =>
   simp only[onW,Result.ok.injEq]at e1
   obtain ⟨rfl,e2⟩:=e1
   obtain ⟨hd,q1,q2,q3⟩:=re_drawn e2
   have hk0:k=0:=by omega
   subst hk0
   intro t' d'
   rw[h1 t' d' (fun i q hi=>by omega)]
   simp only[onW,Result.ok.injEq,true_and,Go.Proofs.YtdianedehhecoaaGreatDoor.Co.re,World.mk.injEq]
   exact ⟨q1.symm,rfl,q2.symm,q3.symm⟩
 obtain ⟨k2,r2,ev2,g1,g2⟩:=hk w b hg #[]
 have e3:=g1 b.tape b.drawn (fun _ _ _=>rfl)
 rw[hall]at e3
 cases r2 with
 | halt x u=>simp only[onW]at e3;cases e3
 | ok a u =>
  simp only[onW,Result.ok.injEq]at e3
  obtain ⟨rfl,e4⟩:=e3
  obtain ⟨hd,q1,q2,q3⟩:=re_drawn e4
  rcases g2 with g2|⟨⟨b',f1,f2,f3,f4,f5⟩,hs,_⟩
  ·exact g2.elim
  ·refine ⟨b',#[]++ev2,f1,f2.like q1.symm q2.symm q3.symm,fun e he=>hs e (by simpa using he),f3,by omega,f5⟩
theorem Team.one (T:Team Γ P){a a':Goroutine}(ha:a.status=.running){X:World→Prop}(c:Conf)(hM:T.At 0 a c)(h:∀ b,(∀ w,Gh Γ w c.w→Gh Γ w b)→∃ b' ev,stepG P.g T.main a b=.go a' b' ev∧(∀ e∈ev,shuns Γ e)∧(∀ j:Nat,Γ j→b'.heap[j]? = b.heap[j]?)∧X b') :
  Leads P.g c fun c'=>T.At 0 a' c'∧X c'.w :=
 (T.turn (δ':=0) (X:=fun g W=>g=a'∧X W) c ha hM (fun b hb=>by obtain ⟨b',ev,q1,q2,q3,q4⟩:=h b hb;exact ⟨a',b',ev,q1,fun e he=>.inl (q2 e he),deaf_shuns q2 0,q3,rfl,q4⟩)).mono fun c' ⟨g,r1,e,r2⟩=>⟨e▸r1,r2⟩
theorem leave_leads (T:Team Γ P){fr c0:Frame}{cs0:List Frame}{w:World}{v:Value}(hf:okF P fr)(h:∃ t d,fr.leaving P.s (re w t d) (.returned v)):∀ c:Conf,T.At 0 (G fr (c0 :: cs0)) c→Gh Γ w c.w →
  Leads P.g c fun c'=>T.At 0 (G (c0.finish v) cs0) c'∧Gh Γ w c'.w:=by
 intro c hM hg
 obtain ⟨t,d,hm,hd,hk,fn,hfn,hr⟩:=h
 have hfn2:P.g.funcs[fr.fn]? = some fn:=hf.same.symm.trans hfn
 refine T.one rfl c hM fun b hb=>?_
 obtain ⟨b',es,e1,e2,e3,_,_,e4⟩:=kin_still (Kin.results fn fr.tmps) ⟨t,d,hr⟩ b (hb w hg)
 refine ⟨b',Go.seen P.g fr.fn es++#[],?_,fun e he=>e3 e (ev_sub2 e he),e4,e2⟩
 unfold stepG G
 simp only[hm]
 unfold unwind
 rw[hd,hm]
 dsimp only
 rw[hfn2]
 dsimp only
 rw[e1]
 dsimp only
 unfold doReturn
 rw[hk]
 rfl
theorem calls_leads (T:Team Γ P)(hF:Rdy Γ P){f:FuncId}{args:Array Value}{w:World}{R:(Nat→Question→Nat)→Nat→Ending→World→Prop}(hs:P.fs[f]? = P.fg[f]?)
  (hR:∀ t d e w',R t d e w'→∃ v,e=.returned v)(hC:∀ t d,Calls P.s f args (re w t d) (R t d)){c0:Frame}{cs0:List Frame}:∀ c:Conf,T.At 0 (G (Frame.enter P.g f args .normal) (c0 :: cs0)) c→Gh Γ w c.w →
  Leads P.g c fun c'=>∃ v w',(∃ t d t' d',R t d (.returned v) (re w' t' d'))∧T.At 0 (G (c0.finish v) cs0) c'∧Gh Γ w' c'.w:=by
 intro c hM hg
 have hok:=enter_ok hF.fit f args .normal (.inl rfl) hs
 have ht:Tree P (fun fr w=>∃ t d,(∃ t0 d0 v,R t0 d0 (.returned v) (re w t d)∧fr.leaving P.s (re w t d) (.returned v))) (Frame.enter P.g f args .normal) [] w:=by
  refine tree_of_runs (Fin0:=fun fr w=>∃ t0 d0 v,R t0 d0 (.returned v) w∧fr.leaving P.s w (.returned v)) hF.own hg hok (fun x hx=>by cases hx) fun t d=>?_
  obtain ⟨e,w',fr',hr,hc,_,hl⟩:=hC t d [doom P]
  obtain ⟨v,rfl⟩:=hR _ _ _ _ hr
  obtain ⟨n,hn⟩:=hc
  exact ⟨n,fr',w',by rw[← enter_same f args .normal hs];exact hn,t,d,v,hr,hl⟩
 refine (tree_leads T hF.fit (hF.block T) (fun fr w ⟨_,_,_,_,_,_,hl⟩ ⟨ch,hp⟩=>by rw[hl.1]at hp;cases hp) (c0 :: cs0) ht c hM hg hok (fun x hx=>by cases hx)).trans fun c1 ⟨fr',w',r1,r2,⟨t,d,t0,d0,v,r3,r4⟩,r5⟩=>?_
 refine (leave_leads T r2 ⟨t,d,r4⟩ c1 r1 r5).mono fun c2 ⟨s1,s2⟩=>⟨v,w',⟨t0,d0,t,d,r3⟩,s1,s2⟩
end
end Go.Proofs.YtdianedehhecoaaGreatDoor.Co
/- The walk beside leavers: pieces of code, calls. The small world is what is walked in; the ghosts may grow. -/
namespace Go.Proofs.YtdianedehhecoaaGreatDoor.Co
variable [Loops]
open Go.Conc (G)
section
variable {P:Two}
def Stands (P:Two)(fr:Frame)(cs:List Frame)(w:World)(c:Conf):Prop:=∃ Γ,Main Γ P (G fr cs) c∧Gh Γ w c.w∧okF P fr
theorem Stands.ok {fr:Frame}{cs:List Frame}{w:World}{c:Conf}(h:Stands P fr cs w c):okF P fr:=h.elim fun _ x=>x.2.2
def ArrB (P:Two)(b:Frame)(k:List Item)(cs:List Frame):Exit→Act→World→Conf→Prop
 | .normal,a,w,c=>Stands P (b.at a k) cs w c
 | .exit id,a,w,c=>∀ k',exitTo id k=some k'→Stands P (b.at a k') cs w c
 | .ret,a,w,c=>∃ todo,Stands P { b.at a todo with mode:=.returning } cs w c
 | _,_,_,_=>False
def WB (P:Two)(x:Code)(Q:Exit→Act→World→Prop)(a:Act)(w:World):Prop :=
 ∀ (b:Frame) (k:List Item) (cs:List Frame) (c:Conf),Stands P (b.at a (.code x :: k)) cs w c→Leads P.g c fun c'=>∃ e a' w',Q e a' w'∧ArrB P b k cs e a' w' c'
def CB (P:Two)(f:FuncId)(args:Array Value)(w:World)(R:Value→World→Prop):Prop :=
 ∀ (c0:Frame) (cs0:List Frame) (c:Conf),okF P c0→(∃ Γ,Main Γ P (G (Frame.enter P.g f args .normal) (c0 :: cs0)) c∧Gh Γ w c.w)→Leads P.g c fun c'=>∃ v w',R v w'∧Stands P (c0.finish v) cs0 w' c'
theorem CB.mono {f:FuncId}{args:Array Value}{w:World}{R R':Value→World→Prop}(h:CB P f args w R)(hr:∀ v w',R v w'→R' v w'):CB P f args w R' :=
 fun c0 cs0 c h0 hM=>(h c0 cs0 c h0 hM).mono fun c' ⟨v,w',q,s⟩=>⟨v,w',hr _ _ q,s⟩
theorem CB.of_calls (hF:∀ Γ,Rdy Γ P){f:FuncId}{args:Array Value}{w:World}{R:(Nat→Question→Nat)→Nat→Ending→World→Prop}(hs:P.fs[f]? = P.fg[f]?)
  (hR:∀ t d e w',R t d e w'→∃ v,e=.returned v)(hC:∀ t d,Calls P.s f args (re w t d) (R t d)):CB P f args w fun v w'=>∃ t d t' d',R t d (.returned v) (re w' t' d'):=by
 rintro c0 cs0 c h0 ⟨Γ,hM,hg⟩
 exact (calls_leads (mainTeam Γ P) (hF Γ) hs hR hC c hM hg).mono fun c' ⟨v,w',q1,q2,q3⟩=>⟨v,w',q1,Γ,q2,q3,okF_finish' h0 v⟩
theorem WB.mono {x:Code}{Q Q':Exit→Act→World→Prop}{a:Act}{w:World}(h:WB P x Q a w)(hq:∀ e a w,Q e a w→Q' e a w):WB P x Q' a w :=
 fun b k cs c hs=>(h b k cs c hs).mono fun c' ⟨e,a',w',q,s⟩=>⟨e,a',w',hq _ _ _ q,s⟩
theorem Stands.step {fr fr':Frame}{cs:List Frame}{w:World}{c:Conf}(h:Stands P fr cs w c)(hst:∀ W,stepG P.g true (G fr cs) W=.go (G fr' cs) W)(hok:okF P fr'):Leads P.g c (Stands P fr' cs w):=by
 obtain ⟨Γ,hM,hg,_⟩:=h
 exact ((mainTeam Γ P).one (X:=fun W=>Gh Γ w W) rfl c hM (fun b hb=>⟨b,#[],hst _,fun e he=>by simp at he,fun _ _=>rfl,hb w hg⟩)).mono fun c' ⟨q1,q2⟩=>⟨Γ,q1,q2,hok⟩
theorem okF_at {b:Frame}{a:Act}{k k':List Item}(h:okF P (b.at a k))(hk:∀ i∈k',okItem P.g i=true):okF P (b.at a k'):=⟨h.same,hk,h.defers,h.round,h.kind,fun ch e=>by cases e⟩
theorem WB.of_wp (hF:∀ Γ,Rdy Γ P){x:Code}{Q:Exit→Act→World→Prop}{a:Act}{w:World}(hQ:∀ e a w,Q e a w→e=.normal∨e=.ret∨∃ id,e=.exit id)(h:∀ t d,x.wp P.s Q a (re w t d)) :
  WB P x (fun e a' w'=>∃ t d,Q e a' (re w' t d)) a w:=by
 classical
 rintro b k cs c ⟨Γ,hM,hg,hok⟩
 by_cases hv:∃ e a' w',Q e a' w'∧∃ id,e=.exit id∧exitTo id k=none
 ·obtain ⟨e,a',w',q,id,rfl,hx⟩:=hv
  exact Leads.refl ⟨.exit id,a',w',⟨w'.tape,w'.drawn,q⟩,fun k' hk'=>by rw[hx]at hk';cases hk'⟩
 ·have ht:Tree P (fun fr w=>∃ t d,(∃ e a',Q e a' (re w t d)∧((e=.normal∧fr=b.at a' k)∨(∃ id k',e=.exit id∧exitTo id k=some k'∧fr=b.at a' k')∨(e=.ret∧∃ todo,fr={ b.at a' todo with mode:=.returning })))) (b.at a (.code x :: k)) [] w:=by
   refine tree_of_runs (Fin0:=fun fr w=>∃ e a',Q e a' w∧((e=.normal∧fr=b.at a' k)∨(∃ id k',e=.exit id∧exitTo id k=some k'∧fr=b.at a' k')∨(e=.ret∧∃ todo,fr={ b.at a' todo with mode:=.returning }))) (hF Γ).own hg hok (fun y hy=>by cases hy) fun t d=>?_
   obtain ⟨e,a',w',q,harr⟩:=h t d b k [doom P]
   rcases hQ e a' w' q with rfl|rfl|⟨id,rfl⟩
   ·obtain ⟨n,hn⟩:=harr
    exact ⟨n,_,w',hn,.normal,a',q,.inl ⟨rfl,rfl⟩⟩
   ·obtain ⟨todo,n,hn⟩:=harr
    exact ⟨n,_,w',hn,.ret,a',q,.inr (.inr ⟨rfl,todo,rfl⟩)⟩
   ·cases hx:exitTo id k with
    | none=>exact absurd ⟨_,a',w',q,id,rfl,hx⟩ hv
    | some k' =>
     obtain ⟨n,hn⟩:=harr k' hx
     exact ⟨n,_,w',hn,.exit id,a',q,.inr (.inl ⟨id,k',rfl,hx,rfl⟩)⟩
  refine (tree_leads (mainTeam Γ P) (hF Γ).fit ((hF Γ).block _) (fun fr w ⟨_,_,_,_,_,hx⟩ ⟨ch,hp⟩=>by rcases hx with ⟨_,rfl⟩|⟨_,_,_,_,rfl⟩|⟨_,_,rfl⟩<;>cases hp) cs ht c hM hg hok (fun y hy=>by cases hy)).mono ?_
  rintro c' ⟨fr',w',r1,r2,⟨t,d,e,a',q,hx⟩,r5⟩
  rcases hx with ⟨rfl,rfl⟩|⟨id,k',rfl,hx,rfl⟩|⟨rfl,todo,rfl⟩
  ·exact ⟨.normal,a',w',⟨t,d,q⟩,Γ,r1,r5,r2⟩
  ·refine ⟨.exit id,a',w',⟨t,d,q⟩,fun k2 hk2=>?_⟩
   rw[hx]at hk2
   cases hk2
   exact ⟨Γ,r1,r5,r2⟩
  ·exact ⟨.ret,a',w',⟨t,d,q⟩,todo,Γ,r1,r5,r2⟩
theorem WB.seq {x y:Code}{Q:Exit→Act→World→Prop}{a:Act}{w:World}(h:WB P x (Exit.then (WB P y Q) Q) a w):WB P (.seq x y) Q a w:=by
 intro b k cs c hs
 have hok:=hs.ok
 have hxy:=hok.todo (.code (.seq x y)) (by simp[Frame.at])
 simp only[okItem,okC,Bool.and_eq_true]at hxy
 have hk:∀ i∈k,okItem P.g i=true:=fun i hi=>hok.todo i (by simp[Frame.at,hi])
 have ok1:okF P (b.at a (.code x :: .code y :: k)):=okF_at hok fun i hi=>by
  rcases List.mem_cons.1 hi with rfl|hi
  ·exact hxy.1
  ·rcases List.mem_cons.1 hi with rfl|hi
   ·exact hxy.2
   ·exact hk i hi
 refine (hs.step (fun W=>Go.Conc.stepG_seq) ok1).trans fun c1 hs1=>?_
 refine (h b (.code y :: k) cs c1 hs1).trans ?_
 rintro c2 ⟨e,a',w',q,harr⟩
 cases e with
 | normal=>exact q b k cs c2 harr
 | exit id=>exact Leads.refl ⟨.exit id,a',w',q,fun k' hk'=>harr k' (by simpa [exitTo] using hk')⟩
 | ret=>exact Leads.refl ⟨.ret,a',w',q,harr⟩
 | goto l=>exact harr.elim
 | panic ch=>exact harr.elim
 | outgrown=>exact harr.elim
theorem WB.block {id:Nat}{x:Code}{Q:Exit→Act→World→Prop}{a:Act}{w:World}(h:WB P x (Exit.inBlock id Q) a w):WB P (.block id x) Q a w:=by
 intro b k cs c hs
 have hok:=hs.ok
 have hx:=hok.todo (.code (.block id x)) (by simp[Frame.at])
 have hk:∀ i∈k,okItem P.g i=true:=fun i hi=>hok.todo i (by simp[Frame.at,hi])
 have ok1:okF P (b.at a (.code x :: .inBlock id :: k)):=okF_at hok fun i hi=>by
  rcases List.mem_cons.1 hi with rfl|hi
  ·exact hx
  ·rcases List.mem_cons.1 hi with rfl|hi
   ·rfl
   ·exact hk i hi
 refine (hs.step (fun W=>Go.Conc.stepG_block) ok1).trans fun c1 hs1=>?_
 refine (h b (.inBlock id :: k) cs c1 hs1).trans ?_
 rintro c2 ⟨e,a',w',q,harr⟩
 cases e with
 | normal=>exact (Stands.step (fr':=b.at a' k) harr (fun W=>Go.Conc.stepG_inBlock) (okF_at (Stands.ok harr) hk)).mono fun c3 h3=>⟨.normal,a',w',q,h3⟩
 | exit id' =>
  by_cases hid:id'=id
  ·subst hid
   simp only[Exit.inBlock,if_true]at q
   exact Leads.refl ⟨.normal,a',w',q,harr k (by simp[exitTo])⟩
  ·simp only[Exit.inBlock,hid,if_false]at q
   refine Leads.refl ⟨.exit id',a',w',q,fun k' hk'=>harr k' ?_⟩
   have:(id == id')=false:=by simp;exact fun h=>hid h.symm
   simp[exitTo,this,hk']
 | ret=>exact Leads.refl ⟨.ret,a',w',q,harr⟩
 | goto l=>exact harr.elim
 | panic ch=>exact harr.elim
 | outgrown=>exact harr.elim
theorem WB.cond {o:Operand}{x y:Code}{t:Bool}{Q:Exit→Act→World→Prop}{a:Act}{w:World}(ho:a.eval o=.bool t)(h:WB P (if t then x else y) Q a w):WB P (.cond o x y) Q a w:=by
 intro b k cs c hs
 have hok:=hs.ok
 have hxy:=hok.todo (.code (.cond o x y)) (by simp[Frame.at])
 simp only[okItem,okC,Bool.and_eq_true]at hxy
 have hk:∀ i∈k,okItem P.g i=true:=fun i hi=>hok.todo i (by simp[Frame.at,hi])
 have ok1:okF P (b.at a (.code (if t then x else y) :: k)):=okF_at hok fun i hi=>by
  rcases List.mem_cons.1 hi with rfl|hi
  ·cases t
   ·exact hxy.2
   ·exact hxy.1
  ·exact hk i hi
 exact (hs.step (fun W=>Go.Conc.stepG_cond ho) ok1).trans fun c1 hs1=>h b k cs c1 hs1
theorem WB.loop {x:Code}{Q:Exit→Act→World→Prop}{a:Act}{w:World}(I:Act→World→Prop) (μ:Act→World→Nat)(h0:I a w)
  (round:∀ a w,I a w→WB P x (Exit.then (fun a' w'=>I a' w'∧μ a' w'<μ a w) Q) a w):WB P (.loop x) Q a w:=by
 intro b k cs c hs
 have hok:=hs.ok
 have hx:=hok.todo (.code (.loop x)) (by simp[Frame.at])
 have hk:∀ i∈k,okItem P.g i=true:=fun i hi=>hok.todo i (by simp[Frame.at,hi])
 have hk2:∀ i∈Item.code x :: Item.inLoop x :: k,okItem P.g i=true:=fun i hi=>by
  rcases List.mem_cons.1 hi with rfl|hi
  ·exact hx
  ·rcases List.mem_cons.1 hi with rfl|hi
   ·exact hx
   ·exact hk i hi
 have key:∀ n a w,μ a w=n→I a w→∀ c,Stands P (b.at a (.code x :: .inLoop x :: k)) cs w c→Leads P.g c fun c'=>∃ e a' w',Q e a' w'∧ArrB P b k cs e a' w' c':=by
  intro n
  induction n using Nat.strongRecOn with
  | _ n ih =>
   intro a w hn hI c hs
   refine (round a w hI b (.inLoop x :: k) cs c hs).trans ?_
   rintro c2 ⟨e,a',w',q,harr⟩
   cases e with
   | normal =>
    obtain ⟨hI',hlt⟩:=q
    have harr:Stands P (b.at a' (.inLoop x :: k)) cs w' c2:=harr
    exact (harr.step (fr':=b.at a' (.code x :: .inLoop x :: k)) (fun W=>Go.Conc.stepG_inLoop) (okF_at harr.ok hk2)).trans fun c3 h3=>ih (μ a' w') (hn▸hlt) a' w' rfl hI' c3 h3
   | exit id=>exact Leads.refl ⟨.exit id,a',w',q,fun k' hk'=>harr k' (by simpa [exitTo] using hk')⟩
   | ret=>exact Leads.refl ⟨.ret,a',w',q,harr⟩
   | goto l=>exact harr.elim
   | panic ch=>exact harr.elim
   | outgrown=>exact harr.elim
 exact (hs.step (fun W=>Go.Conc.stepG_loop) (okF_at hok hk2)).trans fun c1 hs1=>key _ a w rfl h0 c1 hs1
end
end Go.Proofs.YtdianedehhecoaaGreatDoor.Co
/- The walk beside leavers, on: a function by its body; a region that holds a call that goes. -/
namespace Go.Proofs.YtdianedehhecoaaGreatDoor.Co
variable [Loops]
open Go.Conc (G base enter_at stepG_enter run_call_body events_call_body seen_none listed stepG_value stepG_none)
section
variable {P:Two}
theorem CB.of_WB (hF:∀ Γ,Rdy Γ P){f:FuncId}{fn:Func}{x:Code}{args:Array Value}{w:World}{R:Value→World→Prop}(hfn:P.fg[f]? = some fn)(hs:P.fs[f]? = P.fg[f]?)(hb:fn.body=some x)
  (h:WB P x (fun e a w=>(e=.normal∨e=.ret)∧a.defers=[]∧∃ v,(∃ t d,(results fn a.tmps).run P.s (re w t d)=.ok v (re w t d))∧R v w) { tmps:=args++Array.replicate (fn.ntmps-args.size) undef,defers:=[] } w):CB P f args w R:=by
 rintro c0 cs0 c h0 ⟨Γ,hM,hg⟩
 have hok:=enter_ok (hF Γ).fit f args .normal (.inl rfl) hs
 rw[enter_at args (show P.g.funcs[f]? = some fn from hfn) hb]at hM hok
 refine (h (base f) [] (c0 :: cs0) c ⟨Γ,hM,hg,hok⟩).trans ?_
 rintro c1 ⟨e,a',w',⟨he,hd,v,⟨t,d,hr⟩,hR⟩,harr⟩
 have key:∀ todo c1,Stands P { (base f).at a' todo with mode:=.returning } (c0 :: cs0) w' c1→Leads P.g c1 fun c'=>∃ v w',R v w'∧Stands P (c0.finish v) cs0 w' c':=by
  rintro todo c1 ⟨Γ1,m1,g1,ok1⟩
  have hl:∃ t d,({ (base f).at a' todo with mode:=.returning }:Frame).leaving P.s (re w' t d) (.returned v):=⟨t,d,rfl,hd,rfl,fn,hs.trans hfn,hr⟩
  exact (leave_leads (mainTeam Γ1 P) ok1 hl c1 m1 g1).mono fun c2 ⟨s1,s2⟩=>⟨v,w',hR,Γ1,s1,s2,okF_finish' h0 v⟩
 rcases he with rfl|rfl
 ·have harr:Stands P ((base f).at a' []) (c0 :: cs0) w' c1:=harr
  exact (harr.step (fr':={ (base f).at a' [] with mode:=.returning }) (fun W=>Go.Conc.stepG_end) (okF_ret harr.ok)).trans fun c2 h2=>key [] c2 h2
 ·obtain ⟨todo,h2⟩:=harr
  exact key todo c1 h2
theorem pre_ops {p:Program}{ops:Array Oper}{K:Act→World→Prop}{b:Frame}(hk:b.kind≠.early){k:List Item}{cs:List Frame}{rest:List Nat}:∀ (pre:List Nat)(a:Act)(w:World),wpOps p ops (fun e a w=>e=.normal∧K a w) pre a w →
  ∃ a' w',K a' w'∧Steps p (lone (b.at a (.inRegion ops (pre++rest) :: k)) cs w) (lone (b.at a' (.inRegion ops rest :: k)) cs w'):=by
 intro pre
 induction pre with
 | nil=>intro a w h;exact ⟨a,w,h.2,.refl _ _⟩
 | cons i pre ih =>
  intro a w h
  rw[List.cons_append]
  rw[wpOps_cons]at h
  unfold wpOp at h
  have hskip:((ops[i]?).map (Region.wanted · (yielded ops a.tmps))).getD false=false→wpOps p ops (fun e a w=>e=.normal∧K a w) pre (a.put ((ops[i]?).bind (·.dst)) undef) w→∃ a' w',K a' w'∧Steps p (lone (b.at a (.inRegion ops (i :: (pre++rest)) :: k)) cs w) (lone (b.at a' (.inRegion ops rest :: k)) cs w'):=fun hw hh=>by
   obtain ⟨a',w',q,hs⟩:=ih _ _ hh
   exact ⟨a',w',q,.head (step_op_skip hw) hs⟩
  cases ho:ops[i]? with
  | none =>
   rw[ho]at h
   refine hskip (by rw[ho];rfl) ?_
   rw[ho];exact h
  | some o =>
   rw[ho]at h
   dsimp only at h
   split at h
   ·rename_i hw
    rcases h with h|⟨_,a0,w0,hno,_⟩
    ·unfold Oper.wp at h
     cases hr:(execOp a.eval o).run p w with
     | halt x w1 =>
      rw[hr]at h
      cases x<;>simp only[Oper.upon]at h
      cases h.1
     | ok n w1 =>
      rw[hr]at h
      cases n<;>simp only[Oper.upon]at h
      case value v =>
       obtain ⟨a',w',q,hs⟩:=ih _ _ h
       exact ⟨a',w',q,.head (step_lone_go (by show (stepG p true (G _ _) _).bare=_;rw[stepG_value ho hw hk hr];rfl)) hs⟩
      case skip =>
       obtain ⟨a',w',q,hs⟩:=ih _ _ h
       exact ⟨a',w',q,.head (step_lone_go (by show (stepG p true (G _ _) _).bare=_;rw[stepG_none ho hw hk hr];rfl)) hs⟩
      case enter f args =>
       obtain ⟨e,w2,fr,hR,hc,_,hl⟩:=h (b.at a (.inRegion ops (i :: (pre++rest)) :: k) :: cs)
       cases e with
       | panicked ch=>exact absurd hR.1 (by simp)
       | outgrown=>obtain ⟨a0,w0,h0,_⟩:=hR;cases h0
       | returned v =>
        obtain ⟨a',w',q,hs⟩:=ih _ _ hR
        refine ⟨a',w',q,.head (step_lone_go (by show (stepG p true (G _ _) _).bare=_;rw[stepG_enter ho hw hk hr];rfl)) (Steps.trans hc (.head (step_leave_returned hl) ?_))⟩
        rw[Frame.finish_at,ho]
        exact hs
      case defer d =>
       obtain ⟨a',w',q,hs⟩:=ih _ _ h
       refine ⟨a',w',q,.head (step_lone_go ?_) hs⟩
       have e:=Frame.finish_at b { a with defers:=d :: a.defers } ops i (pre++rest) k undef
       rw[ho]at e
       show (stepG p true (G _ _) _).bare=_
       rw[Go.Conc.stepG_oper ho hw]
       obtain ⟨ev,_,e2⟩:=apply_defer (fr:=b.at a (.inRegion ops (i :: (pre++rest)) :: k)) (cs:=cs) (runT_of hr)
       rw[e2]
       exact congrArg (fun fr=>GStep.go (G fr cs) w1) e
      case row r v =>
       obtain ⟨u,w2,hR,hc⟩:=h (b.at a (.inRegion ops (i :: (pre++rest)) :: k)) cs
       obtain ⟨a',w',q,hs⟩:=ih _ _ hR
       refine ⟨a',w',q,.head (step_lone_go (fr':=Frame.ofRow p r v .normal) (cs':=b.at a (.inRegion ops (i :: (pre++rest)) :: k) :: cs) (w':=w1) ?_) (Steps.trans hc ?_)⟩
       ·show (stepG p true (G _ _) _).bare=_
        rw[Go.Conc.stepG_oper ho hw]
        simp[stepG.apply,hr,Frame.at]
       ·rw[Frame.finish_at,ho];exact hs
    ·cases hno
   ·rename_i hw
    refine hskip (by rw[ho];simpa using hw) ?_
    rw[ho];exact h
def WR (P:Two)(ops:Array Oper)(is:List Nat)(Q:Exit→Act→World→Prop)(a:Act)(w:World):Prop :=
 ∀ (b:Frame) (k:List Item) (cs:List Frame) (c:Conf),Stands P (b.at a (.inRegion ops is :: k)) cs w c→Leads P.g c fun c'=>∃ e a' w',Q e a' w'∧ArrB P b k cs e a' w' c'
theorem WR.nil {ops:Array Oper}{Q:Exit→Act→World→Prop}{a:Act}{w:World}(h:Q .normal a w):WR P ops [] Q a w:=by
 intro b k cs c hs
 have hok:=hs.ok
 exact (hs.step (fr':=b.at a k) (fun W=>Go.Conc.stepG_region_end) (okF_at hok fun i hi=>hok.todo i (by simp[Frame.at,hi]))).mono fun c1 h1=>⟨.normal,a,w,h,h1⟩
theorem WR.pre (hF:∀ Γ,Rdy Γ P){ops:Array Oper}{pre rest:List Nat}{Q:Exit→Act→World→Prop}{K:Act→World→Prop}{a:Act}{w:World}(h:∀ t d,wpOps P.s ops (fun e a w=>e=.normal∧K a w) pre a (re w t d))
  (hK:∀ a' w',(∃ t d,K a' (re w' t d))→WR P ops rest Q a' w'):WR P ops (pre++rest) Q a w:=by
 rintro b k cs c ⟨Γ,hM,hg,hok⟩
 have hke:b.kind≠.early:=by
  have:=hok.kind
  intro e
  rcases this with h|h<;>(simp only[Frame.at,e]at h;cases h)
 have ht:Tree P (fun fr w=>∃ t d,∃ a',K a' (re w t d)∧fr=b.at a' (.inRegion ops rest :: k)) (b.at a (.inRegion ops (pre++rest) :: k)) [] w:=by
  refine tree_of_runs (Fin0:=fun fr w=>∃ a',K a' w∧fr=b.at a' (.inRegion ops rest :: k)) (hF Γ).own hg hok (fun y hy=>by cases hy) fun t d=>?_
  obtain ⟨a',w',q,n,hn⟩:=pre_ops (b:=b) (k:=k) (cs:=[doom P]) (rest:=rest) hke pre a (re w t d) (h t d)
  exact ⟨n,_,w',hn,a',q,rfl⟩
 refine (tree_leads (mainTeam Γ P) (hF Γ).fit ((hF Γ).block _) (fun fr w ⟨_,_,_,_,hx⟩ ⟨ch,hp⟩=>by rw[hx]at hp;cases hp) cs ht c hM hg hok (fun y hy=>by cases hy)).trans ?_
 rintro c1 ⟨fr',w',r1,r2,⟨t,d,a',q,rfl⟩,r5⟩
 exact hK a' w' ⟨t,d,q⟩ b k cs c1 ⟨Γ,r1,r5,r2⟩
theorem WR.call {ops:Array Oper}{j:Nat}{rest:List Nat}{o:Oper}{f:FuncId}{fn:Func}{xs:Array Operand}{ats:Array TypeId}{Q:Exit→Act→World→Prop}{a:Act}{w:World}(ho:ops[j]? = some o)(hop:o.op=.call { callee:=.value (.func f),args:=xs,argTypes:=ats })
    (hgd : o.guard = none) (hfn : P.fg[f]? = some fn) (hnm : (fn.name == "runtime.NumGoroutine") = false) (hb : fn.body.isNone = false)
    (h:CB P f (xs.map a.eval) w fun v w'=>WR P ops rest Q (a.put o.dst v) w'):WR P ops (j :: rest) Q a w:=by
  rintro b k cs c ⟨Γ,hM,hg,hok⟩
  have hke:b.kind≠.early:=by
    have:=hok.kind
    intro e
    rcases this with h|h<;>(simp only[Frame.at,e]at h;cases h)
  have hw:Region.wanted o (yielded ops a.tmps)=true:=by unfold Region.wanted;rw[hgd]
  have hst:∀ W,stepG P.g true (G (b.at a (.inRegion ops (j :: rest) :: k)) cs) W=.go (G (Frame.enter P.g f (xs.map a.eval) .normal) (b.at a (.inRegion ops (j :: rest) :: k) :: cs)) W:=fun W=>by
    rw[stepG_enter ho hw hke (run_call_body hop (show P.g.funcs[f]? = some fn from hfn) hnm hb)]
    have:listed P.g b.fn a o W=#[]:=by unfold listed;rw[events_call_body hop (show P.g.funcs[f]? = some fn from hfn) hnm hb];exact seen_none _ _
    rw[this]
  refine ((mainTeam Γ P).one (X:=fun W=>Gh Γ w W) rfl c hM (fun b hb=>⟨b,#[],hst _,fun e he=>by simp at he,fun _ _=>rfl,hb w hg⟩)).trans fun c1 ⟨m1,g1⟩=>?_
  refine (h _ cs c1 hok ⟨Γ,m1,g1⟩).trans ?_
  rintro c2 ⟨v,w',hwr,hs⟩
  rw[Frame.finish_at,ho]at hs
  exact hwr b k cs c2 hs
theorem WB.region {id:Nat}{ops:Array Oper}{Q:Exit→Act→World→Prop}{a:Act}{w:World}(h:WR P ops (List.range ops.size) Q a w):WB P (.region id ops false) Q a w:=by
 intro b k cs c hs
 have hok:=hs.ok
 have hx:=hok.todo (.code (.region id ops false)) (by simp[Frame.at])
 refine (hs.step (fr':=b.at a (.inRegion ops (List.range ops.size) :: k)) (fun W=>Go.Conc.stepG_region) (okF_at hok fun i hi=>?_)).trans fun c1 h1=>h b k cs c1 h1
 rcases List.mem_cons.1 hi with rfl|hi
 ·exact hx
 ·exact hok.todo i (by simp[Frame.at,hi])
theorem WB.draw (hF:∀ Γ,Rdy Γ P){id:Nat}{ops:Array Oper}{Q:Exit→Act→World→Prop}{a:Act}{w:World}(h:∀ t,WR P ops (Region.schedule (P.g.follows .mixedOrders) ops t) Q a w):WB P (.region id ops true) Q a w:=by
 rintro b k cs c ⟨Γ,hM,hg,hok⟩
 have ht:Tree P (fun fr w1=>∃ t d,(∃ t,fr=b.at a (.inRegion ops (Region.schedule (P.g.follows .mixedOrders) ops t) :: k))∧(re w1 t d).heap=w.heap∧(re w1 t d).os=w.os∧(re w1 t d).output=w.output) (b.at a (.code (.region id ops true) :: k)) [] w:=by
  refine tree_of_runs (Fin0:=fun fr w1=>(∃ t,fr=b.at a (.inRegion ops (Region.schedule (P.g.follows .mixedOrders) ops t) :: k))∧w1.heap=w.heap∧w1.os=w.os∧w1.output=w.output) (hF Γ).own hg hok (fun y hy=>by cases hy) fun t d=>?_
  obtain ⟨n,hn⟩:=Steps.one (step_region_draw (P:=P.s) (b:=b) (a:=a) (k:=k) (cs:=[doom P]) (w:=re w t d) (id:=id) (ops:=ops))
  exact ⟨n,_,_,hn,⟨_,rfl⟩,rfl,rfl,rfl⟩
 refine (tree_leads (mainTeam Γ P) (hF Γ).fit ((hF Γ).block _) (fun fr w ⟨_,_,⟨_,hx⟩,_⟩ ⟨ch,hp⟩=>by rw[hx]at hp;cases hp) cs ht c hM hg hok (fun y hy=>by cases hy)).trans ?_
 rintro c1 ⟨fr',w',r1,r2,⟨_,_,⟨t,rfl⟩,e1,e2,e3⟩,r5⟩
 exact h t b k cs c1 ⟨Γ,r1,r5.like e1 e2 e3,r2⟩
end
end Go.Proofs.YtdianedehhecoaaGreatDoor.Co