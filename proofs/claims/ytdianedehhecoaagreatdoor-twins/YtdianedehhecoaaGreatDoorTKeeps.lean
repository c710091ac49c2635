/- Small functions of the statements without the document's answer: pick, bytes, worth. -/
import Derived.Test.YtdianedehhecoaaGreatDoorTRefPure
import Derived.ChangeOld
import Derived.ChangeSlices
import Derived.SizedLaws
import Derived.DataShut
import Derived.Orders
import Derived.Tactics2
set_option linter.unusedVariables false
set_option linter.unusedSimpArgs false
set_option maxHeartbeats 1000000
namespace Go.Proofs.YtdianedehhecoaaGreatDoor
open Go.RowKit
def pickF (c n:Int):Int:=(if c<0 then -(c+1) else c) % n
theorem pickF_range (c n:Int)(hn:0<n):0≤pickF c n∧pickF c n<n:=by
 unfold pickF
 exact ⟨Int.emod_nonneg _ (by omega),Int.emod_lt_of_pos _ hn⟩
theorem kpick_any (c n:Int)(w:World)(h0:-9223372036854775808≤c)(h1:c≤9223372036854775807)(hn:0<n)(hn2:n≤1099511627776) :
  Calls Pz.prog 25 #[.int .i64 c,.int .i64 n] w fun e w'=>e=.returned (.int .i64 (pickF c n))∧w'=w:=by
 by_cases hc:c<0
 ·have HP:Hid (pickF c n=-(c+1) % n):=by unfold Hid pickF;rw[if_pos hc]
  have hne:n≠0:=by omega
  have ht:Int.tmod (-(c+1)) n=-(c+1) % n:=Int.tmod_eq_emod_of_nonneg (by omega)
  have hr0:0≤-(c+1) % n:=Int.emod_nonneg _ hne
  have hr1:-(c+1) % n<n:=Int.emod_lt_of_pos _ hn
  go_enter Pz.func25,Tryz.ntmps25
  go_wp2
  go_ret
  exact ⟨by rw[HP.out];rfl,rfl⟩
 ·have HP:Hid (pickF c n=c % n):=by unfold Hid pickF;rw[if_neg hc]
  have hne:n≠0:=by omega
  have ht:Int.tmod c n=c % n:=Int.tmod_eq_emod_of_nonneg (by omega)
  have hr0:0≤c % n:=Int.emod_nonneg _ hne
  have hr1:c % n<n:=Int.emod_lt_of_pos _ hn
  go_enter Pz.func25,Tryz.ntmps25
  go_wp2
  go_ret
  exact ⟨by rw[HP.out];rfl,rfl⟩
def bytesK (p c:Int):ByteArray:=strOfNums [p,1+pickF c 1099511627776 % 10,1+pickF c 1099511627776 / 10 % 5,pickF c 1099511627776 / 50 % 8,pickF c 1099511627776 / 400 % 8]
theorem mayB_of (seed:Int)(P:Nat)(s0:0≤seed)(s1:seed≤999)(p2:2≤P)(p4:P≤4):mayB seed P=true:=by
 unfold mayB
 rw[decide_eq_true_eq]
 omega
theorem fold_ok {seed:Int}{P:Nat}{s:ByteArray}{css:List (List RC)}{S:RS}(hm:mayB seed P=true)(ht:turnsF s=some css)(hp:playF (startTo seed P) css=some S):foldF seed P s=(bytesF S,hash16 (bytesF S),0):=by
 unfold foldF
 rw[if_neg (by rw[hm];simp),ht]
 simp only
 rw[show ((P:Int)).toNat=P by omega,hp]
end Go.Proofs.YtdianedehhecoaaGreatDoor
/- A list of numbers that comes in, opened. -/
namespace Go.Proofs.YtdianedehhecoaaGreatDoor
open Go.ChangeShapes Go.WideShapes Go.RowKit
def NArg (w:World)(v:Value)(L:List Int):Prop :=
 ∃ a cap,v=.slice a L.length cap∧∀ k,k<L.length→∃ g o,a=some ⟨g,o,none⟩∧g<w.heap.size∧w.cell? ⟨g,o+k,none⟩=some (.int .i64 (L.getD k 0))∧-9223372036854775808≤L.getD k 0∧L.getD k 0≤9223372036854775807
theorem addr_none2 {w:World}{a:Addr}{v:Value}(h:w.cell? a=some v):a=⟨a.block,a.off,none⟩:=by
 have:=World.cell?_spot h
 cases a
 simp at this
 subst this
 rfl
theorem add_none2 (g o i:Nat):(⟨g,o,none⟩:Addr).add i=⟨g,o+i,none⟩:=by
 unfold Addr.add
 split
 ·subst_vars;rfl
 ·rfl
section
variable {H:Type} {enc:TypeId × Value→H} {P:Program} {w:World} {base:Nat} {spare:Nat→Bool} {held:Bool}
theorem nums_open {t e:TypeId}{fuel:Nat}{a0:Option Addr}{l0 c0:Nat}{x:DataW H × List MemPlace}(ht:P.underlying t=some (.slice e))(he:P.underlying e=some (.int .i64))(hc:P.cellsOf e=1)(hb:P.bytesOf e=8)
  (h:DataW.trod enc P w base spare held fuel t [.slice a0 l0 c0]=some x)(hz:∀ n∈x.1.weights P t,n≤reachBytes):∃ L,NArg w (.slice a0 l0 c0) L∧L.length≤140737488351232:=by
 rcases open_ints ht he hc h with ⟨hcs,hx⟩|⟨a,len,cap,zs,hcs,hbb,hl,hm,hzl,hx,hcell,hwf⟩
 ·simp at hcs
  obtain ⟨rfl,rfl,rfl⟩:=hcs
  exact ⟨[],⟨none,0,rfl,fun k hk=>by simp at hk⟩,by simp⟩
 ·simp at hcs
  obtain ⟨rfl,rfl,rfl⟩:=hcs
  have hlz:l0≤zs.length:=by rw[hzl];split<;>omega
  have hlen:(zs.take l0).length=l0:=by rw[List.length_take];omega
  refine ⟨zs.take l0,⟨some a,c0,by rw[hlen],fun k hk=>?_⟩,?_⟩
  ·rw[hlen]at hk
   have h0:=hcell 0 (by omega)
   rw[show a.add 0=a from rfl]at h0
   have ea:=addr_none2 h0
   have hk1:=hcell k (by omega)
   have eg:(zs.take l0).getD k 0=zs.getD k 0:=by simp[List.getD,List.getElem?_take,hk]
   have hmem:zs.getD k 0∈zs:=by
    have:zs.getD k 0=zs[k]'(by omega):=by simp[List.getD,show k<zs.length by omega]
    rw[this]
    exact List.getElem_mem _
   have hr:=(Lit.wf_int_iff .i64 _).1 (hwf _ hmem)
   rw[ea,add_none2]at hk1
   refine ⟨a.block,a.off,congrArg some ea,World.block_lt_of_cell? w _ h0,?_,?_⟩
   ·rw[eg];exact hk1
   ·rw[eg];exact hr
  ·have:=hz ((lits (H:=H) IntKind.i64 (zs.take l0)).length*8+(lits (H:=H) IntKind.i64 (zs.drop l0)).length*8) (by
    rw[hx,DataW.weights,ht]
    simp only[hb,Nat.add_mul,List.mem_cons,true_or])
   simp only[lits,List.length_map]at this
   have e:reachBytes=140737488351232:=rfl
   omega
end
end Go.Proofs.YtdianedehhecoaaGreatDoor
/- Code that is walked alone up to a piece at which we stop; a region that draws its order, up to its last operations. -/
namespace Go.Proofs.YtdianedehhecoaaGreatDoor
section
variable {p:Program} {x y z rest:Code} {Q Q':Act→World→Prop} {a:Act} {w:World}
def after:Nat→Code→Code
 | n+1,.seq _ y=>after n y
 | _,c=>c
theorem tmps_lit {n:Nat}{tm:Array Value}(h:tm.size=n):tm=((List.range n).map fun i=>tm.getD i undef).toArray:=by
 apply Array.ext
 ·simp[h]
 ·intro i h1 h2
  simp[Array.getD,h1]
end
section
variable {P:Program} {md:Region.Mode} {ops:Array Oper} {K:Act→World→Prop} {last:Array Bool}
def wpUp (P:Program)(md:Region.Mode)(ops:Array Oper)(K:Act→World→Prop):Nat→Array Bool→Act→World→Prop
 | 0,listed,a,w=>K a w
 | fuel+1,listed,a,w=>Region.ready md ops listed≠[]∧∀ i∈Region.ready md ops listed,wpOp P ops (fun e a w=>e=.normal∧K a w) i (wpUp P md ops K fuel (listed.setIfInBounds i true)) a w
def endsUp (md:Region.Mode)(ops:Array Oper)(last:Array Bool):Nat→Array Bool→Bool
 | 0,listed=>listed == last
 | fuel+1,listed=>!(Region.ready md ops listed).isEmpty && (Region.ready md ops listed).all fun i=>endsUp md ops last fuel (listed.setIfInBounds i true)
theorem go_pick {fuel t:Nat}{listed:Array Bool}(hne:Region.ready md ops listed≠[]):∃ i,i∈Region.ready md ops listed∧∀ fuel,Region.linearise.go md ops (fuel+1) t listed []=i :: Region.linearise.go md ops fuel (t / (Region.ready md ops listed).length) (listed.setIfInBounds i true) []:=by
 have hpos:0<(Region.ready md ops listed).length:=List.length_pos_iff.2 hne
 have hlt:=Nat.mod_lt t hpos
 refine ⟨_,List.getElem_mem hlt,fun fuel=>?_⟩
 have h1:Region.linearise.go md ops (fuel+1) t listed []=(match (Region.ready md ops listed)[t % (Region.ready md ops listed).length]? with
   | some i=>Region.linearise.go md ops fuel (t / (Region.ready md ops listed).length) (listed.setIfInBounds i true) [i]
   | none=>[].reverse):=rfl
 rw[List.getElem?_eq_getElem hlt]at h1
 rw[h1]
 simp only[]
 rw[linearise_go_acc,List.reverse_singleton,List.singleton_append]
theorem wpUp_sound:∀ (fuel t:Nat)(listed:Array Bool)(a:Act)(w:World),wpUp P md ops K fuel listed a w→wpOps P ops (fun e a w=>e=.normal∧K a w) (Region.linearise.go md ops fuel t listed []) a w:=by
 intro fuel
 induction fuel with
 | zero=>intro t listed a w h;exact ⟨rfl,h⟩
 | succ fuel ih =>
  intro t listed a w ⟨hne,hi⟩
  obtain ⟨i,hm,e⟩:=go_pick (fuel:=fuel) (t:=t) hne
  rw[e fuel,wpOps_cons]
  exact wpOp_mono (fun a w=>ih _ _ a w) (hi i hm)
theorem go_split:∀ (fuel t more:Nat)(listed:Array Bool),endsUp md ops last fuel listed=true→∃ t',Region.linearise.go md ops (fuel+more) t listed []=Region.linearise.go md ops fuel t listed []++Region.linearise.go md ops more t' last []:=by
 intro fuel
 induction fuel with
 | zero =>
  intro t more listed h
  have h:listed=last:=by simpa [endsUp] using h
  subst h
  exact ⟨t,by rw[Nat.zero_add];rfl⟩
 | succ fuel ih =>
  intro t more listed h
  simp only[endsUp,Bool.and_eq_true,Bool.not_eq_true',List.isEmpty_eq_false_iff,List.all_eq_true]at h
  obtain ⟨i,hm,e⟩:=go_pick (fuel:=fuel) (t:=t) h.1
  rw[show fuel+1+more=fuel+more+1 by omega,e (fuel+more),e fuel]
  obtain ⟨t',e2⟩:=ih (t / (Region.ready md ops listed).length) more _ (h.2 i hm)
  exact ⟨t',by rw[e2,List.cons_append]⟩
theorem go_one {fuel t i:Nat}{listed:Array Bool}(h:Region.ready md ops listed=[i]):∃ t',Region.linearise.go md ops (fuel+1) t listed []=i :: Region.linearise.go md ops fuel t' (listed.setIfInBounds i true) []:=by
 obtain ⟨j,hm,e⟩:=go_pick (md:=md) (ops:=ops) (fuel:=fuel) (t:=t) (listed:=listed) (by rw[h];simp)
 rw[h]at hm
 have:j=i:=by simpa using hm
 subst this
 exact ⟨_,e fuel⟩
end
end Go.Proofs.YtdianedehhecoaaGreatDoor
/- A region that draws its order, whose operations but the last two yield the same in whatever order. Nothing of the program. -/
namespace Go.Proofs.YtdianedehhecoaaGreatDoor
open Go.RowKit
def cntTo (L:Nat→Bool):Nat→Nat
 | 0=>0
 | m+1=>cntTo L m+if L m then 1 else 0
theorem cnt_le (L:Nat→Bool)(m:Nat):cntTo L m≤m:=by
 induction m with
 | zero=>exact Nat.le_refl _
 | succ m ih=>simp only[cntTo];split<;>omega
theorem cnt_all (L:Nat→Bool)(m:Nat)(h:cntTo L m=m):∀ i,i<m→L i=true:=by
 induction m with
 | zero=>intro i hi;omega
 | succ m ih =>
  have:=cnt_le L m
  simp only[cntTo]at h
  intro i hi
  by_cases e:L m=true
  ·rw[if_pos e]at h
   by_cases e2:i=m
   ·rw[e2];exact e
   ·exact ih (by omega) i (by omega)
  ·rw[if_neg e]at h
   omega
theorem cnt_full (L:Nat→Bool)(m:Nat)(h:∀ i,i<m→L i=true):cntTo L m=m:=by
 induction m with
 | zero=>rfl
 | succ m ih=>simp only[cntTo];rw[ih fun i hi=>h i (by omega),if_pos (h m (by omega))]
theorem cnt_set (L L':Nat→Bool)(i m:Nat)(h1:L i=false)(h2:L' i=true)(h3:∀ j,j≠i→L' j=L j):cntTo L' m=cntTo L m+if i<m then 1 else 0:=by
 induction m with
 | zero=>simp[cntTo]
 | succ m ih =>
  simp only[cntTo]
  rw[ih]
  by_cases e:m=i
  ·subst e
   simp[h1,h2]
  ·rw[h3 m e]
   by_cases e2:i<m
   ·have e3:i<m+1:=by omega
    simp only[if_pos e2,if_pos e3]
    omega
   ·have e3:¬ i<m+1:=by omega
    simp only[if_neg e2,if_neg e3]
    omega
def Edge (md:Region.Mode)(ops:Array Oper)(j i:Nat):Prop:=∃ o,ops[j]? = some o∧∃ e,e∈o.after∧Region.binds md e=true∧e.on=i
structure Chk (md:Region.Mode)(ops:Array Oper)(n:Nat):Prop where
 size:ops.size=n+2
 up:∀ i,i<n→∃ j,i<j∧j≤n∧Edge md ops j i
 low:∀ j i,Edge md ops j i→i<j
 tail:Edge md ops (n+1) n
def edgeB (md:Region.Mode)(ops:Array Oper)(j i:Nat):Bool:=match ops[j]? with
 | some o=>o.after.toList.any fun e=>Region.binds md e && e.on == i
 | none=>false
theorem edgeB_iff (md:Region.Mode)(ops:Array Oper)(j i:Nat):edgeB md ops j i=true↔Edge md ops j i:=by
 unfold edgeB Edge
 cases h:ops[j]? with
 | none=>simp
 | some o =>
  simp only[List.any_eq_true,Bool.and_eq_true,beq_iff_eq,Option.some.injEq,exists_eq_left']
  constructor
  ·rintro ⟨e,he,hb,ho⟩
   exact ⟨e,by simpa using he,hb,ho⟩
  ·rintro ⟨e,he,hb,ho⟩
   exact ⟨e,by simpa using he,hb,ho⟩
def chkB (md:Region.Mode)(ops:Array Oper)(n:Nat)(up:Nat→Nat):Bool :=
 ops.size == n+2 && (List.range n).all (fun i=>decide (i<up i) && decide (up i≤n) && edgeB md ops (up i) i) && (List.range ops.size).all (fun j=>match ops[j]? with|some o=>o.after.toList.all fun e=>!Region.binds md e || decide (e.on<j)|none=>true) && edgeB md ops (n+1) n
theorem chk_of {md:Region.Mode}{ops:Array Oper}{n:Nat}{up:Nat→Nat}(h:chkB md ops n up=true):Chk md ops n:=by
 simp only[chkB,Bool.and_eq_true,beq_iff_eq,List.all_eq_true,List.mem_range,decide_eq_true_eq]at h
 obtain ⟨⟨⟨h1,h2⟩,h3⟩,h4⟩:=h
 refine ⟨h1,fun i hi=>⟨up i,(h2 i hi).1.1,(h2 i hi).1.2,(edgeB_iff _ _ _ _).1 (h2 i hi).2⟩,?_,(edgeB_iff _ _ _ _).1 h4⟩
 rintro j i ⟨o,ho,e,he,hb,rfl⟩
 have hj:j<ops.size:=(Array.getElem?_eq_some_iff.1 ho).1
 have:=h3 j hj
 rw[ho]at this
 simp only[List.all_eq_true]at this
 have:=this e (by simpa using he)
 simpa [hb] using this
structure Done (md:Region.Mode)(ops:Array Oper)(n k:Nat)(l:Array Bool):Prop where
 size:l.size=n+2
 cnt:cntTo (fun i=>l.getD i false) n=k
 lt:∀ j,l.getD j false=true→j<n
 down:∀ j i,l.getD j false=true→Edge md ops j i→l.getD i false=true
section
variable {md:Region.Mode} {ops:Array Oper} {n k:Nat} {l:Array Bool}
theorem Done.start (hC:Chk md ops n):Done md ops n 0 (Array.replicate ops.size false):=by
 have h0:∀ i,(Array.replicate ops.size false).getD i false=false:=fun i=>by
  simp only[Array.getD]
  split<;>simp
 refine ⟨by simp[hC.size],?_,fun j hj=>(by rw[h0]at hj;cases hj),fun j i hj=>(by rw[h0]at hj;cases hj)⟩
 have:∀ m,cntTo (fun i=>(Array.replicate ops.size false).getD i false) m=0:=fun m=>by
  induction m with
  | zero=>rfl
  | succ m ih =>
   have e:=h0 m
   simp only[cntTo,ih,e,if_false,Bool.false_eq_true]
 exact this n
theorem ready_deps {j:Nat}(hj:j∈Region.ready md ops l){i:Nat}(he:Edge md ops j i):l.getD i false=true:=by
 obtain ⟨_,o,ho,h⟩:=mem_ready.1 hj
 obtain ⟨o',ho',e,hm,hb,rfl⟩:=he
 rw[ho]at ho'
 cases ho'
 exact h e hm hb
theorem Done.ready_lt (h:Done md ops n k l)(hC:Chk md ops n)(hk:k<n):∀ j,j∈Region.ready md ops l→j<n:=by
 intro j hj
 have hjs:j<ops.size:=by
  obtain ⟨_,o,ho,_⟩:=mem_ready.1 hj
  exact (Array.getElem?_eq_some_iff.1 ho).1
 rw[hC.size]at hjs
 rcases Nat.lt_or_ge j n with x|x
 ·exact x
 ·exfalso
  have hn:l.getD n false=false:=by
   cases e:l.getD n false
   ·rfl
   ·have:=h.lt n e;omega
  by_cases e:j=n
  ·subst e
   have all:∀ m i,j-i=m→i<j→l.getD i false=true:=by
    intro m
    induction m using Nat.strongRecOn with
    | _ m ih =>
     intro i hm hi
     obtain ⟨q,h1,h2,h3⟩:=hC.up i hi
     by_cases eq:q=j
     ·subst eq
      exact ready_deps hj h3
     ·exact h.down q i (ih (j-q) (by omega) q rfl (by omega)) h3
   have:=cnt_full (fun i=>l.getD i false) j fun i hi=>all _ i rfl hi
   have:=h.cnt
   omega
  ·have e2:j=n+1:=by omega
   subst e2
   rw[ready_deps hj hC.tail]at hn
   cases hn
theorem Done.ready_ne (h:Done md ops n k l)(hC:Chk md ops n)(hk:k<n):Region.ready md ops l≠[]:=by
 have ex:∃ i,i<n∧l.getD i false=false:=by
  apply Classical.byContradiction
  intro hn
  have:=cnt_full (fun i=>l.getD i false) n fun i hi=>by
   cases e:l.getD i false
   ·exact absurd ⟨i,hi,e⟩ hn
   ·rfl
  have:=h.cnt
  omega
 have least:∃ i,i<n∧l.getD i false=false∧∀ j,j<i→l.getD j false=true:=by
  obtain ⟨i,hi,e⟩:=ex
  induction i using Nat.strongRecOn with
  | _ i ih =>
   by_cases hx:∃ j,j<i∧l.getD j false=false
   ·obtain ⟨j,h1,h2⟩:=hx
    exact ih j h1 (by omega) h2
   ·refine ⟨i,hi,e,fun j hj=>?_⟩
    cases e2:l.getD j false
    ·exact absurd ⟨j,hj,e2⟩ hx
    ·rfl
 obtain ⟨i,hi,e,hl⟩:=least
 have:i∈Region.ready md ops l:=by
  have ho:ops[i]? = some ops[i]!:=by
   have:i<ops.size:=by rw[hC.size];omega
   simp[this]
  refine mem_ready.2 ⟨?_,_,ho,fun ed he hb=>hl _ (hC.low i _ ⟨_,ho,ed,he,hb,rfl⟩)⟩
  have hs:i<l.size:=by rw[h.size];omega
  simp only[Array.getD,hs,dif_pos]at e ⊢
  exact e
 intro hx
 rw[hx]at this
 cases this
theorem Done.step (h:Done md ops n k l)(hC:Chk md ops n){i:Nat}(hi:i∈Region.ready md ops l)(hn:i<n):Done md ops n (k+1) (l.setIfInBounds i true):=by
 have hs:i<l.size:=by rw[h.size];omega
 have h0:l.getD i false=false:=by
  have:=(mem_ready.1 hi).1
  simp only[Array.getD,hs,dif_pos]at this ⊢
  exact this
 have h1:(l.setIfInBounds i true).getD i false=true:=by simp[Array.getD,hs]
 have h2:∀ j,j≠i→(l.setIfInBounds i true).getD j false=l.getD j false:=fun j hj=>getD_set_ne false (Ne.symm hj)
 refine ⟨by simp[h.size],?_,fun j hj=>?_,fun j q hj he=>?_⟩
 ·rw[cnt_set (fun j=>l.getD j false) (fun j=>(l.setIfInBounds i true).getD j false) i n h0 h1 h2,h.cnt,if_pos hn]
 ·by_cases e:j=i
  ·omega
  ·rw[h2 j e]at hj;exact h.lt j hj
 ·by_cases e:j=i
  ·subst e
   exact getD_set_true (ready_deps hi he)
  ·rw[h2 j e]at hj
   exact getD_set_true (h.down j q hj he)
def lastL (n:Nat):Array Bool:=Array.replicate n true++#[false,false]
theorem Done.all (h:Done md ops n n l):l=lastL n:=by
 apply Array.ext
 ·simp[lastL,h.size]
 ·intro i h1 h2
  have hl:l[i]=l.getD i false:=by simp[Array.getD,h1]
  rw[hl]
  by_cases e:i<n
  ·rw[cnt_all _ n h.cnt i e]
   simp[lastL,Array.getElem_append,e]
  ·have e0:l.getD i false=false:=by
    cases e2:l.getD i false
    ·rfl
    ·have:=h.lt i e2;omega
   rw[e0]
   have hi:i=n∨i=n+1:=by rw[h.size]at h1;omega
   rcases hi with rfl|rfl<;>simp[lastL,Array.getElem_append]
theorem ends_of (hC:Chk md ops n):endsUp md ops (lastL n) n (Array.replicate ops.size false)=true:=by
 have key:∀ fuel k l,k+fuel=n→Done md ops n k l→endsUp md ops (lastL n) fuel l=true:=by
  intro fuel
  induction fuel with
  | zero =>
   intro k l hk h
   have:k=n:=by omega
   subst this
   simp only[endsUp,h.all,beq_self_eq_true]
  | succ fuel ih =>
   intro k l hk h
   simp only[endsUp,Bool.and_eq_true,Bool.not_eq_true',List.isEmpty_eq_false_iff,List.all_eq_true]
   exact ⟨h.ready_ne hC (by omega),fun i hi=>ih (k+1) _ (by omega) (h.step hC hi (h.ready_lt hC (by omega) i hi))⟩
 exact key n 0 _ (by omega) (Done.start hC)
end
end Go.Proofs.YtdianedehhecoaaGreatDoor