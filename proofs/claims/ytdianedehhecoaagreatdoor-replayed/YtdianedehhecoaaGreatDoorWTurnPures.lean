/- What is paid for units; a turn more: for Dues. No walk. -/
import Derived.Test.YtdianedehhecoaaGreatDoorWRefPure
import Derived.Test.YtdianedehhecoaaGreatDoorWWireReads
set_option linter.unusedVariables false
set_option linter.unusedSimpArgs false
namespace Go.Proofs.YtdianedehhecoaaGreatDoor
open Go.RowKit
theorem play_snoc (S:RS)(css:List (List RC))(cs:List RC):playF S (css++[cs])=(playF S css).bind fun S'=>if overB S' then none else some (doF S' cs):=by
 induction css generalizing S with
 | nil=>simp[playF]
 | cons c css ih =>
  simp only[List.cons_append,playF]
  split
  ·rfl
  ·exact ih _
theorem byt_left (s t:ByteArray)(i:Nat)(h:i<s.size):byt (s++t) i=byt s i:=by
 unfold byt
 have h':i<s.data.toList.length:=h
 simp only[ByteArray.data_append,Array.toList_append,List.getD]
 rw[List.getElem?_append_left h']
theorem byt_right (s t:ByteArray)(i:Nat):byt (s++t) (s.size+i)=byt t i:=by
 unfold byt
 have h':s.size=s.data.toList.length:=rfl
 simp only[ByteArray.data_append,Array.toList_append,List.getD]
 rw[h',List.getElem?_append_right (by omega)]
 rw[show s.data.toList.length+i-s.data.toList.length=i by omega]
theorem cmds_left (s t:ByteArray)(a n:Nat)(h:a+5*n≤s.size):cmdsAt (s++t) a n=cmdsAt s a n:=by
 induction n with
 | zero=>rfl
 | succ n ih =>
  simp only[cmdsAt,cmdAt]
  rw[ih (by omega),byt_left _ _ _ (by omega),byt_left _ _ _ (by omega),byt_left _ _ _ (by omega),byt_left _ _ _ (by omega),byt_left _ _ _ (by omega)]
theorem cmds_right (s t:ByteArray)(a n:Nat):cmdsAt (s++t) (s.size+a) n=cmdsAt t a n:=by
 induction n with
 | zero=>rfl
 | succ n ih =>
  simp only[cmdsAt,cmdAt]
  rw[ih]
  simp only[Nat.add_assoc,byt_right]
theorem read_snoc (s t:ByteArray)(n:Nat)(hn:n≤36)(ht:t.size=1+5*n)(hb:byt t 0=n)(fuel a left:Nat)(css:List (List RC))(ha:a≤s.size)(h:readF s fuel a left=some css)(hl:css.length<left)(fuel':Nat)(hf:fuel+1≤fuel') :
  readF (s++t) fuel' a left=some (css++[cmdsAt t 1 n]):=by
 have hsz:(s++t).size=s.size+t.size:=ByteArray.size_append
 induction fuel generalizing a left css fuel' with
 | zero=>simp[readF]at h
 | succ fuel ih =>
  obtain ⟨f',rfl⟩:∃ f',fuel'=f'+1:=⟨fuel' - 1,by omega⟩
  simp only[readF]at h ⊢
  by_cases c:a<s.size
  ·rw[if_pos c]at h
   rw[if_pos (by omega),byt_left _ _ _ c]
   by_cases d:36<(byt s a).toNat∨s.size<a+1+5*(byt s a).toNat∨left=0
   ·rw[if_pos d]at h;cases h
   ·rw[if_neg d]at h
    rw[if_neg (by omega)]
    obtain ⟨l,h1,rfl⟩:=Option.map_eq_some_iff.1 h
    have:=ih (a+1+5*(byt s a).toNat) (left-1) l (by omega) h1 (by simp at hl;omega) f' (by omega)
    rw[this]
    simp only[Option.map_some,List.cons_append]
    rw[cmds_left _ _ _ _ (by omega)]
  ·rw[if_neg c]at h
   have hcss:css=[]:=by cases h;rfl
   subst hcss
   have has:a=s.size:=by omega
   subst has
   have e0:byt (s++t) s.size=n:=by have:=byt_right s t 0;rw[Nat.add_zero]at this;rw[this,hb]
   have e1:((n:Int)).toNat=n:=by omega
   simp only[List.length_nil]at hl
   rw[if_pos (by omega),e0,e1,if_neg (by omega),cmds_right]
   obtain ⟨g,rfl⟩:∃ g,f'=g+1:=⟨f' - 1,by omega⟩
   simp only[readF]
   rw[if_neg (by omega)]
   rfl
theorem turns_snoc (s t:ByteArray)(n:Nat)(hn:n≤36)(ht:t.size=1+5*n)(hb:byt t 0=n)(css:List (List RC))(h:turnsF s=some css)(hl:css.length<1000) :
  turnsF (s++t)=some (css++[cmdsAt t 1 n]):=by
 unfold turnsF at *
 have hsz:(s++t).size=s.size+t.size:=ByteArray.size_append
 exact read_snoc s t n hn ht hb _ 0 1000 css (Nat.zero_le _) h hl _ (by omega)
end Go.Proofs.YtdianedehhecoaaGreatDoor
/- The bytes of turns: written, read again, cut. Nothing of the program. -/
namespace Go.Proofs.YtdianedehhecoaaGreatDoor
open Go.RowKit
def joinB (ts:List ByteArray):ByteArray:=⟨(ts.flatMap (·.data.toList)).toArray⟩
def sealS (cs:List RC):ByteArray:=strOfNums (turnN cs)
def turnsB (T:List (List RC)):ByteArray:=joinB (T.map sealS)
theorem joinB_nil:joinB []=⟨#[]⟩:=rfl
theorem joinB_append (a b:List ByteArray):joinB (a++b)=joinB a++joinB b:=by
 unfold joinB
 rw[List.flatMap_append]
 apply ByteArray.ext
 simp[ByteArray.data_append]
theorem joinB_one (t:ByteArray):joinB [t]=t:=by
 unfold joinB
 simp
theorem turnsB_append (a b:List (List RC)):turnsB (a++b)=turnsB a++turnsB b:=by
 unfold turnsB
 rw[List.map_append,joinB_append]
theorem turnsB_one (cs:List RC):turnsB [cs]=sealS cs:=joinB_one _
theorem cmdN_five (c:RC):(cmdN c).length=5:=rfl
theorem cmds_len (cs:List RC):(cs.flatMap cmdN).length=5*cs.length:=by
 induction cs with
 | nil=>rfl
 | cons c cs ih =>
  rw[List.flatMap_cons,List.length_append,ih,cmdN_five,List.length_cons]
  omega
theorem sealS_size (cs:List RC):(sealS cs).size=1+5*cs.length:=by
 unfold sealS turnN
 rw[strOfNums_size,List.length_append,cmds_len]
 rfl
theorem byt_nums (xs:List Int)(i:Nat)(v:Int)(h:xs[i]? = some v)(h0:0≤v)(h1:v≤255):byt (strOfNums xs) i=v:=by
 unfold byt
 rw[strOfNums_data]
 simp only[List.getD,List.getElem?_map,h,Option.map_some,Option.getD_some]
 have e:(UInt8.ofNat v.toNat).toNat=v.toNat:=by
  rw[UInt8.toNat_ofNat']
  omega
 rw[e]
 omega
theorem sealS_first (cs:List RC)(h:cs.length≤255):byt (sealS cs) 0=cs.length:=by
 refine byt_nums _ 0 _ ?_ (by omega) (by omega)
 unfold turnN
 simp only[List.map_cons,List.map_nil,List.singleton_append,List.getElem?_cons_zero]
 unfold low
 congr 1
 omega
theorem cmds_get (cs:List RC)(k j:Nat)(c:RC)(v:Int)(hk:cs[k]? = some c)(hj:(cmdN c)[j]? = some v):(cs.flatMap cmdN)[5*k+j]? = some v:=by
 induction cs generalizing k with
 | nil=>simp at hk
 | cons d cs ih =>
  have hj5:j<5:=(List.getElem?_eq_some_iff.1 hj).1
  cases k with
  | zero =>
   simp only[List.getElem?_cons_zero,Option.some.injEq]at hk
   subst hk
   rw[List.flatMap_cons,List.getElem?_append_left (by rw[cmdN_five];omega)]
   simpa using hj
  | succ k =>
   rw[List.getElem?_cons_succ]at hk
   rw[List.flatMap_cons,List.getElem?_append_right (by rw[cmdN_five];omega),cmdN_five,show 5*(k+1)+j-5=5*k+j by omega]
   exact ih k hk
theorem sealS_cmd (cs:List RC)(k:Nat)(c:RC)(hk:cs[k]? = some c)(hc:c.ok):cmdAt (sealS cs) (1+5*k)=c:=by
 have key:∀ j v,(cmdN c)[j]? = some v→0≤v→v≤255→byt (sealS cs) (1+5*k+j)=v:=fun j v hj h0 h1=>by
  refine byt_nums _ _ _ ?_ h0 h1
  unfold turnN
  rw[List.getElem?_append_right (by simp;omega)]
  simp only[List.map_cons,List.map_nil,List.length_singleton]
  rw[show 1+5*k+j-1=5*k+j by omega]
  exact cmds_get cs k j c v hk hj
 obtain ⟨a1,a2,a3,a4,a5,a6,a7,a8,a9,a10⟩:=hc
 have lw:∀ x:Int,0≤x→x≤255→low x=x:=fun x h0 h1=>by unfold low;omega
 unfold cmdAt
 have e0:=key 0 c.p (by simp[cmdN,lw _ a1 a2]) a1 a2
 have e1:=key 1 c.un (by simp[cmdN,lw _ a3 a4]) a3 a4
 have e2:=key 2 c.wh (by simp[cmdN,lw _ a5 a6]) a5 a6
 have e3:=key 3 c.x (by simp[cmdN,lw _ a7 a8]) a7 a8
 have e4:=key 4 c.y (by simp[cmdN,lw _ a9 a10]) a9 a10
 rw[Nat.add_zero]at e0
 rw[e0,e1,e2,e3,e4]
theorem sealS_cmds (cs:List RC)(h:∀ c,c∈cs→c.ok):∀ n,n≤cs.length→cmdsAt (sealS cs) 1 n=cs.take n:=by
 intro n
 induction n with
 | zero=>intro _;rfl
 | succ n ih =>
  intro hn
  have hk:cs[n]? = some cs[n]:=List.getElem?_eq_getElem (by omega)
  simp only[cmdsAt]
  rw[ih (by omega),sealS_cmd cs n cs[n] hk (h _ (List.getElem_mem _)),List.take_succ_eq_append_getElem (by omega)]
def TOk (T:List (List RC)):Prop:=∀ cs,cs∈T→cs.length≤36∧∀ c,c∈cs→c.ok
theorem turns_read (T:List (List RC))(h:TOk T)(hl:T.length≤1000):turnsF (turnsB T)=some T:=by
 have key:∀ n,n≤T.length→turnsF (turnsB (T.take n))=some (T.take n):=by
  intro n
  induction n with
  | zero=>intro _;rfl
  | succ n ih =>
   intro hn
   have hm:T[n]∈T:=List.getElem_mem _
   have h1:=h _ hm
   rw[List.take_succ_eq_append_getElem (by omega),turnsB_append,turnsB_one]
   rw[turns_snoc _ _ T[n].length h1.1 (sealS_size _) (sealS_first _ (by omega)) _ (ih (by omega)) (by simp;omega),sealS_cmds _ h1.2 _ (Nat.le_refl _),List.take_length]
 have:=key T.length (Nat.le_refl _)
 rwa [List.take_length]at this
def behindT (S:RS)(T:List (List RC)):RS:=T.foldl doF S
theorem behind_snoc (S:RS)(T:List (List RC))(cs:List RC):behindT S (T++[cs])=doF (behindT S T) cs:=by simp [behindT]
theorem play_behind (S:RS)(T:List (List RC))(h:∀ k,k<T.length→overB (behindT S (T.take k))=false):playF S T=some (behindT S T):=by
 have key:∀ n,n≤T.length→playF S (T.take n)=some (behindT S (T.take n)):=by
  intro n
  induction n with
  | zero=>intro _;rfl
  | succ n ih =>
   intro hn
   rw[List.take_succ_eq_append_getElem (by omega),play_snoc,ih (by omega),behind_snoc]
   simp[h n (by omega)]
 have:=key T.length (Nat.le_refl _)
 rwa [List.take_length]at this
theorem behind_turn (S:RS)(T:List (List RC)):(behindT S T).turn=S.turn+T.length:=by
 induction T generalizing S with
 | nil=>simp[behindT]
 | cons c T ih =>
  show (behindT (doF S c) T).turn=_
  rw[ih,(doF_turn S c).1,List.length_cons]
  push_cast
  omega
theorem turnsB_size_le (T:List (List RC))(h:TOk T):(turnsB T).size≤181*T.length:=by
 induction T with
 | nil=>simp[turnsB,joinB,ByteArray.size]
 | cons c T ih =>
  have h1:=(h c (by simp)).1
  have h2:=ih fun d hd=>h d (by simp[hd])
  rw[show c :: T=[c]++T from rfl,turnsB_append,ByteArray.size_append,turnsB_one,sealS_size,List.length_append]
  simp only[List.length_singleton]
  omega
end Go.Proofs.YtdianedehhecoaaGreatDoor