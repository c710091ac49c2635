/- What is paid for units; a turn more: for Dues. No walk. -/
import Derived.Test.YtdianedehhecoaaGreatDoorVWireReads
set_option linter.unusedVariables false
set_option linter.unusedSimpArgs false
namespace Go.Proofs.YtdianedehhecoaaGreatDoor
open Go.RowKit
theorem byt_left (s t:ByteArray)(i:Nat)(h:i<s.size):byt (s++t) i=byt s i:=by
 unfold byt
 have h':i<s.data.toList.length:=h
 simp only[ByteArray.data_append,Array.toList_append,List.getD]
 rw[List.getElem?_append_left h']
theorem byt_right (s t:ByteArray)(i:Nat):byt (s++t) (s.size+i)=byt t i:=by
 unfold byt
 have h':s.size=s.data.toList.length:=rfl
 simp only[ByteArray.data_append,Array.toList_append,List.getD]
 rw[h',List.getElem?_append_right (by omega)]
 rw[show s.data.toList.length+i-s.data.toList.length=i by omega]
end Go.Proofs.YtdianedehhecoaaGreatDoor
/- The bytes of turns: written, read again, cut. Nothing of the program. -/
namespace Go.Proofs.YtdianedehhecoaaGreatDoor
open Go.RowKit
def joinB (ts:List ByteArray):ByteArray:=⟨(ts.flatMap (·.data.toList)).toArray⟩
def sealS (cs:List RC):ByteArray:=strOfNums (turnN cs)
def turnsB (T:List (List RC)):ByteArray:=joinB (T.map sealS)
theorem joinB_nil:joinB []=⟨#[]⟩:=rfl
theorem joinB_append (a b:List ByteArray):joinB (a++b)=joinB a++joinB b:=by
 unfold joinB
 rw[List.flatMap_append]
 apply ByteArray.ext
 simp[ByteArray.data_append]
theorem joinB_one (t:ByteArray):joinB [t]=t:=by
 unfold joinB
 simp
theorem turnsB_append (a b:List (List RC)):turnsB (a++b)=turnsB a++turnsB b:=by
 unfold turnsB
 rw[List.map_append,joinB_append]
theorem turnsB_one (cs:List RC):turnsB [cs]=sealS cs:=joinB_one _
theorem cmdN_five (c:RC):(cmdN c).length=5:=rfl
theorem cmds_len (cs:List RC):(cs.flatMap cmdN).length=5*cs.length:=by
 induction cs with
 | nil=>rfl
 | cons c cs ih =>
  rw[List.flatMap_cons,List.length_append,ih,cmdN_five,List.length_cons]
  omega
theorem sealS_size (cs:List RC):(sealS cs).size=1+5*cs.length:=by
 unfold sealS turnN
 rw[strOfNums_size,List.length_append,cmds_len]
 rfl
theorem byt_nums (xs:List Int)(i:Nat)(v:Int)(h:xs[i]? = some v)(h0:0≤v)(h1:v≤255):byt (strOfNums xs) i=v:=by
 unfold byt
 rw[strOfNums_data]
 simp only[List.getD,List.getElem?_map,h,Option.map_some,Option.getD_some]
 have e:(UInt8.ofNat v.toNat).toNat=v.toNat:=by
  rw[UInt8.toNat_ofNat']
  omega
 rw[e]
 omega
theorem sealS_first (cs:List RC)(h:cs.length≤255):byt (sealS cs) 0=cs.length:=by
 refine byt_nums _ 0 _ ?_ (by omega) (by omega)
 unfold turnN
 simp only[List.map_cons,List.map_nil,List.singleton_append,List.getElem?_cons_zero]
 unfold low
 congr 1
 omega
theorem cmds_get (cs:List RC)(k j:Nat)(c:RC)(v:Int)(hk:cs[k]? = some c)(hj:(cmdN c)[j]? = some v):(cs.flatMap cmdN)[5*k+j]? = some v:=by
 induction cs generalizing k with
 | nil=>simp at hk
 | cons d cs ih =>
  have hj5:j<5:=(List.getElem?_eq_some_iff.1 hj).1
  cases k with
  | zero =>
   simp only[List.getElem?_cons_zero,Option.some.injEq]at hk
   subst hk
   rw[List.flatMap_cons,List.getElem?_append_left (by rw[cmdN_five];omega)]
   simpa using hj
  | succ k =>
   rw[List.getElem?_cons_succ]at hk
   rw[List.flatMap_cons,List.getElem?_append_right (by rw[cmdN_five];omega),cmdN_five,show 5*(k+1)+j-5=5*k+j by omega]
   exact ih k hk
theorem sealS_cmd (cs:List RC)(k:Nat)(c:RC)(hk:cs[k]? = some c)(hc:c.ok):cmdAt (sealS cs) (1+5*k)=c:=by
 have key:∀ j v,(cmdN c)[j]? = some v→0≤v→v≤255→byt (sealS cs) (1+5*k+j)=v:=fun j v hj h0 h1=>by
  refine byt_nums _ _ _ ?_ h0 h1
  unfold turnN
  rw[List.getElem?_append_right (by simp;omega)]
  simp only[List.map_cons,List.map_nil,List.length_singleton]
  rw[show 1+5*k+j-1=5*k+j by omega]
  exact cmds_get cs k j c v hk hj
 obtain ⟨a1,a2,a3,a4,a5,a6,a7,a8,a9,a10⟩:=hc
 have lw:∀ x:Int,0≤x→x≤255→low x=x:=fun x h0 h1=>by unfold low;omega
 unfold cmdAt
 have e0:=key 0 c.p (by simp[cmdN,lw _ a1 a2]) a1 a2
 have e1:=key 1 c.un (by simp[cmdN,lw _ a3 a4]) a3 a4
 have e2:=key 2 c.wh (by simp[cmdN,lw _ a5 a6]) a5 a6
 have e3:=key 3 c.x (by simp[cmdN,lw _ a7 a8]) a7 a8
 have e4:=key 4 c.y (by simp[cmdN,lw _ a9 a10]) a9 a10
 rw[Nat.add_zero]at e0
 rw[e0,e1,e2,e3,e4]
def TOk (T:List (List RC)):Prop:=∀ cs,cs∈T→cs.length≤36∧∀ c,c∈cs→c.ok
def behindT (S:RS)(T:List (List RC)):RS:=T.foldl doF S
theorem behind_snoc (S:RS)(T:List (List RC))(cs:List RC):behindT S (T++[cs])=doF (behindT S T) cs:=by simp [behindT]
theorem behind_turn (S:RS)(T:List (List RC)):(behindT S T).turn=S.turn+T.length:=by
 induction T generalizing S with
 | nil=>simp[behindT]
 | cons c T ih =>
  show (behindT (doF S c) T).turn=_
  rw[ih,(doF_turn S c).1,List.length_cons]
  push_cast
  omega
theorem turnsB_size_le (T:List (List RC))(h:TOk T):(turnsB T).size≤181*T.length:=by
 induction T with
 | nil=>simp[turnsB,joinB,ByteArray.size]
 | cons c T ih =>
  have h1:=(h c (by simp)).1
  have h2:=ih fun d hd=>h d (by simp[hd])
  rw[show c :: T=[c]++T from rfl,turnsB_append,ByteArray.size_append,turnsB_one,sealS_size,List.length_append]
  simp only[List.length_singleton]
  omega
end Go.Proofs.YtdianedehhecoaaGreatDoor