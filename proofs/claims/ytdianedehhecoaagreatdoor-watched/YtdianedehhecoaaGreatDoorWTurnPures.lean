/- What is paid for units; a turn more: for Dues. No walk. -/
import Derived.Test.YtdianedehhecoaaGreatDoorWRefPure
import Derived.Test.YtdianedehhecoaaGreatDoorWWireReads
set_option linter.unusedVariables false
set_option linter.unusedSimpArgs false
namespace Go.Proofs.YtdianedehhecoaaGreatDoor
open Go.RowKit

theorem byt_left (s t:ByteArray)(i:Nat)(h:i<s.size):byt (s++t) i=byt s i:=by
 unfold byt
 have h':i<s.data.toList.length:=h
 simp only[ByteArray.data_append,Array.toList_append,List.getD]
 rw[List.getElem?_append_left h']
theorem byt_right (s t:ByteArray)(i:Nat):byt (s++t) (s.size+i)=byt t i:=by
 unfold byt
 have h':s.size=s.data.toList.length:=rfl
 simp only[ByteArray.data_append,Array.toList_append,List.getD]
 rw[h', List.getElem?_append_right (by omega)]
 rw[show s.data.toList.length+i-s.data.toList.length=i by omega]
end Go.Proofs.YtdianedehhecoaaGreatDoor

/- The bytes of turns: written, read again, cut. Nothing of the program. -/
namespace Go.Proofs.YtdianedehhecoaaGreatDoor
open Go.RowKit

def joinB (ts:List ByteArray):ByteArray:=⟨(ts.flatMap (·.data.toList)).toArray⟩
def sealS (cs:List RC):ByteArray:=strOfNums (turnN cs)
def turnsB (T:List (List RC)):ByteArray:=joinB (T.map sealS)
theorem joinB_nil:joinB []=⟨#[]⟩:=rfl
theorem joinB_append (a b:List ByteArray):joinB (a++b)=joinB a++joinB b:=by
 unfold joinB
 rw[List.flatMap_append]
 apply ByteArray.ext
 simp[ByteArray.data_append]
theorem joinB_one (t:ByteArray):joinB [t]=t:=by
 unfold joinB
 simp
theorem turnsB_append (a b:List (List RC)):turnsB (a++b)=turnsB a++turnsB b:=by
 unfold turnsB
 rw[List.map_append, joinB_append]
theorem turnsB_one (cs:List RC):turnsB [cs]=sealS cs:=joinB_one _
theorem cmdN_five (c:RC):(cmdN c).length=5:=rfl
theorem cmds_len (cs:List RC):(cs.flatMap cmdN).length=5*cs.length:=by
 induction cs with
 | nil=>rfl
 | cons c cs ih =>
  rw[List.flatMap_cons, List.length_append,ih,cmdN_five,List.length_cons]
  omega
theorem sealS_size (cs:List RC):(sealS cs).size=1+5*cs.length:=by
 unfold sealS turnN
 rw[strOfNums_size, List.length_append,cmds_len]
 rfl
theorem byt_nums (xs:List Int)(i:Nat)(v:Int)(h:xs[i]? = some v)(h0:0≤v)(h1:v≤255):byt (strOfNums xs) i=v:=by
 unfold byt
 rw[strOfNums_data]
 simp only[List.getD,List.getElem?_map,h,Option.map_some,Option.getD_some]
 have e:(UInt8.ofNat v.toNat).toNat=v.toNat:=by
  rw[UInt8.toNat_ofNat']
  omega
 rw[e]
 omega
theorem sealS_first (cs:List RC)(h:cs.length≤255):byt (sealS cs) 0=cs.length:=by
 refine byt_nums _ 0 _ ?_ (by omega) (by omega)
 unfold turnN
 simp only[List.map_cons,List.map_nil,List.singleton_append,List.getElem?_cons_zero]
 unfold low
 congr 1
 omega
def TOk (T:List (List RC)):Prop:=∀ cs,cs∈T→cs.length≤36∧∀ c,c∈cs→c.ok
def behindT (S:RS)(T:List (List RC)):RS:=T.foldl doF S
theorem behind_snoc (S:RS)(T:List (List RC))(cs:List RC):behindT S (T++[cs])=doF (behindT S T) cs:=by simp [behindT]
theorem behind_turn (S:RS)(T:List (List RC)):(behindT S T).turn=S.turn+T.length:=by
 induction T generalizing S with
 | nil=>simp[behindT]
 | cons c T ih =>
  show (behindT (doF S c) T).turn=_
  rw[ih, (doF_turn S c).1,List.length_cons]
  push_cast
  omega
theorem turnsB_size_le (T:List (List RC))(h:TOk T):(turnsB T).size≤181*T.length:=by
 induction T with
 | nil=>simp[turnsB,joinB,ByteArray.size]
 | cons c T ih =>
  have h1:=(h c (by simp)).1
  have h2:=ih fun d hd=>h d (by simp[hd])
  rw[show c :: T=[c]++T from rfl,turnsB_append,ByteArray.size_append,turnsB_one,sealS_size,List.length_append]
  simp only[List.length_singleton]
  omega
end Go.Proofs.YtdianedehhecoaaGreatDoor
