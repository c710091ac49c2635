/- What is paid for units; a turn more: for Dues. No walk. -/
import Derived.Test.YtdianedehhecoaaGreatDoorTWireReads
set_option linter.unusedVariables false
set_option linter.unusedSimpArgs false
namespace Go.Proofs.YtdianedehhecoaaGreatDoor
open Go.RowKit
end Go.Proofs.YtdianedehhecoaaGreatDoor
/- The bytes of turns: written, read again, cut. Nothing of the program. -/
namespace Go.Proofs.YtdianedehhecoaaGreatDoor
open Go.RowKit
def joinB (ts:List ByteArray):ByteArray:=⟨(ts.flatMap (·.data.toList)).toArray⟩
def sealS (cs:List RC):ByteArray:=strOfNums (turnN cs)
def turnsB (T:List (List RC)):ByteArray:=joinB (T.map sealS)
theorem joinB_nil:joinB []=⟨#[]⟩:=rfl
theorem joinB_append (a b:List ByteArray):joinB (a++b)=joinB a++joinB b:=by
 unfold joinB
 rw[List.flatMap_append]
 apply ByteArray.ext
 simp[ByteArray.data_append]
theorem joinB_one (t:ByteArray):joinB [t]=t:=by
 unfold joinB
 simp
theorem turnsB_append (a b:List (List RC)):turnsB (a++b)=turnsB a++turnsB b:=by
 unfold turnsB
 rw[List.map_append,joinB_append]
theorem turnsB_one (cs:List RC):turnsB [cs]=sealS cs:=joinB_one _
theorem cmdN_five (c:RC):(cmdN c).length=5:=rfl
theorem cmds_len (cs:List RC):(cs.flatMap cmdN).length=5*cs.length:=by
 induction cs with
 | nil=>rfl
 | cons c cs ih =>
  rw[List.flatMap_cons,List.length_append,ih,cmdN_five,List.length_cons]
  omega
theorem sealS_size (cs:List RC):(sealS cs).size=1+5*cs.length:=by
 unfold sealS turnN
 rw[strOfNums_size,List.length_append,cmds_len]
 rfl
def TOk (T:List (List RC)):Prop:=∀ cs,cs∈T→cs.length≤36∧∀ c,c∈cs→c.ok
def behindT (S:RS)(T:List (List RC)):RS:=T.foldl doF S
theorem behind_snoc (S:RS)(T:List (List RC))(cs:List RC):behindT S (T++[cs])=doF (behindT S T) cs:=by simp [behindT]
theorem behind_turn (S:RS)(T:List (List RC)):(behindT S T).turn=S.turn+T.length:=by
 induction T generalizing S with
 | nil=>simp[behindT]
 | cons c T ih =>
  show (behindT (doF S c) T).turn=_
  rw[ih,(doF_turn S c).1,List.length_cons]
  push_cast
  omega
theorem turnsB_size_le (T:List (List RC))(h:TOk T):(turnsB T).size≤181*T.length:=by
 induction T with
 | nil=>simp[turnsB,joinB,ByteArray.size]
 | cons c T ih =>
  have h1:=(h c (by simp)).1
  have h2:=ih fun d hd=>h d (by simp[hd])
  rw[show c :: T=[c]++T from rfl,turnsB_append,ByteArray.size_append,turnsB_one,sealS_size,List.length_append]
  simp only[List.length_singleton]
  omega
end Go.Proofs.YtdianedehhecoaaGreatDoor