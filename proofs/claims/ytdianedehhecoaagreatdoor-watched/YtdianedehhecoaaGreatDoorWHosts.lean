/- The host's calls of its first match. -/
import Derived.Test.YtdianedehhecoaaGreatDoorWBase
import Derived.Test.YtdianedehhecoaaGreatDoorWMatchAts
set_option linter.unusedVariables false
set_option linter.unusedSimpArgs false
namespace Go.Proofs.YtdianedehhecoaaGreatDoor
open Go.RowKit

structure HAt (w:World)(hbk rb mb:Nat):Prop where
 host : BlkAt w hbk (hostV 1 rb) 120
 rooms : BlkAt w rb (.pointer (some ⟨mb,0,none⟩) :: List.replicate 7 (.pointer none)) 125
structure HRoom (w:World)(hbk rb mb:Nat):Prop where
 host : w.cell? ⟨hbk,1,none⟩=some (.slice (some ⟨rb,0,none⟩) 8 8)
 room : w.cell? ⟨rb,0,none⟩=some (.pointer (some ⟨mb,0,none⟩))
theorem MParts.lower {w:World}{lk:Int}{lo lo' mb:Nat}{sd:Int}{P sb hb cap tb:Nat}{gv uv:Value}{bs:List Nat}{g:Nat}{pbs:List Nat}(h:MParts w lk lo mb sd P sb hb cap tb gv uv bs g pbs)(hl:lo'≤lo):MParts w lk lo' mb sd P sb hb cap tb gv uv bs g pbs :=
 { h with
  state := h.state.own fun k ho _=>⟨by have:=ho.1;omega,ho.2⟩
  lm := by have:=h.lm;omega
  lt := by have:=h.lt;omega
  lh := by have:=h.lh;omega
  lp := fun k hk=>⟨by have:=(h.lp k hk).1;omega,(h.lp k hk).2⟩ }
section
variable {w : World} {hbk rb : Nat} {lo mb : Nat} {sd : Int} {P sb hb cap tb : Nat} {gv uv : Value} {bs : List Nat} {g : Nat} {pbs : List Nat}
end
end Go.Proofs.YtdianedehhecoaaGreatDoor

/- Host.choose of one number: the first match, alone. -/
namespace Go.Proofs.YtdianedehhecoaaGreatDoor
open Go.RowKit

set_option maxHeartbeats 1000000 in
set_option maxRecDepth 20000 in
theorem indexM_nil (v:Value)(w:World):Calls Pz.prog 173 #[.slice none 0 0,v] w fun e w'=>e=.returned (.int .i64 (-1))∧w'=w:=by
 go_enter Pz.func173, Tryz.ntmps173
 go_wp2
 go_loop [8] (fun i=>i=.int .i64 0) (fun i=>0)
 case atStart=>rfl
 case round =>
  subst hrel
  go_wp2
  go_ret
  exact ⟨rfl, rfl⟩
set_option maxHeartbeats 1000000 in
set_option maxRecDepth 20000 in
theorem containsM_nil (v:Value)(w:World):Calls Pz.prog 119 #[.slice none 0 0,v] w fun e w'=>e=.returned (.bool false)∧w'=w:=by
 have HI:=(show Hid _ from indexM_nil v w)
 go_enter Pz.func119, Tryz.ntmps119
 go_wp2_with (go_at_call 173;refine Calls.mono HI.out ?_;rintro e w' ⟨rfl,rfl⟩)
 go_ret
 exact ⟨rfl, rfl⟩
def Chosen (w:World)(mb:Nat)(ch:Value)(w':World):Prop:=∃ cb cap,ch=.slice (some ⟨cb,0,none⟩) 1 cap∧w'.cell? ⟨cb,0,none⟩=some (.pointer (some ⟨mb,0,none⟩))∧w.heap.size≤cb∧cb<w'.heap.size∧w'.heap.size≤w.heap.size+2∧w'.os=w.os∧w'.output=w.output∧∀ k:Nat,k<w.heap.size→w'.heap[k]? = w.heap[k]?
theorem chosen_of (w:World)(mb cap:Nat)(zs:Array Value):Chosen w mb (.slice (some ⟨w.heap.size+1,0,none⟩) 1 cap) ((w.alloc (.cells #[.pointer (some ⟨mb,0,none⟩)] 85)).alloc (.cells (#[.pointer (some ⟨mb,0,none⟩)]++zs) 85)).drew:=by
 have al:∀ (u:World) (o:Obj),(u.alloc o).heap=u.heap.push o:=fun _ _=>rfl
 have hs:((w.alloc (.cells #[.pointer (some ⟨mb,0,none⟩)] 85)).alloc (.cells (#[.pointer (some ⟨mb,0,none⟩)]++zs) 85)).drew.heap=(w.heap.push (.cells #[.pointer (some ⟨mb,0,none⟩)] 85)).push (.cells (#[.pointer (some ⟨mb,0,none⟩)]++zs) 85):=rfl
 have hb:((w.alloc (.cells #[.pointer (some ⟨mb,0,none⟩)] 85)).alloc (.cells (#[.pointer (some ⟨mb,0,none⟩)]++zs) 85)).drew.heap[w.heap.size+1]? = some (.cells (#[.pointer (some ⟨mb,0,none⟩)]++zs) 85):=by
  rw[hs, Array.getElem?_push,if_pos (by rw[Array.size_push])]
 refine ⟨_, cap,rfl,?_,by omega,by rw[hs,Array.size_push,Array.size_push];omega,by rw[hs,Array.size_push,Array.size_push];omega,rfl,rfl,fun k hk=>?_⟩
 ·unfold World.cell?
  rw[hb]
  simp only[Option.isSome_none,Bool.false_eq_true,if_false]
  rw[Array.getElem?_append_left (by simp)]
  rfl
 ·rw[hs, Array.getElem?_push,if_neg (by rw[Array.size_push];omega),Array.getElem?_push,if_neg (by omega)]
section
variable {w : World} {hbk rb mb nb ncap : Nat}
end
end Go.Proofs.YtdianedehhecoaaGreatDoor
