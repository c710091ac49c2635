/- Small functions of a match that goes, by the cells that they read: named, freeSeat, giveUp. -/
import Derived.Test.YtdianedehhecoaaGreatDoorWMatchAts
import Derived.Test.YtdianedehhecoaaGreatDoorWRefPure
set_option linter.unusedVariables false
set_option linter.unusedSimpArgs false
namespace Go.Proofs.YtdianedehhecoaaGreatDoor
open Go.RowKit

structure Seated (w:World)(mb tb:Nat)(pbs:List Nat):Prop where
 slice : w.cell? ⟨mb,4,none⟩=some (.slice (some ⟨tb,0,none⟩) pbs.length pbs.length)
 seat : ∀ i:Nat,i<pbs.length→w.cell? ⟨tb,i,none⟩=some (.pointer (some ⟨pbs.getD i 0,0,none⟩))
 name : ∀ i:Nat,i<pbs.length→w.cell? ⟨pbs.getD i 0,1,none⟩=some (.string ⟨#[(97+i).toUInt8]⟩)
theorem names_eq (i n:Nat)(hi:i<4)(hn:n<4):((⟨#[(97+i).toUInt8]⟩:ByteArray).toList == (⟨#[(97+n).toUInt8]⟩:ByteArray).toList)=decide (i=n):=by
 have h1:n=0∨n=1∨n=2∨n=3:=by omega
 have h2:i=0∨i=1∨i=2∨i=3:=by omega
 rw[ByteArray.toList_eq, ByteArray.toList_eq]
 rcases h1 with rfl | rfl | rfl | rfl<;>rcases h2 with rfl | rfl | rfl | rfl<;>first | rfl | kernel_rfl | decide
section
variable {w : World} {mb tb : Nat} {pbs : List Nat}
set_option maxHeartbeats 2000000 in
set_option maxRecDepth 20000 in
theorem named_at (h:Seated w mb tb pbs)(hP:pbs.length≤4)(n:Nat)(hn:n<pbs.length) :
  Calls Pz.prog 96 #[.pointer (some ⟨mb,0,none⟩),.string ⟨#[(97+n).toUInt8]⟩] w fun e w'=>e=.returned (.pointer (some ⟨pbs.getD n 0,0,none⟩))∧w'=w:=by
 have HTH:Hid (∀ i:Nat,i<pbs.length→w.cell? ⟨tb,i,none⟩=some (.pointer (some ⟨pbs.getD i 0,0,none⟩))∧w.cell? ⟨pbs.getD i 0,1,none⟩=some (.string ⟨#[(97+i).toUInt8]⟩)):=fun i hi=>⟨h.seat i hi,h.name i hi⟩
 have h4:=h.slice
 clear h
 have HN:Hid (∀ i:Nat,i<pbs.length→((⟨#[(97+i).toUInt8]⟩:ByteArray).toList == (⟨#[(97+n).toUInt8]⟩:ByteArray).toList)=decide (i=n)):=fun i hi=>names_eq i n (by omega) (by omega)
 generalize hl:pbs.length=P at *
 generalize (⟨#[(97+n).toUInt8]⟩:ByteArray)=s at *
 generalize hv:pbs.getD n 0=vb
 go_enter Pz.func96, Tryz.ntmps96
 go_wp2
 go_loop [12] (fun i=>∃ k:Nat,k≤n∧i=.int .i64 k) (fun i=>P-(intOf i).toNat)
 case atStart=>exact ⟨0,by omega,rfl⟩
 case round =>
  obtain ⟨k, hk,rfl⟩:=hrel
  have hlt:k<P:=by omega
  obtain ⟨hc1, hc2⟩:=HTH.out k hlt
  have hs:=HN.out k hlt
  by_cases hkn:k=n
  ·subst hkn
   rw[decide_eq_true rfl]at hs
   rw[hv] at hc1 hc2
   generalize (⟨#[(97+k).toUInt8]⟩:ByteArray)=t at *
   go_wp2
   go_ret
   exact ⟨rfl, rfl⟩
  ·rw[decide_eq_false hkn]at hs
   clear hv
   generalize pbs.getD k 0=ub at *
   generalize (⟨#[(97+k).toUInt8]⟩:ByteArray)=t at *
   go_wp2
   go_round
   case rel=>exact ⟨k+1,by omega,by go_num⟩
   case measure=>simp[intOf];omega
set_option maxHeartbeats 2000000 in
set_option maxRecDepth 20000 in
theorem index_full (h:Seated w mb tb pbs)(hP:pbs.length≤4) :
  Calls Pz.prog 171 #[.slice (some ⟨tb,0,none⟩) pbs.length pbs.length,.pointer none] w fun e w'=>e=.returned (.int .i64 (-1))∧w'=w:=by
 have HTH:Hid (∀ i:Nat,i<pbs.length→w.cell? ⟨tb,i,none⟩=some (.pointer (some ⟨pbs.getD i 0,0,none⟩))):=h.seat
 clear h
 generalize hl:pbs.length=P at *
 go_enter Pz.func171, Tryz.ntmps171
 go_wp2
 go_loop [8] (fun i=>∃ k:Nat,k≤P∧i=.int .i64 k) (fun i=>P-(intOf i).toNat)
 case atStart=>exact ⟨0,by omega,rfl⟩
 case round =>
  obtain ⟨k, hk,rfl⟩:=hrel
  by_cases hlt:k<P
  ·have hcell:=HTH.out k hlt
   generalize pbs.getD k 0=ub at hcell
   have hne:=eql_nil_some ⟨ub,0,none⟩
   go_wp2
   go_round
   case rel=>exact ⟨k+1,by omega,by go_num⟩
   case measure=>simp[intOf];omega
  ·go_wp2
   go_ret
   exact ⟨rfl, rfl⟩
set_option maxHeartbeats 2000000 in
set_option maxRecDepth 20000 in
theorem freeSeat_full (h:Seated w mb tb pbs)(hP:pbs.length≤4) :
  Calls Pz.prog 116 #[.pointer (some ⟨mb,0,none⟩)] w fun e w'=>e=.returned (.int .i64 (-1))∧w'=w:=by
 have HI:=(show Hid _ from index_full h hP)
 have h4:=h.slice
 clear h
 generalize pbs.length=P at *
 go_enter Pz.func116, Tryz.ntmps116
 go_wp2_with (go_at_call 171;refine Calls.mono HI.out ?_;rintro e w' ⟨rfl,rfl⟩)
 go_ret
 exact ⟨rfl, rfl⟩
theorem phase_full (h:Seated w mb tb pbs)(hP:pbs.length≤4){sb:Nat}{ov:Bool}(hs:w.cell? ⟨mb,2,none⟩=some (.pointer (some ⟨sb,0,none⟩)))
  (hO : Calls Pz.prog 39 #[.pointer (some ⟨sb,0,none⟩)] w fun e w'=>e=.returned (.bool ov)∧Below w.heap.size w w') :
  Calls Pz.prog 91 #[.pointer (some ⟨mb,0,none⟩)] w fun e w'=>e=.returned (.int .i64 (if ov then 3 else 2))∧Below w.heap.size w w':=by
 have HF:=(show Hid _ from freeSeat_full h hP)
 have HO:=(show Hid _ from hO)
 clear h hO
 go_enter Pz.func91, Tryz.ntmps91
 cases ov
 ·go_wp2_with (first | (go_at_call 116;refine Calls.mono HF.out ?_;rintro e w' ⟨rfl,rfl⟩) | (go_at_call 39;refine Calls.mono HO.out ?_;rintro e w2 ⟨rfl,hb2⟩))
  go_ret
  exact ⟨rfl, hb2⟩
 ·go_wp2_with (first | (go_at_call 116;refine Calls.mono HF.out ?_;rintro e w' ⟨rfl,rfl⟩) | (go_at_call 39;refine Calls.mono HO.out ?_;rintro e w2 ⟨rfl,hb2⟩))
  go_ret
  exact ⟨rfl, hb2⟩
end
end Go.Proofs.YtdianedehhecoaaGreatDoor

/- handOver of a player for whom nothing waits. -/
namespace Go.Proofs.YtdianedehhecoaaGreatDoor
open Go.RowKit
structure But (w w':World)(pb:Nat):Prop where
 os : w'.os=w.os
 tape : w'.tape=w.tape
 output : w'.output=w.output
 size : w.heap.size≤w'.heap.size
 block : ∀ k:Nat,k<w.heap.size→k≠pb→w'.heap[k]? = w.heap[k]?
section
variable {w : World} {pb : Nat}
set_option maxHeartbeats 2000000 in
set_option maxRecDepth 20000 in
theorem handOver_not {x0 x1 x2 x4:Value}(hp:BlkAt w pb [x0,x1,x2,.slice none 0 0,x4,.bool false] 184) :
  Calls Pz.prog 182 #[.pointer (some ⟨pb,0,none⟩)] w fun e w'=>e=.returned (.slice none 0 0)∧w'=(w.setCell ⟨pb,5,none⟩ (.bool false)).setCell ⟨pb,3,none⟩ (.slice none 0 0):=by
 have h0:w.cell? ⟨pb,0,none⟩=some x0:=hp.cell rfl
 have h3:w.cell? ⟨pb,3,none⟩=some (.slice none 0 0):=hp.cell rfl
 have h5:w.cell? ⟨pb,5,none⟩=some (.bool false):=hp.cell rfl
 have f3:=hp.free 3
 have f5:=hp.free 5
 clear hp
 go_enter Pz.func182, Tryz.ntmps182
 go_wp2
 go_ret
 exact ⟨rfl, rfl⟩
end
end Go.Proofs.YtdianedehhecoaaGreatDoor
