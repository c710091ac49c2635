/- A match in memory: where its parts lie. -/
import Derived.Test.YtdianedehhecoaaGreatDoorTProgFold
import Derived.Conc.MuLone
import Derived.KernelRfl
import Derived.Lib.BufferWrite
import Derived.Deep.WholeRow
import Derived.Defers
set_option linter.unusedVariables false
set_option linter.unusedSimpArgs false
set_option maxHeartbeats 4000000
set_option maxRecDepth 20000
namespace Go.Proofs.YtdianedehhecoaaGreatDoor
open Go.RowKit
theorem PAt.on {w w':World}{O:Nat→Prop}{b:Nat}{S:PS}{gv uv:Value}{bs:List Nat}(h:PAt w O b S gv uv bs)(hk:∀ k,O k→k<w.heap.size→w'.heap[k]? = w.heap[k]?):PAt w' O b S gv uv bs :=
 ⟨h.ore,h.blen,h.st.same (hk _ h.ob h.st.lt),h.gold.same fun k e=>hk _ (h.og k e).1 (h.gold.lt e),h.units.same fun k e=>hk _ (h.ou k e).1 (h.units.lt e),
  fun i hi=>(h.each i hi).same (hk _ (h.oe _ (by
   have hb:=h.blen
   rw[show bs.getD i 0=bs[i]'(by omega) by simp[List.getD,show i<bs.length by omega]]
   exact List.getElem_mem _)).1 (h.each i hi).lt),h.kinds,h.nodup,h.ob,h.og,h.ou,h.oe⟩
theorem PAt.own {w:World}{O O':Nat→Prop}{b:Nat}{S:PS}{gv uv:Value}{bs:List Nat}(h:PAt w O b S gv uv bs)(hk:∀ k,O k→k<w.heap.size→O' k):PAt w O' b S gv uv bs :=
 ⟨h.ore,h.blen,h.st,h.gold,h.units,h.each,h.kinds,h.nodup,hk _ h.ob h.st.lt,fun k e=>⟨hk _ (h.og k e).1 (h.gold.lt e),(h.og k e).2⟩,fun k e=>⟨hk _ (h.ou k e).1 (h.units.lt e),(h.ou k e).2⟩,
  fun k e=>⟨hk _ (h.oe k e).1 (by
   obtain ⟨i,hi,rfl⟩:=List.getElem_of_mem e
   have hb:=h.blen
   have:=(h.each i (by omega)).lt
   rw[show bs.getD i 0=bs[i] by simp[List.getD,hi]]at this
   exact this),(h.oe k e).2⟩⟩
def playerV (i:Nat):List Value:=[.int .i64 i,.string ⟨#[(97+i).toUInt8]⟩,.int .i64 0,.slice none 0 0,.bool false,.bool false]
def seatV (pbs:List Nat)(P:Nat):List Value:=pbs.map (fun b=>.pointer (some ⟨b,0,none⟩))++List.replicate (P-pbs.length) (.pointer none)
theorem seatV_there (pbs:List Nat)(P i:Nat)(h:i<pbs.length):(seatV pbs P)[i]? = some (.pointer (some ⟨pbs.getD i 0,0,none⟩)):=by
 unfold seatV
 rw[List.getElem?_append_left (by simpa using h)]
 simp[List.getD,h]
theorem seatV_free (pbs:List Nat)(P i:Nat)(h:pbs.length≤i)(hi:i<P):(seatV pbs P)[i]? = some (.pointer none):=by
 unfold seatV
 rw[List.getElem?_append_right (by simpa using h),List.getElem?_replicate]
 simp
 omega
theorem seatV_set (pbs:List Nat)(P b:Nat)(h:pbs.length<P):(seatV pbs P).set pbs.length (.pointer (some ⟨b,0,none⟩))=seatV (pbs++[b]) P:=by
 unfold seatV
 rw[List.set_append_right _ _ (by simp)]
 have e:P-pbs.length=(P-(pbs.length+1))+1:=by omega
 simp[e,List.replicate_succ]
structure MParts (w:World)(lk:Int)(lo mb:Nat)(sd:Int)(P:Nat)(sb hb cap tb:Nat)(gv uv:Value)(bs:List Nat)(g:Nat)(pbs:List Nat):Prop where
 le:pbs.length≤P
 cells:BlkAt w mb [.int .i32 lk,.int .u32 0,.pointer (some ⟨sb,0,none⟩),.slice (some ⟨hb,0,none⟩) 1 cap,.slice (some ⟨tb,0,none⟩) P P,.bool false,.slice none 0 0] 136
 row:RowAt w 9 1 (.slice (some ⟨hb,0,none⟩) 1 cap) 1 [.string (hash16 (bytesF (startTo sd P)))]
 seats:BlkAt w tb (seatV pbs P) 182
 players:∀ i,i<pbs.length→BlkAt w (pbs.getD i 0) (playerV i) 184
 ub:uv.ownBlock=some g
 state:PAt w (fun k=>lo≤k∧k≠mb∧k≠tb∧k≠hb∧k ∉ pbs) sb (toPS (startTo sd P)) gv uv bs
 lm:lo≤mb
 lt:lo≤tb
 lh:lo≤hb
 lp:∀ k,k∈pbs→lo≤k∧k≠mb∧k≠tb∧k≠hb
 d1:mb≠tb
 d2:mb≠hb
 d3:tb≠hb
theorem MParts.hash {w:World}{lk:Int}{lo mb:Nat}{sd:Int}{P sb hb cap tb:Nat}{gv uv:Value}{bs:List Nat}{g:Nat}{pbs:List Nat}(h:MParts w lk lo mb sd P sb hb cap tb gv uv bs g pbs):w.cell? ⟨hb,0,none⟩=some (.string (hash16 (bytesF (startTo sd P)))):=by
 obtain ⟨g,cap,e,-,-,-,hc,-⟩:=h.row.form (by omega)
 cases e
 exact hc 0 _ rfl
theorem MParts.on {w w':World}{lk:Int}{lo mb:Nat}{sd:Int}{P sb hb cap tb:Nat}{gv uv:Value}{bs:List Nat}{g:Nat}{pbs:List Nat}(h:MParts w lk lo mb sd P sb hb cap tb gv uv bs g pbs)(hk:∀ k,lo≤k→k<w.heap.size→w'.heap[k]? = w.heap[k]?):MParts w' lk lo mb sd P sb hb cap tb gv uv bs g pbs :=
 { h with
  cells:=h.cells.same (hk _ h.lm h.cells.lt)
  row:=h.row.same fun k e=>by cases e;exact hk _ h.lh (h.row.lt rfl)
  seats:=h.seats.same (hk _ h.lt h.seats.lt)
  players:=fun i hi=>(h.players i hi).same (hk _ (h.lp _ (by
   rw[show pbs.getD i 0=pbs[i] by simp[List.getD,hi]]
   exact List.getElem_mem _)).1 (h.players i hi).lt)
  state:=h.state.on fun k ho hl=>hk k ho.1 hl }
theorem MParts.below {w w':World}{lk:Int}{lo mb:Nat}{sd:Int}{P sb hb cap tb:Nat}{gv uv:Value}{bs:List Nat}{g:Nat}{pbs:List Nat}(h:MParts w lk lo mb sd P sb hb cap tb gv uv bs g pbs)(hb':Below w.heap.size w w'):MParts w' lk lo mb sd P sb hb cap tb gv uv bs g pbs :=
 h.on fun k _ hk=>hb'.block k hk
theorem MParts.locks {w:World}{lk:Int}{lo mb:Nat}{sd:Int}{P sb hb cap tb:Nat}{gv uv:Value}{bs:List Nat}{g:Nat}{pbs:List Nat}(h:MParts w lk lo mb sd P sb hb cap tb gv uv bs g pbs)(l2:Int):MParts (w.setCell ⟨mb,0,none⟩ (.int .i32 l2)) l2 lo mb sd P sb hb cap tb gv uv bs g pbs :=
 { h with
  cells:=h.cells.set 0 (.int .i32 l2)
  row:=h.row.other fun e=>by cases e;exact h.d2 rfl
  seats:=h.seats.other (Ne.symm h.d1)
  players:=fun i hi=>(h.players i hi).other (h.lp _ (by
   rw[show pbs.getD i 0=pbs[i] by simp[List.getD,hi]]
   exact List.getElem_mem _)).2.1
  state:=h.state.on fun k ho hl=>Below.heap_setCell w ⟨mb,0,none⟩ _ k ho.2.1 }
end Go.Proofs.YtdianedehhecoaaGreatDoor
/- The lock in the barred program: Lock and Unlock of internal/sync are stubs that say nothing to the race detector. Laid in the place of Locks where BAR is set. -/
namespace Go.Proofs.YtdianedehhecoaaGreatDoor
open Go.RowKit
theorem muLib:True:=trivial
theorem iunlock_held (a:Addr)(w:World)(hc:w.cell? a=some (.int .i32 1))(hz:w.frozen? a=false) :
  Calls Pz.prog 155 #[.pointer (some a)] w fun e w'=>e=.returned (.tuple #[])∧w'=w.setCell a (.int .i32 0):=by
 have h1:=(fun w=>(Pz.g_underlying130 w).trans (Tryz.runUnderlying130 w))
 have h2:=(fun w=>(Pz.g_sizeOf130 w).trans (Tryz.sizeOf130 w))
 have h3:=(fun w=>(Pz.g_isAgg130 w).trans (Tryz.isAgg130 w))
 have h4:=(fun w=>(Pz.g_underlying296 w).trans (Tryz.runUnderlying296 w))
 have h5:=(fun w=>(Pz.g_underlying21 w).trans (Tryz.runUnderlying21 w))
 have h6:=(fun w=>(Pz.g_sizeOf21 w).trans (Tryz.sizeOf21 w))
 have h7:=(fun w=>(Pz.g_isAgg21 w).trans (Tryz.isAgg21 w))
 have hcv:=run_convert_to_unsafe (P:=Pz.prog) (src:=296) (dst:=115) ((Pz.gUnderlying 296).trans Tryz.underlying296) ((Pz.gUnderlying 115).trans Tryz.underlying115) (by kernel_rfl) hc
 have hadd:=run_call_add (P:=Pz.prog) Pz.func199 (by kernel_rfl) (by kernel_rfl) (by kernel_rfl) .i32 (by kernel_rfl) (y:=-1) (s:=0) hc hz (by simp[go_sem];rfl)
 have hres:Tryz.f155.results=#[]:=by kernel_rfl
 go_enter Pz.func155,Pz.ntmps155
 simp only[Pz.f155,Uk.body,Uk.p0,Uk.p1,Uk.p2,Uk.p3,Uk.m1,Uk.v1,Uk.s1,Uk.s2,Uk.r0,Uk.r1,Uk.r2,Uk.r3,Uk.r4,Uk.t0,Uk.t1,Uk.q0,Uk.q1,Uk.q2,Uk.s6]
 go_wp2
 refine bodyPost_end (results_none hres _ _ _) rfl ?_
 exact ⟨rfl,rfl⟩
theorem ilock_free (a:Addr)(w:World)(hc:w.cell? a=some (.int .i32 0))(hz:w.frozen? a=false) :
  Calls Pz.prog 154 #[.pointer (some a)] w fun e w'=>e=.returned (.tuple #[])∧w'=w.setCell a (.int .i32 1):=by
 have h1:=(fun w=>(Pz.g_underlying130 w).trans (Tryz.runUnderlying130 w))
 have h2:=(fun w=>(Pz.g_sizeOf130 w).trans (Tryz.sizeOf130 w))
 have h3:=(fun w=>(Pz.g_isAgg130 w).trans (Tryz.isAgg130 w))
 have h4:=(fun w=>(Pz.g_underlying296 w).trans (Tryz.runUnderlying296 w))
 have h5:=(fun w=>(Pz.g_underlying21 w).trans (Tryz.runUnderlying21 w))
 have h6:=(fun w=>(Pz.g_sizeOf21 w).trans (Tryz.sizeOf21 w))
 have h7:=(fun w=>(Pz.g_isAgg21 w).trans (Tryz.isAgg21 w))
 have hcas:=run_call_cas_hit (P:=Pz.prog) Pz.func197 (by kernel_rfl) (by kernel_rfl) (by kernel_rfl) .i32 (by kernel_rfl) (y:=1) hc hz
 have hc':(w.setCell a (.int .i32 1)).cell? a=some (.int .i32 1):=by simp[go_sem,hc]
 have hcv:=run_convert_to_unsafe (P:=Pz.prog) (src:=296) (dst:=115) ((Pz.gUnderlying 296).trans Tryz.underlying296) ((Pz.gUnderlying 115).trans Tryz.underlying115) (by kernel_rfl) hc'
 have hres:Tryz.f154.results=#[]:=by kernel_rfl
 go_enter Pz.func154,Pz.ntmps154
 simp only[Pz.f154,Lk.body,Lk.p0,Lk.p1,Lk.p2,Lk.p3,Lk.m3,Lk.v3,Lk.s0,Lk.s2,Lk.s3,Lk.q0,Lk.q1]
 go_wp2
 refine bodyPost_ret (results_none hres _ _ _) rfl ?_
 exact ⟨rfl,rfl⟩
theorem lock_free (_H:True)(a:Addr)(w:World)(hc:w.cell? a=some (.int .i32 0))(hz:w.frozen? a=false) :
  Calls Pz.prog 89 #[.pointer (some a)] w fun e w'=>e=.returned (.tuple #[])∧w'=w.setCell a (.int .i32 1):=by
 have h8:=(fun w=>(Pz.g_underlying132 w).trans (Tryz.runUnderlying132 w))
 have h9:=(fun w=>(Pz.g_sizeOf132 w).trans (Tryz.sizeOf132 w))
 have h10:=(fun w=>(Pz.g_isAgg132 w).trans (Tryz.isAgg132 w))
 have h11:=(fun w=>(Pz.g_underlying258 w).trans (Tryz.runUnderlying258 w))
 have HL:=(show Hid _ from ilock_free a w hc hz)
 clear hc hz
 go_enter Pz.func89,Pz.ntmps89
 simp only[Tryz.f89]
 go_wp2_with (go_at_call 154;refine Calls.mono HL.out ?_;rintro e w' ⟨rfl,rfl⟩)
 go_end0
 exact ⟨rfl,rfl⟩
theorem unlock_deferred (_H:True)(a:Addr)(u:FrameMode)(w:World)(hc:w.cell? a=some (.int .i32 1))(hz:w.frozen? a=false) :
  CallsD Pz.prog 90 #[.pointer (some a)] u w fun e u' w'=>u'=u∧(e=.returned (.tuple #[])∧w'=w.setCell a (.int .i32 0)):=by
 have h8:=(fun w=>(Pz.g_underlying132 w).trans (Tryz.runUnderlying132 w))
 have h9:=(fun w=>(Pz.g_sizeOf132 w).trans (Tryz.sizeOf132 w))
 have h10:=(fun w=>(Pz.g_isAgg132 w).trans (Tryz.isAgg132 w))
 have h11:=(fun w=>(Pz.g_underlying258 w).trans (Tryz.runUnderlying258 w))
 have HL:=(show Hid _ from iunlock_held a w hc hz)
 clear hc hz
 go_enter_d Pz.func90,Pz.ntmps90
 simp only[Tryz.f90]
 go_wp2_with (go_at_call 155;refine Calls.mono HL.out ?_;rintro e w' ⟨rfl,rfl⟩)
 go_end0
 exact ⟨rfl,rfl⟩
end Go.Proofs.YtdianedehhecoaaGreatDoor
/- Small functions of a match: which seat is free, who is named so. -/
namespace Go.Proofs.YtdianedehhecoaaGreatDoor
open Go.RowKit
theorem eql_nil_some (a:Addr)(w:World):(binOp .eql 182 (.pointer none) (.pointer (some a))).run Pz.prog w=.ok (.bool false) w:=by kernel_rfl
theorem eql_nil_nil (w:World):(binOp .eql 182 (.pointer none) (.pointer none)).run Pz.prog w=.ok (.bool true) w:=by kernel_rfl
def freeF (n P:Nat):Int:=if n<P then n else -1
section
variable {w:World} {lk:Int} {lo mb:Nat} {sd:Int} {P sb hb cap tb:Nat} {gv uv:Value} {bs:List Nat} {g:Nat} {pbs:List Nat}
theorem MParts.there (h:MParts w lk lo mb sd P sb hb cap tb gv uv bs g pbs){i:Nat}(hi:i<pbs.length):w.cell? ⟨tb,i,none⟩=some (.pointer (some ⟨pbs.getD i 0,0,none⟩)):=h.seats.cell (seatV_there pbs P i hi)
theorem MParts.free (h:MParts w lk lo mb sd P sb hb cap tb gv uv bs g pbs){i:Nat}(h1:pbs.length≤i)(hi:i<P):w.cell? ⟨tb,i,none⟩=some (.pointer none):=h.seats.cell (seatV_free pbs P i h1 hi)
theorem index_any (h:MParts w lk lo mb sd P sb hb cap tb gv uv bs g pbs)(hP:P≤4) :
  Calls Pz.prog 171 #[.slice (some ⟨tb,0,none⟩) P P,.pointer none] w fun e w'=>e=.returned (.int .i64 (freeF pbs.length P))∧w'=w:=by
 have hth:∀ i:Nat,i<pbs.length→w.cell? ⟨tb,i,none⟩=some (.pointer (some ⟨pbs.getD i 0,0,none⟩)):=fun i hi=>h.there hi
 have hfr:pbs.length<P→w.cell? ⟨tb,pbs.length,none⟩=some (.pointer none):=fun hp=>h.free (Nat.le_refl _) hp
 have hle:=h.le
 have HF:Hid (∀ n:Nat,n<P→freeF n P=n):=fun n hn=>by unfold freeF;rw[if_pos hn]
 have HG:Hid (¬ pbs.length<P→freeF pbs.length P=-1):=fun hn=>by unfold freeF;rw[if_neg hn]
 have HTH:=(show Hid _ from hth)
 have HFR:=(show Hid _ from hfr)
 clear h hth hfr
 generalize pbs.length=n at *
 go_enter Pz.func171,Tryz.ntmps171
 go_wp2
 go_loop [8] (fun i=>∃ k:Nat,k≤n∧i=.int .i64 k) (fun i=>P-(intOf i).toNat)
 case atStart=>exact ⟨0,by omega,rfl⟩
 case round =>
  obtain ⟨k,hk,rfl⟩:=hrel
  by_cases hlt:k<n
  ·have hcell:=HTH.out k hlt
   have hkP:k<P:=by omega
   generalize pbs.getD k 0=ub at hcell
   have hne:=eql_nil_some ⟨ub,0,none⟩
   go_wp2
   go_round
   case rel=>exact ⟨k+1,by omega,by go_num⟩
   case measure=>simp[intOf];omega
  ·have hkn:k=n:=by omega
   subst hkn
   by_cases hP':k<P
   ·have hcell:=HFR.out hP'
    have hne:=eql_nil_nil
    go_wp2
    go_ret
    exact ⟨by rw[HF.out k hP'];rfl,rfl⟩
   ·go_wp2
    go_ret
    exact ⟨by rw[HG.out hP'];rfl,rfl⟩
theorem freeSeat_any (h:MParts w lk lo mb sd P sb hb cap tb gv uv bs g pbs)(hP:P≤4) :
  Calls Pz.prog 116 #[.pointer (some ⟨mb,0,none⟩)] w fun e w'=>e=.returned (.int .i64 (freeF pbs.length P))∧w'=w:=by
 have HI:=(show Hid _ from index_any h hP)
 have h4:w.cell? ⟨mb,4,none⟩=some (.slice (some ⟨tb,0,none⟩) P P):=h.cells.cell rfl
 clear h
 generalize freeF pbs.length P=r at *
 go_enter Pz.func116,Tryz.ntmps116
 go_wp2_with (go_at_call 171;refine Calls.mono HI.out ?_;rintro e w' ⟨rfl,rfl⟩)
 go_ret
 exact ⟨rfl,rfl⟩
theorem names_ne (i n:Nat)(h:i<n)(hn:n≤4):((⟨#[(97+i).toUInt8]⟩:ByteArray).toList == (⟨#[(97+n).toUInt8]⟩:ByteArray).toList)=false:=by
 have h1:n=1∨n=2∨n=3∨n=4:=by omega
 have h2:i=0∨i=1∨i=2∨i=3:=by omega
 rw[ByteArray.toList_eq,ByteArray.toList_eq]
 rcases h1 with rfl|rfl|rfl|rfl<;>rcases h2 with rfl|rfl|rfl|rfl<;>first|omega|rfl|kernel_rfl|decide
theorem named_any (h:MParts w lk lo mb sd P sb hb cap tb gv uv bs g pbs)(hP:P≤4) :
  Calls Pz.prog 96 #[.pointer (some ⟨mb,0,none⟩),.string ⟨#[(97+pbs.length).toUInt8]⟩] w fun e w'=>e=.returned (.pointer none)∧w'=w:=by
 have HTH:Hid (∀ i:Nat,i<pbs.length→w.cell? ⟨tb,i,none⟩=some (.pointer (some ⟨pbs.getD i 0,0,none⟩))∧w.cell? ⟨pbs.getD i 0,1,none⟩=some (.string ⟨#[(97+i).toUInt8]⟩)):=fun i hi=>⟨h.there hi,(h.players i hi).cell rfl⟩
 have HFR:Hid (∀ i:Nat,pbs.length≤i→i<P→w.cell? ⟨tb,i,none⟩=some (.pointer none)):=fun i h1 h2=>h.free h1 h2
 have hle:=h.le
 have h4:w.cell? ⟨mb,4,none⟩=some (.slice (some ⟨tb,0,none⟩) P P):=h.cells.cell rfl
 clear h
 generalize pbs.length=n at *
 have HN:Hid (∀ i:Nat,i<n→((⟨#[(97+i).toUInt8]⟩:ByteArray).toList == (⟨#[(97+n).toUInt8]⟩:ByteArray).toList)=false):=fun i hi=>names_ne i n hi (by omega)
 generalize (⟨#[(97+n).toUInt8]⟩:ByteArray)=s at *
 go_enter Pz.func96,Tryz.ntmps96
 go_wp2
 go_loop [12] (fun i=>∃ k:Nat,k≤P∧i=.int .i64 k) (fun i=>P-(intOf i).toNat)
 case atStart=>exact ⟨0,by omega,rfl⟩
 case round =>
  obtain ⟨k,hk,rfl⟩:=hrel
  by_cases hlt:k<P
  ·by_cases hkn:k<n
   ·obtain ⟨hc1,hc2⟩:=HTH.out k hkn
    have hs:=HN.out k hkn
    generalize pbs.getD k 0=ub at *
    generalize (⟨#[(97+k).toUInt8]⟩:ByteArray)=t at *
    go_wp2
    go_round
    case rel=>exact ⟨k+1,by omega,by go_num⟩
    case measure=>simp[intOf];omega
   ·have hc1:=HFR.out k (by omega) hlt
    go_wp2
    go_round
    case rel=>exact ⟨k+1,by omega,by go_num⟩
    case measure=>simp[intOf];omega
  ·go_wp2
   go_ret
   exact ⟨rfl,rfl⟩
end
end Go.Proofs.YtdianedehhecoaaGreatDoor
/- strings.Clone of one byte. -/
namespace Go.Proofs.YtdianedehhecoaaGreatDoor
open Go.RowKit
theorem sclone1_any (c:UInt8)(w:World) :
  Calls Pz.prog 172 #[.string ⟨#[c]⟩] w fun e w'=>e=.returned (.string ⟨#[c]⟩)∧Below w.heap.size w w':=by
 have hmk:∀ w,(Instr.makeSlice 55 (.int .i64 1) (.int .i64 1)).run Pz.prog w=.ok (.slice (some ⟨w.heap.size,0,none⟩) 1 1) (w.alloc (.cells #[.int .u8 0] 5)):=fun _=>by kernel_rfl
 have hcp:(Builtin.copy_ #[55,9] 3 #[.slice (some ⟨w.heap.size,0,none⟩) 1 1,.string ⟨#[c]⟩]).run Pz.prog (w.alloc (.cells #[.int .u8 0] 5))=.ok (.int .i64 1) (w.alloc (.cells #[.int .u8 c.toNat] 5)):=by
  have h:=Go.Lib.run_copy_row_string (P:=Pz.prog) (w.alloc (.cells #[.int .u8 0] 5)) 55 9 3 5 w.heap.size 0 1 1 ⟨#[c]⟩ #[.int .u8 0] 5 ((Pz.gUnderlying 55).trans Tryz.underlying55) (by kernel_rfl) (BlkAt.new w [.int .u8 0] 5) (Nat.le_refl _) (Nat.le_refl _)
  rw[World.setRow_alloc_new]at h
  exact h
 have hus:(Builtin.unsafeString_ #[295,3] 9 #[.pointer (some ⟨w.heap.size,0,none⟩),.int .i64 1]).run Pz.prog (w.alloc (.cells #[.int .u8 c.toNat] 5))=.ok (.string ⟨#[c]⟩) ((w.alloc (.cells #[.int .u8 c.toNat] 5)).freeze ⟨w.heap.size,0,none⟩ 1):=by
  refine Go.Lib.run_unsafeString_row (P:=Pz.prog) _ 295 3 9 5 (by kernel_rfl) (by kernel_rfl) w.heap.size 1 ?_ [c] (by simp) (Nat.le_refl _) (by simp) ?_
  ·have h:=BlkAt.new w [.int .u8 c.toNat] 5
   unfold BlkAt at h
   unfold World.shape?
   rw[h]
   simp
  ·intro j x hx
   have h:=BlkAt.new w [.int .u8 c.toNat] 5
   have hj:j=0:=by
    have:=(List.getElem?_eq_some_iff.1 hx).1
    simp at this
    exact this
   subst hj
   simp at hx
   subst hx
   exact h.cell rfl
 have hbel:Below w.heap.size w ((w.alloc (.cells #[.int .u8 c.toNat] 5)).freeze ⟨w.heap.size,0,none⟩ 1):=Go.Lib.below_freeze ((Below.refl _ _).alloc (Nat.le_refl _) _) (Nat.le_refl _) 1
 generalize (w.alloc (.cells #[.int .u8 c.toNat] 5)).freeze ⟨w.heap.size,0,none⟩ 1=W3 at *
 go_enter Pz.func172,Tryz.ntmps172
 go_wp2
 go_ret
 exact ⟨rfl,hbel⟩
theorem clone1_any (c:UInt8)(w:World) :
  Calls Pz.prog 117 #[.string ⟨#[c]⟩] w fun e w'=>e=.returned (.string ⟨#[c]⟩)∧Below w.heap.size w w':=by
 have H:=(show Hid _ from sclone1_any c w)
 go_enter Pz.func117,Tryz.ntmps117
 go_wp2_with (go_at_call 172;refine Calls.mono H.out ?_;rintro e w' ⟨rfl,hb⟩)
 go_ret
 exact ⟨rfl,hb⟩
end Go.Proofs.YtdianedehhecoaaGreatDoor
/- Join: one more player. -/
namespace Go.Proofs.YtdianedehhecoaaGreatDoor
open Go.RowKit Go.MuLone
section
variable {w:World} {lk:Int} {lo mb:Nat} {sd:Int} {P sb hb cap tb:Nat} {gv uv:Value} {bs:List Nat} {g:Nat} {pbs:List Nat}
theorem MParts.joined (h:MParts w lk lo mb sd P sb hb cap tb gv uv bs g pbs)(hn:pbs.length<P)(hlo:lo≤w.heap.size) :
  MParts ((w.setCell ⟨tb,pbs.length,none⟩ (.pointer (some ⟨w.heap.size,0,none⟩))).alloc (.cells (playerV pbs.length).toArray 184)) lk lo mb sd P sb hb cap tb gv uv bs g (pbs++[w.heap.size]):=by
 have hs:(w.setCell ⟨tb,pbs.length,none⟩ (.pointer (some ⟨w.heap.size,0,none⟩))).heap.size=w.heap.size:=by simp
 have hml:=h.cells.lt
 have htl:=h.seats.lt
 have hhl:hb<w.heap.size:=cell_lt h.hash
 have hmem:∀ i,i<pbs.length→pbs.getD i 0∈pbs:=fun i hi=>by
  rw[show pbs.getD i 0=pbs[i] by simp[List.getD,hi]]
  exact List.getElem_mem _
 have hblk:∀ k,k≠tb→k<w.heap.size→((w.setCell ⟨tb,pbs.length,none⟩ (.pointer (some ⟨w.heap.size,0,none⟩))).alloc (.cells (playerV pbs.length).toArray 184)).heap[k]? = w.heap[k]?:=fun k h1 h2 =>
  (Below.heap_alloc _ _ _ (by rw[hs];exact h2)).trans (Below.heap_setCell w ⟨tb,pbs.length,none⟩ _ k h1)
 exact
 {le:=by simp;omega
  cells:=h.cells.same (hblk _ h.d1 hml)
  row:=h.row.same fun k e=>by cases e;exact hblk _ (Ne.symm h.d3) hhl
  seats:=by
   rw[← seatV_set pbs P w.heap.size hn]
   exact (h.seats.set _ _).alloc _
  players:=fun i hi=>by
   simp at hi
   by_cases hi2:i<pbs.length
   ·rw[show (pbs++[w.heap.size]).getD i 0=pbs.getD i 0 by simp[List.getD,List.getElem?_append_left hi2]]
    exact (h.players i hi2).same (hblk _ (h.lp _ (hmem i hi2)).2.2.1 (h.players i hi2).lt)
   ·have e:i=pbs.length:=by omega
    subst e
    rw[show (pbs++[w.heap.size]).getD pbs.length 0=w.heap.size by simp[List.getD]]
    have hb:=BlkAt.new (w.setCell ⟨tb,pbs.length,none⟩ (.pointer (some ⟨w.heap.size,0,none⟩))) (playerV pbs.length) 184
    rw[hs]at hb
    exact hb
  ub:=h.ub
  state:=(h.state.own fun k ho hl=>⟨ho.1,ho.2.1,ho.2.2.1,ho.2.2.2.1,fun hm=>by
   rcases List.mem_append.1 hm with h1|h1
   ·exact ho.2.2.2.2 h1
   ·simp at h1
    omega⟩).on fun k ho hl=>hblk k ho.2.2.1 hl
  lm:=h.lm
  lt:=h.lt
  lh:=h.lh
  lp:=fun k hk=>by
   rcases List.mem_append.1 hk with h1|h1
   ·exact h.lp k h1
   ·simp at h1
    subst h1
    exact ⟨hlo,by omega,by omega,by omega⟩
  d1:=h.d1
  d2:=h.d2
  d3:=h.d3 }
theorem mjoin_any (h:MParts w 0 lo mb sd P sb hb cap tb gv uv bs g pbs)(hP:P≤4)(hn:pbs.length<P)(hlo:lo≤w.heap.size) :
  Calls Pz.prog 69 #[.pointer (some ⟨mb,0,none⟩),.string ⟨#[(97+pbs.length).toUInt8]⟩] w fun e w'=>e=.returned (.tuple #[.int .i64 pbs.length,.int .i64 0])∧∃ b,MParts w' 0 lo mb sd P sb hb cap tb gv uv bs g (pbs++[b])∧Below lo w w'∧w.heap.size≤w'.heap.size:=by
 have h0:w.cell? ⟨mb,0,none⟩=some (.int .i32 0):=h.cells.cell rfl
 have f0:w.frozen? ⟨mb,0,none⟩=false:=h.cells.free 0
 have h1:=h.locks 1
 have HL:=(show Hid _ from lock_free muLib ⟨mb,0,none⟩ w h0 f0)
 have HN:=(show Hid _ from named_any h1 hP)
 have HS:=(show Hid _ from freeSeat_any h1 hP)
 have HFn:Hid (freeF pbs.length P=pbs.length):=by unfold Hid freeF;rw[if_pos hn]
 rw[HFn.out]at HS
 have HH:=(show Hid _ from h1)
 have hne:=h.d1
 have HB1:Hid (Below lo w (w.setCell ⟨mb,0,none⟩ (.int .i32 1))):=Below.setCell (Below.refl _ _) h.lm _
 have hs1:(w.setCell ⟨mb,0,none⟩ (.int .i32 1)).heap.size=w.heap.size:=by simp
 clear h h0 f0
 generalize hw1:w.setCell ⟨mb,0,none⟩ (.int .i32 1)=w1 at *
 clear hw1
 have h4:w1.cell? ⟨mb,4,none⟩=some (.slice (some ⟨tb,0,none⟩) P P):=h1.cells.cell rfl
 have htb:=h1.seats.lt
 have hmb:=h1.cells.lt
 have ht:w1.cell? ⟨tb,pbs.length,none⟩=some (.pointer none):=h1.free (Nat.le_refl _) hn
 have ft:w1.frozen? ⟨tb,pbs.length,none⟩=false:=h1.seats.free _
 have HC:Hid (∀ W c,Below w1.heap.size w1 W→Calls Pz.prog 117 #[.string ⟨#[c]⟩] W fun e w2=>e=.returned (.string ⟨#[c]⟩)∧(w2.cell? ⟨mb,4,none⟩=some (.slice (some ⟨tb,0,none⟩) P P)∧w2.cell? ⟨tb,pbs.length,none⟩=some (.pointer none)∧w2.frozen? ⟨tb,pbs.length,none⟩=false∧tb<w2.heap.size∧mb<w2.heap.size)∧Hid (Below w1.heap.size w1 w2)):=fun W c hW=>(clone1_any c W).mono fun e w2 ⟨he,hb2⟩=>by
  have hb12:=hW.trans (hb2.mono hW.size)
  have hz:=hb12.size
  exact ⟨he,⟨(hb12.cell hmb).trans h4,(hb12.cell htb).trans ht,(hb12.frozen htb).trans ft,by omega,by omega⟩,hb12⟩
 clear h1
 generalize hnn:pbs.length=n at *
 generalize hcc:(97+n).toUInt8=c at *
 have Hcc:=(show Hid _ from hcc)
 clear hcc
 have Hr:Hid (Below w1.heap.size w1 w1):=Below.refl _ _
 go_enter_defers Pz.func69,Tryz.ntmps69
 go_wp2_with (first|(go_at_call 89;refine Calls.mono HL.out ?_;rintro e w' ⟨rfl,rfl⟩)|(go_at_call 96;refine Calls.mono HN.out ?_;rintro e w' ⟨rfl,rfl⟩)|(go_at_call 116;refine Calls.mono HS.out ?_;rintro e w' ⟨rfl,rfl⟩))
 refine wp_region_noPanic ?_
 go_region_with (go_at_call 117;refine Calls.mono (HC.out _ _ (by first|exact (Below.refl _ _).drew|exact Below.refl _ _)) ?_;rintro e w2 ⟨rfl,⟨k1,k2,k3,k4,k5⟩,hb2⟩)
 all_goals
  refine NoPanic.normal ?_
  have Hb2:=(show Hid _ from hb2)
  go_wp2
  subst hnn
  have hsz:=Hb2.out.size
  have h2:=(HH.out.below Hb2.out).joined hn (by omega)
  have e3:(playerV pbs.length).toArray=#[.int .i64 pbs.length,.string ⟨#[c]⟩,.int .i64 0,.slice none 0 0,.bool false,.bool false]:=by unfold playerV;rw[Hcc.out]
  rw[e3]at h2
  refine leaves_cons (f:=90) (args:=#[.pointer (some ⟨mb,0,none⟩)]) (by simp) (by simp[go_sem]) ?_
  refine (unlock_deferred muLib ⟨mb,0,none⟩ .returning _ (h2.cells.cell rfl) (h2.cells.free 0)).mono ?_
  rintro e u' w'' ⟨rfl,rfl,rfl⟩
  refine ⟨_,results_tmp2 rfl _ _ _,rfl,_,h2.locks 0,?_,?_⟩
  ·refine Below.setCell (Below.alloc (Below.setCell (HB1.out.trans (Hb2.out.mono (by omega))) HH.out.lt _) (by simp;omega) _) HH.out.lm _
  ·simp;omega
end
end Go.Proofs.YtdianedehhecoaaGreatDoor
/- State, Hash, Look of a match of which nothing is done yet. -/
namespace Go.Proofs.YtdianedehhecoaaGreatDoor
open Go.RowKit Go.MuLone
section
variable {w:World} {lk:Int} {lo mb:Nat} {sd:Int} {P sb hb cap tb:Nat} {gv uv:Value} {bs:List Nat} {g:Nat} {pbs:List Nat}
theorem begun_over (seed:Int)(P:Nat)(p2:2≤P)(p4:P≤4):overB (startTo seed P)=false:=by
 have hc:P=2∨P=3∨P=4:=by omega
 rcases hc with rfl|rfl|rfl<;>rfl
end
end Go.Proofs.YtdianedehhecoaaGreatDoor
/- The host's calls of its first match. -/
namespace Go.Proofs.YtdianedehhecoaaGreatDoor
open Go.RowKit
structure HAt (w:World)(hbk rb mb:Nat):Prop where
 host:BlkAt w hbk (hostV 1 rb) 120
 rooms:BlkAt w rb (.pointer (some ⟨mb,0,none⟩) :: List.replicate 7 (.pointer none)) 125
structure HRoom (w:World)(hbk rb mb:Nat):Prop where
 host:w.cell? ⟨hbk,1,none⟩=some (.slice (some ⟨rb,0,none⟩) 8 8)
 room:w.cell? ⟨rb,0,none⟩=some (.pointer (some ⟨mb,0,none⟩))
theorem MParts.lower {w:World}{lk:Int}{lo lo' mb:Nat}{sd:Int}{P sb hb cap tb:Nat}{gv uv:Value}{bs:List Nat}{g:Nat}{pbs:List Nat}(h:MParts w lk lo mb sd P sb hb cap tb gv uv bs g pbs)(hl:lo'≤lo):MParts w lk lo' mb sd P sb hb cap tb gv uv bs g pbs :=
 { h with
  state:=h.state.own fun k ho _=>⟨by have:=ho.1;omega,ho.2⟩
  lm:=by have:=h.lm;omega
  lt:=by have:=h.lt;omega
  lh:=by have:=h.lh;omega
  lp:=fun k hk=>⟨by have:=(h.lp k hk).1;omega,(h.lp k hk).2⟩ }
section
variable {w:World} {hbk rb:Nat} {lo mb:Nat} {sd:Int} {P sb hb cap tb:Nat} {gv uv:Value} {bs:List Nat} {g:Nat} {pbs:List Nat}
end
end Go.Proofs.YtdianedehhecoaaGreatDoor
/- Host.choose of one number: the first match, alone. -/
namespace Go.Proofs.YtdianedehhecoaaGreatDoor
open Go.RowKit
theorem indexM_nil (v:Value)(w:World):Calls Pz.prog 173 #[.slice none 0 0,v] w fun e w'=>e=.returned (.int .i64 (-1))∧w'=w:=by
 go_enter Pz.func173,Tryz.ntmps173
 go_wp2
 go_loop [8] (fun i=>i=.int .i64 0) (fun i=>0)
 case atStart=>rfl
 case round =>
  subst hrel
  go_wp2
  go_ret
  exact ⟨rfl,rfl⟩
theorem containsM_nil (v:Value)(w:World):Calls Pz.prog 119 #[.slice none 0 0,v] w fun e w'=>e=.returned (.bool false)∧w'=w:=by
 have HI:=(show Hid _ from indexM_nil v w)
 go_enter Pz.func119,Tryz.ntmps119
 go_wp2_with (go_at_call 173;refine Calls.mono HI.out ?_;rintro e w' ⟨rfl,rfl⟩)
 go_ret
 exact ⟨rfl,rfl⟩
def Chosen (w:World)(mb:Nat)(ch:Value)(w':World):Prop:=∃ cb cap,ch=.slice (some ⟨cb,0,none⟩) 1 cap∧w'.cell? ⟨cb,0,none⟩=some (.pointer (some ⟨mb,0,none⟩))∧w.heap.size≤cb∧cb<w'.heap.size∧w'.heap.size≤w.heap.size+2∧w'.os=w.os∧w'.output=w.output∧∀ k:Nat,k<w.heap.size→w'.heap[k]? = w.heap[k]?
theorem chosen_of (w:World)(mb cap:Nat)(zs:Array Value):Chosen w mb (.slice (some ⟨w.heap.size+1,0,none⟩) 1 cap) ((w.alloc (.cells #[.pointer (some ⟨mb,0,none⟩)] 85)).alloc (.cells (#[.pointer (some ⟨mb,0,none⟩)]++zs) 85)).drew:=by
 have al:∀ (u:World) (o:Obj),(u.alloc o).heap=u.heap.push o:=fun _ _=>rfl
 have hs:((w.alloc (.cells #[.pointer (some ⟨mb,0,none⟩)] 85)).alloc (.cells (#[.pointer (some ⟨mb,0,none⟩)]++zs) 85)).drew.heap=(w.heap.push (.cells #[.pointer (some ⟨mb,0,none⟩)] 85)).push (.cells (#[.pointer (some ⟨mb,0,none⟩)]++zs) 85):=rfl
 have hb:((w.alloc (.cells #[.pointer (some ⟨mb,0,none⟩)] 85)).alloc (.cells (#[.pointer (some ⟨mb,0,none⟩)]++zs) 85)).drew.heap[w.heap.size+1]? = some (.cells (#[.pointer (some ⟨mb,0,none⟩)]++zs) 85):=by
  rw[hs,Array.getElem?_push,if_pos (by rw[Array.size_push])]
 refine ⟨_,cap,rfl,?_,by omega,by rw[hs,Array.size_push,Array.size_push];omega,by rw[hs,Array.size_push,Array.size_push];omega,rfl,rfl,fun k hk=>?_⟩
 ·unfold World.cell?
  rw[hb]
  simp only[Option.isSome_none,Bool.false_eq_true,if_false]
  rw[Array.getElem?_append_left (by simp)]
  rfl
 ·rw[hs,Array.getElem?_push,if_neg (by rw[Array.size_push];omega),Array.getElem?_push,if_neg (by omega)]
section
variable {w:World} {hbk rb mb nb ncap:Nat}
end
end Go.Proofs.YtdianedehhecoaaGreatDoor
/- Small functions of a match that goes, by the cells that they read: named, freeSeat, giveUp. -/
namespace Go.Proofs.YtdianedehhecoaaGreatDoor
open Go.RowKit
structure Seated (w:World)(mb tb:Nat)(pbs:List Nat):Prop where
 slice:w.cell? ⟨mb,4,none⟩=some (.slice (some ⟨tb,0,none⟩) pbs.length pbs.length)
 seat:∀ i:Nat,i<pbs.length→w.cell? ⟨tb,i,none⟩=some (.pointer (some ⟨pbs.getD i 0,0,none⟩))
 name:∀ i:Nat,i<pbs.length→w.cell? ⟨pbs.getD i 0,1,none⟩=some (.string ⟨#[(97+i).toUInt8]⟩)
theorem names_eq (i n:Nat)(hi:i<4)(hn:n<4):((⟨#[(97+i).toUInt8]⟩:ByteArray).toList == (⟨#[(97+n).toUInt8]⟩:ByteArray).toList)=decide (i=n):=by
 have h1:n=0∨n=1∨n=2∨n=3:=by omega
 have h2:i=0∨i=1∨i=2∨i=3:=by omega
 rw[ByteArray.toList_eq,ByteArray.toList_eq]
 rcases h1 with rfl|rfl|rfl|rfl<;>rcases h2 with rfl|rfl|rfl|rfl<;>first|rfl|kernel_rfl|decide
section
variable {w:World} {mb tb:Nat} {pbs:List Nat}
theorem named_at (h:Seated w mb tb pbs)(hP:pbs.length≤4)(n:Nat)(hn:n<pbs.length) :
  Calls Pz.prog 96 #[.pointer (some ⟨mb,0,none⟩),.string ⟨#[(97+n).toUInt8]⟩] w fun e w'=>e=.returned (.pointer (some ⟨pbs.getD n 0,0,none⟩))∧w'=w:=by
 have HTH:Hid (∀ i:Nat,i<pbs.length→w.cell? ⟨tb,i,none⟩=some (.pointer (some ⟨pbs.getD i 0,0,none⟩))∧w.cell? ⟨pbs.getD i 0,1,none⟩=some (.string ⟨#[(97+i).toUInt8]⟩)):=fun i hi=>⟨h.seat i hi,h.name i hi⟩
 have h4:=h.slice
 clear h
 have HN:Hid (∀ i:Nat,i<pbs.length→((⟨#[(97+i).toUInt8]⟩:ByteArray).toList == (⟨#[(97+n).toUInt8]⟩:ByteArray).toList)=decide (i=n)):=fun i hi=>names_eq i n (by omega) (by omega)
 generalize hl:pbs.length=P at *
 generalize (⟨#[(97+n).toUInt8]⟩:ByteArray)=s at *
 generalize hv:pbs.getD n 0=vb
 go_enter Pz.func96,Tryz.ntmps96
 go_wp2
 go_loop [12] (fun i=>∃ k:Nat,k≤n∧i=.int .i64 k) (fun i=>P-(intOf i).toNat)
 case atStart=>exact ⟨0,by omega,rfl⟩
 case round =>
  obtain ⟨k,hk,rfl⟩:=hrel
  have hlt:k<P:=by omega
  obtain ⟨hc1,hc2⟩:=HTH.out k hlt
  have hs:=HN.out k hlt
  by_cases hkn:k=n
  ·subst hkn
   rw[decide_eq_true rfl]at hs
   rw[hv]at hc1 hc2
   generalize (⟨#[(97+k).toUInt8]⟩:ByteArray)=t at *
   go_wp2
   go_ret
   exact ⟨rfl,rfl⟩
  ·rw[decide_eq_false hkn]at hs
   clear hv
   generalize pbs.getD k 0=ub at *
   generalize (⟨#[(97+k).toUInt8]⟩:ByteArray)=t at *
   go_wp2
   go_round
   case rel=>exact ⟨k+1,by omega,by go_num⟩
   case measure=>simp[intOf];omega
theorem index_full (h:Seated w mb tb pbs)(hP:pbs.length≤4) :
  Calls Pz.prog 171 #[.slice (some ⟨tb,0,none⟩) pbs.length pbs.length,.pointer none] w fun e w'=>e=.returned (.int .i64 (-1))∧w'=w:=by
 have HTH:Hid (∀ i:Nat,i<pbs.length→w.cell? ⟨tb,i,none⟩=some (.pointer (some ⟨pbs.getD i 0,0,none⟩))):=h.seat
 clear h
 generalize hl:pbs.length=P at *
 go_enter Pz.func171,Tryz.ntmps171
 go_wp2
 go_loop [8] (fun i=>∃ k:Nat,k≤P∧i=.int .i64 k) (fun i=>P-(intOf i).toNat)
 case atStart=>exact ⟨0,by omega,rfl⟩
 case round =>
  obtain ⟨k,hk,rfl⟩:=hrel
  by_cases hlt:k<P
  ·have hcell:=HTH.out k hlt
   generalize pbs.getD k 0=ub at hcell
   have hne:=eql_nil_some ⟨ub,0,none⟩
   go_wp2
   go_round
   case rel=>exact ⟨k+1,by omega,by go_num⟩
   case measure=>simp[intOf];omega
  ·go_wp2
   go_ret
   exact ⟨rfl,rfl⟩
theorem freeSeat_full (h:Seated w mb tb pbs)(hP:pbs.length≤4) :
  Calls Pz.prog 116 #[.pointer (some ⟨mb,0,none⟩)] w fun e w'=>e=.returned (.int .i64 (-1))∧w'=w:=by
 have HI:=(show Hid _ from index_full h hP)
 have h4:=h.slice
 clear h
 generalize pbs.length=P at *
 go_enter Pz.func116,Tryz.ntmps116
 go_wp2_with (go_at_call 171;refine Calls.mono HI.out ?_;rintro e w' ⟨rfl,rfl⟩)
 go_ret
 exact ⟨rfl,rfl⟩
theorem phase_full (h:Seated w mb tb pbs)(hP:pbs.length≤4){sb:Nat}{ov:Bool}(hs:w.cell? ⟨mb,2,none⟩=some (.pointer (some ⟨sb,0,none⟩)))
  (hO:Calls Pz.prog 39 #[.pointer (some ⟨sb,0,none⟩)] w fun e w'=>e=.returned (.bool ov)∧Below w.heap.size w w') :
  Calls Pz.prog 91 #[.pointer (some ⟨mb,0,none⟩)] w fun e w'=>e=.returned (.int .i64 (if ov then 3 else 2))∧Below w.heap.size w w':=by
 have HF:=(show Hid _ from freeSeat_full h hP)
 have HO:=(show Hid _ from hO)
 clear h hO
 go_enter Pz.func91,Tryz.ntmps91
 cases ov
 ·go_wp2_with (first|(go_at_call 116;refine Calls.mono HF.out ?_;rintro e w' ⟨rfl,rfl⟩)|(go_at_call 39;refine Calls.mono HO.out ?_;rintro e w2 ⟨rfl,hb2⟩))
  go_ret
  exact ⟨rfl,hb2⟩
 ·go_wp2_with (first|(go_at_call 116;refine Calls.mono HF.out ?_;rintro e w' ⟨rfl,rfl⟩)|(go_at_call 39;refine Calls.mono HO.out ?_;rintro e w2 ⟨rfl,hb2⟩))
  go_ret
  exact ⟨rfl,hb2⟩
end
end Go.Proofs.YtdianedehhecoaaGreatDoor
/- handOver of a player for whom nothing waits. -/
namespace Go.Proofs.YtdianedehhecoaaGreatDoor
open Go.RowKit
structure But (w w':World)(pb:Nat):Prop where
 os:w'.os=w.os
 tape:w'.tape=w.tape
 output:w'.output=w.output
 size:w.heap.size≤w'.heap.size
 block:∀ k:Nat,k<w.heap.size→k≠pb→w'.heap[k]? = w.heap[k]?
section
variable {w:World} {pb:Nat}
theorem handOver_not {x0 x1 x2 x4:Value}(hp:BlkAt w pb [x0,x1,x2,.slice none 0 0,x4,.bool false] 184) :
  Calls Pz.prog 182 #[.pointer (some ⟨pb,0,none⟩)] w fun e w'=>e=.returned (.slice none 0 0)∧w'=(w.setCell ⟨pb,5,none⟩ (.bool false)).setCell ⟨pb,3,none⟩ (.slice none 0 0):=by
 have h0:w.cell? ⟨pb,0,none⟩=some x0:=hp.cell rfl
 have h3:w.cell? ⟨pb,3,none⟩=some (.slice none 0 0):=hp.cell rfl
 have h5:w.cell? ⟨pb,5,none⟩=some (.bool false):=hp.cell rfl
 have f3:=hp.free 3
 have f5:=hp.free 5
 clear hp
 go_enter Pz.func182,Tryz.ntmps182
 go_wp2
 go_ret
 exact ⟨rfl,rfl⟩
end
end Go.Proofs.YtdianedehhecoaaGreatDoor