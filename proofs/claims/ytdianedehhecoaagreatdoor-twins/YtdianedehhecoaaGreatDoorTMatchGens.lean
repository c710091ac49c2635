/- Parts of memory, each with the blocks that are its own: what is done to one leaves the others. Nothing of the program. -/
import Derived.Test.YtdianedehhecoaaGreatDoorTHostLooks
set_option linter.unusedVariables false
set_option linter.unusedSimpArgs false
set_option maxHeartbeats 4000000
set_option maxRecDepth 20000
namespace Go.Proofs.YtdianedehhecoaaGreatDoor
open Go.RowKit
abbrev Asn:=World→(Nat→Prop)→Prop
structure Loc (A:Asn):Prop where
 on:∀ {w w':World} {O:Nat→Prop},A w O→(∀ k,O k→k<w.heap.size→w'.heap[k]? = w.heap[k]?)→A w' O
 own:∀ {w:World} {O O':Nat→Prop},A w O→(∀ k,O k→k<w.heap.size→O' k)→A w O'
def emp:Asn:=fun _ _=>True
theorem Loc.emp:Loc emp:=⟨fun _ _=>trivial,fun _ _=>trivial⟩
def blkA (b:Nat)(xs:List Value)(t:TypeId):Asn:=fun w O=>O b∧BlkAt w b xs t
theorem Loc.blk (b:Nat)(xs:List Value)(t:TypeId):Loc (blkA b xs t):=⟨fun h hk=>⟨h.1,h.2.same (hk _ h.1 h.2.lt)⟩,fun h hk=>⟨hk _ h.1 h.2.lt,h.2⟩⟩
def rowA (e size:Nat)(v:Value)(n:Nat)(xs:List Value):Asn:=fun w O=>RowAt w e size v n xs∧∀ k,v.ownBlock=some k→O k
theorem Loc.row (e size:Nat)(v:Value)(n:Nat)(xs:List Value):Loc (rowA e size v n xs):=⟨fun h hk=>⟨h.1.same fun k e=>hk k (h.2 k e) (h.1.lt e),h.2⟩,fun h hk=>⟨h.1,fun k e=>hk k (h.2 k e) (h.1.lt e)⟩⟩
structure Parts {ι:Type}(A:ι→Asn)(f:ι→Nat→Prop)(w:World):Prop where
 apart:∀ i j k,f i k→f j k→i=j
 part:∀ i,A i w (f i)
section
variable {ι:Type} {A A':ι→Asn} {f f':ι→Nat→Prop} {w w':World} {T:ι→Prop}
theorem Parts.step (h:Parts A f w)(hL:∀ i,Loc (A i))(hk:Keep (fun k=>∃ i,T i∧f i k) w w')(ha:∀ i j k,T i→T j→f' i k→f' j k→i=j)(hf:∀ i k,T i→f' i k→(∃ j,T j∧f j k)∨w.heap.size≤k)
  (hp:∀ i,T i→A' i w' (f' i))(hs:∀ i,¬ T i→A' i=A i):Parts A' (fun i k=>(T i∧f' i k)∨(¬ T i∧f i k∧k<w.heap.size)) w':=by
 refine ⟨fun i j k hi hj=>?_,fun i=>?_⟩
 ·rcases hi with ⟨ti,hi⟩|⟨ti,hi,li⟩<;>rcases hj with ⟨tj,hj⟩|⟨tj,hj,lj⟩
  ·exact ha i j k ti tj hi hj
  ·rcases hf i k ti hi with ⟨q,tq,hq⟩|hn
   ·exact absurd (h.apart q j k hq hj▸tq) tj
   ·omega
  ·rcases hf j k tj hj with ⟨q,tq,hq⟩|hn
   ·exact absurd (h.apart q i k hq hi▸tq) ti
   ·omega
  ·exact h.apart i j k hi hj
 ·by_cases ti:T i
  ·have e:(fun k=>(T i∧f' i k)∨(¬ T i∧f i k∧k<w.heap.size))=f' i:=by
    funext k
    simp[ti]
   rw[e]
   exact hp i ti
  ·have e:(fun k=>(T i∧f' i k)∨(¬ T i∧f i k∧k<w.heap.size))=fun k=>f i k∧k<w.heap.size:=by
    funext k
    simp[ti]
   rw[e,hs i ti]
   refine (hL i).on ((hL i).own (h.part i) fun k ho hl=>⟨ho,hl⟩) fun k ho hl=>hk.block k hl ?_
   rintro ⟨q,tq,hq⟩
   exact ti (h.apart q i k hq ho.1▸tq)
end
end Go.Proofs.YtdianedehhecoaaGreatDoor
/- A match that goes, at any time of it: where it lies, part by part. -/
namespace Go.Proofs.YtdianedehhecoaaGreatDoor
open Go.RowKit
structure Pl where
 b:Nat
 tk:Int
 wv:Value
 cs:List RC
structure Wt where
 b:Nat
 uv:Value
 ts:List ByteArray
structure MSt where
 lk:Int
 mb:Nat
 sb:Nat
 tb:Nat
 S:RS
 gv:Value
 uv:Value
 bs:List Nat
 hv:Value
 hs:List ByteArray
 lv:Value
 ps:List Pl
 ws:List Wt
inductive MIx where
 | m|s|h|t|l
 | p (i:Nat)
 | q (i:Nat)
 | w (j:Nat)
 | u (j:Nat)
def ptrV (b:Nat):Value:=.pointer (some ⟨b,0,none⟩)
def MSt.A (M:MSt):MIx→Asn
 | .m=>blkA M.mb [.int .i32 M.lk,.int .u32 0,ptrV M.sb,M.hv,.slice (some ⟨M.tb,0,none⟩) M.ps.length M.ps.length,.bool false,M.lv] 136
 | .s=>fun w O=>PAt w O M.sb (toPS M.S) M.gv M.uv M.bs
 | .h=>rowA 9 1 M.hv M.hs.length (M.hs.map .string)
 | .t=>blkA M.tb (M.ps.map fun p=>ptrV p.b) 182
 | .l=>rowA 113 1 M.lv M.ws.length (M.ws.map fun u=>ptrV u.b)
 | .p i=>match M.ps[i]? with
  | some p=>blkA p.b [.int .i64 i,.string ⟨#[(97+i).toUInt8]⟩,.int .i64 p.tk,p.wv,.bool false,.bool false] 184
  | none=>emp
 | .q i=>match M.ps[i]? with
  | some p=>rowA 171 5 p.wv p.cs.length (rcCells p.cs)
  | none=>emp
 | .w j=>match M.ws[j]? with
  | some u=>blkA u.b [ptrV M.mb,u.uv] 187
  | none=>emp
 | .u j=>match M.ws[j]? with
  | some u=>rowA 9 1 u.uv u.ts.length (u.ts.map .string)
  | none=>emp
theorem MSt.loc (M:MSt)(i:MIx):Loc (M.A i):=by
 cases i with
 | m=>exact Loc.blk _ _ _
 | s=>exact ⟨fun h hk=>h.on hk,fun h hk=>h.own hk⟩
 | h=>exact Loc.row _ _ _ _ _
 | t=>exact Loc.blk _ _ _
 | l=>exact Loc.row _ _ _ _ _
 | p i =>
  simp only[MSt.A]
  split
  ·exact Loc.blk _ _ _
  ·exact Loc.emp
 | q i =>
  simp only[MSt.A]
  split
  ·exact Loc.row _ _ _ _ _
  ·exact Loc.emp
 | w j =>
  simp only[MSt.A]
  split
  ·exact Loc.blk _ _ _
  ·exact Loc.emp
 | u j =>
  simp only[MSt.A]
  split
  ·exact Loc.row _ _ _ _ _
  ·exact Loc.emp
structure MOk (M:MSt):Prop where
 ub:∃ g,M.uv.ownBlock=some g
 inv:RInv M.S
 few:M.ps.length≤4
 turn:0≤M.S.turn∧M.S.turn≤1000
 queue:∀ p,p∈M.ps→p.cs.length≤8∧(∀ c,c∈p.cs→c.ok)∧(p.cs=[]→p.wv=.slice none 0 0)∧0≤p.tk
 watch:M.ws.length≤20
structure MG (w:World)(D:Nat→Prop)(M:MSt)(f:MIx→Nat→Prop):Prop where
 parts:Parts M.A f w
 low:∀ i k,f i k→k<w.heap.size→D k
 ok:MOk M
section
variable {w w':World} {D D':Nat→Prop} {M M':MSt} {f f':MIx→Nat→Prop} {T:MIx→Prop}
theorem MG.on (h:MG w D M f)(hk:∀ k,D k→k<w.heap.size→w'.heap[k]? = w.heap[k]?):MG w' D M fun i k=>f i k∧k<w.heap.size:=by
 refine ⟨⟨fun i j k hi hj=>h.parts.apart i j k hi.1 hj.1,fun i=>(M.loc i).on ((M.loc i).own (h.parts.part i) fun k ho hl=>⟨ho,hl⟩) fun k ho hl=>hk k (h.low i k ho.1 hl) hl⟩,fun i k hf _=>h.low i k hf.1 hf.2,h.ok⟩
theorem MG.own (h:MG w D M f)(hD:∀ k,D k→k<w.heap.size→D' k):MG w D' M f:={ h with low:=fun i k hf hl=>hD k (h.low i k hf hl) hl }
theorem MG.below (h:MG w D M f)(hb:Below w.heap.size w w'):MG w' D M fun i k=>f i k∧k<w.heap.size:=h.on fun k _ hl=>hb.block k hl
theorem MG.cells (h:MG w D M f):BlkAt w M.mb [.int .i32 M.lk,.int .u32 0,ptrV M.sb,M.hv,.slice (some ⟨M.tb,0,none⟩) M.ps.length M.ps.length,.bool false,M.lv] 136:=(h.parts.part .m).2
theorem MG.seats (h:MG w D M f):BlkAt w M.tb (M.ps.map fun p=>ptrV p.b) 182:=(h.parts.part .t).2
theorem MG.state (h:MG w D M f):PAt w (f .s) M.sb (toPS M.S) M.gv M.uv M.bs:=h.parts.part .s
theorem MG.hashes (h:MG w D M f):RowAt w 9 1 M.hv M.hs.length (M.hs.map .string):=(h.parts.part .h).1
theorem MG.list (h:MG w D M f):RowAt w 113 1 M.lv M.ws.length (M.ws.map fun u=>ptrV u.b):=(h.parts.part .l).1
theorem MG.player (h:MG w D M f){i:Nat}{p:Pl}(hp:M.ps[i]? = some p):BlkAt w p.b [.int .i64 i,.string ⟨#[(97+i).toUInt8]⟩,.int .i64 p.tk,p.wv,.bool false,.bool false] 184∧RowAt w 171 5 p.wv p.cs.length (rcCells p.cs):=by
 have h1:=h.parts.part (.p i)
 have h2:=h.parts.part (.q i)
 simp only[MSt.A,hp]at h1 h2
 exact ⟨h1.2,h2.1⟩
theorem MG.watcher (h:MG w D M f){j:Nat}{u:Wt}(hu:M.ws[j]? = some u):BlkAt w u.b [ptrV M.mb,u.uv] 187∧RowAt w 9 1 u.uv u.ts.length (u.ts.map .string):=by
 have h1:=h.parts.part (.w j)
 have h2:=h.parts.part (.u j)
 simp only[MSt.A,hu]at h1 h2
 exact ⟨h1.2,h2.1⟩
theorem MG.ne (h:MG w D M f){i j:MIx}{a b:Nat}(ha:f i a)(hb:f j b)(hij:i≠j):a≠b:=fun e=>hij (h.parts.apart i j b (e▸ha) hb)
theorem MG.fm (h:MG w D M f):f .m M.mb:=(h.parts.part .m).1
theorem MG.ft (h:MG w D M f):f .t M.tb:=(h.parts.part .t).1
theorem MG.fh (h:MG w D M f){k:Nat}(hk:M.hv.ownBlock=some k):f .h k:=(h.parts.part .h).2 k hk
theorem MG.fl (h:MG w D M f){k:Nat}(hk:M.lv.ownBlock=some k):f .l k:=(h.parts.part .l).2 k hk
theorem MG.fp (h:MG w D M f){i:Nat}{p:Pl}(hp:M.ps[i]? = some p):f (.p i) p.b:=by
 have h1:=h.parts.part (.p i)
 simp only[MSt.A,hp]at h1
 exact h1.1
theorem MG.fq (h:MG w D M f){i:Nat}{p:Pl}(hp:M.ps[i]? = some p){k:Nat}(hk:p.wv.ownBlock=some k):f (.q i) k:=by
 have h1:=h.parts.part (.q i)
 simp only[MSt.A,hp]at h1
 exact h1.2 k hk
theorem MG.fw (h:MG w D M f){j:Nat}{u:Wt}(hu:M.ws[j]? = some u):f (.w j) u.b:=by
 have h1:=h.parts.part (.w j)
 simp only[MSt.A,hu]at h1
 exact h1.1
theorem MG.fu (h:MG w D M f){j:Nat}{u:Wt}(hu:M.ws[j]? = some u){k:Nat}(hk:u.uv.ownBlock=some k):f (.u j) k:=by
 have h1:=h.parts.part (.u j)
 simp only[MSt.A,hu]at h1
 exact h1.2 k hk
theorem MG.dm (h:MG w D M f):D M.mb:=h.low _ _ h.fm h.cells.lt
def Nw (D:Nat→Prop)(n:Nat):Nat→Prop:=fun k=>D k∨n≤k
theorem MG.change (h:MG w D M f)(hk:Keep (fun k=>∃ i,T i∧f i k) w w')(ha:∀ i j k,T i→T j→f' i k→f' j k→i=j)(hf:∀ i k,T i→f' i k→(∃ j,T j∧f j k)∨w.heap.size≤k)
  (hp:∀ i,T i→M'.A i w' (f' i))(hs:∀ i,¬ T i→M'.A i=M.A i)(hD:∀ k,D k→D' k)(hD':∀ i k,T i→f' i k→k<w'.heap.size→D' k)(hok:MOk M'):∃ f'',MG w' D' M' f''∧Keep D w w':=by
 refine ⟨_,⟨h.parts.step (T:=T) (f':=f') M.loc hk ha hf hp hs,?_,hok⟩,?_⟩
 ·rintro i k (⟨ti,hf'⟩|⟨_,hf',hl⟩) hk'
  ·exact hD' i k ti hf' hk'
  ·exact hD k (h.low i k hf' hl)
 ·refine hk.mono ?_
  rintro k ⟨i,_,hf'⟩
  by_cases hl:k<w.heap.size
  ·exact .inl (h.low i k hf' hl)
  ·exact .inr (by omega)
theorem MG.change1 (h:MG w D M f)(i:MIx)(hk:Keep (f i) w w')(hp:M'.A i w' (fun k=>f i k∨w.heap.size≤k))(hs:∀ j,j≠i→M'.A j=M.A j)(hok:MOk M'):∃ f'',MG w' (Nw D w.heap.size) M' f''∧Keep D w w' :=
 h.change (T:=fun j=>j=i) (f':=fun _ k=>f i k∨w.heap.size≤k) (hk.mono fun k hf=>.inl ⟨i,rfl,hf⟩) (fun a b k ha hb _ _=>ha.trans hb.symm) (fun a k ha hf=>hf.elim (fun x=>.inl ⟨i,rfl,x⟩) .inr) (fun j hj=>by subst hj;exact hp) hs (fun k hd=>.inl hd)
  (fun j k hj hf _=>by
   by_cases hl:k<w.heap.size
   ·rcases hf with hf|hf
    ·exact .inl (h.low i k hf hl)
    ·omega
   ·exact .inr (by omega)) hok
theorem MG.locks (h:MG w D M f)(l2:Int):∃ f',MG (w.setCell ⟨M.mb,0,none⟩ (.int .i32 l2)) D { M with lk:=l2 } f':=by
 have hk:Keep (f .m) w (w.setCell ⟨M.mb,0,none⟩ (.int .i32 l2)):=(Keep.refl _ w).set (.inl h.fm)
 obtain ⟨f',h',-⟩:=h.change (M':={ M with lk:=l2 }) (D':=D) (T:=fun j=>j=.m) (f':=fun _ k=>f .m k) (hk.mono fun k hf=>.inl ⟨.m,rfl,hf⟩) (fun a b k ha hb _ _=>ha.trans hb.symm) (fun a k ha hf=>.inl ⟨.m,rfl,hf⟩) (fun j hj=>by subst hj;exact ⟨h.fm,h.cells.set 0 (.int .i32 l2)⟩) (fun j hj=>by cases j<;>first|rfl|exact absurd rfl hj) (fun k hd=>hd) (fun i k hi hf hl=>h.low .m k hf (by rw[World.heap_setCell_size]at hl;exact hl)) ⟨h.ok.ub,h.ok.inv,h.ok.few,h.ok.turn,h.ok.queue,h.ok.watch⟩
 exact ⟨f',h'⟩
end
end Go.Proofs.YtdianedehhecoaaGreatDoor
/- A match that goes, at any time: what it says of itself; Look. -/
namespace Go.Proofs.YtdianedehhecoaaGreatDoor
open Go.RowKit
section
variable {w w':World} {D:Nat→Prop} {M:MSt} {f:MIx→Nat→Prop}
theorem turn_of {sb:Nat}{x:Value}(h0:w.cell? ⟨sb,0,none⟩=some x) :
  Calls Pz.prog 92 #[.pointer (some ⟨sb,0,none⟩)] w fun e w'=>e=.returned x∧w'=w:=by
 go_enter Pz.func92,Tryz.ntmps92
 go_wp2
 go_ret
 exact ⟨rfl,rfl⟩
theorem MSt.getD_b (M:MSt){i:Nat}{p:Pl}(hp:M.ps[i]? = some p):(M.ps.map (·.b)).getD i 0=p.b:=by simp [List.getD,List.getElem?_map,hp]
theorem MSt.has (M:MSt){i:Nat}(hi:i<M.ps.length):∃ p,M.ps[i]? = some p:=⟨_,List.getElem?_eq_getElem hi⟩
theorem MG.seated (h:MG w D M f):Seated w M.mb M.tb (M.ps.map (·.b)):=by
 refine ⟨by rw[List.length_map];exact h.cells.cell rfl,fun i hi=>?_,fun i hi=>?_⟩
 ·obtain ⟨p,hp⟩:=M.has (by simpa using hi)
  rw[M.getD_b hp]
  exact h.seats.cell (by simp[hp,ptrV])
 ·obtain ⟨p,hp⟩:=M.has (by simpa using hi)
  rw[M.getD_b hp]
  exact (h.player hp).1.cell rfl
theorem MG.over (h:MG w D M f):Calls Pz.prog 39 #[.pointer (some ⟨M.sb,0,none⟩)] w fun e w'=>e=.returned (.bool (overB M.S))∧Below w.heap.size w w':=by
 obtain ⟨g,hg⟩:=h.ok.ub
 have H:=POver_any h.state hg h.ok.inv.toP.n (toPS_own h.ok.inv)
 have hovr:overP (toPS M.S).units=overB M.S:=over_rel h.ok.inv
 rw[hovr]at H
 exact H
theorem MG.phase (h:MG w D M f):Calls Pz.prog 91 #[.pointer (some ⟨M.mb,0,none⟩)] w fun e w'=>e=.returned (.int .i64 (if overB M.S then 3 else 2))∧Below w.heap.size w w' :=
 phase_full h.seated (by rw[List.length_map];exact h.ok.few) (h.cells.cell rfl) h.over
theorem MG.turn (h:MG w D M f):Calls Pz.prog 92 #[.pointer (some ⟨M.sb,0,none⟩)] w fun e w'=>e=.returned (.int .i64 M.S.turn)∧w'=w:=turn_of (h.state.st.cell rfl)
theorem MG.winner (h:MG w D M f):Calls Pz.prog 93 #[.pointer (some ⟨M.sb,0,none⟩)] w fun e w'=>e=.returned (.int .i64 (winP (toPS M.S).units))∧Below w.heap.size w w':=by
 obtain ⟨g,hg⟩:=h.ok.ub
 exact PWinner_any h.state hg h.ok.inv.toP.n (toPS_own h.ok.inv)
theorem wait_slice {v:Value}{n:Nat}{xs:List Value}(h:RowAt w 171 5 v n xs):∃ a cap,v=.slice a n cap:=by
 by_cases hn:0<n
 ·obtain ⟨g,cap,e,-⟩:=h.form hn
  exact ⟨_,cap,e⟩
 ·obtain rfl:n=0:=by omega
  rcases h.2 with ⟨e,_⟩|⟨g,cap,cur,e,_⟩
  ·exact ⟨none,0,e⟩
  ·exact ⟨_,cap,e⟩
def MSt.waits (M:MSt)(i:Nat):Nat:=(M.ps[i]?.map (·.cs.length)).getD 0
theorem MG.look (h:MG w D M f)(hl:M.lk=0) :
  Calls Pz.prog 46 #[.pointer (some ⟨M.mb,0,none⟩)] w fun e w'=>e=.returned (.agg #[.int .i64 (if overB M.S then 3 else 2),.bool false,.int .i64 M.ps.length,.int .i64 M.S.turn,.int .i64 (sumTo M.waits M.ps.length),.int .i64 (winP (toPS M.S).units)])∧Below w.heap.size w w':=by
 obtain ⟨f1,h1⟩:=h.locks 1
 have hW:∀ W,Below w.heap.size (w.setCell ⟨M.mb,0,none⟩ (.int .i32 1)) W→∃ f2,MG W D { M with lk:=1 } f2:=fun W hb=>⟨_,h1.below (by rw[World.heap_setCell_size];exact hb)⟩
 have hc:=h.cells
 rw[hl]at hc
 have hs:∀ i:Nat,∃ a cap,i<M.ps.length→w.cell? ⟨(M.ps.map (·.b)).getD i 0,3,none⟩=some (.slice a (M.waits i) cap):=fun i=>by
  by_cases hi:i<M.ps.length
  ·obtain ⟨p,hp⟩:=M.has hi
   obtain ⟨a,cap,e⟩:=wait_slice (h.player hp).2
   refine ⟨a,cap,fun _=>?_⟩
   have hc3:=(h.player hp).1.cell (i:=3) rfl
   rw[M.getD_b hp,hc3,e]
   simp[MSt.waits,hp]
  ·exact ⟨none,0,fun x=>absurd x hi⟩
 refine mlook_gen (P:=M.ps.length) (pbs:=M.ps.map (·.b)) (ad:=fun i=>Classical.choose (hs i)) (ln:=M.waits) (cp:=fun i=>Classical.choose (Classical.choose_spec (hs i))) hc h.ok.few (fun i=>?_) (fun i hi=>?_) (h.ne h.ft h.fm (by simp)) (fun W hb=>(hW W hb).elim fun _ x=>x.phase) (fun W hb=>(hW W hb).elim fun _ x=>x.turn) (fun W hb=>(hW W hb).elim fun _ x=>x.winner)
 ·unfold MSt.waits
  cases hp:M.ps[i]? with
  | none=>simp
  | some p =>
   have:=(h.ok.queue p (List.mem_of_getElem? hp)).1
   simp
   omega
 ·obtain ⟨p,hp⟩:=M.has hi
  refine ⟨?_,Classical.choose_spec (Classical.choose_spec (hs i)) hi,?_⟩
  ·exact h.seated.seat i (by simpa using hi)
  ·rw[M.getD_b hp]
   exact h.ne (h.fp hp) h.fm (by simp)
end
end Go.Proofs.YtdianedehhecoaaGreatDoor
/- A player's command is taken: ReadCommand, take. -/
namespace Go.Proofs.YtdianedehhecoaaGreatDoor
open Go.RowKit
theorem step_append_cells {P:Program}{ops:Array Oper}{o:Oper}{a:Act}{w:World}{K:Act→World→Prop}{Q:Exit→Act→World→Prop}{E:Prop}
  (hgd:o.guard=none)(s x:Operand)(t:TypeId)(ho:o.op=.call { callee:=.builtin .append,args:=#[s,x],argTypes:=#[t,t] })
  (e:TypeId)(i:TypeInfo)(z:Value)(size bytes:Nat)(ht:P.underlying t=some (.slice e))(hi:P.info? e=some i)(hz:i.zero=some z)(hsize:i.size=size)(hby:i.bytes=bytes)(hzs:z.cells.size=size)(hpos:0<size)
  {v:Value} {n m:Nat} {xs us:List Value} (hs:a.eval s=v) (hown:RowAt w e size v n xs) {ad:Addr} {c:Nat} (hul:us.length=m*size) (hx:a.eval x=.slice (some ad) m c) (hu:∀ j u,us[j]? = some u→w.cell? (ad.add j)=some u) (h1:∀ u,u∈us→u.oneCell'=true)
  (hn:n+m≤1000000)(hb:bytes≤1000)
  (hK:∀ v' w',RowAt w' e size v' (n+m) (xs++us)→w.grownBy w' v.ownBlock→(v'.ownBlock=v.ownBlock∨v'.ownBlock=some w.heap.size)→(v'=.slice none 0 0↔v=.slice none 0 0∧m=0)→K (a.put o.dst v') w') :
  if Region.wanted o (yielded ops a.tmps)=true then Oper.wp P o a w K Q else E:=by
 have hw:Region.wanted o (yielded ops a.tmps)=true:=by simp[Region.wanted,hgd]
 rw[if_pos hw]
 have hm:(n+m)*bytes≤140737488355328:=Nat.le_trans (Nat.mul_le_mul hn hb) (by decide)
 obtain ⟨v',w',hr,h2,h3,h4,h5⟩:=run_append_own_at (P:=P) w 0 t o.type e i z size bytes ht hi hz hsize hby hzs hpos v n xs hown ad m c us hul hu h1 (by unfold maxLen;omega) hm (Nat.zero_le _)
 unfold Oper.wp
 simp[execOp,ho,resolve,invoke,builtin,hs,hx,hr,Result.andThen]
 exact hK v' w' h2 h3 h5 h4
theorem ReadCommand_any (s:ByteArray)(h5:s.size=5)(w:World) :
  Calls Pz.prog 201 #[.string s] w fun e w'=>e=.returned (.tuple #[.agg #[.int .i64 (byt s 0),.int .i64 (byt s 1),.int .i64 (byt s 2),.int .i64 (byt s 3),.int .i64 (byt s 4)],.bool true])∧Below w.heap.size w w':=by
 have hz0:BlkAt (w.alloc (.cells #[.int .i64 0,.int .i64 0,.int .i64 0,.int .i64 0,.int .i64 0] 171)) w.heap.size [.int .i64 0,.int .i64 0,.int .i64 0,.int .i64 0,.int .i64 0] 171:=BlkAt.new w [.int .i64 0,.int .i64 0,.int .i64 0,.int .i64 0,.int .i64 0] _
 have HR:Hid (Calls Pz.prog 137 #[.string s] (w.alloc (.cells #[.int .i64 0,.int .i64 0,.int .i64 0,.int .i64 0,.int .i64 0] 171)) fun e w1=>e=.returned (.agg #[.int .i64 (byt s 0),.int .i64 (byt s 1),.int .i64 (byt s 2),.int .i64 (byt s 3),.int .i64 (byt s 4)])∧(w1.cell? ⟨w.heap.size,0,none⟩=some (.int .i64 0)∧w1.cell? ⟨w.heap.size,1,none⟩=some (.int .i64 0)∧w1.cell? ⟨w.heap.size,2,none⟩=some (.int .i64 0)∧w1.cell? ⟨w.heap.size,3,none⟩=some (.int .i64 0)∧w1.cell? ⟨w.heap.size,4,none⟩=some (.int .i64 0)) ∧
   (w1.frozen? ⟨w.heap.size,0,none⟩=false∧w1.frozen? ⟨w.heap.size,1,none⟩=false∧w1.frozen? ⟨w.heap.size,2,none⟩=false∧w1.frozen? ⟨w.heap.size,3,none⟩=false∧w1.frozen? ⟨w.heap.size,4,none⟩=false∧w.heap.size<w1.heap.size)∧Hid (BlkAt w1 w.heap.size [.int .i64 0,.int .i64 0,.int .i64 0,.int .i64 0,.int .i64 0] 171∧Below w.heap.size w w1)):=(readCommand_any s h5 _).mono fun e w1 ⟨he,hb⟩=>by
  have h1:=hz0.same (hb.block _ (by simp))
  exact ⟨he,⟨h1.cell rfl,h1.cell rfl,h1.cell rfl,h1.cell rfl,h1.cell rfl⟩,⟨h1.free 0,h1.free 1,h1.free 2,h1.free 3,h1.free 4,h1.lt⟩,h1,((Below.refl _ _).alloc (Nat.le_refl _) _).trans (hb.mono (by simp))⟩
 have h5i:(s.size:Int)=5:=by omega
 clear hz0
 generalize byt s 0=x0 at *
 generalize byt s 1=x1 at *
 generalize byt s 2=x2 at *
 generalize byt s 3=x3 at *
 generalize byt s 4=x4 at *
 go_enter Pz.func201,Tryz.ntmps201
 go_wp2_with (go_at_call 137;refine Calls.mono HR.out ?_;rintro e w1 ⟨rfl,⟨v0,v1,v2,v3,v4⟩,⟨f0,f1,f2,f3,f4,fl⟩,hq⟩)
 obtain ⟨g1,g3⟩:=hq.out
 have hz:BlkAt (((((w1.setCell ⟨w.heap.size,0,none⟩ (.int .i64 x0)).setCell ⟨w.heap.size,1,none⟩ (.int .i64 x1)).setCell ⟨w.heap.size,2,none⟩ (.int .i64 x2)).setCell ⟨w.heap.size,3,none⟩ (.int .i64 x3)).setCell ⟨w.heap.size,4,none⟩ (.int .i64 x4)) w.heap.size [.int .i64 x0,.int .i64 x1,.int .i64 x2,.int .i64 x3,.int .i64 x4] 171:=((((g1.set 0 _).set 1 _).set 2 _).set 3 _).set 4 _
 have hzb:Below w.heap.size w (((((w1.setCell ⟨w.heap.size,0,none⟩ (.int .i64 x0)).setCell ⟨w.heap.size,1,none⟩ (.int .i64 x1)).setCell ⟨w.heap.size,2,none⟩ (.int .i64 x2)).setCell ⟨w.heap.size,3,none⟩ (.int .i64 x3)).setCell ⟨w.heap.size,4,none⟩ (.int .i64 x4)):=((((g3.setCell (p:=⟨w.heap.size,0,none⟩) (Nat.le_refl _) (.int .i64 x0)).setCell (p:=⟨w.heap.size,1,none⟩) (Nat.le_refl _) (.int .i64 x1)).setCell (p:=⟨w.heap.size,2,none⟩) (Nat.le_refl _) (.int .i64 x2)).setCell (p:=⟨w.heap.size,3,none⟩) (Nat.le_refl _) (.int .i64 x3)).setCell (p:=⟨w.heap.size,4,none⟩) (Nat.le_refl _) (.int .i64 x4)
 generalize (((((w1.setCell ⟨w.heap.size,0,none⟩ (.int .i64 x0)).setCell ⟨w.heap.size,1,none⟩ (.int .i64 x1)).setCell ⟨w.heap.size,2,none⟩ (.int .i64 x2)).setCell ⟨w.heap.size,3,none⟩ (.int .i64 x3)).setCell ⟨w.heap.size,4,none⟩ (.int .i64 x4))=wz at *
 refine bodyPost_ret (v:=.tuple #[.agg #[.int .i64 x0,.int .i64 x1,.int .i64 x2,.int .i64 x3,.int .i64 x4],.bool true]) ?_ rfl ⟨rfl,hzb⟩
 rw[results_cell_tmp (p:=2) (u:=3) (ty:=171) rfl]
 have hl:=run_loadVar_row (P:=Pz.prog) wz w.heap.size 171 171 ([.int .i64 x0,.int .i64 x1,.int .i64 x2,.int .i64 x3,.int .i64 x4]:List Value).toArray (0,0) _ hz ((Pz.gUnderlying 171).trans Tryz.underlying171) rfl (by kernel_rfl)
 show (Result.ok (⟨w.heap.size,0,none⟩:Addr) wz).andThen _=_
 rw[Result.andThen_ok,hl]
 rfl
structure Took (w w':World)(b i:Nat)(nm wv wv':Value)(tk:Int)(cs:List RC):Prop where
 cells:BlkAt w' b [.int .i64 i,nm,.int .i64 tk,wv',.bool false,.bool false] 184
 row:RowAt w' 171 5 wv' cs.length (rcCells cs)
 own:wv'.ownBlock=wv.ownBlock∨∃ k,wv'.ownBlock=some k∧w.heap.size≤k
 keep:Keep (fun k=>k=b∨wv.ownBlock=some k) w w'
theorem took_of {w w3 w5:World}{b i n:Nat}{nm wv v':Value}{tk:Int}{cs:List RC}{C:Obj}(hp:BlkAt w3 b [.int .i64 i,nm,.int .i64 tk,wv,.bool false,.bool false] 184)(hk:Keep (fun k=>k=b∨wv.ownBlock=some k) w w3)(hne:wv.ownBlock≠some b)
  (hg:((w3.alloc C).drew).grownBy w5 wv.ownBlock)(hr:RowAt w5 171 5 v' n (rcCells cs))(hl:cs.length=n)(hb:v'.ownBlock=wv.ownBlock∨v'.ownBlock=some (w3.alloc C).drew.heap.size):Took w (w5.setCell ⟨b,3,none⟩ v') b i nm wv v' tk cs:=by
 have hz:(w3.alloc C).drew.heap.size=w3.heap.size+1:=by show (w3.heap.push _).size=_;rw[Array.size_push]
 have hbl:=hp.lt
 have hz2:=hg.size
 have hz3:=hk.size
 have old:∀ k:Nat,k<w3.heap.size→wv.ownBlock≠some k→w5.heap[k]? = w3.heap[k]?:=fun k h1 h2=>(hg.block k (by omega) (fun e=>h2 e.symm)).trans (Below.heap_alloc w3 C k h1)
 have hne':v'.ownBlock≠some b:=by
  rcases hb with e|e
  ·rw[e];exact hne
  ·rw[e];intro x;cases x;omega
 subst hl
 refine ⟨(hp.same (old b hbl hne)).set 3 v',hr.other hne',?_,hg.os.trans hk.os,hg.tape.trans hk.tape,hg.output.trans hk.output,by rw[World.heap_setCell_size];omega,fun k h1 h2=>?_⟩
 ·rcases hb with e|e
  ·exact .inl e
  ·exact .inr ⟨_,e,by omega⟩
 ·rw[Below.heap_setCell _ ⟨b,3,none⟩ _ k (fun e=>h2 (.inl e)),old k (by omega) (fun e=>h2 (.inr e))]
  exact hk.block k h1 h2
section
variable {w:World} {b i:Nat} {nm wv:Value} {tk:Int} {cs:List RC}
theorem take_any (hp:BlkAt w b [.int .i64 i,nm,.int .i64 tk,wv,.bool false,.bool false] 184)(hr:RowAt w 171 5 wv cs.length (rcCells cs))(hne:wv.ownBlock≠some b)(t0:0≤tk)(t1:tk≤1000000000)(hq:cs.length≤8)(s:ByteArray)(h5:s.size=5)(hb0:byt s 0=i) :
  Calls Pz.prog 159 #[.pointer (some ⟨b,0,none⟩),.int .i64 (tk+1),.string s] w fun e w'=>(cs.length=8∧e=.returned (.int .i64 7)∧Below w.heap.size w w')∨(cs.length<8∧e=.returned (.int .i64 0)∧∃ wv',Took w w' b i nm wv wv' (tk+1) (cs++[cmdAt s 0])):=by
 have c0:w.cell? ⟨b,0,none⟩=some (.int .i64 i):=hp.cell rfl
 have c2:w.cell? ⟨b,2,none⟩=some (.int .i64 tk):=hp.cell rfl
 have c3:w.cell? ⟨b,3,none⟩=some wv:=hp.cell rfl
 have c4:w.cell? ⟨b,4,none⟩=some (.bool false):=hp.cell rfl
 have hwr:IntKind.i64.wrap (tk+1)=tk+1:=by simp[IntKind.wrap,IntKind.bits,IntKind.signed];omega
 have hbl:=hp.lt
 have hR:=ReadCommand_any s h5 w
 rw[hb0]at hR
 have HR:Hid (Calls Pz.prog 201 #[.string s] w fun e w1=>e=.returned (.tuple #[.agg #[.int .i64 i,.int .i64 (byt s 1),.int .i64 (byt s 2),.int .i64 (byt s 3),.int .i64 (byt s 4)],.bool true])∧(w1.cell? ⟨b,0,none⟩=some (.int .i64 i)∧w1.cell? ⟨b,2,none⟩=some (.int .i64 tk)∧w1.frozen? ⟨b,2,none⟩=false∧w1.cell? ⟨b,3,none⟩=some wv∧b<w1.heap.size)∧Hid (Below w.heap.size w w1)):=hR.mono fun e w1 ⟨he,hb⟩=>⟨he,⟨(hb.cell hbl).trans c0,(hb.cell hbl).trans c2,(hb.frozen (p:=⟨b,2,none⟩) hbl).trans (hp.free 2),(hb.cell hbl).trans c3,by have:=hb.size;omega⟩,hb⟩
 clear hR
 have HP:=(show Hid _ from hp)
 have HW:=(show Hid _ from hr)
 obtain ⟨a0,cap0,ewv⟩:∃ a cap,wv=.slice a cs.length cap:=by
  by_cases hn:0<cs.length
  ·obtain ⟨g,cap,e,-⟩:=hr.form hn
   exact ⟨_,cap,e⟩
  ·have h0:cs.length=0:=by omega
   rcases hr.2 with ⟨e,-⟩|⟨g,cap,cur,e,-⟩
   ·exact ⟨none,0,by rw[h0];exact e⟩
   ·exact ⟨_,cap,e⟩
 clear hp hr
 have HCM0:Hid (cmdAt s 0=⟨(i:Int),byt s 1,byt s 2,byt s 3,byt s 4⟩):=by unfold Hid cmdAt;rw[hb0]
 generalize byt s 1=x1 at *
 generalize byt s 2=x2 at *
 generalize byt s 3=x3 at *
 generalize byt s 4=x4 at *
 subst ewv
 by_cases h8:cs.length=8
 ·have h8i:(cs.length:Int)=8:=by omega
  go_enter Pz.func159,Tryz.ntmps159
  go_wp2_with (go_at_call 201;refine Calls.mono HR.out ?_;rintro e w1 ⟨rfl,⟨k0,k2,z2,k3,k1⟩,kb⟩)
  go_quiet (fail)
  go_wp2_with fail
  go_ret
  have B0:=kb.out.alloc kb.out.size (.cells #[.int .i64 i,.int .i64 x1,.int .i64 x2,.int .i64 x3,.int .i64 x4] 171)
  exact .inl ⟨h8,rfl,⟨B0.os,B0.tape,B0.output,B0.size,B0.block⟩⟩
 ·have h8i:¬ (cs.length:Int)=8:=by omega
  go_enter Pz.func159,Tryz.ntmps159
  go_wp2_with (go_at_call 201;refine Calls.mono HR.out ?_;rintro e w1 ⟨rfl,⟨k0,k2,z2,k3,k1⟩,kb⟩)
  go_quiet (fail)
  go_wp2_with fail
  have hp0:BlkAt w b [.int .i64 i,nm,.int .i64 tk,.slice a0 cs.length cap0,.bool false,.bool false] 184:=HP.out
  have hr0:RowAt w 171 5 (.slice a0 cs.length cap0) cs.length (rcCells cs):=HW.out
  have hp3:BlkAt (((w1.alloc (.cells #[.int .i64 i,.int .i64 x1,.int .i64 x2,.int .i64 x3,.int .i64 x4] 171)).drewN nq).setCell ⟨b,2,none⟩ (.int .i64 (tk+1))) b [.int .i64 i,nm,.int .i64 (tk+1),.slice a0 cs.length cap0,.bool false,.bool false] 184:=((hp0.same (kb.out.block _ hbl)).alloc _).set 2 (.int .i64 (tk+1))
  have hr3:RowAt (((w1.alloc (.cells #[.int .i64 i,.int .i64 x1,.int .i64 x2,.int .i64 x3,.int .i64 x4] 171)).drewN nq).setCell ⟨b,2,none⟩ (.int .i64 (tk+1))) 171 5 (.slice a0 cs.length cap0) cs.length (rcCells cs):=((hr0.same fun k e=>kb.out.block k (hr0.lt e)).alloc _).other hne
  have hv3:BlkAt (((w1.alloc (.cells #[.int .i64 i,.int .i64 x1,.int .i64 x2,.int .i64 x3,.int .i64 x4] 171)).drewN nq).setCell ⟨b,2,none⟩ (.int .i64 (tk+1))) w1.heap.size [.int .i64 i,.int .i64 x1,.int .i64 x2,.int .i64 x3,.int .i64 x4] 171:=BlkAt.other (BlkAt.new w1 [.int .i64 i,.int .i64 x1,.int .i64 x2,.int .i64 x3,.int .i64 x4] 171) (by omega)
  have hk3:Keep (fun k=>k=b∨(Value.slice a0 cs.length cap0).ownBlock=some k) w (((w1.alloc (.cells #[.int .i64 i,.int .i64 x1,.int .i64 x2,.int .i64 x3,.int .i64 x4] 171)).drewN nq).setCell ⟨b,2,none⟩ (.int .i64 (tk+1))):=⟨kb.out.os,kb.out.tape,kb.out.output,by have:=kb.out.size;rw[World.heap_setCell_size];show w.heap.size≤(w1.heap.push _).size;rw[Array.size_push];omega,fun k hk ho=>by
   rw[Below.heap_setCell _ ⟨b,2,none⟩ _ k (fun e=>ho (.inl e))]
   exact (Below.heap_alloc w1 _ k (by have:=kb.out.size;omega)).trans (kb.out.block k hk)⟩
  generalize (((w1.alloc (.cells #[.int .i64 i,.int .i64 x1,.int .i64 x2,.int .i64 x3,.int .i64 x4] 171)).drewN nq).setCell ⟨b,2,none⟩ (.int .i64 (tk+1)))=w3 at *
  clear hp0 hr0 k0 k2 z2 k3
  have c33:w3.cell? ⟨b,3,none⟩=some (.slice a0 cs.length cap0):=hp3.cell rfl
  have z33:w3.frozen? ⟨b,3,none⟩=false:=hp3.free 3
  have v0:=hv3.cell (i:=0) rfl
  have v1:=hv3.cell (i:=1) rfl
  have v2:=hv3.cell (i:=2) rfl
  have v3:=hv3.cell (i:=3) rfl
  have v4:=hv3.cell (i:=4) rfl
  have hbl3:=hp3.lt
  have HP3:=(show Hid _ from hp3)
  have HR3:=(show Hid _ from hr3)
  have HK3:=(show Hid _ from hk3)
  have HNE:=(show Hid _ from hne)
  obtain ⟨i0,hi,hz0,hz1,hz2⟩:=info_parts infoComm
  generalize w1.heap.size=vb at *
  clear hp3 hr3 hk3 hne hv3 HP HW HR kb k1
  have HU:Hid (∀ (j:Nat) (u:Value),([.int .i64 i,.int .i64 x1,.int .i64 x2,.int .i64 x3,.int .i64 x4]:List Value)[j]? = some u→((w3.alloc (.cells #[.int .i64 i,.int .i64 x1,.int .i64 x2,.int .i64 x3,.int .i64 x4] 171)).drew).cell? ((⟨w3.heap.size,0,none⟩:Addr).add j)=some u):=fun j u hj=>by
   have hn:=BlkAt.new w3 [.int .i64 i,.int .i64 x1,.int .i64 x2,.int .i64 x3,.int .i64 x4] 171
   match j,hj with
   | 0,hj=>simp at hj;subst hj;exact hn.cell (i:=0) rfl
   | 1,hj=>simp at hj;subst hj;exact hn.cell (i:=1) rfl
   | 2,hj=>simp at hj;subst hj;exact hn.cell (i:=2) rfl
   | 3,hj=>simp at hj;subst hj;exact hn.cell (i:=3) rfl
   | 4,hj=>simp at hj;subst hj;exact hn.cell (i:=4) rfl
   | j+5,hj=>simp at hj
  have HO:Hid (∀ u,u∈([.int .i64 i,.int .i64 x1,.int .i64 x2,.int .i64 x3,.int .i64 x4]:List Value)→u.oneCell'=true):=fun u hu=>by simp at hu;rcases hu with rfl|rfl|rfl|rfl|rfl<;>rfl
  have HTK:Hid (∀ v' w5,RowAt w5 171 5 v' (cs.length+1) (rcCells cs++[.int .i64 i,.int .i64 x1,.int .i64 x2,.int .i64 x3,.int .i64 x4])→((w3.alloc (.cells #[.int .i64 i,.int .i64 x1,.int .i64 x2,.int .i64 x3,.int .i64 x4] 171)).drew).grownBy w5 (Value.slice a0 cs.length cap0).ownBlock→(v'.ownBlock=(Value.slice a0 cs.length cap0).ownBlock∨v'.ownBlock=some (w3.alloc (.cells #[.int .i64 i,.int .i64 x1,.int .i64 x2,.int .i64 x3,.int .i64 x4] 171)).drew.heap.size)→Took w (w5.setCell ⟨b,3,none⟩ v') b i nm (.slice a0 cs.length cap0) v' (tk+1) (cs++[cmdAt s 0])):=fun v' w5 h1 h2 h3=>by
   refine took_of (n:=cs.length+1) HP3.out HK3.out HNE.out h2 ?_ (by simp) h3
   have e:rcCells (cs++[cmdAt s 0])=rcCells cs++[.int .i64 i,.int .i64 x1,.int .i64 x2,.int .i64 x3,.int .i64 x4]:=by rw[HCM0.out];simp[rcCells,RC.cells]
   rw[e]
   exact h1
  go_region_law (first
   | (refine step_append_cells (v:=.slice a0 cs.length cap0) (n:=cs.length) (m:=1) (xs:=rcCells cs) (us:=[.int .i64 i,.int .i64 x1,.int .i64 x2,.int .i64 x3,.int .i64 x4]) (ad:=⟨w3.heap.size,0,none⟩) (c:=1) rfl (.tmp 50) (.tmp 52) 81 rfl 171 i0 _ 5 40 ((Pz.gUnderlying 81).trans Tryz.underlying81) hi hz0 hz1 hz2 rfl (by decide) rfl (RowAt.alloc (show RowAt w3 171 5 (.slice a0 cs.length cap0) cs.length (rcCells cs) from HR3.out) _) rfl rfl HU.out HO.out (by omega) (by decide) ?_;intro v' w5 hr5 hg5 hb5 hn5;obtain ⟨g5,cap5,rfl,hv5⟩:=hr5.slice4;have c5:w5.cell? ⟨b,3,none⟩=some (.slice a0 cs.length cap0):=(World.cell?_of_block (w:=w3) ((hg5.block b (by show b<(w3.heap.push _).size;rw[Array.size_push];omega) (fun e=>HNE.out e.symm)).trans (Below.heap_alloc w3 _ b hbl3))).trans c33;have f5:w5.frozen? ⟨b,3,none⟩=false:=(World.frozen?_of_block (w:=w3) ((hg5.block b (by show b<(w3.heap.push _).size;rw[Array.size_push];omega) (fun e=>HNE.out e.symm)).trans (Below.heap_alloc w3 _ b hbl3))).trans z33;have HT:=(show Hid _ from HTK.out _ _ hr5 hg5 hb5);clear hr5 hg5 hb5 hn5)
   | (go_simp;go_wp2_with fail))
  all_goals
   go_wp2
   go_ret
   exact .inr ⟨by omega,rfl,_,HT.out⟩
end
end Go.Proofs.YtdianedehhecoaaGreatDoor
/- A match takes a command. -/
namespace Go.Proofs.YtdianedehhecoaaGreatDoor
open Go.RowKit
def MSt.plays (M:MSt)(i:Nat)(p:Pl):MSt:={ M with ps:=M.ps.set i p }
section
variable {w w':World} {D:Nat→Prop} {M:MSt} {f:MIx→Nat→Prop}
theorem MSt.plays_at (M:MSt){i:Nat}{p p':Pl}(hp:M.ps[i]? = some p):(M.plays i p').ps[i]? = some p':=by
 have hi:i<M.ps.length:=(List.getElem?_eq_some_iff.1 hp).1
 simp[MSt.plays,List.getElem?_set_self hi]
theorem MSt.plays_oth (M:MSt){i j:Nat}{p':Pl}(hj:j≠i):(M.plays i p').ps[j]? = M.ps[j]?:=by simp [MSt.plays,List.getElem?_set,Ne.symm hj]
theorem MSt.plays_len (M:MSt)(i:Nat)(p':Pl):(M.plays i p').ps.length=M.ps.length:=by simp [MSt.plays]
theorem MSt.plays_map (M:MSt){i:Nat}{p p':Pl}(hp:M.ps[i]? = some p)(hb:p'.b=p.b):((M.plays i p').ps.map fun q=>ptrV q.b)=M.ps.map fun q=>ptrV q.b:=by
 have hi:i<M.ps.length:=(List.getElem?_eq_some_iff.1 hp).1
 apply List.ext_getElem?
 intro j
 simp only[MSt.plays,List.getElem?_map,List.getElem?_set]
 split
 ·rename_i e
  subst e
  have hpi:=(List.getElem?_eq_some_iff.1 hp).2
  simp[hi,hpi,hb]
 ·rfl
def Pl.ok (p:Pl):Prop:=p.cs.length≤8∧(∀ c,c∈p.cs→c.ok)∧(p.cs=[]→p.wv=.slice none 0 0)∧0≤p.tk
theorem MOk.plays (h:MOk M){i:Nat}{p p':Pl}(hp:M.ps[i]? = some p)(hc:p'.ok):MOk (M.plays i p'):=by
 refine ⟨h.ub,h.inv,by rw[M.plays_len];exact h.few,h.turn,fun q hq=>?_,h.watch⟩
 obtain ⟨j,hj⟩:=List.mem_iff_getElem?.1 hq
 by_cases e:j=i
 ·subst e
  rw[M.plays_at hp]at hj
  cases hj
  exact hc
 ·rw[M.plays_oth e]at hj
  exact h.queue q (List.mem_of_getElem? hj)
theorem MG.replay (h:MG w D M f){D':Nat→Prop}{i:Nat}{p p':Pl}(hp:M.ps[i]? = some p)(hb:p'.b=p.b)(hc:BlkAt w' p.b [.int .i64 i,.string ⟨#[(97+i).toUInt8]⟩,.int .i64 p'.tk,p'.wv,.bool false,.bool false] 184)(hr:RowAt w' 171 5 p'.wv p'.cs.length (rcCells p'.cs))
  (ho:∀ k,p'.wv.ownBlock=some k→p.wv.ownBlock=some k∨w.heap.size≤k)(hk:Keep (fun k=>k=p.b∨p.wv.ownBlock=some k) w w')(hok:p'.ok)(hD:∀ k,D k→D' k)(hD':∀ k,p'.wv.ownBlock=some k→w.heap.size≤k→D' k) :
  ∃ f',MG w' D' (M.plays i p') f'∧Keep D w w':=by
 have hpl:=h.player hp
 have hat:=M.plays_at (p':=p') hp
 have hpb:=hpl.1.lt
 refine h.change (T:=fun x=>x=MIx.p i∨x=MIx.q i) (f':=fun x k=>(x=.p i∧k=p.b)∨(x=.q i∧p'.wv.ownBlock=some k)) (hk.mono fun k hk=>.inl ?_) ?_ ?_ ?_ ?_ hD ?_ (h.ok.plays hp hok)
 ·rcases hk with rfl|hk
  ·exact ⟨.p i,.inl rfl,h.fp hp⟩
  ·exact ⟨.q i,.inr rfl,h.fq hp hk⟩
 ·have key:∀ k,k=p.b→p'.wv.ownBlock=some k→False:=fun k e e2=>by
   rcases ho k e2 with x|x
   ·have:=h.parts.apart _ _ _ (h.fp hp) (h.fq hp (e▸x))
    cases this
   ·omega
  rintro a c k _ _ (⟨rfl,ha⟩|⟨rfl,ha⟩) (⟨rfl,hb'⟩|⟨rfl,hb'⟩)
  ·rfl
  ·exact (key k ha hb').elim
  ·exact (key k hb' ha).elim
  ·rfl
 ·rintro x k _ (⟨rfl,rfl⟩|⟨rfl,hw⟩)
  ·exact .inl ⟨.p i,.inl rfl,h.fp hp⟩
  ·rcases ho k hw with x|x
   ·exact .inl ⟨.q i,.inr rfl,h.fq hp x⟩
   ·exact .inr x
 ·rintro x (rfl|rfl)
  ·simp only[MSt.A,hat,hb]
   exact ⟨.inl ⟨by trivial,by trivial⟩,hc⟩
  ·simp only[MSt.A,hat]
   exact ⟨hr,fun k e=>.inr ⟨by trivial,e⟩⟩
 ·intro x hx
  cases x with
  | p j=>simp only[MSt.A];rw[M.plays_oth (fun e=>hx (.inl (by rw[e])))]
  | q j=>simp only[MSt.A];rw[M.plays_oth (fun e=>hx (.inr (by rw[e])))]
  | m=>simp only[MSt.A,M.plays_len];rfl
  | t=>simp only[MSt.A,M.plays_map hp hb];rfl
  | _=>rfl
 ·rintro x k _ (⟨rfl,rfl⟩|⟨rfl,hw⟩) hl
  ·exact hD _ (h.low _ _ (h.fp hp) hpb)
  ·rcases ho k hw with x|x
   ·exact hD _ (h.low _ _ (h.fq hp x) (hpl.2.lt x))
   ·exact hD' k hw x
theorem MG.took (h:MG w D M f){i:Nat}{p:Pl}{wv':Value}{tk:Int}{cs:List RC}(hp:M.ps[i]? = some p)(ht:Took w w' p.b i (.string ⟨#[(97+i).toUInt8]⟩) p.wv wv' tk cs)(hc:Pl.ok ⟨p.b,tk,wv',cs⟩) :
  ∃ f',MG w' (Nw D w.heap.size) (M.plays i ⟨p.b,tk,wv',cs⟩) f'∧Keep D w w' :=
 h.replay (p':=⟨p.b,tk,wv',cs⟩) hp rfl ht.cells ht.row (fun k e=>by
  rcases ht.own with x|⟨q,x,hq⟩
  ·exact .inl (x▸e)
  ·have e:wv'.ownBlock=some k:=e
   rw[x]at e;cases e;exact .inr hq) ht.keep hc (fun k hd=>.inl hd) (fun k _ hk=>.inr hk)
theorem below_relock {mb:Nat}{xs:List Value}{ty:TypeId}{w3:World}(hm:BlkAt w mb (.int .i32 0 :: xs) ty)(hb:Below w.heap.size (w.setCell ⟨mb,0,none⟩ (.int .i32 1)) w3):Below w.heap.size w (w3.setCell ⟨mb,0,none⟩ (.int .i32 0)):=by
 have hz:=hb.size
 rw[World.heap_setCell_size]at hz
 refine ⟨hb.os,hb.tape,hb.output,by rw[World.heap_setCell_size];exact hz,fun q hq=>?_⟩
 by_cases hne:q=mb
 ·subst hne
  have h3:=((hm.set 0 (.int .i32 1)).same (hb.block q hq)).set 0 (.int .i32 0)
  exact (show (w3.setCell ⟨q,0,none⟩ (.int .i32 0)).heap[q]? = _ from h3).trans (show w.heap[q]? = _ from hm).symm
 ·exact (Below.heap_setCell w3 ⟨mb,0,none⟩ _ q hne).trans ((hb.block q hq).trans (Below.heap_setCell w ⟨mb,0,none⟩ _ q hne))
theorem MG.submit (h:MG w D M f)(hl:M.lk=0){i:Nat}{p:Pl}(hp:M.ps[i]? = some p)(t1:p.tk≤1000000000)(s:ByteArray)(h5:s.size=5)(hb0:byt s 0=i) :
  Calls Pz.prog 104 #[.pointer (some ⟨M.mb,0,none⟩),.string ⟨#[(97+i).toUInt8]⟩,.int .i64 (p.tk+1),.string s] w fun e w'=>(overB M.S=true∧e=.returned (.int .i64 4)∧Below w.heap.size w w')∨(overB M.S=false∧p.cs.length=8∧e=.returned (.int .i64 7)∧Below w.heap.size w w') ∨
   (overB M.S=false∧p.cs.length<8∧e=.returned (.int .i64 0)∧∃ wv' f',MG w' (Nw D w.heap.size) (M.plays i ⟨p.b,p.tk+1,wv',p.cs++[cmdAt s 0]⟩) f'∧Keep D w w'):=by
 have hc:=h.cells
 rw[hl]at hc
 have c0:w.cell? ⟨M.mb,0,none⟩=some (.int .i32 0):=hc.cell rfl
 have z0:w.frozen? ⟨M.mb,0,none⟩=false:=hc.free 0
 have hmb:=hc.lt
 have hdm:=h.dm
 obtain ⟨hq,qok,-,t0⟩:=h.ok.queue p (List.mem_of_getElem? hp)
 obtain ⟨f1,h1⟩:=h.locks 1
 have hi:i<M.ps.length:=(List.getElem?_eq_some_iff.1 hp).1
 have hgd:=M.getD_b hp
 have HL:=(show Hid _ from lock_free muLib ⟨M.mb,0,none⟩ w c0 z0)
 have hN:=named_at h1.seated (by rw[List.length_map];exact h1.ok.few) i (by rw[List.length_map];exact hi)
 rw[show ((({ M with lk:=1 }:MSt).ps.map (·.b)).getD i 0)=p.b from hgd]at hN
 have HN:=(show Hid _ from hN)
 have hPh:=h1.phase
 have hs1:(w.setCell ⟨M.mb,0,none⟩ (.int .i32 1)).heap.size=w.heap.size:=by simp
 rw[hs1]at hPh
 have HPh:=(show Hid _ from hPh)
 have H1:=(show Hid _ from h1)
 have HC:=(show Hid _ from hc)
 have c5:(w.setCell ⟨M.mb,0,none⟩ (.int .i32 1)).cell? ⟨M.mb,5,none⟩=some (.bool false):=h1.cells.cell rfl
 have HT:Hid (∀ W,Below w.heap.size (w.setCell ⟨M.mb,0,none⟩ (.int .i32 1)) W→Calls Pz.prog 159 #[.pointer (some ⟨p.b,0,none⟩),.int .i64 (p.tk+1),.string s] W fun e w3=>∃ x,e=.returned (.int .i64 x)∧w3.cell? ⟨M.mb,0,none⟩=some (.int .i32 1)∧w3.frozen? ⟨M.mb,0,none⟩=false∧Hid ((p.cs.length=8∧x=7∧Below w.heap.size w (w3.setCell ⟨M.mb,0,none⟩ (.int .i32 0)))∨(p.cs.length<8∧x=0∧∃ wv' f',MG (w3.setCell ⟨M.mb,0,none⟩ (.int .i32 0)) (Nw D w.heap.size) (M.plays i ⟨p.b,p.tk+1,wv',p.cs++[cmdAt s 0]⟩) f'∧Keep D w (w3.setCell ⟨M.mb,0,none⟩ (.int .i32 0))))):=fun W hW=>by
  have hWz:w.heap.size≤W.heap.size:=by have:=hW.size;rw[hs1]at this;exact this
  have hG:MG W D { M with lk:=1 } _:=h1.below (by rw[hs1];exact hW)
  have hpl:=hG.player (show ({ M with lk:=1 }:MSt).ps[i]? = some p from hp)
  have hne:p.wv.ownBlock≠some p.b:=fun e=>by
   have:=hG.parts.apart _ _ _ (hG.fp (show ({ M with lk:=1 }:MSt).ps[i]? = some p from hp)) (hG.fq (show ({ M with lk:=1 }:MSt).ps[i]? = some p from hp) e)
   cases this
  refine (take_any hpl.1 hpl.2 hne t0 t1 hq s h5 hb0).mono ?_
  rintro e w3 (⟨q1,rfl,q3⟩|⟨q1,rfl,wv',q3⟩)
  ·have hb3:Below w.heap.size (w.setCell ⟨M.mb,0,none⟩ (.int .i32 1)) w3:=hW.trans (q3.mono (by have:=hW.size;rw[hs1]at this;exact this))
   have hm3:=(hG.below q3).cells
   exact ⟨7,rfl,hm3.cell rfl,hm3.free 0,.inl ⟨q1,rfl,below_relock hc hb3⟩⟩
  ·obtain ⟨f3,hG3,hB3⟩:=hG.took (show ({ M with lk:=1 }:MSt).ps[i]? = some p from hp) q3 ⟨by rw[List.length_append];simp;omega,fun c hcm=>by
    rcases List.mem_append.1 hcm with hcm|hcm
    ·exact qok c hcm
    ·obtain rfl:c=cmdAt s 0:=by simpa using hcm
     exact cmdAt_ok s 0,fun e=>by simp at e,by show 0≤p.tk+1;omega⟩
   have hm3:=hG3.cells
   obtain ⟨f4,hG4⟩:=hG3.locks 0
   refine ⟨0,rfl,hm3.cell rfl,hm3.free 0,.inr ⟨q1,rfl,wv',f4,?_,?_⟩⟩
   ·have e:({ (({ M with lk:=1 }:MSt).plays i ⟨p.b,p.tk+1,wv',p.cs++[cmdAt s 0]⟩) with lk:=0 }:MSt)=M.plays i ⟨p.b,p.tk+1,wv',p.cs++[cmdAt s 0]⟩:=by
     cases M
     simp only at hl
     subst hl
     rfl
    rw[← e]
    exact hG4.own fun k hd _=>hd.imp id fun x=>by omega
   ·exact ((((Keep.refl D w).set (b:=M.mb) (i:=0) (.inl hdm)).trans (Keep.ofBelow hW) (fun j hj=>.inr hj)).trans hB3 (fun j hj=>.inl hj)).set (.inl hdm)
 clear h h1 hc hN hPh c0 z0 hgd
 generalize hov:overB M.S=ov at *
 generalize (⟨#[(97+i).toUInt8]⟩:ByteArray)=nm at *
 generalize hw1:w.setCell ⟨M.mb,0,none⟩ (.int .i32 1)=w1 at *
 have H1c:Hid (BlkAt w1 M.mb [.int .i32 1,.int .u32 0,ptrV M.sb,M.hv,.slice (some ⟨M.tb,0,none⟩) M.ps.length M.ps.length,.bool false,M.lv] 136):=MG.cells H1.out
 cases ov
 ·simp only[Bool.false_eq_true,if_false]at HPh
  go_enter_defers Pz.func104,Tryz.ntmps104
  go_wp2_with (first|(go_at_call 89;refine Calls.mono HL.out ?_;rintro e w' ⟨rfl,rfl⟩)|(go_at_call 96;refine Calls.mono HN.out ?_;rintro e w' ⟨rfl,rfl⟩)|(go_at_call 91;refine Calls.mono HPh.out ?_;rintro e w2 ⟨rfl,hb2⟩;have k5:=(hb2.cell (p:=⟨M.mb,5,none⟩) hmb).trans c5)|(go_at_call 159;refine Calls.mono (HT.out _ hb2) ?_;rintro e w3 ⟨x,rfl,q0,qz,hq⟩))
  refine leaves_cons (f:=90) (args:=#[.pointer (some ⟨M.mb,0,none⟩)]) (by simp) (by simp[go_sem]) ?_
  refine (unlock_deferred muLib ⟨M.mb,0,none⟩ .returning _ q0 qz).mono ?_
  rintro e u' w'' ⟨rfl,rfl,rfl⟩
  refine ⟨_,results_tmp rfl _ _ _,?_⟩
  rcases hq.out with ⟨a1,rfl,a3⟩|⟨a1,rfl,a3⟩
  ·exact .inr (.inl ⟨by trivial,a1,rfl,a3⟩)
  ·exact .inr (.inr ⟨by trivial,a1,rfl,a3⟩)
 ·simp only[if_true]at HPh
  go_enter_defers Pz.func104,Tryz.ntmps104
  go_wp2_with (first|(go_at_call 89;refine Calls.mono HL.out ?_;rintro e w' ⟨rfl,rfl⟩)|(go_at_call 96;refine Calls.mono HN.out ?_;rintro e w' ⟨rfl,rfl⟩)|(go_at_call 91;refine Calls.mono HPh.out ?_;rintro e w2 ⟨rfl,hb2⟩;have k5:=(hb2.cell (p:=⟨M.mb,5,none⟩) hmb).trans c5)|(go_at_call 159;refine Calls.mono (HT.out _ hb2) ?_;rintro e w3 ⟨x,rfl,q0,qz,hq⟩))
  have hm2:=BlkAt.same (show BlkAt _ M.mb [.int .i32 1,.int .u32 0,ptrV M.sb,M.hv,.slice (some ⟨M.tb,0,none⟩) M.ps.length M.ps.length,.bool false,M.lv] 136 from H1c.out) (hb2.block _ hmb)
  refine leaves_cons (f:=90) (args:=#[.pointer (some ⟨M.mb,0,none⟩)]) (by simp) (by simp[go_sem]) ?_
  refine (unlock_deferred muLib ⟨M.mb,0,none⟩ .returning _ (hm2.cell rfl) (hm2.free 0)).mono ?_
  rintro e u' w'' ⟨rfl,rfl,rfl⟩
  refine ⟨_,results_tmp rfl _ _ _,.inl ⟨by trivial,rfl,below_relock HC.out ?_⟩⟩
  rw[hw1]
  exact hb2
end
end Go.Proofs.YtdianedehhecoaaGreatDoor
/- handOver of a player for whom commands wait. -/
namespace Go.Proofs.YtdianedehhecoaaGreatDoor
open Go.RowKit
theorem rcCells_one (cs:List RC):∀ u,u∈rcCells cs→u.oneCell'=true:=by
 intro u hu
 obtain ⟨c,-,hc⟩:=List.mem_flatMap.1 hu
 simp only[RC.cells,List.mem_cons,List.not_mem_nil,or_false]at hc
 rcases hc with rfl|rfl|rfl|rfl|rfl<;>rfl
theorem add_cell {w:World}{g j:Nat}{u:Value}(h:w.cell? ⟨g,j,none⟩=some u):w.cell? ((⟨g,0,none⟩:Addr).add j)=some u:=by
 unfold Addr.add
 split
 ·rename_i e;subst e;exact h
 ·simpa using h
structure Handed (w w':World)(b:Nat)(x0 x1 x2 x4:Value)(cs:List RC)(v:Value):Prop where
 row:RowAt w' 171 5 v cs.length (rcCells cs)
 own:∀ k,v.ownBlock=some k→w.heap.size≤k
 cells:BlkAt w' b [x0,x1,x2,.slice none 0 0,x4,.bool false] 184
 keep:Keep (fun k=>k=b) w w'
 nil:cs=[]→v=.slice none 0 0
section
variable {w:World} {b:Nat} {x0 x1 x2 x4 wv:Value} {cs:List RC}
theorem handOver_waits (hp:BlkAt w b [x0,x1,x2,wv,x4,.bool false] 184)(hr:RowAt w 171 5 wv cs.length (rcCells cs))(hn:0<cs.length)(hq:cs.length≤8) :
  Calls Pz.prog 182 #[.pointer (some ⟨b,0,none⟩)] w fun e w'=>∃ v,e=.returned v∧Handed w w' b x0 x1 x2 x4 cs v:=by
 obtain ⟨g,cap,rfl,-,-,-,hc,-⟩:=hr.form hn
 have c3:w.cell? ⟨b,3,none⟩=some (.slice (some ⟨g,0,none⟩) cs.length cap):=hp.cell rfl
 have c5:w.cell? ⟨b,5,none⟩=some (.bool false):=hp.cell rfl
 have f3:=hp.free 3
 have f5:=hp.free 5
 have hbl:=hp.lt
 have HP:=(show Hid _ from hp)
 have HC:Hid (∀ (j:Nat) (u:Value),(rcCells cs)[j]? = some u→w.cell? ((⟨g,0,none⟩:Addr).add j)=some u):=fun j u hj=>add_cell (hc j u hj)
 have hlen:=hr.len
 obtain ⟨i0,hi,hz0,hz1,hz2⟩:=info_parts infoComm
 have hnil:RowAt w 171 5 (.slice none 0 0) 0 []:=⟨rfl,.inl ⟨rfl,rfl⟩⟩
 clear hp hr hc
 go_enter Pz.func182,Tryz.ntmps182
 go_wp2_with (at_builtin;refine wpList_append_own_at _ rfl _ _ 81 rfl 0 171 i0 _ 5 40 ((Pz.gUnderlying 81).trans Tryz.underlying81) hi hz0 hz1 hz2 rfl (by decide) _ _ _ rfl hnil ⟨g,0,none⟩ cs.length cap (rcCells cs) rfl ?c0 ?c1 ?c2 ?c3 ?c4 ?c5 ?_)
 case c0=>exact hlen
 case c1=>exact HC.out
 case c2=>exact rcCells_one cs
 case c3=>unfold maxLen;omega
 case c4=>omega
 case c5=>exact Nat.zero_le _
 intro v' w2 hown hg hnn hob
 have hrow:RowAt w2 171 5 v' cs.length (rcCells cs):=hown
 have hgb:∀ k,k<w.heap.size→w2.heap[k]? = w.heap[k]?:=fun k hk=>hg.block k hk (by simp[Value.ownBlock])
 have hz:=hg.size
 have e3:=(World.cell?_of_block (a:=⟨b,3,none⟩) (hgb b hbl)).trans c3
 have e5:=(World.cell?_of_block (a:=⟨b,5,none⟩) (hgb b hbl)).trans c5
 have z3:=(World.frozen?_of_block (a:=⟨b,3,none⟩) (hgb b hbl)).trans f3
 have z5:=(World.frozen?_of_block (a:=⟨b,5,none⟩) (hgb b hbl)).trans f5
 obtain ⟨g2,cap2,rfl,hb2,hc2,hm2,-,-⟩:=hrow.form hn
 have hg2:g2=w.heap.size:=by
  rcases hob with e|e
  ·cases e
  ·have e2:=hb2.symm.trans e
   cases e2
   rfl
 have HR:=(show Hid _ from hrow)
 have HK:Hid (Keep (fun k=>k=b) w w2):=⟨hg.os,hg.tape,hg.output,hg.size,fun k hk _=>hgb k hk⟩
 have HB:Hid (BlkAt w2 b [x0,x1,x2,.slice (some ⟨g,0,none⟩) cs.length cap,x4,.bool false] 184):=BlkAt.same (show BlkAt w b [x0,x1,x2,.slice (some ⟨g,0,none⟩) cs.length cap,x4,.bool false] 184 from HP.out) (hgb b hbl)
 clear hown hg hnn hob hrow hnil HP HC c3 c5 f3 f5 hi
 go_wp2_with fail
 go_ret
 have hne:(Value.slice (some ⟨g2,0,none⟩) cs.length cap2).ownBlock≠some b:=by
  rw[hb2]
  intro e
  cases e
  omega
 refine ⟨_,rfl,⟨RowAt.other (RowAt.other (show RowAt w2 171 5 _ cs.length (rcCells cs) from HR.out) hne) hne,fun k e=>?_,BlkAt.set (BlkAt.set HB.out 5 (.bool false)) 3 (.slice none 0 0),(HK.out.set (.inl rfl)).set (.inl rfl),fun e=>?_⟩⟩
 ·have e2:=hb2.symm.trans e
  cases e2
  omega
 ·rw[e]at hn
  simp at hn
theorem handOver_any (hp:BlkAt w b [x0,x1,x2,wv,x4,.bool false] 184)(hr:RowAt w 171 5 wv cs.length (rcCells cs))(hq:cs.length≤8)(h0:cs=[]→wv=.slice none 0 0) :
  Calls Pz.prog 182 #[.pointer (some ⟨b,0,none⟩)] w fun e w'=>∃ v,e=.returned v∧Handed w w' b x0 x1 x2 x4 cs v:=by
 by_cases hn:0<cs.length
 ·exact handOver_waits hp hr hn hq
 ·obtain rfl:cs=[]:=List.eq_nil_of_length_eq_zero (by omega)
  obtain rfl:=h0 rfl
  refine (handOver_not hp).mono ?_
  rintro e w' ⟨rfl,rfl⟩
  exact ⟨_,rfl,⟨rfl,.inl ⟨rfl,rfl⟩⟩,fun k e=>(by cases e),(hp.set 5 (.bool false)).set 3 (.slice none 0 0),((Keep.refl (fun k=>k=b) w).set (.inl rfl)).set (.inl rfl),fun _=>rfl⟩
end
end Go.Proofs.YtdianedehhecoaaGreatDoor
/- A match seals a turn: seal. -/
namespace Go.Proofs.YtdianedehhecoaaGreatDoor
open Go.RowKit
def Pl.empty (p:Pl):Pl:={ p with wv:=.slice none 0 0,cs:=[] }
def MSt.sealed (M:MSt)(k:Nat):MSt:={ M with ps:=(M.ps.take k).map Pl.empty++M.ps.drop k }
def MSt.front (M:MSt)(k:Nat):List RC:=(M.ps.take k).flatMap (·.cs)
section
variable {w w':World} {D:Nat→Prop} {M:MSt} {f:MIx→Nat→Prop}
theorem MSt.sealed_zero (M:MSt):M.sealed 0=M:=by simp [MSt.sealed]
theorem MSt.sealed_all (M:MSt):M.sealed M.ps.length={ M with ps:=M.ps.map Pl.empty }:=by simp [MSt.sealed]
theorem MSt.front_all (M:MSt):M.front M.ps.length=M.ps.flatMap (·.cs):=by simp [MSt.front]
theorem MSt.sealed_at (M:MSt){k:Nat}{p:Pl}(hp:M.ps[k]? = some p):(M.sealed k).ps[k]? = some p:=by
 have hk:k<M.ps.length:=(List.getElem?_eq_some_iff.1 hp).1
 simp only[MSt.sealed]
 rw[List.getElem?_append_right (by simp;omega)]
 simp[List.length_take,Nat.min_eq_left (Nat.le_of_lt hk),hp]
theorem MSt.sealed_succ (M:MSt){k:Nat}{p:Pl}(hp:M.ps[k]? = some p):M.sealed (k+1)=(M.sealed k).plays k p.empty:=by
 have hk:k<M.ps.length:=(List.getElem?_eq_some_iff.1 hp).1
 have he:=(List.getElem?_eq_some_iff.1 hp).2
 have hd:M.ps.drop k=p :: M.ps.drop (k+1):=by rw[List.drop_eq_getElem_cons hk,he]
 have ht:M.ps.take (k+1)=M.ps.take k++[p]:=by rw[List.take_add_one];simp[hp]
 simp only[MSt.sealed,MSt.plays]
 rw[hd,ht,List.map_append,List.set_append_right _ _ (by simp;omega)]
 simp[List.length_take,Nat.min_eq_left (Nat.le_of_lt hk)]
theorem MSt.front_succ (M:MSt){k:Nat}{p:Pl}(hp:M.ps[k]? = some p):M.front (k+1)=M.front k++p.cs:=by
 have ht:M.ps.take (k+1)=M.ps.take k++[p]:=by rw[List.take_add_one];simp[hp]
 simp[MSt.front,ht]
theorem MSt.front_len (M:MSt)(h:MOk M)(k:Nat)(hk:k≤M.ps.length):(M.front k).length≤8*k:=by
 induction k with
 | zero=>simp[MSt.front]
 | succ k ih =>
  obtain ⟨p,hp⟩:=M.has (i:=k) (by omega)
  rw[M.front_succ hp,List.length_append]
  have:=ih (by omega)
  have:=(h.queue p (List.mem_of_getElem? hp)).1
  omega
theorem rcCells_append (a b:List RC):rcCells (a++b)=rcCells a++rcCells b:=by simp [rcCells]
structure SealAt (w wr:World)(D:Nat→Prop)(M:MSt)(k:Nat)(tv:Value):Prop where
 match_:∃ f',MG wr D (M.sealed k) f'
 row:RowAt wr 171 5 tv (M.front k).length (rcCells (M.front k))
 own:∀ j,tv.ownBlock=some j→w.heap.size≤j
 keep:Keep D w wr
 nil:M.front k=[]→tv=.slice none 0 0
theorem MG.again (h:MG w D M f)(hk:∀ k,D k→k<w.heap.size→w'.heap[k]? = w.heap[k]?):∃ f',MG w' D M f':=⟨_,h.on hk⟩
theorem SealAt.hand {wr w2:World}{k:Nat}{tv v:Value}{p:Pl}(h:SealAt w wr D M k tv)(hp:M.ps[k]? = some p)(hH:Handed wr w2 p.b (.int .i64 k) (.string ⟨#[(97+k).toUInt8]⟩) (.int .i64 p.tk) (.bool false) p.cs v)(hD:∀ j,D j→j<w.heap.size) :
  (∃ f',MG w2 D (M.sealed (k+1)) f')∧RowAt w2 171 5 tv (M.front k).length (rcCells (M.front k))∧Keep D w w2:=by
 obtain ⟨f1,h1⟩:=h.match_
 have hat:=M.sealed_at hp
 have hq:=h1.ok.queue p (List.mem_of_getElem? hat)
 have hpd:D p.b:=h1.low _ _ (h1.fp hat) (h1.player hat).1.lt
 obtain ⟨f2,h2,hk2⟩:=h1.replay (p':=p.empty) (D':=D) hat rfl hH.cells ⟨rfl,.inl ⟨rfl,rfl⟩⟩ (fun j e=>by cases e) (hH.keep.mono fun j e=>.inl (.inl e)) ⟨Nat.zero_le _,fun c hc=>(List.not_mem_nil hc).elim,fun _=>rfl,hq.2.2.2⟩ (fun _ x=>x) (fun j e=>by cases e)
 rw[← M.sealed_succ hp]at h2
 refine ⟨⟨f2,h2⟩,h.row.same fun j e=>hH.keep.block j (h.row.lt e) (fun e2=>?_),h.keep.trans hk2 fun j hj=>.inl hj⟩
 have:=h.own j e
 have:=hD p.b hpd
 omega
theorem MG.seal (h:MG w D M f)(hD:∀ j,D j→j<w.heap.size) :
  Calls Pz.prog 124 #[.pointer (some ⟨M.mb,0,none⟩)] w fun e w'=>∃ v,e=.returned v∧SealAt w w' D M M.ps.length v:=by
 have h4:w.cell? ⟨M.mb,4,none⟩=some (.slice (some ⟨M.tb,0,none⟩) M.ps.length M.ps.length):=h.cells.cell rfl
 have H0:Hid (SealAt w w D M 0 (.slice none 0 0)):=⟨⟨f,by rw[M.sealed_zero];exact h⟩,⟨rfl,.inl ⟨rfl,rfl⟩⟩,fun j e=>(by cases e),Keep.refl _ _,fun _=>rfl⟩
 have HF:Hid (∀ k,k≤M.ps.length→(M.front k).length≤32):=fun k hk=>by
  have:=M.front_len h.ok k hk
  have:=h.ok.few
  omega
 have few:=h.ok.few
 have HD:=(show Hid _ from hD)
 obtain ⟨i0,hi,hz0,hz1,hz2⟩:=info_parts infoComm
 clear h hD
 generalize hn:M.ps.length=n at *
 go_enter Pz.func124,Tryz.ntmps124
 go_wp2
 go_loopw [3,11] (fun tv iv wr=>∃ k:Nat,k≤n∧iv=.int .i64 k∧SealAt w wr D M k tv) (fun _ iv _=>n-(intOf iv).toNat)
 case atStart=>exact ⟨0,Nat.zero_le _,rfl,H0.out⟩
 case round =>
  obtain ⟨k,hk,rfl,hS⟩:=hrel
  have HS:=(show Hid _ from hS)
  obtain ⟨ta,tc,etv⟩:=wait_slice hS.row
  subst etv
  by_cases hlt:k<n
  ·obtain ⟨p,hp⟩:=M.has (i:=k) (by omega)
   obtain ⟨f1,h1⟩:=hS.match_
   have hat:=M.sealed_at hp
   have hsl:wr.cell? ⟨M.tb,k,none⟩=some (.pointer (some ⟨p.b,0,none⟩)):=h1.seats.cell (by rw[List.getElem?_map,hat];rfl)
   have hq:=h1.ok.queue p (List.mem_of_getElem? hat)
   have hpl:=h1.player hat
   have HO:=(show Hid _ from handOver_any hpl.1 hpl.2 hq.1 hq.2.2.1)
   have hki:(k:Int)<n:=by omega
   have hf:=HF.out k hk
   have hf1:=HF.out (k+1) (by omega)
   rw[M.front_succ hp,List.length_append]at hf1
   clear hS h1 hpl hq
   by_cases hcs:0<p.cs.length
   ·go_wp2_with (first|(go_at_call 182;refine Calls.mono HO.out ?_;rintro e w2 ⟨v,rfl,hH⟩;obtain ⟨hM2,hR2,hK2⟩:=SealAt.hand HS.out hp hH HD.out;have HM2:=(show Hid _ from hM2);have HR2:=(show Hid _ from hR2);have HK2:=(show Hid _ from hK2);have HH:=(show Hid _ from hH);obtain ⟨g,cap,rfl,-,-,-,hcc,-⟩:=hH.row.form hcs;have HC:=(show Hid (∀ (j:Nat) (u:Value),(rcCells p.cs)[j]? = some u→w2.cell? ((⟨g,0,none⟩:Addr).add j)=some u) from fun j u hj=>add_cell (hcc j u hj));clear hcc hM2 hR2 hK2 hH)|(at_builtin;refine wpList_append_own_at _ rfl _ _ 81 rfl 0 171 i0 _ 5 40 ((Pz.gUnderlying 81).trans Tryz.underlying81) hi hz0 hz1 hz2 rfl (by decide) _ _ _ rfl HR2.out ⟨g,0,none⟩ p.cs.length cap (rcCells p.cs) rfl ?c0 ?c1 ?c2 ?c3 ?c4 ?c5 ?_))
    case c0=>exact HH.out.row.len
    case c1=>exact HC.out
    case c2=>exact rcCells_one _
    case c3=>unfold maxLen;omega
    case c4=>omega
    case c5=>exact Nat.zero_le _
    intro v' w3 hown hg hnn hob
    have hS3:Hid (SealAt w w3 D M (k+1) v'):=by
     obtain ⟨f2,h2⟩:=HM2.out
     have hsz:=HK2.out.size
     have htv:∀ j,(Value.slice ta (M.front k).length tc).ownBlock=some j→w.heap.size≤j:=HS.out.own
     refine ⟨h2.again fun j hd hl=>hg.block j hl (fun e=>?_),?_,fun j e=>?_,HK2.out.trans ⟨hg.os,hg.tape,hg.output,hg.size,fun j hj hn=>hg.block j hj (fun e=>hn e.symm)⟩ fun j e=>.inr (htv j e),fun e=>?_⟩
     ·have:=htv j e.symm
      have:=HD.out j hd
      omega
     ·rw[M.front_succ hp,rcCells_append,List.length_append]
      exact hown
     ·rcases hob with e2|e2
      ·exact htv j (e2▸e)
      ·rw[e2]at e
       cases e
       exact hsz
     ·rw[M.front_succ hp]at e
      have:=congrArg List.length e
      rw[List.length_append,List.length_nil]at this
      omega
    clear hown hg hnn hob HM2 HR2 HK2 HH HC HO HS
    go_wp2_with fail
    exact ⟨⟨k+1,by omega,by go_num,hS3.out⟩,by simp[intOf];omega⟩
   ·have hnil:p.cs=[]:=List.eq_nil_of_length_eq_zero (by omega)
    have hz:ta=none→(M.front k).length=0∧tc=0:=fun e0=>by
     rcases HS.out.row.2 with ⟨e,_⟩|⟨g,cap,cur,e,_⟩
     ·injection e with e1 e2 e3
      exact ⟨e2,e3⟩
     ·injection e with e1
      rw[e0]at e1
      cases e1
    rcases ta with _|ta
    ·obtain ⟨hz1,rfl⟩:=hz rfl
     rw[hz1]at HS
     clear hz
     go_wp2_with (first|(go_at_call 182;refine Calls.mono HO.out ?_;rintro e w2 ⟨v,rfl,hH⟩;obtain ⟨hM2,hR2,hK2⟩:=SealAt.hand HS.out hp hH HD.out;have HM2:=(show Hid _ from hM2);have HR2:=(show Hid _ from hR2);have HK2:=(show Hid _ from hK2);have ev:=hH.nil hnil;subst ev;clear hM2 hR2 hK2 hH))
     have e:M.front (k+1)=M.front k:=by rw[M.front_succ hp,hnil,List.append_nil]
     refine ⟨⟨k+1,by omega,by go_num,⟨HM2.out,?_,HS.out.own,HK2.out,by rw[e];exact HS.out.nil⟩⟩,by simp[intOf];omega⟩
     rw[e]
     exact HR2.out
    ·have hcap:(M.front k).length≤tc∧tc≤maxLen:=by
      rcases HS.out.row.2 with ⟨e,_⟩|⟨g,cap,cur,e,_,_,h1,h2,_⟩
      ·cases e
      ·injection e with e1 e2 e3
       rw[e3]
       exact ⟨h1,h2⟩
     obtain ⟨hcap,hcm⟩:=hcap
     clear hz
     go_wp2_with (first|(go_at_call 182;refine Calls.mono HO.out ?_;rintro e w2 ⟨v,rfl,hH⟩;obtain ⟨hM2,hR2,hK2⟩:=SealAt.hand HS.out hp hH HD.out;have HM2:=(show Hid _ from hM2);have HR2:=(show Hid _ from hR2);have HK2:=(show Hid _ from hK2);have ev:=hH.nil hnil;subst ev;clear hM2 hR2 hK2 hH))
     have e:M.front (k+1)=M.front k:=by rw[M.front_succ hp,hnil,List.append_nil]
     refine ⟨⟨k+1,by omega,by go_num,⟨HM2.out,?_,HS.out.own,HK2.out,by rw[e];exact HS.out.nil⟩⟩,by simp[intOf];omega⟩
     rw[e]
     exact HR2.out
  ·obtain rfl:k=n:=by omega
   clear hS
   go_wp2_with fail
   go_ret
   exact ⟨_,rfl,HS.out⟩
end
end Go.Proofs.YtdianedehhecoaaGreatDoor
/- A match tells all who watch: tell. -/
namespace Go.Proofs.YtdianedehhecoaaGreatDoor
open Go.RowKit
def MSt.watches (M:MSt)(j:Nat)(u:Wt):MSt:={ M with ws:=M.ws.set j u }
section
variable {w w':World} {D:Nat→Prop} {M:MSt} {f:MIx→Nat→Prop}
theorem MSt.watches_at (M:MSt){j:Nat}{u u':Wt}(hu:M.ws[j]? = some u):(M.watches j u').ws[j]? = some u':=by
 have hi:j<M.ws.length:=(List.getElem?_eq_some_iff.1 hu).1
 simp[MSt.watches,List.getElem?_set_self hi]
theorem MSt.watches_oth (M:MSt){i j:Nat}{u':Wt}(hj:j≠i):(M.watches i u').ws[j]? = M.ws[j]?:=by simp [MSt.watches,List.getElem?_set,Ne.symm hj]
theorem MSt.watches_len (M:MSt)(i:Nat)(u':Wt):(M.watches i u').ws.length=M.ws.length:=by simp [MSt.watches]
theorem MSt.watches_map (M:MSt){i:Nat}{u u':Wt}(hu:M.ws[i]? = some u)(hb:u'.b=u.b):((M.watches i u').ws.map fun q=>ptrV q.b)=M.ws.map fun q=>ptrV q.b:=by
 have hi:i<M.ws.length:=(List.getElem?_eq_some_iff.1 hu).1
 apply List.ext_getElem?
 intro j
 simp only[MSt.watches,List.getElem?_map,List.getElem?_set]
 split
 ·rename_i e
  subst e
  have hpi:=(List.getElem?_eq_some_iff.1 hu).2
  simp[hi,hpi,hb]
 ·rfl
theorem MG.rewatch (h:MG w D M f){j:Nat}{u u':Wt}(hu:M.ws[j]? = some u)(hb:u'.b=u.b)(hc:BlkAt w' u.b [ptrV M.mb,u'.uv] 187)(hr:RowAt w' 9 1 u'.uv u'.ts.length (u'.ts.map .string))
  (ho:∀ k,u'.uv.ownBlock=some k→u.uv.ownBlock=some k∨w.heap.size≤k)(hk:Keep (fun k=>k=u.b∨u.uv.ownBlock=some k) w w') :
  ∃ f',MG w' (Nw D w.heap.size) (M.watches j u') f'∧Keep D w w':=by
 have hpl:=h.watcher hu
 have hat:=M.watches_at (u':=u') hu
 have hpb:=hpl.1.lt
 refine h.change (T:=fun x=>x=MIx.w j∨x=MIx.u j) (f':=fun x k=>(x=.w j∧k=u.b)∨(x=.u j∧u'.uv.ownBlock=some k)) (hk.mono fun k hk=>.inl ?_) ?_ ?_ ?_ ?_ (fun k hd=>.inl hd) ?_ ⟨h.ok.ub,h.ok.inv,h.ok.few,h.ok.turn,h.ok.queue,by rw[M.watches_len];exact h.ok.watch⟩
 ·rcases hk with rfl|hk
  ·exact ⟨.w j,.inl rfl,h.fw hu⟩
  ·exact ⟨.u j,.inr rfl,h.fu hu hk⟩
 ·have key:∀ k,k=u.b→u'.uv.ownBlock=some k→False:=fun k e e2=>by
   rcases ho k e2 with x|x
   ·have:=h.parts.apart _ _ _ (h.fw hu) (h.fu hu (e▸x))
    cases this
   ·omega
  rintro a c k _ _ (⟨rfl,ha⟩|⟨rfl,ha⟩) (⟨rfl,hb'⟩|⟨rfl,hb'⟩)
  ·rfl
  ·exact (key k ha hb').elim
  ·exact (key k hb' ha).elim
  ·rfl
 ·rintro x k _ (⟨rfl,rfl⟩|⟨rfl,hw⟩)
  ·exact .inl ⟨.w j,.inl rfl,h.fw hu⟩
  ·rcases ho k hw with x|x
   ·exact .inl ⟨.u j,.inr rfl,h.fu hu x⟩
   ·exact .inr x
 ·rintro x (rfl|rfl)
  ·simp only[MSt.A,hat,hb]
   exact ⟨.inl ⟨by trivial,by trivial⟩,hc⟩
  ·simp only[MSt.A,hat]
   exact ⟨hr,fun k e=>.inr ⟨by trivial,e⟩⟩
 ·intro x hx
  cases x with
  | w i=>simp only[MSt.A];rw[M.watches_oth (fun e=>hx (.inl (by rw[e])))];rfl
  | u i=>simp only[MSt.A];rw[M.watches_oth (fun e=>hx (.inr (by rw[e])))]
  | l=>simp only[MSt.A,M.watches_len,M.watches_map hu hb];rfl
  | _=>rfl
 ·rintro x k _ (⟨rfl,rfl⟩|⟨rfl,hw⟩) hl
  ·exact .inl (h.low _ _ (h.fw hu) hpb)
  ·rcases ho k hw with x|x
   ·exact .inl (h.low _ _ (h.fu hu x) (hpl.2.lt x))
   ·exact .inr x
end
structure Told (t:ByteArray)(ws us:List Wt)(k:Nat):Prop where
 len:us.length=ws.length
 at_:∀ (j:Nat) (u:Wt),ws[j]? = some u→∃ v,us[j]? = some v∧v.b=u.b∧v.ts=if j<k then u.ts++[t] else u.ts
theorem Told.zero (t:ByteArray)(ws:List Wt):Told t ws ws 0:=⟨rfl,fun j u hu=>⟨u,hu,rfl,by simp⟩⟩
theorem Told.succ {t:ByteArray}{ws us:List Wt}{k:Nat}(h:Told t ws us k){u v:Wt}(hu:us[k]? = some u)(hb:v.b=u.b)(ht:v.ts=u.ts++[t]):Told t ws (us.set k v) (k+1):=by
 have hk:k<us.length:=(List.getElem?_eq_some_iff.1 hu).1
 refine ⟨by simp[h.len],fun j x hx=>?_⟩
 obtain ⟨y,hy,yb,yt⟩:=h.at_ j x hx
 by_cases e:j=k
 ·subst e
  rw[hu]at hy
  cases hy
  refine ⟨v,by rw[List.getElem?_set_self hk],by rw[hb,yb],?_⟩
  rw[ht,yt]
  simp
 ·refine ⟨y,by rw[List.getElem?_set_ne (Ne.symm e)];exact hy,yb,?_⟩
  rw[yt]
  by_cases h1:j<k
  ·rw[if_pos h1,if_pos (by omega)]
  ·rw[if_neg h1,if_neg (by omega)]
def TellAt (w wr:World)(D:Nat→Prop)(M:MSt)(t:ByteArray)(k:Nat):Prop:=∃ us f',Told t M.ws us k∧MG wr (Nw D w.heap.size) { M with ws:=us } f'∧Keep D w wr
section
variable {w w':World} {D:Nat→Prop} {M:MSt} {f:MIx→Nat→Prop}
theorem TellAt.step {wr w4:World}{t:ByteArray}{k:Nat}{us:List Wt}{f':MIx→Nat→Prop}{u:Wt}{v':Value}{o:Obj}(ht:Told t M.ws us k)(h:MG wr (Nw D w.heap.size) { M with ws:=us } f')(hK:Keep D w wr)(hD:∀ j,D j→j<w.heap.size)(hu:us[k]? = some u)
  (hg:(wr.alloc o).grownBy w4 u.uv.ownBlock)(hr:RowAt w4 9 1 v' (u.ts.length+1) (u.ts.map .string++[.string t]))(hob:v'.ownBlock=u.uv.ownBlock∨v'.ownBlock=some (wr.alloc o).heap.size):TellAt w (w4.setCell ⟨u.b,1,none⟩ v') D M t (k+1):=by
 have hz2:(wr.alloc o).heap.size=wr.heap.size+1:=by simp
 have hz3:=hg.size
 have hz1:=hK.size
 have hwt:=h.watcher (show ({ M with ws:=us }:MSt).ws[k]? = some u from hu)
 have hbl:=hwt.1.lt
 have hne:u.uv.ownBlock≠some u.b:=fun e=>by
  have:=h.parts.apart _ _ _ (h.fw (show ({ M with ws:=us }:MSt).ws[k]? = some u from hu)) (h.fu (show ({ M with ws:=us }:MSt).ws[k]? = some u from hu) e)
  cases this
 have old:∀ j:Nat,j<wr.heap.size→u.uv.ownBlock≠some j→w4.heap[j]? = wr.heap[j]?:=fun j hj h1=>by
  rw[hg.block j (by omega) (fun e=>h1 e.symm),Below.heap_alloc _ _ _ (by omega)]
 have hne':v'.ownBlock≠some u.b:=by
  rcases hob with e|e
  ·rw[e];exact hne
  ·rw[e];intro x;have x:=Option.some.inj x;omega
 have hkk:Keep (fun j=>j=u.b∨u.uv.ownBlock=some j) wr (w4.setCell ⟨u.b,1,none⟩ v'):=⟨hg.os,hg.tape,hg.output,by rw[World.heap_setCell_size];omega,fun j hj hn=>by
  rw[Below.heap_setCell _ ⟨u.b,1,none⟩ _ j (fun e=>hn (.inl e))]
  exact old j hj fun e=>hn (.inr e)⟩
 obtain ⟨f2,h2,hk2⟩:=h.rewatch (u':=⟨u.b,v',u.ts++[t]⟩) (show ({ M with ws:=us }:MSt).ws[k]? = some u from hu) rfl ((hwt.1.same (old u.b hbl hne)).set 1 v') (by
  have:=hr.other (c:=u.b) (i:=1) (u:=v') hne'
  simpa using this) (fun j e=>by
   have e:v'.ownBlock=some j:=e
   rcases hob with x|x
   ·exact .inl (x▸e)
   ·rw[x]at e;have e:=Option.some.inj e;exact .inr (by omega)) hkk
 refine ⟨us.set k ⟨u.b,v',u.ts++[t]⟩,f2,ht.succ hu rfl rfl,h2.own fun j hd _=>?_,?_⟩
 ·rcases hd with hd|hd
  ·exact hd
  ·exact .inr (by omega)
 ·refine hK.trans (hkk.mono (O':=fun j=>D j∨w.heap.size≤j) ?_) fun j hd=>hd
  rintro j (rfl|e)
  ·exact .inl (h.low _ _ (h.fw (show ({ M with ws:=us }:MSt).ws[k]? = some u from hu)) hbl)
  ·exact .inl (h.low _ _ (h.fu (show ({ M with ws:=us }:MSt).ws[k]? = some u from hu) e) (hwt.2.lt e))
theorem MG.tell (h:MG w D M f)(t:ByteArray)(hD:∀ j,D j→j<w.heap.size)(hts:∀ u,u∈M.ws→u.ts.length≤100000) :
  Calls Pz.prog 125 #[.pointer (some ⟨M.mb,0,none⟩),.string t] w fun e w'=>e=.returned (.tuple #[])∧TellAt w w' D M t M.ws.length:=by
 have h6:w.cell? ⟨M.mb,6,none⟩=some M.lv:=h.cells.cell rfl
 obtain ⟨la,lc,elv⟩:∃ a cap,M.lv=.slice a M.ws.length cap:=by
  by_cases hn:0<M.ws.length
  ·obtain ⟨g,cap,e,-⟩:=h.list.form hn
   exact ⟨_,cap,e⟩
  ·have h0:M.ws.length=0:=by omega
   rcases h.list.2 with ⟨e,_⟩|⟨g,cap,cur,e,_⟩
   ·exact ⟨none,0,by rw[h0];exact e⟩
   ·exact ⟨_,cap,e⟩
 have HLi:Hid (∀ k,k<M.ws.length→∃ g,la=some ⟨g,0,none⟩∧f .l g):=fun k hk=>by
  obtain ⟨g,cap,e,ho,-⟩:=h.list.form (by omega)
  rw[e]at elv
  cases elv
  exact ⟨g,rfl,h.fl ho⟩
 rw[elv]at h6
 have H0:Hid (TellAt w w D M t 0):=⟨M.ws,f,Told.zero t M.ws,h.own fun k hd _=>.inl hd,Keep.refl _ _⟩
 have HD:=(show Hid _ from hD)
 have HT:=(show Hid _ from hts)
 have hws:=h.ok.watch
 obtain ⟨ui,hui⟩:∃ i,Pz.prog.info? 9=some i:=⟨_,rfl⟩
 have iz:ui.zero=some (.string ⟨#[]⟩):=by
  have:(Pz.prog.info? 9).bind (·.zero)=some (.string ⟨#[]⟩):=by kernel_rfl
  rw[hui]at this;exact this
 have is1:ui.size=1:=by
  have:(Pz.prog.info? 9).map (·.size)=some 1:=by kernel_rfl
  rw[hui]at this;exact Option.some.inj this
 have ib:ui.bytes=16:=by
  have:(Pz.prog.info? 9).map (·.bytes)=some 16:=by kernel_rfl
  rw[hui]at this;exact Option.some.inj this
 clear h hD hts
 generalize hn:M.ws.length=n at *
 go_enter Pz.func125,Tryz.ntmps125
 go_wp2
 go_loopw [11] (fun iv wr=>∃ k:Nat,k≤n∧iv=.int .i64 k∧TellAt w wr D M t k) (fun iv _=>n-(intOf iv).toNat)
 case atStart=>exact ⟨0,Nat.zero_le _,rfl,H0.out⟩
 case round =>
  obtain ⟨k,hk,rfl,hS⟩:=hrel
  have HS:=(show Hid _ from hS)
  by_cases hlt:k<n
  ·obtain ⟨us,f1,ht,h1,hK⟩:=hS
   have hul:us.length=n:=by rw[ht.len,hn]
   obtain ⟨u,hu⟩:∃ u,us[k]? = some u:=⟨_,List.getElem?_eq_getElem (by omega)⟩
   obtain ⟨u0,hu0⟩:∃ u,M.ws[k]? = some u:=⟨_,List.getElem?_eq_getElem (by omega)⟩
   have htn:u.ts.length≤100000:=by
    obtain ⟨v,hv,-,hvt⟩:=ht.at_ k u0 hu0
    rw[hu]at hv
    cases hv
    rw[hvt,if_neg (by omega)]
    exact HT.out u0 (List.mem_of_getElem? hu0)
   obtain ⟨g,cap,elv2,ho,-,-,hcc,-⟩:=h1.list.form (show 0<us.length by omega)
   have ela:la=some ⟨g,0,none⟩:=by
    have e:M.lv=_:=elv2
    rw[elv]at e
    injection e
   have hcl:wr.cell? ⟨g,k,none⟩=some (.pointer (some ⟨u.b,0,none⟩)):=hcc k _ (by rw[List.getElem?_map,hu];rfl)
   have hwt:=h1.watcher (show ({ M with ws:=us }:MSt).ws[k]? = some u from hu)
   have hc1:wr.cell? ⟨u.b,1,none⟩=some u.uv:=hwt.1.cell rfl
   have hz1:=hwt.1.free 1
   have hbl:=hwt.1.lt
   have hne:u.uv.ownBlock≠some u.b:=fun e=>by
    have:=h1.parts.apart _ _ _ (h1.fw (show ({ M with ws:=us }:MSt).ws[k]? = some u from hu)) (h1.fu (show ({ M with ws:=us }:MSt).ws[k]? = some u from hu) e)
    cases this
   have HR:Hid (RowAt wr 9 1 u.uv u.ts.length (u.ts.map .string)):=hwt.2
   have HST:Hid (∀ (o:Obj) (w4:World) (v':Value),(wr.alloc o).grownBy w4 u.uv.ownBlock→RowAt w4 9 1 v' (u.ts.length+1) (u.ts.map .string++[.string t])→(v'.ownBlock=u.uv.ownBlock∨v'.ownBlock=some (wr.alloc o).heap.size)→TellAt w (w4.setCell ⟨u.b,1,none⟩ v') D M t (k+1)):=fun o w4 v' hg hr hob=>TellAt.step ht h1 hK HD.out hu hg hr hob
   have hki:(k:Int)<n:=by omega
   subst ela
   clear h1 hK hwt hcc ho elv2 HS
   go_wp2_with (at_builtin;refine wpList_append_own_at _ rfl _ _ 34 rfl 0 9 ui _ 1 16 ((Pz.gUnderlying 34).trans Tryz.underlying34) hui iz is1 ib rfl (by decide) _ _ _ rfl (RowAt.alloc HR.out _) ⟨wr.heap.size,0,none⟩ 1 1 [.string t] rfl rfl ?c1 ?c2 ?c3 ?c4 ?c5 ?_)
   case c1=>intro j x hj;cases j with
    | zero=>cases hj;exact new_cell wr _ _
    | succ j=>simp at hj
   case c2=>simp[Value.oneCell']
   case c3=>unfold maxLen;omega
   case c4=>omega
   case c5=>exact Nat.zero_le _
   intro v' w4 hown hg hnn hob
   have hr4:RowAt w4 9 1 v' (u.ts.length+1) (u.ts.map .string++[.string t]):=hown
   have HTL:=(show Hid _ from HST.out _ w4 v' hg hr4 (by rw[show (wr.alloc (Obj.cells #[Value.string t] 9)).heap.size=wr.heap.size+1 by simp];exact hob))
   have e4:w4.heap[u.b]? = wr.heap[u.b]?:=(hg.block u.b (by simp;omega) (fun e=>hne e.symm)).trans (Below.heap_alloc _ _ _ hbl)
   have d1:=(World.cell?_of_block (a:=⟨u.b,1,none⟩) e4).trans hc1
   have dz:=(World.frozen?_of_block (a:=⟨u.b,1,none⟩) e4).trans hz1
   obtain ⟨g4,cap4,rfl,-,-,-,-,-⟩:=hr4.form (by omega)
   clear hown hg hnn hob hr4 HST HR hne e4 hc1 hz1
   go_wp2_with fail
   exact ⟨⟨k+1,by omega,by go_num,HTL.out⟩,by simp[intOf];omega⟩
  ·obtain rfl:k=n:=by omega
   go_wp2
   go_end0
   exact ⟨rfl,HS.out⟩
end
end Go.Proofs.YtdianedehhecoaaGreatDoor