/- A play: its host, its match, what was taken and what was told. Where it lies, part by part. -/
import Derived.Test.YtdianedehhecoaaGreatDoorTMatchTicks
import Derived.Test.YtdianedehhecoaaGreatDoorTHostGens
set_option linter.unusedVariables false
set_option linter.unusedSimpArgs false
set_option maxHeartbeats 4000000
set_option maxRecDepth 20000
namespace Go.Proofs.YtdianedehhecoaaGreatDoor
open Go.RowKit
structure Tk where
 v:Value
 bs:List ByteArray
structure PSt where
 M:MSt
 hbk:Nat
 rb:Nat
 pb:Nat
 ms:List Nat
 sd:Int
 tk:Nat→Tk
 sv:Value
 seen:List ByteArray
 nv:Value
 since:List Nat
 turns:Nat
 over:Bool
inductive PIx where
 | mt|ho|ro|pl
 | tk (i:Nat)
 | se|si
def PSt.m (Q:PSt):Nat:=Q.ms.length-1
def hostW (made rb:Nat)(wbs:List Nat):List Value:=.int .i64 made :: .slice (some ⟨rb,0,none⟩) 8 8 :: .int .i64 wbs.length :: (wbs.map ptrV++List.replicate (20-wbs.length) (.pointer none))
def PSt.cells (Q:PSt):List Value:=[ptrV Q.hbk,.int .i64 Q.m,.int .i64 Q.sd,.int .i64 Q.M.ps.length,(Q.tk 0).v,(Q.tk 1).v,(Q.tk 2).v,(Q.tk 3).v,Q.sv,Q.nv,.int .i64 Q.turns,.bool Q.over]
def PSt.A (Q:PSt):PIx→Asn
 | .mt=>fun w O=>∃ f,MG w O Q.M f
 | .ho=>blkA Q.hbk (hostW Q.ms.length Q.rb (Q.M.ws.map (·.b))) 120
 | .ro=>blkA Q.rb (roomsV Q.ms) 125
 | .pl=>blkA Q.pb Q.cells 37
 | .tk i=>rowA 9 1 (Q.tk i).v (Q.tk i).bs.length ((Q.tk i).bs.map .string)
 | .se=>rowA 9 1 Q.sv Q.seen.length (Q.seen.map .string)
 | .si=>rowA 3 1 Q.nv Q.since.length (Q.since.map fun n:Nat=>.int .i64 (n:Int))
theorem PSt.loc (Q:PSt)(i:PIx):Loc (Q.A i):=by
 cases i with
 | mt=>exact ⟨fun h hk=>h.elim fun f x=>⟨_,x.on hk⟩,fun h hk=>h.elim fun f x=>⟨f,x.own hk⟩⟩
 | ho=>exact Loc.blk _ _ _
 | ro=>exact Loc.blk _ _ _
 | pl=>exact Loc.blk _ _ _
 | tk i=>exact Loc.row _ _ _ _ _
 | se=>exact Loc.row _ _ _ _ _
 | si=>exact Loc.row _ _ _ _ _
structure POk (Q:PSt):Prop where
 lock:Q.M.lk=0
 last:Q.ms[Q.m]? = some Q.M.mb
 rooms:Q.ms.length≤8
 seen:Q.seen.length=Q.M.ws.length
 since:Q.since.length=Q.M.ws.length
 six:Q.M.ws.length≤6
structure PG (w:World)(D:Nat→Prop)(Q:PSt)(f:PIx→Nat→Prop):Prop where
 parts:Parts Q.A f w
 low:∀ i k,f i k→k<w.heap.size→D k
 ok:POk Q
section
variable {w w':World} {D D':Nat→Prop} {Q Q':PSt} {f f':PIx→Nat→Prop} {T:PIx→Prop}
theorem PG.on (h:PG w D Q f)(hk:∀ k,D k→k<w.heap.size→w'.heap[k]? = w.heap[k]?):PG w' D Q fun i k=>f i k∧k<w.heap.size :=
 ⟨⟨fun i j k hi hj=>h.parts.apart i j k hi.1 hj.1,fun i=>(Q.loc i).on ((Q.loc i).own (h.parts.part i) fun k ho hl=>⟨ho,hl⟩) fun k ho hl=>hk k (h.low i k ho.1 hl) hl⟩,fun i k hf _=>h.low i k hf.1 hf.2,h.ok⟩
theorem PG.own (h:PG w D Q f)(hD:∀ k,D k→k<w.heap.size→D' k):PG w D' Q f:={ h with low:=fun i k hf hl=>hD k (h.low i k hf hl) hl }
theorem PG.below (h:PG w D Q f)(hb:Below w.heap.size w w'):PG w' D Q fun i k=>f i k∧k<w.heap.size:=h.on fun k _ hl=>hb.block k hl
theorem PG.mat (h:PG w D Q f):∃ g,MG w (f .mt) Q.M g:=h.parts.part .mt
theorem PG.host (h:PG w D Q f):BlkAt w Q.hbk (hostW Q.ms.length Q.rb (Q.M.ws.map (·.b))) 120:=(h.parts.part .ho).2
theorem PG.rooms (h:PG w D Q f):BlkAt w Q.rb (roomsV Q.ms) 125:=(h.parts.part .ro).2
theorem PG.play (h:PG w D Q f):BlkAt w Q.pb Q.cells 37:=(h.parts.part .pl).2
theorem PG.row (h:PG w D Q f)(i:Nat):RowAt w 9 1 (Q.tk i).v (Q.tk i).bs.length ((Q.tk i).bs.map .string):=(h.parts.part (.tk i)).1
theorem PG.seen (h:PG w D Q f):RowAt w 9 1 Q.sv Q.seen.length (Q.seen.map .string):=(h.parts.part .se).1
theorem PG.since (h:PG w D Q f):RowAt w 3 1 Q.nv Q.since.length (Q.since.map fun n:Nat=>.int .i64 (n:Int)):=(h.parts.part .si).1
theorem PG.fho (h:PG w D Q f):f .ho Q.hbk:=(h.parts.part .ho).1
theorem PG.fro (h:PG w D Q f):f .ro Q.rb:=(h.parts.part .ro).1
theorem PG.fpl (h:PG w D Q f):f .pl Q.pb:=(h.parts.part .pl).1
theorem PG.ftk (h:PG w D Q f){i k:Nat}(hk:(Q.tk i).v.ownBlock=some k):f (.tk i) k:=(h.parts.part (.tk i)).2 k hk
theorem PG.fse (h:PG w D Q f){k:Nat}(hk:Q.sv.ownBlock=some k):f .se k:=(h.parts.part .se).2 k hk
theorem PG.ne (h:PG w D Q f){i j:PIx}{a b:Nat}(ha:f i a)(hb:f j b)(hij:i≠j):a≠b:=fun e=>hij (h.parts.apart i j b (e▸ha) hb)
theorem PG.room (h:PG w D Q f):HRm w Q.hbk Q.rb Q.m Q.M.mb:=by
 refine ⟨h.host.cell rfl,h.rooms.cell (roomsV_at _ h.ok.last),?_⟩
 have:=(List.getElem?_eq_some_iff.1 h.ok.last).1
 have:=h.ok.rooms
 omega
theorem PG.change (h:PG w D Q f)(hk:Keep (fun k=>∃ i,T i∧f i k) w w')(ha:∀ i j k,T i→T j→f' i k→f' j k→i=j)(hf:∀ i k,T i→f' i k→(∃ j,T j∧f j k)∨w.heap.size≤k)
  (hp:∀ i,T i→Q'.A i w' (f' i))(hs:∀ i,¬ T i→Q'.A i=Q.A i)(hok:POk Q'):∃ f'',PG w' (Nw D w.heap.size) Q' f''∧Keep D w w':=by
 have hlow:∀ j k,f j k→k<w.heap.size→D k:=h.low
 refine ⟨_,⟨h.parts.step (T:=T) (f':=f') Q.loc hk ha hf hp hs,?_,hok⟩,?_⟩
 ·rintro i k (⟨ti,hf'⟩|⟨_,hf',hl⟩) hk'
  ·by_cases hl:k<w.heap.size
   ·rcases hf i k ti hf' with ⟨j,_,hj⟩|hj
    ·exact .inl (hlow j k hj hl)
    ·omega
   ·exact .inr (by omega)
  ·exact .inl (hlow i k hf' hl)
 ·refine hk.mono ?_
  rintro k ⟨i,_,hf'⟩
  by_cases hl:k<w.heap.size
  ·exact .inl (hlow i k hf' hl)
  ·exact .inr (by omega)
theorem PG.change1 (h:PG w D Q f)(i:PIx)(hk:Keep (f i) w w')(hp:Q'.A i w' (Nw (f i) w.heap.size))(hs:∀ j,j≠i→Q'.A j=Q.A j)(hok:POk Q'):∃ f'',PG w' (Nw D w.heap.size) Q' f''∧Keep D w w' :=
 h.change (T:=fun j=>j=i) (f':=fun _ k=>f i k∨w.heap.size≤k) (hk.mono fun k hf=>.inl ⟨i,rfl,hf⟩) (fun a b k ha hb _ _=>ha.trans hb.symm) (fun a k ha hf=>hf.elim (fun x=>.inl ⟨i,rfl,x⟩) .inr) (fun j hj=>by subst hj;exact hp) hs hok
theorem PG.goes (h:PG w D Q f){M':MSt}{g:MIx→Nat→Prop}(hM:MG w' (Nw (f .mt) w.heap.size) M' g)(hk:Keep (f .mt) w w')(hps:M'.ps.length=Q.M.ps.length)(hws:M'.ws.map (·.b)=Q.M.ws.map (·.b))(hmb:M'.mb=Q.M.mb)(hlk:M'.lk=0):∃ f'',PG w' (Nw D w.heap.size) { Q with M:=M' } f''∧Keep D w w':=by
 have hl:M'.ws.length=Q.M.ws.length:=by simpa using congrArg List.length hws
 refine h.change1 (Q':={ Q with M:=M' }) .mt hk ⟨g,hM⟩ (fun j hj=>?_) ⟨hlk,by rw[hmb];exact h.ok.last,h.ok.rooms,by rw[hl];exact h.ok.seen,by rw[hl];exact h.ok.since,by rw[hl];exact h.ok.six⟩
 cases j with
 | mt=>exact absurd rfl hj
 | ho=>show blkA Q.hbk (hostW Q.ms.length Q.rb (M'.ws.map (·.b))) _=_;rw[hws];rfl
 | pl =>
  show blkA Q.pb (PSt.cells { Q with M:=M' }) _=_
  have e:PSt.cells { Q with M:=M' }=Q.cells:=by
   unfold PSt.cells
   rw[hps]
   rfl
  rw[e]
  rfl
 | _=>rfl
end
end Go.Proofs.YtdianedehhecoaaGreatDoor
/- What has happened in a play: its turns, what was taken, what was told. Nothing of memory. -/
namespace Go.Proofs.YtdianedehhecoaaGreatDoor
open Go.RowKit
theorem own_filter (ps:List Pl)(a:Nat)(h:∀ k p,ps[k]? = some p→∀ c,c∈p.cs→c.p=((a+k:Nat):Int))(i:Nat)(p:Pl)(hp:ps[i]? = some p):(ps.flatMap (·.cs)).filter (fun c=>c.p == ((a+i:Nat):Int))=p.cs:=by
 have none:∀ (ps:List Pl) (b j:Nat),(∀ k p,ps[k]? = some p→∀ c,c∈p.cs→c.p=((b+k:Nat):Int))→j<b→(ps.flatMap (·.cs)).filter (fun c=>c.p == ((j:Nat):Int))=[]:=by
  intro ps b j hb hj
  rw[List.filter_eq_nil_iff]
  intro c hc
  obtain ⟨q,hq,hcq⟩:=List.mem_flatMap.1 hc
  obtain ⟨k,hk⟩:=List.mem_iff_getElem?.1 hq
  have:=hb k q hk c hcq
  simp only[beq_iff_eq]
  omega
 induction ps generalizing a i with
 | nil=>simp at hp
 | cons q ps ih =>
  rw[List.flatMap_cons,List.filter_append]
  have hrest:∀ k p,ps[k]? = some p→∀ c,c∈p.cs→c.p=((a+1+k:Nat):Int):=fun k p hk c hc=>by
   have:=h (k+1) p (by simpa using hk) c hc
   rw[this]
   omega
  have hq:∀ c,c∈q.cs→c.p=((a:Nat):Int):=fun c hc=>h 0 q rfl c hc
  cases i with
  | zero =>
   simp only[List.getElem?_cons_zero,Option.some.injEq]at hp
   subst hp
   rw[Nat.add_zero,none ps (a+1) a hrest (by omega),List.append_nil,List.filter_eq_self]
   intro c hc
   simp[hq c hc]
  | succ i =>
   rw[List.getElem?_cons_succ]at hp
   have e:=ih (a+1) hrest i hp
   rw[show a+1+i=a+(i+1) by omega]at e
   rw[e,List.filter_eq_nil_iff.2,List.nil_append]
   intro c hc
   simp only[beq_iff_eq,hq c hc]
   omega
theorem own_order (ps:List Pl)(a:Nat)(h:∀ k p,ps[k]? = some p→∀ c,c∈p.cs→c.p=((a+k:Nat):Int)):(ps.flatMap (·.cs)).Pairwise fun c d=>c.p≤d.p:=by
 induction ps generalizing a with
 | nil=>simp
 | cons q ps ih =>
  have hrest:∀ k p,ps[k]? = some p→∀ c,c∈p.cs→c.p=((a+1+k:Nat):Int):=fun k p hk c hc=>by
   have:=h (k+1) p (by simpa using hk) c hc
   rw[this]
   omega
  have hq:∀ c,c∈q.cs→c.p=((a:Nat):Int):=fun c hc=>h 0 q rfl c hc
  rw[List.flatMap_cons,List.pairwise_append]
  refine ⟨?_,ih (a+1) hrest,fun c hc d hd=>?_⟩
  ·rw[List.pairwise_iff_getElem]
   intro i j hi hj _
   rw[hq _ (List.getElem_mem hi),hq _ (List.getElem_mem hj)]
   omega
  ·obtain ⟨r,hr,hdr⟩:=List.mem_flatMap.1 hd
   obtain ⟨k,hk⟩:=List.mem_iff_getElem?.1 hr
   rw[hq c hc,hrest k r hk d hdr]
   omega
structure Hist (sd:Int)(P:Nat)(Q:PSt)(T:List (List RC)):Prop where
 seed:Q.sd=sd
 size:Q.M.ps.length=P
 state:Q.M.S=behindT (startTo sd P) T
 turns:Q.turns=T.length
 most:T.length≤1000
 over:Q.over=overB Q.M.S
 hlen:Q.M.hs.length=T.length+1
 hash:∀ k,k≤T.length→Q.M.hs[k]? = some (hash16 (bytesF (behindT (startTo sd P) (T.take k))))
 goes:∀ k,k<T.length→overB (behindT (startTo sd P) (T.take k))=false
 okT:TOk T
 told:∀ (j:Nat) (u:Wt),Q.M.ws[j]? = some u→∃ n k,Q.since[j]? = some n∧n+k≤T.length∧Q.seen[j]? = some (turnsB ((T.drop n).take k))∧u.ts=(T.drop (n+k)).map sealS
 first:(Q.since=[]∧T=[])∨Q.since[0]? = some 0
 taken:∀ (i:Nat) (p:Pl),Q.M.ps[i]? = some p→(Q.tk i).bs.map (fun b=>cmdAt b 0)=T.flatten.filter (fun c=>c.p == (i:Int))++p.cs∧(∀ b,b∈(Q.tk i).bs→b.size=5)∧((Q.tk i).bs.length:Int)=p.tk∧∀ c,c∈p.cs→c.p=(i:Int)
 order:∀ cs,cs∈T→cs.Pairwise fun c d=>c.p≤d.p
 inT:∀ cs,cs∈T→∀ c,c∈cs→0≤c.p∧c.p<P
 noTk:∀ i,P≤i→(Q.tk i).bs=[]
section
variable {sd:Int} {P:Nat} {Q:PSt} {T:List (List RC)}
theorem flat_le (T:List (List RC))(h:TOk T):T.flatten.length≤36*T.length:=by
 induction T with
 | nil=>simp
 | cons c T ih =>
  have:=(h c (by simp)).1
  have:=ih fun d hd=>h d (by simp[hd])
  rw[List.flatten_cons,List.length_append,List.length_cons]
  omega
theorem Hist.tk_le (h:Hist sd P Q T)(hM:MOk Q.M){i:Nat}{p:Pl}(hp:Q.M.ps[i]? = some p):p.tk≤40000:=by
 obtain ⟨h1,-,h3,-⟩:=h.taken i p hp
 have e:=congrArg List.length h1
 rw[List.length_map,List.length_append]at e
 have:=flat_le T h.okT
 have:=List.length_filter_le (fun c:RC=>c.p == (i:Int)) T.flatten
 have:=(hM.queue p (List.mem_of_getElem? hp)).1
 have:=h.most
 omega
theorem Hist.turn (h:Hist sd P Q T):Q.M.S.turn=T.length:=by
 rw[h.state,behind_turn,(startTo_ore sd P).2]
 omega
theorem Hist.ts_le (h:Hist sd P Q T){j:Nat}{u:Wt}(hu:Q.M.ws[j]? = some u):u.ts.length≤1000:=by
 obtain ⟨n,k,-,h2,-,h4⟩:=h.told j u hu
 have:=h.most
 rw[h4,List.length_map,List.length_drop]
 omega
theorem Hist.submit (h:Hist sd P Q T){i:Nat}{p:Pl}(hp:Q.M.ps[i]? = some p){wv:Value}{t':Tk}{s:ByteArray}(h5:s.size=5)(h0:byt s 0=i)(hb:t'.bs=(Q.tk i).bs++[s]) :
  Hist sd P { Q with M:=Q.M.plays i ⟨p.b,p.tk+1,wv,p.cs++[cmdAt s 0]⟩,tk:=fun j=>if j=i then t' else Q.tk j } T:=by
 refine { h with size:=by show (Q.M.plays i _).ps.length=P;rw[MSt.plays_len];exact h.size,taken:=fun j q hq=>?_,noTk:=fun j hj=>?_ }
 rotate_left
 ·have:=(List.getElem?_eq_some_iff.1 hp).1
  have:=h.size
  show (if j=i then t' else Q.tk j).bs=[]
  rw[if_neg (by omega)]
  exact h.noTk j hj
 by_cases e:j=i
 ·subst e
  have hq:(Q.M.plays j ⟨p.b,p.tk+1,wv,p.cs++[cmdAt s 0]⟩).ps[j]? = some q:=hq
  rw[MSt.plays_at Q.M hp]at hq
  cases hq
  obtain ⟨h1,h2,h3,h4⟩:=h.taken j p hp
  simp only[if_pos,hb]
  refine ⟨by rw[List.map_append,h1,List.append_assoc];rfl,fun b hbm=>?_,by rw[List.length_append,List.length_singleton];push_cast;omega,fun c hc=>?_⟩
  ·rcases List.mem_append.1 hbm with x|x
   ·exact h2 b x
   ·obtain rfl:b=s:=by simpa using x
    exact h5
  ·rcases List.mem_append.1 hc with x|x
   ·exact h4 c x
   ·obtain rfl:c=cmdAt s 0:=by simpa using x
    exact h0
 ·have hq:(Q.M.plays i ⟨p.b,p.tk+1,wv,p.cs++[cmdAt s 0]⟩).ps[j]? = some q:=hq
  rw[MSt.plays_oth Q.M e]at hq
  simp only[if_neg e]
  exact h.taken j q hq
theorem Hist.watch (h:Hist sd P Q T)(hl:Q.since.length=Q.M.ws.length)(hl2:Q.seen.length=Q.M.ws.length){b:Nat}{lv sv nv:Value}:Hist sd P { Q with M:=Q.M.more b lv,sv:=sv,seen:=Q.seen++[⟨#[]⟩],nv:=nv,since:=Q.since++[T.length] } T:=by
 refine { h with told:=fun j u hu=>?_,first:=?_ }
 ·have hu:(Q.M.ws++[⟨b,.slice none 0 0,[]⟩])[j]? = some u:=hu
  by_cases hj:j<Q.M.ws.length
  ·rw[List.getElem?_append_left hj]at hu
   obtain ⟨n,k,h1,h2,h3,h4⟩:=h.told j u hu
   exact ⟨n,k,by show (Q.since++_)[j]? = _;rw[List.getElem?_append_left (by omega)];exact h1,h2,by show (Q.seen++_)[j]? = _;rw[List.getElem?_append_left (by omega)];exact h3,h4⟩
  ·rw[List.getElem?_append_right (by omega)]at hu
   have hj0:j-Q.M.ws.length=0:=by
    have:=(List.getElem?_eq_some_iff.1 hu).1
    simp at this
    omega
   rw[hj0]at hu
   cases hu
   refine ⟨T.length,0,?_,by omega,?_,?_⟩
   ·show (Q.since++_)[j]? = _
    rw[List.getElem?_append_right (by omega),hl,hj0]
    rfl
   ·show (Q.seen++_)[j]? = _
    rw[List.getElem?_append_right (by omega),hl2,hj0]
    rfl
   ·simp
 ·right
  show (Q.since++_)[0]? = _
  rcases h.first with ⟨e,e2⟩|e
  ·rw[e,e2]
   rfl
  ·rw[List.getElem?_append_left (List.getElem?_eq_some_iff.1 e).1]
   exact e
theorem Hist.poll (h:Hist sd P Q T){j:Nat}{u:Wt}(hu:Q.M.ws[j]? = some u){s0:ByteArray}(hs:Q.seen[j]? = some s0)(most:Nat){uv sv:Value} :
  Hist sd P { Q with M:=Q.M.watches j ⟨u.b,uv,u.ts.drop most⟩,sv:=sv,seen:=Q.seen.set j (s0++joinB (u.ts.take most)) } T:=by
 refine { h with told:=fun i v hv=>?_ }
 by_cases e:i=j
 ·subst e
  have hv:(Q.M.watches i ⟨u.b,uv,u.ts.drop most⟩).ws[i]? = some v:=hv
  rw[MSt.watches_at Q.M hu]at hv
  cases hv
  obtain ⟨n,k,h1,h2,h3,h4⟩:=h.told i u hu
  rw[hs]at h3
  cases h3
  have hl:u.ts.length=T.length-(n+k):=by rw[h4];simp
  refine ⟨n,k+min most u.ts.length,h1,by omega,?_,?_⟩
  ·show (Q.seen.set i _)[i]? = _
   rw[List.getElem?_set_self (List.getElem?_eq_some_iff.1 hs).1]
   congr 1
   have e1:joinB (u.ts.take most)=turnsB ((T.drop (n+k)).take (min most u.ts.length)):=by
    unfold turnsB
    rw[List.map_take,← h4]
    congr 1
    simp
   rw[e1,← turnsB_append]
   congr 1
   rw[List.take_add,List.drop_drop]
  ·show u.ts.drop most=_
   rw[h4,← List.map_drop,List.drop_drop]
   congr 1
   by_cases hm:most≤u.ts.length
   ·rw[← h4,Nat.min_eq_left hm]
    congr 1
    omega
   ·rw[List.drop_eq_nil_of_le (by omega),List.drop_eq_nil_of_le (by rw[← h4];omega)]
 ·have hv:(Q.M.watches j ⟨u.b,uv,u.ts.drop most⟩).ws[i]? = some v:=hv
  rw[MSt.watches_oth Q.M e]at hv
  obtain ⟨n,k,h1,h2,h3,h4⟩:=h.told i v hv
  exact ⟨n,k,h1,h2,by show (Q.seen.set j _)[i]? = _;rw[List.getElem?_set_ne (Ne.symm e)];exact h3,h4⟩
theorem Hist.tick (h:Hist sd P Q T)(hM:MOk Q.M){M':MSt}(hT:Ticked Q.M M')(hov:overB Q.M.S=false)(hl:T.length<1000)(hf:Q.since≠[]):Hist sd P { Q with M:=M',turns:=T.length+1,over:=overB M'.S } (T++[Q.M.turn]):=by
 have hown:∀ k p,Q.M.ps[k]? = some p→∀ c,c∈p.cs→c.p=((0+k:Nat):Int):=fun k p hp c hc=>by
  rw[Nat.zero_add]
  exact (h.taken k p hp).2.2.2 c hc
 have hS:M'.S=behindT (startTo sd P) (T++[Q.M.turn]):=by rw[hT.S,behind_snoc,h.state]
 refine ⟨h.seed,by show M'.ps.length=P;rw[hT.ps,List.length_map];exact h.size,hS,by simp,by simp;omega,rfl,?_,fun k hk=>?_,fun k hk=>?_,?_,fun j u hu=>?_,?_,fun i p hp=>?_,?_,?_,h.noTk⟩
 ·show M'.hs.length=_
  rw[hT.hs,List.length_append,h.hlen]
  simp
 ·show M'.hs[k]? = _
  have hk:k≤T.length+1:=by simpa using hk
  rw[hT.hs]
  by_cases e:k≤T.length
  ·rw[List.getElem?_append_left (by rw[h.hlen];omega),h.hash k e,List.take_append_of_le_length e]
  ·have ek:k=T.length+1:=by omega
   subst ek
   rw[List.getElem?_append_right (by rw[h.hlen];exact Nat.le_refl _),h.hlen,Nat.sub_self,hS,List.take_of_length_le (by simp)]
   rfl
 ·have hk:k<T.length+1:=by simpa using hk
  by_cases e:k<T.length
  ·rw[List.take_append_of_le_length (by omega)]
   exact h.goes k e
  ·have ek:k=T.length:=by omega
   subst ek
   rw[List.take_append_of_le_length (Nat.le_refl _),List.take_length,← h.state]
   exact hov
 ·intro cs hcs
  rcases List.mem_append.1 hcs with x|x
  ·exact h.okT cs x
  ·obtain rfl:cs=Q.M.turn:=by simpa using x
   refine ⟨by have:=Q.M.turn_len hM;omega,fun c hc=>?_⟩
   obtain ⟨p,hp,hcp⟩:=List.mem_flatMap.1 hc
   exact (hM.queue p hp).2.1 c hcp
 ·have hu:M'.ws[j]? = some u:=hu
  have hjl:j<Q.M.ws.length:=by
   rw[← hT.ws.len]
   exact (List.getElem?_eq_some_iff.1 hu).1
  obtain ⟨v,hv,-,hvt⟩:=hT.ws.at_ j _ (List.getElem?_eq_getElem hjl)
  rw[hu]at hv
  cases hv
  obtain ⟨n,k,h1,h2,h3,h4⟩:=h.told j _ (List.getElem?_eq_getElem hjl)
  refine ⟨n,k,h1,by rw[List.length_append];omega,?_,?_⟩
  ·rw[show Q.seen[j]? = _ from h3,List.drop_append_of_le_length (by omega),List.take_append_of_le_length (by rw[List.length_drop];omega)]
  ·rw[hvt,if_pos hjl,h4,List.drop_append_of_le_length (by omega),List.map_append]
   rfl
 ·rcases h.first with ⟨e,e2⟩|e
  ·exact absurd e hf
  ·exact .inr e
 ·have hp:M'.ps[i]? = some p:=hp
  rw[hT.ps,List.getElem?_map]at hp
  obtain ⟨q,hq,rfl⟩:=Option.map_eq_some_iff.1 hp
  obtain ⟨h1,h2,h3,h4⟩:=h.taken i q hq
  have e:=own_filter Q.M.ps 0 hown i q hq
  rw[Nat.zero_add]at e
  refine ⟨?_,h2,h3,fun c hc=>(List.not_mem_nil hc).elim⟩
  show (Q.tk i).bs.map _=_
  rw[h1,List.flatten_append,List.filter_append]
  show _=(_++(List.filter _ ([Q.M.turn]:List (List RC)).flatten))++[]
  rw[List.append_nil,List.flatten_cons,List.flatten_nil,List.append_nil]
  congr 1
  exact e.symm
 ·intro cs hcs
  rcases List.mem_append.1 hcs with x|x
  ·exact h.order cs x
  ·obtain rfl:cs=Q.M.turn:=by simpa using x
   exact own_order Q.M.ps 0 hown
 ·intro cs hcs c hc
  rcases List.mem_append.1 hcs with x|x
  ·exact h.inT cs x c hc
  ·obtain rfl:cs=Q.M.turn:=by simpa using x
   obtain ⟨p,hp,hcp⟩:=List.mem_flatMap.1 hc
   obtain ⟨k,hk⟩:=List.mem_iff_getElem?.1 hp
   have:=hown k p hk c hcp
   have:=(List.getElem?_eq_some_iff.1 hk).1
   have:=h.size
   omega
end
end Go.Proofs.YtdianedehhecoaaGreatDoor
/- The host's watchers: Watch, Poll. -/
namespace Go.Proofs.YtdianedehhecoaaGreatDoor
open Go.RowKit
theorem hostW_at (made rb:Nat)(wbs:List Nat){j b:Nat}(h:wbs[j]? = some b):(hostW made rb wbs)[3+j]? = some (ptrV b):=by
 have hj:j<wbs.length:=(List.getElem?_eq_some_iff.1 h).1
 unfold hostW
 rw[show 3+j=j+3 by omega]
 simp only[List.getElem?_cons_succ]
 rw[List.getElem?_append_left (by simpa using hj),List.getElem?_map,h]
 rfl
theorem hostW_free (made rb:Nat)(wbs:List Nat)(h:wbs.length<20):(hostW made rb wbs)[3+wbs.length]? = some (.pointer none):=by
 unfold hostW
 rw[show 3+wbs.length=wbs.length+3 by omega]
 simp only[List.getElem?_cons_succ]
 rw[List.getElem?_append_right (by simp),List.length_map,Nat.sub_self,List.getElem?_replicate,if_pos (by omega)]
theorem hostW_set (made rb b:Nat)(wbs:List Nat)(h:wbs.length<20):((hostW made rb wbs).set 2 (.int .i64 ((wbs.length:Int)+1))).set (3+wbs.length) (ptrV b)=hostW made rb (wbs++[b]):=by
 unfold hostW
 obtain ⟨k,hk⟩:∃ k,20-wbs.length=k+1:=⟨19-wbs.length,by omega⟩
 have hk2:20-(wbs++[b]).length=k:=by simp;omega
 rw[hk,hk2,show 3+wbs.length=wbs.length+3 by omega]
 simp only[List.set_cons_succ,List.set_cons_zero]
 rw[List.set_append_right _ _ (by simp)]
 simp[List.replicate_succ]
section
variable {w:World} {hbk rb m mb:Nat}
theorem wload_any (b o ub:Nat)(xs:List Value)(w:World)(hc:w.cell? ⟨b,o,none⟩=some (.pointer (some ⟨ub,0,none⟩)))(hm:BlkAt w ub xs 187)(hl:xs.length=2) :
  Calls Pz.prog 166 #[.pointer (some ⟨b,o,none⟩)] w fun e w'=>e=.returned (.pointer (some ⟨ub,0,none⟩))∧w'=w:=by
 have hld:=run_call_loadP (P:=Pz.prog) (w:=w) Pz.func153 (by kernel_rfl) (by kernel_rfl) (by kernel_rfl) (by kernel_rfl) hc
 have hsh:w.shape? ub=some (187,2):=by
  unfold BlkAt at hm
  unfold World.shape?
  rw[hm]
  simp[hl]
 obtain ⟨j,hj⟩:∃ j,Pz.prog.info? 187=some j:=Option.isSome_iff_exists.1 (by kernel_rfl)
 have hfu:=Go.Lib.run_from_unsafe (P:=Pz.prog) (w:=w) (src:=115) (dst:=113) (u:=187) ⟨ub,0,none⟩ (by kernel_rfl) (by kernel_rfl) hj hsh (by kernel_rfl)
 clear hj
 go_enter Pz.func166,Tryz.ntmps166
 go_wp2
 go_ret
 exact ⟨rfl,rfl⟩
theorem findW_at {j ub:Nat}{xs:List Value}(hc:w.cell? ⟨hbk,3+j,none⟩=some (.pointer (some ⟨ub,0,none⟩)))(hj:j<20)(hm:BlkAt w ub xs 187)(hl:xs.length=2) :
  Calls Pz.prog 109 #[.pointer (some ⟨hbk,0,none⟩),.int .i64 j] w fun e w'=>e=.returned (.pointer (some ⟨ub,0,none⟩))∧w'=w:=by
 have HL:=(show Hid _ from wload_any hbk (3+j) ub xs w hc hm hl)
 have hji:(j:Int)<20:=by omega
 clear hc hm hl
 go_enter Pz.func109,Tryz.ntmps109
 go_wp2_with (first|(go_at_call 166;refine Calls.mono HL.out ?_;rintro e w' ⟨rfl,rfl⟩))
 go_ret
 exact ⟨rfl,rfl⟩
theorem hpoll_gen {j ub:Nat}{xs:List Value}{most:Int}{Q:ByteArray→Int→World→Prop}(hc:w.cell? ⟨hbk,3+j,none⟩=some (.pointer (some ⟨ub,0,none⟩)))(hj:j<20)(hm:BlkAt w ub xs 187)(hl:xs.length=2)
  (hL:Calls Pz.prog 110 #[.pointer (some ⟨ub,0,none⟩),.int .i64 most] w fun e w'=>∃ s x,e=.returned (.tuple #[.string s,.int .i64 x])∧Q s x w') :
  Calls Pz.prog 64 #[.pointer (some ⟨hbk,0,none⟩),.int .i64 j,.int .i64 most] w fun e w'=>∃ s x,e=.returned (.tuple #[.string s,.int .i64 x])∧Q s x w':=by
 have HF:=(show Hid _ from findW_at hc hj hm hl)
 have HJ:=(show Hid _ from hL)
 clear hc hm hl hL
 go_enter Pz.func64,Tryz.ntmps64
 go_wp2_with (first|(go_at_call 109;refine Calls.mono HF.out ?_;rintro e w' ⟨rfl,rfl⟩)|(go_at_call 110;refine Calls.mono HJ.out ?_;rintro e w' ⟨s,x,rfl,hq⟩))
 go_ret2
 exact ⟨s,x,rfl,hq⟩
end
def WatchSaid (w:World)(D:Nat→Prop)(M:MSt)(hbk rb made:Nat)(wbs:List Nat)(e:Ending)(w':World):Prop :=
 e=.returned (.tuple #[.int .i64 wbs.length,.int .i64 0])∧∃ b lv g,MG w' (Nw D w.heap.size) (M.more b lv) g∧BlkAt w' hbk (hostW made rb (wbs++[b])) 120∧Keep (fun k=>D k∨k=hbk) w w'∧w.heap.size≤b
section
variable {w:World} {D:Nat→Prop} {M:MSt} {g:MIx→Nat→Prop} {hbk rb m made:Nat} {wbs:List Nat}
theorem hwatch_at (hh:HRm w hbk rb m M.mb)(hb:BlkAt w hbk (hostW made rb wbs) 120)(h:MG w D M g)(hl:M.lk=0)(hD:¬ D hbk)(hne:hbk≠rb)(hw:wbs.length<20)(hws:M.ws.length<20) :
  Calls Pz.prog 47 #[.pointer (some ⟨hbk,0,none⟩),.int .i64 m] w (WatchSaid w D M hbk rb made wbs):=by
 have HF:=(show Hid _ from find_at hh h.cells rfl)
 obtain ⟨n,hn⟩:∃ n,n=wbs.length:=⟨_,rfl⟩
 have h2:w.cell? ⟨hbk,2,none⟩=some (.int .i64 n):=by rw[hn];exact hb.cell rfl
 have f2:w.frozen? ⟨hbk,2,none⟩=false:=hb.free 2
 have HN:=(show Hid _ from next_any hbk 2 n 20 w (by omega) (by omega) (by omega) h2 f2)
 have hMk:∀ k,D k→k<w.heap.size→(w.setCell ⟨hbk,2,none⟩ (.int .i64 ((n:Int)+1))).heap[k]? = w.heap[k]?:=fun k hk _=>Below.heap_setCell w ⟨hbk,2,none⟩ _ k (fun e=>hD ((show k=hbk from e)▸hk))
 have hM:=h.on hMk
 have hH:BlkAt (w.setCell ⟨hbk,2,none⟩ (.int .i64 ((n:Int)+1))) hbk ((hostW made rb wbs).set 2 (.int .i64 ((n:Int)+1))) 120:=hb.set 2 _
 have HB1:Hid (Keep (fun k=>D k∨k=hbk) w (w.setCell ⟨hbk,2,none⟩ (.int .i64 ((n:Int)+1)))):=(Keep.refl _ w).set (.inl (.inr rfl))
 have hsz:(w.setCell ⟨hbk,2,none⟩ (.int .i64 ((n:Int)+1))).heap.size=w.heap.size:=by simp
 generalize hw1:w.setCell ⟨hbk,2,none⟩ (.int .i64 ((n:Int)+1))=w1 at *
 clear hw1 hMk
 have hbl:=hH.lt
 have c3:w1.cell? ⟨hbk,3+n,none⟩=some (.pointer none):=hH.cell (by rw[List.getElem?_set_ne (by omega),hn];exact hostW_free made rb wbs hw)
 have z3:w1.frozen? ⟨hbk,3+n,none⟩=false:=hH.free _
 have HW:Hid (∀ W,Fut1 w1 W→Calls Pz.prog 95 #[.pointer (some ⟨M.mb,0,none⟩)] W fun e w'=>∃ nb,e=.returned (.pointer (some ⟨nb,0,none⟩))∧Hid ((w'.cell? ⟨hbk,3+n,none⟩=some (.pointer none)∧w'.frozen? ⟨hbk,3+n,none⟩=false∧w'.cell? ⟨nb,0,none⟩=some (.pointer (some ⟨M.mb,0,none⟩)))∧WatchSaid w D M hbk rb made wbs (.returned (.tuple #[.int .i64 wbs.length,.int .i64 0])) (w'.setCell ⟨hbk,3+n,none⟩ (.pointer (some ⟨nb,0,none⟩))))):=fun W hW=>by
  have hk0:Keep D w1 W:=⟨(hW.below 0).os,(hW.below 0).tape,(hW.below 0).output,(hW.below 0).size,fun k _ _=>hW.heap k⟩
  refine ((hM.on fun k _ _=>hW.heap k).watch hl hws).mono ?_
  rintro e w' ⟨he,lv,g2,hM2,hk2⟩
  have hk3:Keep D w1 w':=hk0.trans hk2 fun j hj=>.inl hj
  have hH2:=hH.same (hk3.block _ hbl hD)
  have hws2:=(hM2.watcher (j:=M.ws.length) (u:=⟨W.heap.size,.slice none 0 0,[]⟩) (by simp[MSt.more])).1
  have hWz:=hW.size
  have hblk:BlkAt (w'.setCell ⟨hbk,3+n,none⟩ (.pointer (some ⟨W.heap.size,0,none⟩))) hbk (hostW made rb (wbs++[W.heap.size])) 120:=by
   have:=hH2.set (3+n) (ptrV W.heap.size)
   rw[hn,hostW_set made rb W.heap.size wbs hw,← hn]at this
   exact this
  refine ⟨_,he,⟨(World.cell?_of_block (a:=⟨hbk,3+n,none⟩) (hk3.block _ hbl hD)).trans c3,(World.frozen?_of_block (a:=⟨hbk,3+n,none⟩) (hk3.block _ hbl hD)).trans z3,hws2.cell rfl⟩,rfl,W.heap.size,lv,_,(hM2.own (D':=Nw D w.heap.size) fun k hd _=>hd.imp id fun x=>by omega).on fun k hk _=>Below.heap_setCell w' ⟨hbk,3+n,none⟩ _ k (fun e=>?_),hblk,(HB1.out.trans hk3 fun j hj=>.inl (.inl hj)).set (.inl (.inr rfl)),by omega⟩
  have e:k=hbk:=e
  subst e
  rcases hk with hk|hk
  ·exact hD hk
  ·omega
 have HS:Hid (∀ nb (W:World),(W.cell? ⟨hbk,3+n,none⟩=some (.pointer none)∧W.frozen? ⟨hbk,3+n,none⟩=false∧W.cell? ⟨nb,0,none⟩=some (.pointer (some ⟨M.mb,0,none⟩)))→Calls Pz.prog 94 #[.pointer (some ⟨hbk,3+n,none⟩),.pointer (some ⟨nb,0,none⟩)] W fun e w'=>e=.returned (.tuple #[])∧w'=W.setCell ⟨hbk,3+n,none⟩ (.pointer (some ⟨nb,0,none⟩))):=fun nb W hq=>wstore_any hbk (3+n) nb _ _ W hq.1 hq.2.1 hq.2.2
 have hni:(n:Int)<20:=by omega
 unfold WatchSaid at HW ⊢
 rw[← hn]at HW ⊢
 clear hh h h2 f2 hM hH c3 z3 hb hn
 go_enter Pz.func47,Tryz.ntmps47
 go_wp2_with (first|(go_at_call 43;refine Calls.mono HF.out ?_;rintro e w' ⟨rfl,rfl⟩)|(go_at_call 66;refine Calls.mono HN.out ?_;rintro e w' ⟨rfl,rfl⟩))
 go_region_with (first
  | (go_at_call 95;refine Calls.mono (HW.out _ (fut1_drew _)) ?_;rintro e w2 ⟨nb,rfl,hq⟩)
  | (go_at_call 94;refine Calls.mono (HS.out nb _ hq.out.1) ?_;rintro e w3 ⟨rfl,hw3⟩))
 all_goals
  go_wp2
  go_ret2
  subst hw3
  exact ⟨rfl,hq.out.2.2⟩
end
end Go.Proofs.YtdianedehhecoaaGreatDoor