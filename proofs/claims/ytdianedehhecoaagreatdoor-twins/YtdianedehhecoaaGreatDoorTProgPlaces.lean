/- An append onto a row of one's own, with room or without, as one step of a region that draws its order. -/
import Derived.Test.YtdianedehhecoaaGreatDoorTProgMeths
import Derived.Test.YtdianedehhecoaaGreatDoorTProgLeafs
import Derived.Deep.RegionLaw
set_option linter.unusedVariables false
set_option linter.unusedSimpArgs false
namespace Go.Proofs.YtdianedehhecoaaGreatDoor
open Go.RowKit
theorem step_append_row {P:Program}{ops:Array Oper}{o:Oper}{a:Act}{w:World}{K:Act→World→Prop}{Q:Exit→Act→World→Prop}{E:Prop}
  (hgd:o.guard=none)(s x:Operand)(t:TypeId)(ho:o.op=.call { callee:=.builtin .append,args:=#[s,x],argTypes:=#[t,t] })
  (e:TypeId)(i:TypeInfo)(z:Value)(bytes:Nat)(ht:P.underlying t=some (.slice e))(hi:P.info? e=some i)(hz:i.zero=some z)(hsize:i.size=1)(hby:i.bytes=bytes)(hzs:z.cells.size=1)
  {v:Value} {n:Nat} {xs:List Value} (hs:a.eval s=v) (hown:RowAt w e 1 v n xs) {ad:Addr} {c:Nat} {u:Value} (hx:a.eval x=.slice (some ad) 1 c) (hu:w.cell? ad=some u) (h1:u.oneCell'=true)
  (hn:n≤1000000)(hb:bytes≤1000)
  (hK:∀ v' w',RowAt w' e 1 v' (n+1) (xs++[u])→w.grownBy w' v.ownBlock→(v'.ownBlock=v.ownBlock∨v'.ownBlock=some w.heap.size)→K (a.put o.dst v') w') :
  if Region.wanted o (yielded ops a.tmps)=true then Oper.wp P o a w K Q else E:=by
 have hw:Region.wanted o (yielded ops a.tmps)=true:=by simp[Region.wanted,hgd]
 rw[if_pos hw]
 have hm:(n+1)*bytes≤140737488355328:=Nat.le_trans (Nat.mul_le_mul (show n+1≤1000001 by omega) hb) (by decide)
 obtain ⟨v',w',hr,h2,h3,-,h5⟩:=run_append_own_at (P:=P) w 0 t o.type e i z 1 bytes ht hi hz hsize hby hzs (by decide) v n xs hown ad 1 c [u] rfl
  (fun j q hj=>by
   match j,hj with
   | 0,hj=>simp at hj;subst hj;simpa [Addr.add] using hu
   | j+1,hj=>simp at hj)
  (fun q hq=>by simp at hq;subst hq;exact h1) (by unfold maxLen;omega) hm (Nat.zero_le _)
 unfold Oper.wp
 simp[execOp,ho,resolve,invoke,builtin,hs,hx,hr,Result.andThen]
 exact hK v' w' h2 h3 h5
end Go.Proofs.YtdianedehhecoaaGreatDoor
/- The program's place: a unit comes. -/
namespace Go.Proofs.YtdianedehhecoaaGreatDoor
open Go.RowKit
theorem infoPUnit:(Pz.prog.info? 165).map (fun i=>(i.zero,i.size,i.bytes))=some (some .nilIface,1,16):=by kernel_rfl
def Placed (O:Nat→Prop)(w:World)(b:Nat)(S:PS)(gv:Value)(bs:List Nat)(u:PU)(w':World):Prop :=
 (∃ uv' g nb,uv'.ownBlock=some g∧PAt w' (fun k=>O k∨w.heap.size≤k) b { S with last:=S.last+1,units:=S.units++[u] } gv uv' (bs++[nb]))∧Keep O w w'
theorem placed_end {w w1 w2 w4:World}{O:Nat→Prop}{b:Nat}{S:PS}{gv uv v':Value}{bs:List Nat}{u:PU}{o:Obj}(h1:PAt w1 O b { S with last:=S.last+1 } gv uv bs)(k1:Keep O w w1)(z1:w.heap.size<w1.heap.size)
  (hb2:Below w1.heap.size w1 w2)(hs2:w2.heap.size=w1.heap.size+2)(hnb:BlkAt w2 (w1.heap.size+1) u.cells (strT u.kind))(hkd:u.kind=1∨u.kind=2∨u.kind=3)
  (hrow:RowAt w4 165 1 v' (S.units.length+1) (uVals S.units bs++[uVal u (w1.heap.size+1)]))(hg:(w2.alloc o).grownBy w4 uv.ownBlock)
  (hob:v'.ownBlock=uv.ownBlock∨v'.ownBlock=some (w2.alloc o).heap.size)(g:Nat)(hvg:v'.ownBlock=some g):Placed O w b S gv bs u (w4.setCell ⟨b,67,none⟩ v'):=by
 have hsz2:(w2.alloc o).heap.size=w2.heap.size+1:=by simp
 rw[hsz2]at hob
 have hbl:=h1.st.lt
 have hblk:∀ c,c<w1.heap.size→uv.ownBlock≠some c→w4.heap[c]? = w1.heap[c]?:=fun c hc hne=>by
  rw[hg.block c (by simp;omega) (fun e=>hne e.symm),Below.heap_alloc _ _ _ (by omega),hb2.block c hc]
 have hub:uv.ownBlock≠some b:=fun e=>(h1.ou b e).2.1 rfl
 have hvb:v'.ownBlock≠some b:=fun e=>by
  rcases hob with q|q
  ·rw[q]at e;exact hub e
  ·rw[q]at e;injection e with e;omega
 refine ⟨⟨v',g,w1.heap.size+1,hvg,?_⟩,?_⟩
 ·have hp:=PAt.push (w':=w4.setCell ⟨b,67,none⟩ v') (nb:=w1.heap.size+1) (uv':=v') u (S.last+1) h1 (by omega) ?_ ?_ ?_ ?_ ?_ hkd ?_
  ·exact ⟨hp.ore,hp.blen,hp.st,hp.gold,hp.units,hp.each,hp.kinds,hp.nodup,.inl h1.ob,fun k e=>⟨.inl (h1.og k e).1,(hp.og k e).2⟩,
    fun k e=>⟨by rcases (hp.ou k e).1 with q|q;exact .inl q;exact .inr (by omega),(hp.ou k e).2⟩,
    fun k e=>⟨by rcases (hp.oe k e).1 with q|q;exact .inl q;exact .inr (by omega),(hp.oe k e).2⟩⟩
  ·have h2:=(h1.st.same (hblk b hbl hub)).set 67 v'
   have e3:(pCells { S with last:=S.last+1 } gv uv).set 67 v'=pCells { S with last:=S.last+1 } gv v':=by
    unfold pCells
    have hl:S.ore.length=64:=h1.ore
    rw[List.set_append_right _ _ (by simp;omega)]
    simp[hl]
   rw[e3]at h2
   exact h2
  ·exact (h1.gold.same fun k e=>hblk k (h1.gold.lt e) (fun e2=>(h1.ou k e2).2.2 e)).other (fun e=>(h1.og b e).2 rfl)
  ·exact RowAt.other hrow hvb
  ·intro c hc
   have hm:=h1.mem hc
   rw[Below.heap_setCell _ _ _ _ (h1.oe c hc).2.1]
   exact hblk c hm (h1.oe c hc).2.2.2
  ·refine BlkAt.other ?_ (by omega)
   refine (hnb.alloc o).same (hg.block _ (by simp;omega) (fun e=>?_))
   have:=h1.units.lt e.symm
   omega
  ·intro k e
   rcases hob with q|q
   ·left;rw[← q];exact e
   ·right
    rw[q]at e
    injection e with e
    omega
 ·have kk:Keep O w w4:=by
   refine Keep.grown (Keep.alloc (k1.trans (Keep.ofBelow hb2) (fun j hj=>.inr (by omega))) o) hg (fun k e=>.inl (h1.ou k e).1)
  exact kk.set (.inl h1.ob)
theorem RowAt.slice4 {w:World}{e size:Nat}{v:Value}{n:Nat}{xs:List Value}(h:RowAt w e size v (n+1) xs):∃ g cap,v=.slice (some ⟨g,0,none⟩) (n+1) cap∧v.ownBlock=some g:=by
 obtain ⟨g,cap,h1,h2,-⟩:=h.form (by omega)
 exact ⟨g,cap,h1,h2⟩
theorem place_cells {w1 w2 w4:World}{O:Nat→Prop}{b:Nat}{S:PS}{gv uv:Value}{bs:List Nat}{o:Obj}(h1:PAt w1 O b S gv uv bs)(hb2:Below w1.heap.size w1 w2)(hg:(w2.alloc o).grownBy w4 uv.ownBlock) :
  w4.cell? ⟨b,67,none⟩=some uv∧w4.frozen? ⟨b,67,none⟩=false:=by
 have hbl:=h1.st.lt
 have hub:uv.ownBlock≠some b:=fun e=>(h1.ou b e).2.1 rfl
 have hz:=hb2.size
 have hblk:w4.heap[b]? = w1.heap[b]?:=by
  rw[hg.block b (by simp;omega) (fun e=>hub e.symm),Below.heap_alloc _ _ _ (by omega),hb2.block b hbl]
 have h4:=h1.st.same hblk
 exact ⟨(World.cell?_of_block (w:=w1) (w':=w4) (a:=⟨b,67,none⟩) hblk).trans h1.cUnits,h4.free 67⟩
theorem new_cell (w:World)(v:Value)(e:TypeId):(w.alloc (.cells #[v] e)).cell? ⟨w.heap.size,0,none⟩=some v:=(BlkAt.new w [v] e).cell rfl
end Go.Proofs.YtdianedehhecoaaGreatDoor