/- Small facts that all walks of this seat use. -/
import Derived.Test.YtdianedehhecoaaGreatDoorTBar
import Derived.WalkKit
import Derived.WalkSpells
import Derived.WalkSmall
import Derived.Below
import Derived.ProofKit
import Derived.BigRegion
import Derived.BigQuiet
import Derived.Deep.QuietTactic
import Derived.Deep.Light
import Derived.Laws.BitsAllLaws
import Derived.Maps.AppendAt
import Derived.Laws.LoneSync
import Derived.Lib.Builder
import Derived.Lib.UnsafeStr
set_option linter.unusedVariables false
set_option linter.unusedSimpArgs false
set_option maxHeartbeats 1000000
set_option maxRecDepth 20000
namespace Go.Proofs.YtdianedehhecoaaGreatDoor
open Go.RowKit
theorem ret_bool {a b:Bool}(h:a=b):Ending.returned (.bool a)=.returned (.bool b):=by rw [h]
theorem ret_int {k:IntKind}{a b:Int}(h:a=b):Ending.returned (.int k a)=.returned (.int k b):=by rw [h]
theorem ret_str {a b:ByteArray}(h:a=b):Ending.returned (.string a)=.returned (.string b):=by rw [h]
theorem bel_drewN {B:Nat}{a w:World}(h:Below B a w)(n:Nat):Below B a (w.drewN n):=h.trans ⟨rfl,rfl,rfl,Nat.le_refl _,fun _ _=>rfl⟩
theorem bel_set {B b o:Nat}{a w:World}{v:Value}(h:Below B a w)(hp:B≤b):Below B a (w.setCell ⟨b,o,none⟩ v):=h.setCell hp v
theorem bel_alloc {B:Nat}{a w:World}{o:Obj}(h:Below B a w)(hB:B≤w.heap.size):Below B a (w.alloc o):=h.alloc hB o
end Go.Proofs.YtdianedehhecoaaGreatDoor
/- Blocks of memory as lists of cells; what a call may touch. Nothing of the program. -/
namespace Go.Proofs.YtdianedehhecoaaGreatDoor
open Go.RowKit
def BlkAt (w:World)(b:Nat)(xs:List Value)(e:TypeId):Prop:=w.heap[b]? = some (.cells xs.toArray e (0,0))
theorem BlkAt.lt {w:World}{b:Nat}{xs:List Value}{e:TypeId}(h:BlkAt w b xs e):b<w.heap.size:=by
 unfold BlkAt at h
 exact (Array.getElem?_eq_some_iff.1 h).1
theorem BlkAt.cell {w:World}{b:Nat}{xs:List Value}{e:TypeId}(h:BlkAt w b xs e){i:Nat}{v:Value}(hi:xs[i]? = some v):w.cell? ⟨b,i,none⟩=some v:=by
 unfold BlkAt at h
 simp[World.cell?,h,hi]
theorem BlkAt.free {w:World}{b:Nat}{xs:List Value}{e:TypeId}(h:BlkAt w b xs e)(i:Nat):w.frozen? ⟨b,i,none⟩=false:=by
 unfold BlkAt at h
 simp[World.frozen?,h]
theorem BlkAt.new (w:World)(xs:List Value)(e:TypeId):BlkAt (w.alloc (.cells xs.toArray e)) w.heap.size xs e:=by
 show (w.heap.push (.cells xs.toArray e))[w.heap.size]? = _
 simp
theorem BlkAt.same {w w':World}{b:Nat}{xs:List Value}{e:TypeId}(h:BlkAt w b xs e)(hk:w'.heap[b]? = w.heap[b]?):BlkAt w' b xs e:=hk.trans h
theorem BlkAt.alloc {w:World}{b:Nat}{xs:List Value}{e:TypeId}(h:BlkAt w b xs e)(o:Obj):BlkAt (w.alloc o) b xs e :=
 h.same (Below.heap_alloc _ _ _ h.lt)
theorem BlkAt.set {w:World}{b:Nat}{xs:List Value}{e:TypeId}(h:BlkAt w b xs e)(i:Nat)(v:Value):BlkAt (w.setCell ⟨b,i,none⟩ v) b (xs.set i v) e:=by
 unfold BlkAt at *
 simp[World.setCell,Array.getElem?_modify,h]
theorem BlkAt.other {w:World}{b c i:Nat}{xs:List Value}{e:TypeId}{v:Value}(h:BlkAt w b xs e)(hne:b≠c):BlkAt (w.setCell ⟨c,i,none⟩ v) b xs e :=
 h.same (Below.heap_setCell _ _ _ _ hne)
def RowAt (w:World)(e size:Nat)(v:Value)(n:Nat)(xs:List Value):Prop:=w.ownsRow 0 e size v n xs
theorem RowAt.len {w:World}{e size:Nat}{v:Value}{n:Nat}{xs:List Value}(h:RowAt w e size v n xs):xs.length=n*size:=h.1
theorem RowAt.lt {w:World}{e size:Nat}{v:Value}{n:Nat}{xs:List Value}(h:RowAt w e size v n xs){k:Nat}(hk:v.ownBlock=some k):k<w.heap.size:=(World.ownsRow.lt h k hk).2
theorem RowAt.form {w:World}{e size:Nat}{v:Value}{n:Nat}{xs:List Value}(h:RowAt w e size v n xs)(hn:0<n) :
  ∃ g cap,v=.slice (some ⟨g,0,none⟩) n cap∧v.ownBlock=some g∧n≤cap∧cap≤maxLen∧(∀ i u,xs[i]? = some u→w.cell? ⟨g,i,none⟩=some u)∧(∀ i,w.frozen? ⟨g,i,none⟩=false):=by
 obtain ⟨hl,h|⟨g,cap,cur,rfl,_,hb,hc,hm,hs,hx⟩⟩:=h
 ·omega
 ·refine ⟨g,cap,rfl,rfl,hc,hm,fun i u hi=>?_,fun i=>by simp[World.frozen?,hb]⟩
  have:cur[i]? = some u:=by
   have h2:cur.toList[i]? = some u:=by
    rw[← hx,List.getElem?_take]at hi
    split at hi
    ·exact hi
    ·cases hi
   simpa using h2
  simp[World.cell?,hb,this]
theorem RowAt.form2 {w:World}{e size g:Nat}{v:Value}{n:Nat}{xs:List Value}(h:RowAt w e size v n xs)(hg:v.ownBlock=some g) :
  ∃ cap,v=.slice (some ⟨g,0,none⟩) n cap∧n≤cap∧cap≤maxLen∧(∀ i u,xs[i]? = some u→w.cell? ⟨g,i,none⟩=some u)∧(∀ i,w.frozen? ⟨g,i,none⟩=false):=by
 obtain ⟨hl,⟨rfl,_⟩|⟨g',cap,cur,rfl,h0,hb,hc,hm,hs,hx⟩⟩:=h
 ·cases hg
 ·have:g'=g:=by simpa [Value.ownBlock] using hg
  subst this
  refine ⟨cap,rfl,hc,hm,fun i u hi=>?_,fun i=>by simp[World.frozen?,hb]⟩
  have:cur[i]? = some u:=by
   have h2:cur.toList[i]? = some u:=by
    rw[← hx,List.getElem?_take]at hi
    split at hi
    ·exact hi
    ·cases hi
   simpa using h2
  simp[World.cell?,hb,this]
theorem RowAt.same {w w':World}{e size:Nat}{v:Value}{n:Nat}{xs:List Value}(h:RowAt w e size v n xs)(hk:∀ k,v.ownBlock=some k→w'.heap[k]? = w.heap[k]?):RowAt w' e size v n xs:=by
 obtain ⟨hl,h|⟨g,cap,cur,rfl,h0,hb,hc,hm,hs,hx⟩⟩:=h
 ·exact ⟨hl,.inl h⟩
 ·exact ⟨hl,.inr ⟨g,cap,cur,rfl,h0,(hk g rfl).trans hb,hc,hm,hs,hx⟩⟩
theorem RowAt.alloc {w:World}{e size:Nat}{v:Value}{n:Nat}{xs:List Value}(h:RowAt w e size v n xs)(o:Obj):RowAt (w.alloc o) e size v n xs :=
 h.same fun k hk=>Below.heap_alloc _ _ _ (h.lt hk)
theorem RowAt.other {w:World}{e size c i:Nat}{v u:Value}{n:Nat}{xs:List Value}(h:RowAt w e size v n xs)(hne:v.ownBlock≠some c):RowAt (w.setCell ⟨c,i,none⟩ u) e size v n xs :=
 h.same fun k hk=>Below.heap_setCell _ _ _ _ (fun e=>hne (by rw[hk,e]))
theorem RowAt.set {w:World}{e size g:Nat}{v:Value}{n:Nat}{xs:List Value}(h:RowAt w e size v n xs)(hg:v.ownBlock=some g)(i:Nat)(u:Value):RowAt (w.setCell ⟨g,i,none⟩ u) e size v n (xs.set i u):=by
 obtain ⟨hl,⟨rfl,_⟩|⟨g',cap,cur,rfl,h0,hb,hc,hm,hs,hx⟩⟩:=h
 ·cases hg
 ·have:g'=g:=by simpa [Value.ownBlock] using hg
  subst this
  refine ⟨by simpa using hl,.inr ⟨g',cap,cur.setIfInBounds i u,rfl,h0,?_,hc,hm,by simpa using hs,?_⟩⟩
  ·simp[World.setCell,Array.getElem?_modify,hb]
  ·rw[← hx];simp[List.take_set]
structure Keep (O:Nat→Prop)(w w':World):Prop where
 os:w'.os=w.os
 tape:w'.tape=w.tape
 output:w'.output=w.output
 size:w.heap.size≤w'.heap.size
 block:∀ k,k<w.heap.size→¬ O k→w'.heap[k]? = w.heap[k]?
theorem Keep.refl (O:Nat→Prop)(w:World):Keep O w w:=⟨rfl,rfl,rfl,Nat.le_refl _,fun _ _ _=>rfl⟩
theorem Keep.trans {O O':Nat→Prop}{a b c:World}(h:Keep O a b)(k:Keep O' b c)(hO:∀ j,O' j→O j∨a.heap.size≤j):Keep O a c :=
 ⟨k.os.trans h.os,k.tape.trans h.tape,k.output.trans h.output,Nat.le_trans h.size k.size,fun i hi ho =>
  (k.block i (Nat.lt_of_lt_of_le hi h.size) (fun x=>by rcases hO i x with y|y;exact ho y;omega)).trans (h.block i hi ho)⟩
theorem Keep.mono {O O':Nat→Prop}{a b:World}(h:Keep O a b)(hO:∀ j,O j→O' j∨a.heap.size≤j):Keep O' a b :=
 (Keep.refl O' a).trans h hO
theorem Keep.ofBelow {B:Nat}{a b:World}(h:Below B a b):Keep (fun k=>B≤k) a b :=
 ⟨h.os,h.tape,h.output,h.size,fun k _ hk=>h.block k (by omega)⟩
theorem Keep.below {B:Nat}{O:Nat→Prop}{a b:World}(h:Keep O a b)(hO:∀ j,O j→B≤j)(hB:B≤a.heap.size):Below B a b :=
 ⟨h.os,h.tape,h.output,h.size,fun k hk=>h.block k (by omega) (fun x=>by have:=hO k x;omega)⟩
theorem Keep.drew {O:Nat→Prop}{a w:World}(h:Keep O a w):Keep O a w.drew:=⟨h.os,h.tape,h.output,h.size,h.block⟩
theorem Keep.drewN {O:Nat→Prop}{a w:World}(h:Keep O a w)(n:Nat):Keep O a (w.drewN n) :=
 ⟨h.os,h.tape,h.output,h.size,h.block⟩
theorem Keep.set {O:Nat→Prop}{a w:World}{b i:Nat}{v:Value}(h:Keep O a w)(hb:O b∨a.heap.size≤b):Keep O a (w.setCell ⟨b,i,none⟩ v) :=
 h.trans (O':=fun k=>k=b) ⟨rfl,rfl,rfl,by simp[World.setCell],fun k _ hk=>Below.heap_setCell _ _ _ _ hk⟩ (fun j e=>e▸hb)
theorem Keep.alloc {O:Nat→Prop}{a w:World}(h:Keep O a w)(o:Obj):Keep O a (w.alloc o) :=
 h.trans (O':=fun _=>False) ⟨rfl,rfl,rfl,by simp,fun k hk _=>Below.heap_alloc _ _ _ hk⟩ (fun j e=>e.elim)
theorem Keep.grown {O:Nat→Prop}{a w w':World}{row:Option Nat}(h:Keep O a w)(hg:w.grownBy w' row)(hr:∀ k,row=some k→O k∨a.heap.size≤k):Keep O a w' :=
 h.trans (O':=fun k=>row=some k) ⟨hg.os,hg.tape,hg.output,hg.size,fun k hk hn=>hg.block k hk (fun e=>hn e.symm)⟩ (fun j e=>hr j e)
end Go.Proofs.YtdianedehhecoaaGreatDoor
/- Plain facts on the hash: FNV-1a of 64 bits in four limbs of 16 bits, and its sixteen digits. Nothing of the program. -/
namespace Go.Proofs.YtdianedehhecoaaGreatDoor
open Go.RowKit
def fnvStep (H c:Nat):Nat:=(H ^^^ c)*1099511628211 % 18446744073709551616
def fnvFirst:Nat:=14695981039346656037
def fnv (l:List UInt8):Nat:=l.foldl (fun H c=>fnvStep H c.toNat) fnvFirst
def lm (H i:Nat):Int:=((H / 65536 ^ i % 65536:Nat):Int)
theorem fnv_lt (l:List UInt8):fnv l<18446744073709551616:=by
 unfold fnv
 have key:∀ (l:List UInt8) (H:Nat),H<18446744073709551616→l.foldl (fun H c=>fnvStep H c.toNat) H<18446744073709551616:=by
  intro l
  induction l with
  | nil=>intro H h;exact h
  | cons c l ih=>intro H _;exact ih _ (Nat.mod_lt _ (by omega))
 exact key l _ (by unfold fnvFirst;omega)
theorem foldl_snoc {α β:Type}(f:β→α→β)(b:β)(l:List α)(c:α):(l++[c]).foldl f b=f (l.foldl f b) c:=by simp
theorem fnv_snoc (l:List UInt8)(c:UInt8):fnv (l++[c])=fnvStep (fnv l) c.toNat :=
 foldl_snoc (fun H (c:UInt8)=>fnvStep H c.toNat) fnvFirst l c
theorem take_snoc (s:ByteArray)(k:Nat)(h:k<s.size):s.data.toList.take (k+1)=s.data.toList.take k++[s[k]]:=by
 rw[List.take_succ_eq_append_getElem (by simpa using h)];rfl
def hexd (d:Int):ByteArray:=(⟨#[48,49,50,51,52,53,54,55,56,57,97,98,99,100,101,102]⟩:ByteArray).extract d.toNat (d+1).toNat
def hex4 (h:Int):ByteArray:=hexd (h / 4096 % 16)++hexd (h / 256 % 16)++hexd (h / 16 % 16)++hexd (h % 16)
def hexUpTo (H:Nat):Nat→ByteArray
 | 0=>⟨#[]⟩
 | j+1=>hexUpTo H j++hex4 (lm H (3-j))
def hexOf (H:Nat):ByteArray:=hexUpTo H 4
def hash16 (s:ByteArray):ByteArray:=hexOf (fnv s.data.toList)
theorem hexd_size (d:Int)(h0:0≤d)(h1:d<16):(hexd d).size=1:=by
 unfold hexd
 rw[ByteArray.size_extract]
 have:(⟨#[48,49,50,51,52,53,54,55,56,57,97,98,99,100,101,102]⟩:ByteArray).size=16:=rfl
 omega
theorem hex4_size (h:Int):(hex4 h).size=4:=by
 unfold hex4
 rw[ByteArray.size_append,ByteArray.size_append,ByteArray.size_append,hexd_size _ (by omega) (by omega),hexd_size _ (by omega) (by omega),hexd_size _ (by omega) (by omega),hexd_size _ (by omega) (by omega)]
theorem hexUpTo_size (H j:Nat):(hexUpTo H j).size=4*j:=by
 induction j with
 | zero=>rfl
 | succ j ih=>simp only[hexUpTo];rw[ByteArray.size_append,ih,hex4_size];omega
theorem hash16_size (s:ByteArray):(hash16 s).size=16:=hexUpTo_size _ 4
end Go.Proofs.YtdianedehhecoaaGreatDoor
/- Small functions of the host: the counter, the rooms. -/
namespace Go.Proofs.YtdianedehhecoaaGreatDoor
open Go.RowKit
theorem run_call_loadP {P : Program} {f : FuncId} {fn : Func} (hf : P.funcs[f]? = some fn) (hname : (fn.name == "runtime.NumGoroutine") = false) (hb : fn.body.isNone = true) (hn : Extern.findNext fn = none)
    (he:Extern.find fn=some (Extern.Atomic.loadT .ptr)){a:Addr}{x:Option Addr}{w:World}(hc:w.cell? a=some (.pointer x)) :
    (callFunc f #[.pointer (some a)]).run P w=.ok (.value (.pointer x)) w:=by
  rw[run_callFunc_extern hf hname hb hn he]
  change (Sem.run P (do Extern.Atomic.read .ptr (← asAddr (.pointer (some a)))) w).andThen _=_
  simp[Extern.Atomic.read,asAddr,hc,Result.andThen]
theorem run_call_storeP {P : Program} {f : FuncId} {fn : Func} (hf : P.funcs[f]? = some fn) (hname : (fn.name == "runtime.NumGoroutine") = false) (hb : fn.body.isNone = true) (hn : Extern.findNext fn = none)
    (he:Extern.find fn=some Extern.Atomic.storeT){a:Addr}{y:Option Addr}{u:Value}{w:World}(hc:w.cell? a=some u)(hz:w.frozen? a=false) :
    (callFunc f #[.pointer (some a),.pointer y]).run P w=.ok (.value (.tuple #[])) (w.setCell a (.pointer y)):=by
  rw[run_callFunc_extern hf hname hb hn he]
  change (Sem.run P (do
    store (← asAddr (.pointer (some a))) (.pointer y) .atomic
    pure Extern.Atomic.none_) w).andThen _=_
  simp[asAddr,hc,hz,run_store P w a (.pointer y) .atomic rfl,Result.andThen,Extern.Atomic.none_]
theorem load64_any (b o:Nat)(n:Int)(w:World)(hc:w.cell? ⟨b,o,none⟩=some (.int .i64 n)) :
  Calls Pz.prog 112 #[.pointer (some ⟨b,o,none⟩)] w fun e w'=>e=.returned (.int .i64 n)∧w'=w:=by
 have hld:=run_call_load (P:=Pz.prog) (w:=w) Pz.func169 (by kernel_rfl) (by kernel_rfl) (by kernel_rfl) .i64 (by kernel_rfl) hc
 go_enter Pz.func112,Tryz.ntmps112
 go_wp2
 go_ret
 exact ⟨rfl,rfl⟩
theorem cas64_hit (b o:Nat)(n m:Int)(w:World)(hc:w.cell? ⟨b,o,none⟩=some (.int .i64 n))(hz:w.frozen? ⟨b,o,none⟩=false) :
  Calls Pz.prog 113 #[.pointer (some ⟨b,o,none⟩),.int .i64 n,.int .i64 m] w fun e w'=>e=.returned (.bool true)∧w'=w.setCell ⟨b,o,none⟩ (.int .i64 m):=by
 have hcas:=run_call_cas_hit (P:=Pz.prog) (w:=w) Pz.func170 (by kernel_rfl) (by kernel_rfl) (by kernel_rfl) .i64 (by kernel_rfl) (y:=m) hc hz
 go_enter Pz.func113,Tryz.ntmps113
 go_wp2
 go_ret
 exact ⟨rfl,rfl⟩
theorem next_any (b o:Nat)(n bound:Int)(w:World)(n0:0≤n)(hn:n<bound)(hb:bound≤1000000)(hc:w.cell? ⟨b,o,none⟩=some (.int .i64 n))(hz:w.frozen? ⟨b,o,none⟩=false) :
  Calls Pz.prog 66 #[.pointer (some ⟨b,o,none⟩),.int .i64 bound] w fun e w'=>e=.returned (.tuple #[.int .i64 n,.bool true])∧w'=w.setCell ⟨b,o,none⟩ (.int .i64 (n+1)):=by
 have H1:=(show Hid _ from load64_any b o n w hc)
 have H2:=(show Hid _ from cas64_hit b o n (n+1) w hc hz)
 clear hc hz
 go_enter Pz.func66,Tryz.ntmps66
 go_wp2
 go_loop [6] (fun _=>True) (fun _=>0)
 ·trivial
 ·intros
  go_wp2_with (first|(go_at_call 112;refine Calls.mono H1.out ?_;rintro e w' ⟨rfl,rfl⟩)|(go_at_call 113;refine Calls.mono H2.out ?_;rintro e w' ⟨rfl,rfl⟩))
  go_ret2
  exact ⟨rfl,rfl⟩
theorem pload_any (b o mb:Nat)(xs:List Value)(w:World)(hc:w.cell? ⟨b,o,none⟩=some (.pointer (some ⟨mb,0,none⟩)))(hm:BlkAt w mb xs 136)(hl:xs.length=7) :
  Calls Pz.prog 88 #[.pointer (some ⟨b,o,none⟩)] w fun e w'=>e=.returned (.pointer (some ⟨mb,0,none⟩))∧w'=w:=by
 have hld:=run_call_loadP (P:=Pz.prog) (w:=w) Pz.func153 (by kernel_rfl) (by kernel_rfl) (by kernel_rfl) (by kernel_rfl) hc
 have hsh:w.shape? mb=some (136,7):=by
  unfold BlkAt at hm
  unfold World.shape?
  rw[hm]
  simp[hl]
 obtain ⟨j,hj⟩:∃ j,Pz.prog.info? 136=some j:=Option.isSome_iff_exists.1 (by kernel_rfl)
 have hfu:=Go.Lib.run_from_unsafe (P:=Pz.prog) (w:=w) (src:=115) (dst:=85) (u:=136) ⟨mb,0,none⟩ (by kernel_rfl) (by kernel_rfl) hj hsh (by kernel_rfl)
 clear hj
 go_enter Pz.func88,Tryz.ntmps88
 go_wp2
 go_ret
 exact ⟨rfl,rfl⟩
theorem pstore_any (b o mb:Nat)(xs:List Value)(u:Value)(w:World)(hc:w.cell? ⟨b,o,none⟩=some u)(hz:w.frozen? ⟨b,o,none⟩=false)(hm:BlkAt w mb xs 136)(hl:xs.length=7) :
  Calls Pz.prog 67 #[.pointer (some ⟨b,o,none⟩),.pointer (some ⟨mb,0,none⟩)] w fun e w'=>e=.returned (.tuple #[])∧w'=w.setCell ⟨b,o,none⟩ (.pointer (some ⟨mb,0,none⟩)):=by
 have hst:=run_call_storeP (P:=Pz.prog) (w:=w) Pz.func114 (by kernel_rfl) (by kernel_rfl) (by kernel_rfl) (by kernel_rfl) (y:=some ⟨mb,0,none⟩) hc hz
 obtain ⟨v0,hv0⟩:∃ v,xs[0]? = some v:=⟨xs[0],List.getElem?_eq_getElem (by omega)⟩
 have hcv:=run_convert_to_unsafe (P:=Pz.prog) (src:=85) (dst:=115) (t:=136) (by kernel_rfl) (by kernel_rfl) (by kernel_rfl) (hm.cell hv0)
 go_enter Pz.func67,Tryz.ntmps67
 go_wp2
 go_end0
 exact ⟨rfl,rfl⟩
theorem kname_any (p:Nat)(w:World)(hp:p<4) :
  Calls Pz.prog 27 #[.int .i64 p] w fun e w'=>e=.returned (.string ⟨#[(97+p).toUInt8]⟩)∧w'=w:=by
 have hcs:p=0∨p=1∨p=2∨p=3:=by omega
 rcases hcs with rfl|rfl|rfl|rfl
 all_goals
  go_enter Pz.func27,Tryz.ntmps27
  go_wp2
  go_ret
  exact ⟨rfl,rfl⟩
def hostV (made:Int)(rb:Nat):List Value:=.int .i64 made :: .slice (some ⟨rb,0,none⟩) 8 8 :: .int .i64 0 :: List.replicate 20 (.pointer none)
theorem new_any (w:World) :
  Calls Pz.prog 31 #[.int .i64 8] w fun e w'=>e=.returned (.tuple #[.pointer (some ⟨w.heap.size+1,0,none⟩),.int .i64 0])∧BlkAt w' w.heap.size (List.replicate 8 (.pointer none)) 125∧BlkAt w' (w.heap.size+1) (hostV 0 w.heap.size) 120∧w'.heap.size=w.heap.size+2∧Below w.heap.size w w':=by
 have hmk:∀ w,(Instr.makeSlice 105 (.int .i64 8) (.int .i64 8)).run Pz.prog w=.ok (.slice (some ⟨w.heap.size,0,none⟩) 8 8) (w.alloc (.cells #[.pointer none,.pointer none,.pointer none,.pointer none,.pointer none,.pointer none,.pointer none,.pointer none] 125)):=fun _=>by kernel_rfl
 go_enter Pz.func31,Tryz.ntmps31
 go_wp2
 go_ret2
 refine ⟨rfl,(BlkAt.new w _ _).alloc _,?_,?_,?_⟩
 ·have h:=BlkAt.new (w.alloc (.cells #[.pointer none,.pointer none,.pointer none,.pointer none,.pointer none,.pointer none,.pointer none,.pointer none] 125)) (hostV 0 w.heap.size) 120
  rw[show (w.alloc (.cells #[.pointer none,.pointer none,.pointer none,.pointer none,.pointer none,.pointer none,.pointer none,.pointer none] 125)).heap.size=w.heap.size+1 by simp]at h
  exact h
 ·simp
 ·exact (((Below.refl _ _).alloc (Nat.le_refl _) _).alloc (by simp) _)
end Go.Proofs.YtdianedehhecoaaGreatDoor