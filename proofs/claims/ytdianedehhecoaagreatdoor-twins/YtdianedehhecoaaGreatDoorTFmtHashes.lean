/- The library's FormatUint at base 16, as the program calls it. -/
import Derived.Test.YtdianedehhecoaaGreatDoorTBase
set_option linter.unusedVariables false
set_option linter.unusedSimpArgs false
set_option maxHeartbeats 4000000
set_option maxRecDepth 100000
namespace Go.Proofs.YtdianedehhecoaaGreatDoor
open Go.RowKit
theorem tz_num:IntKind.u64.wrap (bits BinOp.and IntKind.u64 16 (IntKind.u64.wrap (-16))*285870213051353865) / 288230376151711744=15:=by decide +kernel
theorem tz_any (w:World)(hd:w.cell? ⟨4,15,none⟩=some (.int .u8 4)) :
  Calls Pz.prog 216 #[.int .u64 16] w fun e w'=>e=.returned (.int .i64 4)∧w'=w:=by
 have h1:=tz_num
 go_enter Pz.func216,Tryz.ntmps216
 go_wp2
 go_ret
 exact ⟨rfl,rfl⟩
theorem ipt_any (w:World) :
  Calls Pz.prog 215 #[.int .i64 16] w fun e w'=>e=.returned (.bool true)∧w'=w:=by
 have h1:bits BinOp.and IntKind.i64 16 15=0:=by decide
 go_enter Pz.func215,Tryz.ntmps215
 go_wp2
 go_ret
 exact ⟨rfl,rfl⟩
theorem and15 (x:Int)(h0:0≤x)(h1:x<18446744073709551616):bits BinOp.and IntKind.u64 x 15=x % 16:=by
 rw[u64_and x 15 h0 h1 (by omega) (by omega)]
 obtain ⟨n,rfl⟩:=Int.eq_ofNat_of_zero_le h0
 have:(n:Int).toNat &&& (15:Int).toNat=n % 16:=Nat.and_two_pow_sub_one_eq_mod n 4
 rw[this]
 omega
def digC (d:Nat):Int:=if d<10 then 48+d else 87+d
def hexTail (U:Nat):Nat→List Int
 | 0=>[]
 | j+1=>digC (U / 16 ^ j % 16) :: hexTail U j
theorem hexTail_len (U j:Nat):(hexTail U j).length=j:=by
 induction j with
 | zero=>rfl
 | succ j ih=>simp[hexTail,ih]
def zeros (n:Nat):List Value:=List.replicate n (.int .u8 0)
def uHex (U j:Nat):List Value:=(hexTail U j).map (.int .u8)
theorem cellLt {w:World}{a:Addr}{v:Value}(h:w.cell? a=some v):a.block<w.heap.size:=by
 unfold World.cell? at h
 split at h
 ·rename_i e;exact (Array.getElem?_eq_some_iff.1 e).1
 ·cases h
def digs:ByteArray:=⟨#[48,49,50,51,52,53,54,55,56,57,97,98,99,100,101,102,103,104,105,106,107,108,109,110,111,112,113,114,115,116,117,118,119,120,121,122]⟩
theorem dig_all:∀ d:Fin 36,d.val<16→((digs.data.toList.getD d.val 0).toNat:Int)=digC d.val:=by decide
theorem dig_get (d:Nat)(h:d<digs.size)(h16:d<16):((digs[d].toNat:Nat):Int)=digC d:=by
 have e:digs[d]=digs.data.toList.getD d 0:=by
  have h':d<digs.data.toList.length:=by simpa using h
  simp only[List.getD,List.getElem?_eq_getElem h',Option.getD_some]
  rfl
 rw[e]
 exact dig_all ⟨d,by omega⟩ h16
theorem zeros_set (U j:Nat)(hj:j≤15)(v:Int)(hv:v=digC (U / 16 ^ j % 16)):(zeros (65-j)++uHex U j).set (65-j-1) (.int .u8 v)=zeros (65-(j+1))++uHex U (j+1):=by
 have e1:65-j=(65-(j+1))+1:=by omega
 have e2:zeros (65-j)=zeros (65-(j+1))++[.int .u8 0]:=by unfold zeros;rw[e1,List.replicate_succ']
 have e3:(zeros (65-(j+1))).length=65-(j+1):=by simp[zeros]
 rw[e2,List.append_assoc,List.set_append_right _ _ (by rw[e3];omega),e3]
 have e4:65-j-1-(65-(j+1))=0:=by omega
 rw[e4]
 simp[uHex,hexTail,hv]
theorem zeros_get (U j:Nat)(hj:j≤15):(zeros (65-j)++uHex U j)[65-j-1]? = some (.int .u8 0):=by
 rw[List.getElem?_append_left (by simp[zeros];omega)]
 unfold zeros
 rw[List.getElem?_replicate,if_pos (by omega)]
theorem tail_get (U j i:Nat)(hj:j≤15)(hi:i<j+1):(zeros (65-(j+1))++uHex U (j+1))[65-j-1+i]? = some (.int .u8 ((hexTail U (j+1)).getD i 0)):=by
 have e3:(zeros (65-(j+1))).length=65-(j+1):=by simp[zeros]
 have hl:=hexTail_len U (j+1)
 rw[List.getElem?_append_right (by rw[e3];omega),e3,show 65-j-1+i-(65-(j+1))=i from by omega]
 unfold uHex
 rw[List.getElem?_map]
 simp[List.getD,List.getElem?_eq_getElem (show i<(hexTail U (j+1)).length by omega)]
theorem slice65 (B j:Nat)(hj:j≤15)(W:World):(Instr.sliceAt 319 (.pointer (some ⟨B,0,none⟩)) (some (.int .i64 (65-(j:Int)-1))) none none).run Pz.prog W=.ok (.slice (some ⟨B,65-j-1,none⟩) (j+1) (j+1)) W:=by
 have hl:Pz.prog.arrayLen 319=65:=by kernel_rfl
 have hu:Pz.prog.underlying 319=some (.array (Pz.prog.arrayLen 319) (Pz.prog.elem 319)):=by kernel_rfl
 rw[run_sliceAt_array_l W 319 ⟨B,0,none⟩ hu .i64 (65-(j:Int)-1) (by omega) (by rw[hl];omega),hl]
 have hs:(sizeOf (Pz.prog.elem 319)).run Pz.prog W=.ok 1 W:=by kernel_rfl
 rw[hs]
 have e:(65-(j:Int)-1).toNat=65-j-1:=by omega
 simp only[Result.andThen,slicedAt,e]
 rw[if_neg (by omega)]
 have e2:65-(65-j-1)=j+1:=by omega
 simp[Addr.add,e2]
 omega
def fmtSaid (U:Nat)(e:Ending):Prop:=∃ n,1≤n∧n≤16∧U<16 ^ n∧e=.returned (.tuple #[.slice none 0 0,.string (strOfNums (hexTail U n))])
theorem fb_any (U:Nat)(w:World)(hU:U<18446744073709551616)(hd:w.cell? ⟨4,15,none⟩=some (.int .u8 4)) :
  Calls Pz.prog 191 #[.slice none 0 0,.int .u64 U,.int .i64 16,.bool false,.bool false] w fun e w'=>fmtSaid U e∧Below w.heap.size w w':=by
 go_enter Pz.func191,Tryz.ntmps191
 go_wp2_with fail
 refine (ipt_any _).mono ?_
 rintro e w1 ⟨rfl,hw⟩
 rw[hw];clear hw w1
 go_wp2_with fail
 refine (tz_any _ ?_).mono ?_
 ·exact (((Below.refl w.heap.size w).alloc (Nat.le_refl _) _).cell (cellLt hd)).trans hd
 rintro e w1 ⟨rfl,hw⟩
 rw[hw];clear hw w1
 go_wp2
 have HB:Hid (BlkAt (w.alloc (.cells Tryz.zeroCells319 319)) w.heap.size (zeros 65) 319):=by
  unfold Hid
  have e:Tryz.zeroCells319=(zeros 65).toArray:=by kernel_rfl
  rw[e]
  exact BlkAt.new w _ _
 go_loopw [1,13] (fun u i wr=>∃ j:Nat,j≤15∧u=.int .u64 ((U / 16 ^ j:Nat):Int)∧i=.int .i64 (65-j)∧BlkAt wr w.heap.size (zeros (65-j)++uHex U j) 319∧Below w.heap.size w wr) (fun u _ _=>(intOf u).toNat)
 case atStart =>
  refine ⟨0,by omega,by simp,rfl,?_,(Below.refl _ _).alloc (Nat.le_refl _) _⟩
  simpa [uHex,hexTail] using HB.out
 case round =>
  clear HB
  obtain ⟨j,hj,rfl,rfl,hbk,hbel⟩:=hrel
  have Hbk:Hid (BlkAt wr w.heap.size (zeros (65-j)++uHex U j) 319):=hbk
  have HS:Hid (U / 16 ^ (j+1)=U / 16 ^ j / 16):=by unfold Hid;rw[Nat.pow_succ,Nat.div_div_eq_div_mul]
  have hx:U / 16 ^ j<18446744073709551616:=Nat.lt_of_le_of_lt (Nat.div_le_self _ _) hU
  have hj15:16≤U / 16 ^ j→j<15:=by
   intro h
   by_cases e:j=15
   ·subst e
    have:(16:Nat) ^ 15=1152921504606846976:=by decide
    rw[this]at h
    omega
   ·omega
  have cz:wr.cell? ⟨w.heap.size,65-j-1,none⟩=some (.int .u8 0):=hbk.cell (zeros_get U j hj)
  have fz:=hbk.free (65-j-1)
  have HX:=(show Hid (U / 16 ^ j=U / 16 ^ j) from rfl)
  have hset:=fun v hv=>zeros_set U j hj v hv
  have Hset:Hid (∀ v,v=digC (U / 16 ^ j % 16)→(zeros (65-j)++uHex U j).set (65-j-1) (.int .u8 v)=zeros (65-(j+1))++uHex U (j+1)):=hset
  have Hlt:Hid (U / 16 ^ j<16→U<16 ^ (j+1)):=by
   intro h
   rw[Nat.pow_succ]
   have h2:=(Nat.div_lt_iff_lt_mul (Nat.pow_pos (by decide:0<16))).1 h
   rw[Nat.mul_comm]
   exact h2
  clear hbk hset HX
  generalize U / 16 ^ j=x at *
  have ha:=and15 x (by omega) (by omega)
  by_cases hge:16≤x
  ·have hgi:(16:Int)≤(x:Int):=by omega
   have hjl:=hj15 hge
   clear hj15
   go_wp2
   go_light
   refine ⟨⟨j+1,by omega,by rw[HS.out];simp,by go_num,?_,bel_set hbel (Nat.le_refl _)⟩,by simp[intOf];omega⟩
   rw[← Hset.out _ (dig_get (x % 16) (by show x % 16<36;omega) (by omega))]
   exact Hbk.out.set _ _
  ·have hgi:¬ (16:Int)≤(x:Int):=by omega
   clear hj15
   have hx36:x<36:=by omega
   have hdg:=dig_get x hx36 (by omega)
   have hsl:=slice65 w.heap.size j hj
   have hb2:BlkAt (wr.setCell ⟨w.heap.size,65-j-1,none⟩ (.int .u8 (digC x))) w.heap.size (zeros (65-(j+1))++uHex U (j+1)) 319:=by
    rw[← Hset.out (digC x) (by rw[Nat.mod_eq_of_lt (by omega)])]
    exact Hbk.out.set _ _
   have hcv:=run_convert_bytes_arg (P:=Pz.prog) (wr.setCell ⟨w.heap.size,65-j-1,none⟩ (.int .u8 (digC x))) 55 5 ((Pz.gUnderlying 55).trans Tryz.underlying55) ((Pz.gUnderlying 5).trans Tryz.underlying5) w.heap.size (65-j-1) (j+1) (j+1) (hexTail U (j+1)) (hexTail_len U (j+1))
    (fun i hi=>hb2.cell (tail_get U j i hj hi)) 9 ((Pz.gUnderlying 9).trans Tryz.underlying9)
   clear hb2
   have hdg':((({ data:=#[48,49,50,51,52,53,54,55,56,57,97,98,99,100,101,102,103,104,105,106,107,108,109,110,111,112,113,114,115,116,117,118,119,120,121,122] }:ByteArray)[x]'hx36).toNat:Int)=digC x:=hdg
   clear hdg
   go_wp2
   go_ret2
   go_light
   refine ⟨⟨j+1,by omega,by omega,Hlt.out (by omega),rfl⟩,bel_set hbel (Nat.le_refl _)⟩
end Go.Proofs.YtdianedehhecoaaGreatDoor
/- The program's Hash: FormatUint, Repeat, and the loop. -/
namespace Go.Proofs.YtdianedehhecoaaGreatDoor
open Go.RowKit
def fmt1Said (U:Nat)(e:Ending):Prop:=∃ n,1≤n∧n≤16∧U<16 ^ n∧e=.returned (.string (strOfNums (hexTail U n)))
theorem fu_any (U:Nat)(w:World)(hU:U<18446744073709551616)(hd:w.cell? ⟨4,15,none⟩=some (.int .u8 4)) :
  Calls Pz.prog 146 #[.int .u64 U,.int .i64 16] w fun e w'=>fmt1Said U e∧Below w.heap.size w w':=by
 go_enter Pz.func146,Tryz.ntmps146
 go_wp2_with (go_at_call 191;refine (fb_any U _ hU hd).mono ?_;rintro e w1 ⟨⟨n,n1,n2,n3,rfl⟩,hb⟩)
 go_ret
 exact ⟨⟨n,n1,n2,n3,rfl⟩,hb⟩
theorem fmtU_any (U:Nat)(w:World)(hU:U<18446744073709551616)(hd:w.cell? ⟨4,15,none⟩=some (.int .u8 4)) :
  Calls Pz.prog 86 #[.int .u64 U,.int .i64 16] w fun e w'=>fmt1Said U e∧Below w.heap.size w w':=by
 go_enter Pz.func86,Tryz.ntmps86
 go_wp2_with (go_at_call 146;refine (fu_any U _ hU hd).mono ?_;rintro e w1 ⟨⟨n,n1,n2,n3,rfl⟩,hb⟩)
 go_ret
 exact ⟨⟨n,n1,n2,n3,rfl⟩,hb⟩
def noughts (n:Nat):List Int:=List.replicate n 48
theorem u64w (n:Int):IntKind.u64.wrap n=n % 18446744073709551616:=by
 rw[IntKind.wrap_u64]
theorem andLow (c:Int)(h0:0≤c)(h1:c≤15):bits BinOp.and IntKind.u64 c 4294967295=c:=by
 rw[u64_and c 4294967295 h0 (by omega) (by omega) (by omega)]
 obtain ⟨n,rfl⟩:=Int.eq_ofNat_of_zero_le h0
 have:(n:Int).toNat &&& (4294967295:Int).toNat=n % 4294967296:=Nat.and_two_pow_sub_one_eq_mod n 32
 rw[this]
 omega
theorem mul64_any (c:Nat)(h2:2≤c)(hc:c≤15)(w:World) :
  Calls Pz.prog 193 #[.int .u64 1,.int .u64 c] w fun e w'=>e=.returned (.tuple #[.int .u64 0,.int .u64 c])∧w'=w:=by
 have a0:=andLow 0 (by omega) (by omega)
 have a1:=andLow 1 (by omega) (by omega)
 have ac:=andLow c (by omega) (by omega)
 have w0:IntKind.u64.wrap 0=0:=by rw[u64w];rfl
 have wc:IntKind.u64.wrap (c:Int)=c:=by rw[u64w];omega
 have c0:(c:Int) / 4294967296=0:=by omega
 go_enter Pz.func193,Tryz.ntmps193
 go_wp2
 go_ret2
 exact ⟨rfl,rfl⟩
theorem mul_any (c:Nat)(h2:2≤c)(hc:c≤15)(w:World) :
  Calls Pz.prog 147 #[.int .u64 1,.int .u64 c] w fun e w'=>e=.returned (.tuple #[.int .u64 0,.int .u64 c])∧w'=w:=by
 have wc:IntKind.u64.wrap (c:Int)=c:=by rw[u64w];omega
 go_enter Pz.func147,Tryz.ntmps147
 go_wp2_with (go_at_call 193;refine (mul64_any c h2 hc _).mono ?_;rintro e w1 ⟨rfl,hw⟩;rw[hw];clear hw w1)
 go_ret2
 exact ⟨rfl,rfl⟩
theorem hp_any (X:ByteArray)(hX:1≤X.size)(hX2:X.size≤1000)(w:World) :
  Calls Pz.prog 194 #[.string X,.string ⟨#[48]⟩] w fun e w'=>e=.returned (.bool ((X.extract 0 1).toList == [48]))∧w'=w:=by
 have h1:(1:Int)≤X.size:=by omega
 go_enter Pz.func194,Tryz.ntmps194
 go_wp2
 go_ret
 exact ⟨rfl,rfl⟩
theorem hps_any (X:ByteArray)(b:Bool)(hX:1≤X.size)(hX2:X.size≤1000)(hb:((X.extract 0 1).toList == [48])=b)(w:World) :
  Calls Pz.prog 148 #[.string X,.string ⟨#[48]⟩] w fun e w'=>e=.returned (.bool b)∧w'=w:=by
 subst hb
 go_enter Pz.func148,Tryz.ntmps148
 go_wp2_with (go_at_call 194;refine (hp_any X hX hX2 _).mono ?_;rintro e w1 ⟨rfl,hw⟩;rw[hw];clear hw w1)
 go_ret
 exact ⟨rfl,rfl⟩
theorem rep_any (c:Nat)(hc:c≤15)(w:World) :
  Calls Pz.prog 87 #[.string ⟨#[48]⟩,.int .i64 c] w fun e w'=>e=.returned (.string (strOfNums (noughts c)))∧w'=w:=by
 by_cases h0:c=0
 ·subst h0
  go_enter Pz.func87,Tryz.ntmps87
  go_wp2
  go_ret
  exact ⟨rfl,rfl⟩
 by_cases h1:c=1
 ·subst h1
  go_enter Pz.func87,Tryz.ntmps87
  go_wp2
  go_ret
  exact ⟨rfl,rfl⟩
 have h2:2≤c:=by omega
 have b0:((c:Int) == 0)=false:=by simp;omega
 have b1:((c:Int) == 1)=false:=by simp;omega
 have wc:IntKind.u64.wrap (c:Int)=c:=by rw[u64w];omega
 clear h0 h1
 go_enter Pz.func87,Tryz.ntmps87
 go_wp2_with (first
  | (go_at_call 147;refine (mul_any c h2 hc _).mono ?_;rintro e w1 ⟨rfl,hw⟩;rw[hw];clear hw w1)
  | (go_at_call 148;refine (hps_any _ false ?_ ?_ ?_ _).mono ?_;(decide +kernel);(decide +kernel);(decide +kernel);rintro e w1 ⟨rfl,hw⟩;rw[hw];clear hw w1)
  | (go_at_call 148;refine (hps_any _ true ?_ ?_ ?_ _).mono ?_;(decide +kernel);(decide +kernel);(decide +kernel);rintro e w1 ⟨rfl,hw⟩;rw[hw];clear hw w1))
 go_ret
 refine ⟨ret_str (b:=strOfNums (noughts c)) ?_,rfl⟩
 have hcc:c=2∨c=3∨c=4∨c=5∨c=6∨c=7∨c=8∨c=9∨c=10∨c=11∨c=12∨c=13∨c=14∨c=15:=by omega
 clear b0 b1 wc h2 hc
 rcases hcc with rfl|rfl|rfl|rfl|rfl|rfl|rfl|rfl|rfl|rfl|rfl|rfl|rfl|rfl
 all_goals rfl
theorem strOfNums_app (a b:List Int):strOfNums (a++b)=strOfNums a++strOfNums b:=by
 apply ByteArray.ext
 simp[strOfNums,ByteArray.data_append]
theorem hexTail_zero (U n:Nat)(h:U<16 ^ n)(k:Nat):hexTail U (n+k)=noughts k++hexTail U n:=by
 induction k with
 | zero=>simp[noughts]
 | succ k ih =>
  have hz:U / 16 ^ (n+k) % 16=0:=by
   rw[Nat.div_eq_of_lt (Nat.lt_of_lt_of_le h (Nat.pow_le_pow_right (by decide) (by omega)))]
  show hexTail U (n+k+1)=_
  simp only[hexTail]
  rw[ih,hz]
  simp[noughts,List.replicate_succ,digC]
theorem hexd_dig (d:Nat)(h:d<16):hexd (d:Int)=strOfNums [digC d]:=by
 have key:∀ d:Fin 16,hexd (d.val:Int)=strOfNums [digC d.val]:=by decide +kernel
 exact key ⟨d,h⟩
theorem lm_dig (H i k:Nat)(hk:k<4):(lm H i / (16 ^ k:Nat)) % 16=((H / 16 ^ (4*i+k) % 16:Nat):Int):=by
 unfold lm
 have e1:(65536:Nat) ^ i=16 ^ (4*i):=by rw[Nat.pow_mul]
 rw[e1,Nat.pow_add,← Nat.div_div_eq_div_mul]
 generalize H / 16 ^ (4*i)=Y
 have hc:k=0∨k=1∨k=2∨k=3:=by omega
 rcases hc with rfl|rfl|rfl|rfl<;>simp<;>omega
theorem hex4_dig (H i:Nat):hex4 (lm H i)=strOfNums [digC (H / 16 ^ (4*i+3) % 16),digC (H / 16 ^ (4*i+2) % 16),digC (H / 16 ^ (4*i+1) % 16),digC (H / 16 ^ (4*i) % 16)]:=by
 have d3:=lm_dig H i 3 (by omega)
 have d2:=lm_dig H i 2 (by omega)
 have d1:=lm_dig H i 1 (by omega)
 have d0:=lm_dig H i 0 (by omega)
 unfold hex4
 have e3:lm H i / 4096 % 16=((H / 16 ^ (4*i+3) % 16:Nat):Int):=d3
 have e2:lm H i / 256 % 16=((H / 16 ^ (4*i+2) % 16:Nat):Int):=d2
 have e1:lm H i / 16 % 16=((H / 16 ^ (4*i+1) % 16:Nat):Int):=d1
 have e0:lm H i % 16=((H / 16 ^ (4*i) % 16:Nat):Int):=by simpa using d0
 rw[e3,e2,e1,e0,hexd_dig _ (Nat.mod_lt _ (by decide)),hexd_dig _ (Nat.mod_lt _ (by decide)),hexd_dig _ (Nat.mod_lt _ (by decide)),hexd_dig _ (Nat.mod_lt _ (by decide)),← strOfNums_app,← strOfNums_app,← strOfNums_app]
 rfl
theorem hexOf_tail (H:Nat):hexOf H=strOfNums (hexTail H 16):=by
 unfold hexOf
 simp only[hexUpTo]
 rw[hex4_dig,hex4_dig,hex4_dig,hex4_dig]
 have e:(⟨#[]⟩:ByteArray)=strOfNums []:=rfl
 rw[e,← strOfNums_app,← strOfNums_app,← strOfNums_app,← strOfNums_app]
 rfl
end Go.Proofs.YtdianedehhecoaaGreatDoor
/- The program's Hash: the sixteen digits of the FNV-1a hash of its text. -/
namespace Go.Proofs.YtdianedehhecoaaGreatDoor
open Go.RowKit
theorem step64 (H:Nat)(c:UInt8)(hH:H<18446744073709551616)(y:Int)(hy:y=(c.toNat:Int)):IntKind.u64.wrap (bits BinOp.xor IntKind.u64 (H:Int) y*1099511628211)=((fnvStep H c.toNat:Nat):Int):=by
 have hc:=c.toNat_lt
 subst hy
 rw[u64_xor_nat H c.toNat hH (by omega),u64w]
 unfold fnvStep
 simp only[Int.natCast_emod,Int.natCast_mul]
 rfl
theorem WHash_any (s:ByteArray)(w:World)(hs:s.size≤100000)(hd:w.cell? ⟨4,15,none⟩=some (.int .u8 4)) :
  Calls Pz.prog 42 #[.string s] w fun e w'=>e=.returned (.string (hash16 s))∧Below w.heap.size w w':=by
 go_enter Pz.func42,Tryz.ntmps42
 go_wp2
 go_loop [3,8] (fun h i=>∃ k:Nat,k≤s.size∧i=.int .i64 k∧h=.int .u64 ((fnv (s.data.toList.take k):Nat):Int)) (fun _ i=>s.size-(intOf i).toNat)
 case atStart=>exact ⟨0,Nat.zero_le _,rfl,congrArg (Value.int .u64) (show (14695981039346656037:Int)=((fnvFirst:Nat):Int) from rfl)⟩
 case round =>
  obtain ⟨k,hk,rfl,rfl⟩:=hrel
  by_cases hlt:k<s.size
  ·have HS:Hid (∀ y:Int,y=(s[k].toNat:Int)→IntKind.u64.wrap (bits BinOp.xor IntKind.u64 ((fnv (s.data.toList.take k):Nat):Int) y*1099511628211)=((fnv (s.data.toList.take (k+1)):Nat):Int)):=fun y hy=>by
    rw[take_snoc s k hlt,fnv_snoc]
    exact step64 _ _ (fnv_lt _) y hy
   generalize fnv (s.data.toList.take k)=H at *
   have hb:((s[k].toNat:Nat):Int)≤255:=by have:=s[k].toNat_lt;omega
   go_wp2
   go_round
   case rel =>
    exact ⟨k+1,by omega,by go_num,by rw[HS.out _ rfl]⟩
   case measure=>simp[intOf];omega
  ·have hT:s.data.toList.take k=s.data.toList:=List.take_of_length_le (by simp;omega)
   rw[hT]
   have HF:Hid (hash16 s=strOfNums (hexTail (fnv s.data.toList) 16)):=hexOf_tail _
   have hU:=fnv_lt s.data.toList
   have HU:Hid (fnv s.data.toList<18446744073709551616):=hU
   clear hT hU
   generalize fnv s.data.toList=U at *
   go_wp2_with fail
   refine (fmtU_any U _ HU.out hd).mono ?_
   rintro e w1 ⟨⟨n,n1,n2,n3,rfl⟩,hb1⟩
   have hsz:(strOfNums (hexTail U n)).size=n:=by rw[strOfNums_size,hexTail_len]
   have HZ:Hid ((strOfNums (hexTail U n)).size=n):=hsz
   have HN3:Hid (U<16 ^ n):=n3
   clear n3
   go_wp2_with fail
   have en:(16:Int)-(n:Int)=((16-n:Nat):Int):=by omega
   rw[en]
   clear en
   refine (rep_any (16-n) (by omega) _).mono ?_
   rintro e w2 ⟨rfl,hw⟩
   rw[hw];clear hw w2
   have hz2:(strOfNums (noughts (16-n))).size=16-n:=by rw[strOfNums_size];simp[noughts]
   have HE:Hid (strOfNums (noughts (16-n))++strOfNums (hexTail U n)=hash16 s):=by
    unfold Hid
    rw[HF.out,← strOfNums_app,← hexTail_zero U n HN3.out (16-n),show n+(16-n)=16 from by omega]
   go_wp2
   go_ret
   exact ⟨ret_str HE.out,hb1⟩
end Go.Proofs.YtdianedehhecoaaGreatDoor