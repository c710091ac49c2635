/- The program with functions barred: whoever calls one halts. The lone walks are made over it: so a lone run that ends well has called none of them. -/
import Derived.Test.YtdianedehhecoaaGreatDoorRows
import Derived.KernelRfl
namespace Go.Proofs.YtdianedehhecoaaGreatDoor
set_option linter.unusedVariables false
set_option maxRecDepth 100000
def barredF : Func := { (default : Func) with name := "barred", body := none }
def Lk.s0 : Oper := { dst := some 2, op := .move (.const (.tuple #[])), type := 0, pos := "mutex.go:62", after := #[], guard := none }
def Lk.s2 : Oper := { dst := some 7, op := .move (.const (.tuple #[])), type := 0, pos := "mutex.go:66", after := #[], guard := none }
def Lk.s3 : Oper := { dst := some 10, op := .move (.const (.tuple #[])), type := 0, pos := "mutex.go:66", after := #[{ on := 1, ground := .data }], guard := none }
def Uk.s1 : Oper := { dst := some 9, op := .move (.const (.tuple #[])), type := 0, pos := "mutex.go:194", after := #[{ on := 1, ground := .data }], guard := none }
def Uk.s2 : Oper := { dst := some 10, op := .move (.const (.tuple #[])), type := 0, pos := "mutex.go:195", after := #[], guard := none }
def Uk.s6 : Oper := { dst := some 20, op := .move (.const (.tuple #[])), type := 0, pos := "mutex.go:205", after := #[], guard := none }
def Lk.g0 : Oper := { dst := some 2, op := .call { callee := .value (.func 127), args := #[], argTypes := #[] }, type := 0, pos := "mutex.go:62", after := #[], guard := none }
def Lk.g2 : Oper := { dst := some 7, op := .call { callee := .value (.func 129), args := #[], argTypes := #[] }, type := 0, pos := "mutex.go:66", after := #[], guard := none }
def Lk.g3 : Oper := { dst := some 10, op := .call { callee := .value (.func 130), args := #[.tmp 9], argTypes := #[115] }, type := 0, pos := "mutex.go:66", after := #[{ on := 1, ground := .data }], guard := none }
def Uk.g1 : Oper := { dst := some 9, op := .call { callee := .value (.func 174), args := #[.tmp 8], argTypes := #[115] }, type := 0, pos := "mutex.go:194", after := #[{ on := 1, ground := .data }], guard := none }
def Uk.g2 : Oper := { dst := some 10, op := .call { callee := .value (.func 127), args := #[], argTypes := #[] }, type := 0, pos := "mutex.go:195", after := #[], guard := none }
def Uk.g6 : Oper := { dst := some 20, op := .call { callee := .value (.func 129), args := #[], argTypes := #[] }, type := 0, pos := "mutex.go:205", after := #[], guard := none }
def Lk.p0 : Oper := { dst := some 3, op := .move (.tmp 0), type := 296, pos := "mutex.go:64", after := #[], guard := none }
def Lk.p1 : Oper := { dst := some 4, op := .nilCheck (.tmp 3), type := 0, pos := "mutex.go:64", after := #[{ on := 0, ground := .data }], guard := none }
def Lk.p2 : Oper := { dst := some 5, op := .fieldAddr 130 (.tmp 4) 0, type := 0, pos := "mutex.go:64", after := #[{ on := 1, ground := .data }], guard := none }
def Lk.p3 : Oper := { dst := some 6, op := .call { callee := .value (.func 197), args := #[.tmp 5, .const (.int .i32 (0)), .const (.int .i32 (1))], argTypes := #[298, 21, 21] }, type := 4, pos := "mutex.go:64", after := #[{ on := 2, ground := .data }], guard := none }
def Lk.m3 : Oper := { dst := some 8, op := .move (.tmp 0), type := 296, pos := "mutex.go:66", after := #[], guard := none }
def Lk.v3 : Oper := { dst := some 9, op := .convert 296 115 (.tmp 8), type := 115, pos := "mutex.go:66", after := #[{ on := 0, ground := .data }], guard := none }
def Lk.q0 : Oper := { dst := some 11, op := .move (.tmp 0), type := 296, pos := "mutex.go:71", after := #[], guard := none }
def Lk.q1 : Oper := { dst := some 12, op := .call { callee := .value (.func 198), args := #[.tmp 11], argTypes := #[296] }, type := 0, pos := "mutex.go:71", after := #[{ on := 0, ground := .data }], guard := none }
def Uk.p0 : Oper := { dst := some 3, op := .move (.tmp 0), type := 296, pos := "mutex.go:193", after := #[], guard := none }
def Uk.p1 : Oper := { dst := some 4, op := .nilCheck (.tmp 3), type := 0, pos := "mutex.go:193", after := #[{ on := 0, ground := .data }], guard := none }
def Uk.p2 : Oper := { dst := some 5, op := .fieldAddr 130 (.tmp 4) 0, type := 0, pos := "mutex.go:193", after := #[{ on := 1, ground := .data }], guard := none }
def Uk.p3 : Oper := { dst := some 6, op := .load 21 (.tmp 5), type := 21, pos := "mutex.go:193", after := #[{ on := 2, ground := .data }], guard := none }
def Uk.m1 : Oper := { dst := some 7, op := .move (.tmp 0), type := 296, pos := "mutex.go:194", after := #[], guard := none }
def Uk.v1 : Oper := { dst := some 8, op := .convert 296 115 (.tmp 7), type := 115, pos := "mutex.go:194", after := #[{ on := 0, ground := .data }], guard := none }
def Uk.r0 : Oper := { dst := some 11, op := .move (.tmp 0), type := 296, pos := "mutex.go:199", after := #[], guard := none }
def Uk.r1 : Oper := { dst := some 12, op := .nilCheck (.tmp 11), type := 0, pos := "mutex.go:199", after := #[{ on := 0, ground := .data }], guard := none }
def Uk.r2 : Oper := { dst := some 13, op := .fieldAddr 130 (.tmp 12) 0, type := 0, pos := "mutex.go:199", after := #[{ on := 1, ground := .data }], guard := none }
def Uk.r3 : Oper := { dst := some 14, op := .call { callee := .value (.func 199), args := #[.tmp 13, .const (.int .i32 (-1))], argTypes := #[298, 21] }, type := 21, pos := "mutex.go:199", after := #[{ on := 2, ground := .data }], guard := none }
def Uk.r4 : Oper := { dst := some 2, op := .assign (.tmp 14), type := 21, pos := "mutex.go:199", after := #[{ on := 3, ground := .data }, { on := 3, ground := .chain }, { on := 0, ground := .phase }, { on := 1, ground := .phase }, { on := 2, ground := .phase }, { on := 3, ground := .phase }], guard := none }
def Uk.t0 : Oper := { dst := some 15, op := .move (.tmp 2), type := 21, pos := "mutex.go:200", after := #[], guard := none }
def Uk.t1 : Oper := { dst := some 16, op := .binOp .neq 21 (.tmp 15) (.const (.int .i32 0)) 21, type := 4, pos := "mutex.go:200", after := #[{ on := 0, ground := .data }], guard := none }
def Uk.q0 : Oper := { dst := some 17, op := .move (.tmp 0), type := 296, pos := "mutex.go:203", after := #[], guard := none }
def Uk.q1 : Oper := { dst := some 18, op := .move (.tmp 2), type := 21, pos := "mutex.go:203", after := #[], guard := none }
def Uk.q2 : Oper := { dst := some 19, op := .call { callee := .value (.func 200), args := #[.tmp 17, .tmp 18], argTypes := #[296, 21] }, type := 0, pos := "mutex.go:203", after := #[{ on := 0, ground := .data }, { on := 1, ground := .data }], guard := none }
def Lk.body (s0 s2 s3:Oper):Code:=.seq (.region 0 #[s0] false) (.seq (.seq (.region 1 #[Lk.p0,Lk.p1,Lk.p2,Lk.p3] false) (.cond (.tmp 6) (.seq (.cond (.const (.bool true)) (.seq (.region 2 #[s2] false) (.region 3 #[Lk.m3,Lk.v3,s3] false)) .skip) .ret) .skip)) (.region 4 #[Lk.q0,Lk.q1] false))
def Uk.body (s1 s2 s6:Oper):Code:=.seq (.cond (.const (.bool true)) (.seq (.region 0 #[Uk.p0,Uk.p1,Uk.p2,Uk.p3] false) (.seq (.region 1 #[Uk.m1,Uk.v1,s1] false) (.region 2 #[s2] false))) .skip) (.seq (.region 3 #[Uk.r0,Uk.r1,Uk.r2,Uk.r3,Uk.r4] false) (.seq (.seq (.region 4 #[Uk.t0,Uk.t1] false) (.cond (.tmp 16) (.region 5 #[Uk.q0,Uk.q1,Uk.q2] false) .skip)) (.region 6 #[s6] false)))
theorem Lk.great:Tryz.f154.body=some (Lk.body Lk.g0 Lk.g2 Lk.g3):=by kernel_rfl
theorem Uk.great:Tryz.f155.body=some (Uk.body Uk.g1 Uk.g2 Uk.g6):=by kernel_rfl
noncomputable def Pz.f154:Func:={ Tryz.f154 with body:=some (Lk.body Lk.s0 Lk.s2 Lk.s3) }
noncomputable def Pz.f155:Func:={ Tryz.f155 with body:=some (Uk.body Uk.s1 Uk.s2 Uk.s6) }
noncomputable def Pz.funcs:Array Func:=#[barredF,barredF,Tryz.f2,Tryz.f3,Tryz.f4,Tryz.f5,Tryz.f6,Tryz.f7,Tryz.f8,Tryz.f9,Tryz.f10,Tryz.f11,Tryz.f12,Tryz.f13,Tryz.f14,Tryz.f15,Tryz.f16,Tryz.f17,Tryz.f18,Tryz.f19,Tryz.f20,Tryz.f21,Tryz.f22,Tryz.f23,Tryz.f24,Tryz.f25,Tryz.f26,Tryz.f27,Tryz.f28,Tryz.f29,Tryz.f30,Tryz.f31,Tryz.f32,Tryz.f33,Tryz.f34,Tryz.f35,Tryz.f36,Tryz.f37,Tryz.f38,Tryz.f39,Tryz.f40,Tryz.f41,Tryz.f42,Tryz.f43,Tryz.f44,Tryz.f45,Tryz.f46,Tryz.f47,Tryz.f48,Tryz.f49,Tryz.f50,Tryz.f51,Tryz.f52,Tryz.f53,Tryz.f54,Tryz.f55,Tryz.f56,Tryz.f57,Tryz.f58,Tryz.f59,Tryz.f60,Tryz.f61,Tryz.f62,Tryz.f63,Tryz.f64,Tryz.f65,Tryz.f66,Tryz.f67,Tryz.f68,Tryz.f69,Tryz.f70,barredF,Tryz.f72,Tryz.f73,Tryz.f74,Tryz.f75,Tryz.f76,Tryz.f77,Tryz.f78,Tryz.f79,Tryz.f80,Tryz.f81,Tryz.f82,Tryz.f83,Tryz.f84,Tryz.f85,Tryz.f86,Tryz.f87,Tryz.f88,Tryz.f89,Tryz.f90,Tryz.f91,Tryz.f92,Tryz.f93,Tryz.f94,Tryz.f95,Tryz.f96,Tryz.f97,Tryz.f98,Tryz.f99,Tryz.f100,Tryz.f101,Tryz.f102,Tryz.f103,Tryz.f104,Tryz.f105,Tryz.f106,Tryz.f107,Tryz.f108,Tryz.f109,Tryz.f110,Tryz.f111,Tryz.f112,Tryz.f113,Tryz.f114,Tryz.f115,Tryz.f116,Tryz.f117,Tryz.f118,Tryz.f119,Tryz.f120,Tryz.f121,barredF,Tryz.f123,Tryz.f124,Tryz.f125,Tryz.f126,barredF,Tryz.f128,barredF,barredF,barredF,Tryz.f132,barredF,barredF,barredF,barredF,Tryz.f137,Tryz.f138,Tryz.f139,Tryz.f140,Tryz.f141,Tryz.f142,Tryz.f143,Tryz.f144,Tryz.f145,Tryz.f146,Tryz.f147,Tryz.f148,Tryz.f149,Tryz.f150,Tryz.f151,Tryz.f152,Tryz.f153,Pz.f154,Pz.f155,Tryz.f156,Tryz.f157,Tryz.f158,Tryz.f159,Tryz.f160,Tryz.f161,Tryz.f162,Tryz.f163,Tryz.f164,Tryz.f165,Tryz.f166,Tryz.f167,Tryz.f168,Tryz.f169,Tryz.f170,Tryz.f171,Tryz.f172,Tryz.f173,barredF,barredF,barredF,Tryz.f177,Tryz.f178,barredF,Tryz.f180,barredF,Tryz.f182,barredF,barredF,Tryz.f185,Tryz.f186,Tryz.f187,Tryz.f188,Tryz.f189,Tryz.f190,Tryz.f191,Tryz.f192,Tryz.f193,Tryz.f194,Tryz.f195,Tryz.f196,Tryz.f197,barredF,Tryz.f199,barredF,Tryz.f201,Tryz.f202,Tryz.f203,Tryz.f204,Tryz.f205,Tryz.f206,Tryz.f207,Tryz.f208,barredF,barredF,barredF,Tryz.f212,Tryz.f213,Tryz.f214,Tryz.f215,Tryz.f216,Tryz.f217,Tryz.f218,barredF,barredF,barredF,barredF,barredF,barredF,barredF,Tryz.f226,Tryz.f227,Tryz.f228,Tryz.f229,Tryz.f230,Tryz.f231,Tryz.f232,Tryz.f233,barredF,barredF,barredF,barredF,barredF,barredF,barredF,barredF,barredF,barredF,barredF,barredF,barredF,barredF,barredF,Tryz.f249,Tryz.f250,Tryz.f251,Tryz.f252,Tryz.f253,Tryz.f254,Tryz.f255,Tryz.f256,Tryz.f257,Tryz.f258,Tryz.f259,Tryz.f260,Tryz.f261,Tryz.f262,Tryz.f263,Tryz.f264,Tryz.f265,barredF,barredF,Tryz.f268,barredF,barredF,barredF,barredF,barredF,barredF,Tryz.f275]
noncomputable def Pz.prog:Program:=⟨Tryz.prog.toTables,Pz.funcs⟩
@[simp] theorem Pz.tables:Pz.prog.toTables=Tryz.prog.toTables:=rfl
@[simp] theorem Pz.gUnderlying (t:TypeId):Pz.prog.underlying t=Tryz.prog.underlying t:=rfl
@[simp] theorem Pz.gCells (t:TypeId):Pz.prog.cellsOf t=Tryz.prog.cellsOf t:=rfl
@[simp] theorem Pz.gBytes (t:TypeId):Pz.prog.bytesOf t=Tryz.prog.bytesOf t:=rfl
@[simp] theorem Pz.gDepth:Pz.prog.depth=Tryz.prog.depth:=rfl
section
variable (w:World)
@[simp] theorem Pz.g_sizeOf2:(Go.sizeOf 2).run Pz.prog w=(Go.sizeOf 2).run Tryz.prog w:=by kernel_rfl
@[simp] theorem Pz.g_sizeOf3:(Go.sizeOf 3).run Pz.prog w=(Go.sizeOf 3).run Tryz.prog w:=by kernel_rfl
@[simp] theorem Pz.g_isAgg3:(Go.isAgg 3).run Pz.prog w=(Go.isAgg 3).run Tryz.prog w:=by kernel_rfl
@[simp] theorem Pz.g_zeroValue3:(Go.zeroValue 3).run Pz.prog w=(Go.zeroValue 3).run Tryz.prog w:=by kernel_rfl
@[simp] theorem Pz.g_sizeOf4:(Go.sizeOf 4).run Pz.prog w=(Go.sizeOf 4).run Tryz.prog w:=by kernel_rfl
@[simp] theorem Pz.g_isAgg4:(Go.isAgg 4).run Pz.prog w=(Go.isAgg 4).run Tryz.prog w:=by kernel_rfl
@[simp] theorem Pz.g_sizeOf5:(Go.sizeOf 5).run Pz.prog w=(Go.sizeOf 5).run Tryz.prog w:=by kernel_rfl
@[simp] theorem Pz.g_isAgg5:(Go.isAgg 5).run Pz.prog w=(Go.isAgg 5).run Tryz.prog w:=by kernel_rfl
@[simp] theorem Pz.g_zeroValue5:(Go.zeroValue 5).run Pz.prog w=(Go.zeroValue 5).run Tryz.prog w:=by kernel_rfl
@[simp] theorem Pz.g_sizeOf9:(Go.sizeOf 9).run Pz.prog w=(Go.sizeOf 9).run Tryz.prog w:=by kernel_rfl
@[simp] theorem Pz.g_isAgg9:(Go.isAgg 9).run Pz.prog w=(Go.isAgg 9).run Tryz.prog w:=by kernel_rfl
@[simp] theorem Pz.g_zeroValue9:(Go.zeroValue 9).run Pz.prog w=(Go.zeroValue 9).run Tryz.prog w:=by kernel_rfl
@[simp] theorem Pz.g_sizeOf21:(Go.sizeOf 21).run Pz.prog w=(Go.sizeOf 21).run Tryz.prog w:=by kernel_rfl
@[simp] theorem Pz.g_underlying21:(Go.underlying 21).run Pz.prog w=(Go.underlying 21).run Tryz.prog w:=by kernel_rfl
@[simp] theorem Pz.g_isAgg21:(Go.isAgg 21).run Pz.prog w=(Go.isAgg 21).run Tryz.prog w:=by kernel_rfl
@[simp] theorem Pz.g_sizeOf25:(Go.sizeOf 25).run Pz.prog w=(Go.sizeOf 25).run Tryz.prog w:=by kernel_rfl
@[simp] theorem Pz.g_underlying25:(Go.underlying 25).run Pz.prog w=(Go.underlying 25).run Tryz.prog w:=by kernel_rfl
@[simp] theorem Pz.g_isAgg25:(Go.isAgg 25).run Pz.prog w=(Go.isAgg 25).run Tryz.prog w:=by kernel_rfl
@[simp] theorem Pz.g_sizeOf33:(Go.sizeOf 33).run Pz.prog w=(Go.sizeOf 33).run Tryz.prog w:=by kernel_rfl
@[simp] theorem Pz.g_isAgg33:(Go.isAgg 33).run Pz.prog w=(Go.isAgg 33).run Tryz.prog w:=by kernel_rfl
@[simp] theorem Pz.g_sizeOf34:(Go.sizeOf 34).run Pz.prog w=(Go.sizeOf 34).run Tryz.prog w:=by kernel_rfl
@[simp] theorem Pz.g_underlying34:(Go.underlying 34).run Pz.prog w=(Go.underlying 34).run Tryz.prog w:=by kernel_rfl
@[simp] theorem Pz.g_isAgg34:(Go.isAgg 34).run Pz.prog w=(Go.isAgg 34).run Tryz.prog w:=by kernel_rfl
@[simp] theorem Pz.g_sizeOf35:(Go.sizeOf 35).run Pz.prog w=(Go.sizeOf 35).run Tryz.prog w:=by kernel_rfl
@[simp] theorem Pz.g_underlying37:(Go.underlying 37).run Pz.prog w=(Go.underlying 37).run Tryz.prog w:=by kernel_rfl
@[simp] theorem Pz.g_zeroValue37:(Go.zeroValue 37).run Pz.prog w=(Go.zeroValue 37).run Tryz.prog w:=by kernel_rfl
@[simp] theorem Pz.g_sizeOf46:(Go.sizeOf 46).run Pz.prog w=(Go.sizeOf 46).run Tryz.prog w:=by kernel_rfl
@[simp] theorem Pz.g_underlying46:(Go.underlying 46).run Pz.prog w=(Go.underlying 46).run Tryz.prog w:=by kernel_rfl
@[simp] theorem Pz.g_isAgg46:(Go.isAgg 46).run Pz.prog w=(Go.isAgg 46).run Tryz.prog w:=by kernel_rfl
@[simp] theorem Pz.g_zeroValue46:(Go.zeroValue 46).run Pz.prog w=(Go.zeroValue 46).run Tryz.prog w:=by kernel_rfl
@[simp] theorem Pz.g_sizeOf55:(Go.sizeOf 55).run Pz.prog w=(Go.sizeOf 55).run Tryz.prog w:=by kernel_rfl
@[simp] theorem Pz.g_underlying55:(Go.underlying 55).run Pz.prog w=(Go.underlying 55).run Tryz.prog w:=by kernel_rfl
@[simp] theorem Pz.g_isAgg55:(Go.isAgg 55).run Pz.prog w=(Go.isAgg 55).run Tryz.prog w:=by kernel_rfl
@[simp] theorem Pz.g_underlying76:(Go.underlying 76).run Pz.prog w=(Go.underlying 76).run Tryz.prog w:=by kernel_rfl
@[simp] theorem Pz.g_sizeOf79:(Go.sizeOf 79).run Pz.prog w=(Go.sizeOf 79).run Tryz.prog w:=by kernel_rfl
@[simp] theorem Pz.g_isAgg79:(Go.isAgg 79).run Pz.prog w=(Go.isAgg 79).run Tryz.prog w:=by kernel_rfl
@[simp] theorem Pz.g_sizeOf81:(Go.sizeOf 81).run Pz.prog w=(Go.sizeOf 81).run Tryz.prog w:=by kernel_rfl
@[simp] theorem Pz.g_underlying81:(Go.underlying 81).run Pz.prog w=(Go.underlying 81).run Tryz.prog w:=by kernel_rfl
@[simp] theorem Pz.g_isAgg81:(Go.isAgg 81).run Pz.prog w=(Go.isAgg 81).run Tryz.prog w:=by kernel_rfl
@[simp] theorem Pz.g_zeroValue81:(Go.zeroValue 81).run Pz.prog w=(Go.zeroValue 81).run Tryz.prog w:=by kernel_rfl
@[simp] theorem Pz.g_typeInfo85:(Go.typeInfo 85).run Pz.prog w=(Go.typeInfo 85).run Tryz.prog w:=by kernel_rfl
@[simp] theorem Pz.g_sizeOf85:(Go.sizeOf 85).run Pz.prog w=(Go.sizeOf 85).run Tryz.prog w:=by kernel_rfl
@[simp] theorem Pz.g_isAgg85:(Go.isAgg 85).run Pz.prog w=(Go.isAgg 85).run Tryz.prog w:=by kernel_rfl
@[simp] theorem Pz.g_zeroValue85:(Go.zeroValue 85).run Pz.prog w=(Go.zeroValue 85).run Tryz.prog w:=by kernel_rfl
@[simp] theorem Pz.g_sizeOf105:(Go.sizeOf 105).run Pz.prog w=(Go.sizeOf 105).run Tryz.prog w:=by kernel_rfl
@[simp] theorem Pz.g_isAgg105:(Go.isAgg 105).run Pz.prog w=(Go.isAgg 105).run Tryz.prog w:=by kernel_rfl
@[simp] theorem Pz.g_sizeOf110:(Go.sizeOf 110).run Pz.prog w=(Go.sizeOf 110).run Tryz.prog w:=by kernel_rfl
@[simp] theorem Pz.g_underlying110:(Go.underlying 110).run Pz.prog w=(Go.underlying 110).run Tryz.prog w:=by kernel_rfl
@[simp] theorem Pz.g_sizeOf112:(Go.sizeOf 112).run Pz.prog w=(Go.sizeOf 112).run Tryz.prog w:=by kernel_rfl
@[simp] theorem Pz.g_underlying112:(Go.underlying 112).run Pz.prog w=(Go.underlying 112).run Tryz.prog w:=by kernel_rfl
@[simp] theorem Pz.g_sizeOf113:(Go.sizeOf 113).run Pz.prog w=(Go.sizeOf 113).run Tryz.prog w:=by kernel_rfl
@[simp] theorem Pz.g_isAgg113:(Go.isAgg 113).run Pz.prog w=(Go.isAgg 113).run Tryz.prog w:=by kernel_rfl
@[simp] theorem Pz.g_zeroValue113:(Go.zeroValue 113).run Pz.prog w=(Go.zeroValue 113).run Tryz.prog w:=by kernel_rfl
@[simp] theorem Pz.g_sizeOf115:(Go.sizeOf 115).run Pz.prog w=(Go.sizeOf 115).run Tryz.prog w:=by kernel_rfl
@[simp] theorem Pz.g_sizeOf117:(Go.sizeOf 117).run Pz.prog w=(Go.sizeOf 117).run Tryz.prog w:=by kernel_rfl
@[simp] theorem Pz.g_underlying117:(Go.underlying 117).run Pz.prog w=(Go.underlying 117).run Tryz.prog w:=by kernel_rfl
@[simp] theorem Pz.g_sizeOf118:(Go.sizeOf 118).run Pz.prog w=(Go.sizeOf 118).run Tryz.prog w:=by kernel_rfl
@[simp] theorem Pz.g_underlying120:(Go.underlying 120).run Pz.prog w=(Go.underlying 120).run Tryz.prog w:=by kernel_rfl
@[simp] theorem Pz.g_zeroValue120:(Go.zeroValue 120).run Pz.prog w=(Go.zeroValue 120).run Tryz.prog w:=by kernel_rfl
@[simp] theorem Pz.g_sizeOf125:(Go.sizeOf 125).run Pz.prog w=(Go.sizeOf 125).run Tryz.prog w:=by kernel_rfl
@[simp] theorem Pz.g_underlying125:(Go.underlying 125).run Pz.prog w=(Go.underlying 125).run Tryz.prog w:=by kernel_rfl
@[simp] theorem Pz.g_sizeOf130:(Go.sizeOf 130).run Pz.prog w=(Go.sizeOf 130).run Tryz.prog w:=by kernel_rfl
@[simp] theorem Pz.g_underlying130:(Go.underlying 130).run Pz.prog w=(Go.underlying 130).run Tryz.prog w:=by kernel_rfl
@[simp] theorem Pz.g_isAgg130:(Go.isAgg 130).run Pz.prog w=(Go.isAgg 130).run Tryz.prog w:=by kernel_rfl
@[simp] theorem Pz.g_sizeOf132:(Go.sizeOf 132).run Pz.prog w=(Go.sizeOf 132).run Tryz.prog w:=by kernel_rfl
@[simp] theorem Pz.g_underlying132:(Go.underlying 132).run Pz.prog w=(Go.underlying 132).run Tryz.prog w:=by kernel_rfl
@[simp] theorem Pz.g_isAgg132:(Go.isAgg 132).run Pz.prog w=(Go.isAgg 132).run Tryz.prog w:=by kernel_rfl
@[simp] theorem Pz.g_sizeOf133:(Go.sizeOf 133).run Pz.prog w=(Go.sizeOf 133).run Tryz.prog w:=by kernel_rfl
@[simp] theorem Pz.g_isAgg133:(Go.isAgg 133).run Pz.prog w=(Go.isAgg 133).run Tryz.prog w:=by kernel_rfl
@[simp] theorem Pz.g_sizeOf134:(Go.sizeOf 134).run Pz.prog w=(Go.sizeOf 134).run Tryz.prog w:=by kernel_rfl
@[simp] theorem Pz.g_underlying134:(Go.underlying 134).run Pz.prog w=(Go.underlying 134).run Tryz.prog w:=by kernel_rfl
@[simp] theorem Pz.g_isAgg134:(Go.isAgg 134).run Pz.prog w=(Go.isAgg 134).run Tryz.prog w:=by kernel_rfl
@[simp] theorem Pz.g_underlying136:(Go.underlying 136).run Pz.prog w=(Go.underlying 136).run Tryz.prog w:=by kernel_rfl
@[simp] theorem Pz.g_zeroValue136:(Go.zeroValue 136).run Pz.prog w=(Go.zeroValue 136).run Tryz.prog w:=by kernel_rfl
@[simp] theorem Pz.g_underlying139:(Go.underlying 139).run Pz.prog w=(Go.underlying 139).run Tryz.prog w:=by kernel_rfl
@[simp] theorem Pz.g_zeroValue146:(Go.zeroValue 146).run Pz.prog w=(Go.zeroValue 146).run Tryz.prog w:=by kernel_rfl
@[simp] theorem Pz.g_sizeOf149:(Go.sizeOf 149).run Pz.prog w=(Go.sizeOf 149).run Tryz.prog w:=by kernel_rfl
@[simp] theorem Pz.g_isAgg149:(Go.isAgg 149).run Pz.prog w=(Go.isAgg 149).run Tryz.prog w:=by kernel_rfl
@[simp] theorem Pz.g_zeroValue149:(Go.zeroValue 149).run Pz.prog w=(Go.zeroValue 149).run Tryz.prog w:=by kernel_rfl
@[simp] theorem Pz.g_sizeOf150:(Go.sizeOf 150).run Pz.prog w=(Go.sizeOf 150).run Tryz.prog w:=by kernel_rfl
@[simp] theorem Pz.g_sizeOf151:(Go.sizeOf 151).run Pz.prog w=(Go.sizeOf 151).run Tryz.prog w:=by kernel_rfl
@[simp] theorem Pz.g_underlying151:(Go.underlying 151).run Pz.prog w=(Go.underlying 151).run Tryz.prog w:=by kernel_rfl
@[simp] theorem Pz.g_isAgg151:(Go.isAgg 151).run Pz.prog w=(Go.isAgg 151).run Tryz.prog w:=by kernel_rfl
@[simp] theorem Pz.g_underlying153:(Go.underlying 153).run Pz.prog w=(Go.underlying 153).run Tryz.prog w:=by kernel_rfl
@[simp] theorem Pz.g_zeroValue153:(Go.zeroValue 153).run Pz.prog w=(Go.zeroValue 153).run Tryz.prog w:=by kernel_rfl
@[simp] theorem Pz.g_sizeOf157:(Go.sizeOf 157).run Pz.prog w=(Go.sizeOf 157).run Tryz.prog w:=by kernel_rfl
@[simp] theorem Pz.g_underlying157:(Go.underlying 157).run Pz.prog w=(Go.underlying 157).run Tryz.prog w:=by kernel_rfl
@[simp] theorem Pz.g_isAgg157:(Go.isAgg 157).run Pz.prog w=(Go.isAgg 157).run Tryz.prog w:=by kernel_rfl
@[simp] theorem Pz.g_zeroValue157:(Go.zeroValue 157).run Pz.prog w=(Go.zeroValue 157).run Tryz.prog w:=by kernel_rfl
@[simp] theorem Pz.g_sizeOf159:(Go.sizeOf 159).run Pz.prog w=(Go.sizeOf 159).run Tryz.prog w:=by kernel_rfl
@[simp] theorem Pz.g_underlying159:(Go.underlying 159).run Pz.prog w=(Go.underlying 159).run Tryz.prog w:=by kernel_rfl
@[simp] theorem Pz.g_sizeOf162:(Go.sizeOf 162).run Pz.prog w=(Go.sizeOf 162).run Tryz.prog w:=by kernel_rfl
@[simp] theorem Pz.g_isAgg162:(Go.isAgg 162).run Pz.prog w=(Go.isAgg 162).run Tryz.prog w:=by kernel_rfl
@[simp] theorem Pz.g_zeroValue162:(Go.zeroValue 162).run Pz.prog w=(Go.zeroValue 162).run Tryz.prog w:=by kernel_rfl
@[simp] theorem Pz.g_sizeOf165:(Go.sizeOf 165).run Pz.prog w=(Go.sizeOf 165).run Tryz.prog w:=by kernel_rfl
@[simp] theorem Pz.g_isAgg165:(Go.isAgg 165).run Pz.prog w=(Go.isAgg 165).run Tryz.prog w:=by kernel_rfl
@[simp] theorem Pz.g_zeroValue165:(Go.zeroValue 165).run Pz.prog w=(Go.zeroValue 165).run Tryz.prog w:=by kernel_rfl
@[simp] theorem Pz.g_sizeOf167:(Go.sizeOf 167).run Pz.prog w=(Go.sizeOf 167).run Tryz.prog w:=by kernel_rfl
@[simp] theorem Pz.g_underlying167:(Go.underlying 167).run Pz.prog w=(Go.underlying 167).run Tryz.prog w:=by kernel_rfl
@[simp] theorem Pz.g_isAgg167:(Go.isAgg 167).run Pz.prog w=(Go.isAgg 167).run Tryz.prog w:=by kernel_rfl
@[simp] theorem Pz.g_zeroValue167:(Go.zeroValue 167).run Pz.prog w=(Go.zeroValue 167).run Tryz.prog w:=by kernel_rfl
@[simp] theorem Pz.g_typeInfo171:(Go.typeInfo 171).run Pz.prog w=(Go.typeInfo 171).run Tryz.prog w:=by kernel_rfl
@[simp] theorem Pz.g_sizeOf171:(Go.sizeOf 171).run Pz.prog w=(Go.sizeOf 171).run Tryz.prog w:=by kernel_rfl
@[simp] theorem Pz.g_underlying171:(Go.underlying 171).run Pz.prog w=(Go.underlying 171).run Tryz.prog w:=by kernel_rfl
@[simp] theorem Pz.g_isAgg171:(Go.isAgg 171).run Pz.prog w=(Go.isAgg 171).run Tryz.prog w:=by kernel_rfl
@[simp] theorem Pz.g_zeroValue171:(Go.zeroValue 171).run Pz.prog w=(Go.zeroValue 171).run Tryz.prog w:=by kernel_rfl
@[simp] theorem Pz.g_sizeOf174:(Go.sizeOf 174).run Pz.prog w=(Go.sizeOf 174).run Tryz.prog w:=by kernel_rfl
@[simp] theorem Pz.g_isAgg174:(Go.isAgg 174).run Pz.prog w=(Go.isAgg 174).run Tryz.prog w:=by kernel_rfl
@[simp] theorem Pz.g_underlying176:(Go.underlying 176).run Pz.prog w=(Go.underlying 176).run Tryz.prog w:=by kernel_rfl
@[simp] theorem Pz.g_zeroValue176:(Go.zeroValue 176).run Pz.prog w=(Go.zeroValue 176).run Tryz.prog w:=by kernel_rfl
@[simp] theorem Pz.g_sizeOf182:(Go.sizeOf 182).run Pz.prog w=(Go.sizeOf 182).run Tryz.prog w:=by kernel_rfl
@[simp] theorem Pz.g_isAgg182:(Go.isAgg 182).run Pz.prog w=(Go.isAgg 182).run Tryz.prog w:=by kernel_rfl
@[simp] theorem Pz.g_underlying184:(Go.underlying 184).run Pz.prog w=(Go.underlying 184).run Tryz.prog w:=by kernel_rfl
@[simp] theorem Pz.g_zeroValue184:(Go.zeroValue 184).run Pz.prog w=(Go.zeroValue 184).run Tryz.prog w:=by kernel_rfl
@[simp] theorem Pz.g_underlying187:(Go.underlying 187).run Pz.prog w=(Go.underlying 187).run Tryz.prog w:=by kernel_rfl
@[simp] theorem Pz.g_zeroValue187:(Go.zeroValue 187).run Pz.prog w=(Go.zeroValue 187).run Tryz.prog w:=by kernel_rfl
@[simp] theorem Pz.g_underlying238:(Go.underlying 238).run Pz.prog w=(Go.underlying 238).run Tryz.prog w:=by kernel_rfl
@[simp] theorem Pz.g_zeroValue238:(Go.zeroValue 238).run Pz.prog w=(Go.zeroValue 238).run Tryz.prog w:=by kernel_rfl
@[simp] theorem Pz.g_underlying240:(Go.underlying 240).run Pz.prog w=(Go.underlying 240).run Tryz.prog w:=by kernel_rfl
@[simp] theorem Pz.g_zeroValue240:(Go.zeroValue 240).run Pz.prog w=(Go.zeroValue 240).run Tryz.prog w:=by kernel_rfl
@[simp] theorem Pz.g_underlying258:(Go.underlying 258).run Pz.prog w=(Go.underlying 258).run Tryz.prog w:=by kernel_rfl
@[simp] theorem Pz.g_underlying296:(Go.underlying 296).run Pz.prog w=(Go.underlying 296).run Tryz.prog w:=by kernel_rfl
@[simp] theorem Pz.g_zeroValue319:(Go.zeroValue 319).run Pz.prog w=(Go.zeroValue 319).run Tryz.prog w:=by kernel_rfl
@[simp] theorem Pz.g_underlying347:(Go.underlying 347).run Pz.prog w=(Go.underlying 347).run Tryz.prog w:=by kernel_rfl
@[simp] theorem Pz.g_zeroValue347:(Go.zeroValue 347).run Pz.prog w=(Go.zeroValue 347).run Tryz.prog w:=by kernel_rfl
end
theorem Pz.gAlike (d:Nat):Pz.prog.alikeButTags d=Tryz.prog.alikeButTags d:=by
 induction d with
 | zero=>rfl
 | succ d ih=>funext t u;unfold Program.alikeButTags;simp only[ih];rfl
theorem Pz.gStoodAs:Pz.prog.stoodInAs=Tryz.prog.stoodInAs:=by
 funext t;unfold Program.stoodInAs;simp only[Pz.gAlike];rfl
@[simp] theorem Pz.gStood (t:TypeId):Pz.prog.stoodInHeld t=Tryz.prog.stoodInHeld t:=by
 unfold Program.stoodInHeld;simp only[Pz.gStoodAs];rfl
theorem Pz.gEqGuard0 (d:Nat):Pz.prog.eqGuardType d=Tryz.prog.eqGuardType d:=by
 induction d with
 | zero=>rfl
 | succ d ih=>funext t;unfold Program.eqGuardType;simp only[ih];rfl
@[simp] theorem Pz.gEqGuard (d:Nat)(t:TypeId):Pz.prog.eqGuardType d t=Tryz.prog.eqGuardType d t:=by rw [Pz.gEqGuard0]
@[simp] theorem Pz.func12:Pz.prog.funcs[12]? = some Tryz.f12:=by kernel_rfl
@[simp] theorem Pz.call12 (args:Array Value)(w:World):(callFunc 12 args).run Pz.prog w=.ok (.enter 12 args) w:=by kernel_rfl
@[simp] theorem Pz.func17:Pz.prog.funcs[17]? = some Tryz.f17:=by kernel_rfl
@[simp] theorem Pz.call17 (args:Array Value)(w:World):(callFunc 17 args).run Pz.prog w=.ok (.enter 17 args) w:=by kernel_rfl
@[simp] theorem Pz.func18:Pz.prog.funcs[18]? = some Tryz.f18:=by kernel_rfl
@[simp] theorem Pz.call18 (args:Array Value)(w:World):(callFunc 18 args).run Pz.prog w=.ok (.enter 18 args) w:=by kernel_rfl
@[simp] theorem Pz.func19:Pz.prog.funcs[19]? = some Tryz.f19:=by kernel_rfl
@[simp] theorem Pz.call19 (args:Array Value)(w:World):(callFunc 19 args).run Pz.prog w=.ok (.enter 19 args) w:=by kernel_rfl
@[simp] theorem Pz.func20:Pz.prog.funcs[20]? = some Tryz.f20:=by kernel_rfl
@[simp] theorem Pz.call20 (args:Array Value)(w:World):(callFunc 20 args).run Pz.prog w=.ok (.enter 20 args) w:=by kernel_rfl
@[simp] theorem Pz.func21:Pz.prog.funcs[21]? = some Tryz.f21:=by kernel_rfl
@[simp] theorem Pz.call21 (args:Array Value)(w:World):(callFunc 21 args).run Pz.prog w=.ok (.enter 21 args) w:=by kernel_rfl
@[simp] theorem Pz.func22:Pz.prog.funcs[22]? = some Tryz.f22:=by kernel_rfl
@[simp] theorem Pz.func24:Pz.prog.funcs[24]? = some Tryz.f24:=by kernel_rfl
@[simp] theorem Pz.call24 (args:Array Value)(w:World):(callFunc 24 args).run Pz.prog w=.ok (.enter 24 args) w:=by kernel_rfl
@[simp] theorem Pz.func25:Pz.prog.funcs[25]? = some Tryz.f25:=by kernel_rfl
@[simp] theorem Pz.call25 (args:Array Value)(w:World):(callFunc 25 args).run Pz.prog w=.ok (.enter 25 args) w:=by kernel_rfl
@[simp] theorem Pz.func27:Pz.prog.funcs[27]? = some Tryz.f27:=by kernel_rfl
@[simp] theorem Pz.call27 (args:Array Value)(w:World):(callFunc 27 args).run Pz.prog w=.ok (.enter 27 args) w:=by kernel_rfl
@[simp] theorem Pz.func31:Pz.prog.funcs[31]? = some Tryz.f31:=by kernel_rfl
@[simp] theorem Pz.call31 (args:Array Value)(w:World):(callFunc 31 args).run Pz.prog w=.ok (.enter 31 args) w:=by kernel_rfl
@[simp] theorem Pz.func32:Pz.prog.funcs[32]? = some Tryz.f32:=by kernel_rfl
@[simp] theorem Pz.call32 (args:Array Value)(w:World):(callFunc 32 args).run Pz.prog w=.ok (.enter 32 args) w:=by kernel_rfl
@[simp] theorem Pz.func33:Pz.prog.funcs[33]? = some Tryz.f33:=by kernel_rfl
@[simp] theorem Pz.call33 (args:Array Value)(w:World):(callFunc 33 args).run Pz.prog w=.ok (.enter 33 args) w:=by kernel_rfl
@[simp] theorem Pz.func35:Pz.prog.funcs[35]? = some Tryz.f35:=by kernel_rfl
@[simp] theorem Pz.call35 (args:Array Value)(w:World):(callFunc 35 args).run Pz.prog w=.ok (.enter 35 args) w:=by kernel_rfl
@[simp] theorem Pz.func36:Pz.prog.funcs[36]? = some Tryz.f36:=by kernel_rfl
@[simp] theorem Pz.call36 (args:Array Value)(w:World):(callFunc 36 args).run Pz.prog w=.ok (.enter 36 args) w:=by kernel_rfl
@[simp] theorem Pz.func37:Pz.prog.funcs[37]? = some Tryz.f37:=by kernel_rfl
@[simp] theorem Pz.call37 (args:Array Value)(w:World):(callFunc 37 args).run Pz.prog w=.ok (.enter 37 args) w:=by kernel_rfl
@[simp] theorem Pz.func38:Pz.prog.funcs[38]? = some Tryz.f38:=by kernel_rfl
@[simp] theorem Pz.call38 (args:Array Value)(w:World):(callFunc 38 args).run Pz.prog w=.ok (.enter 38 args) w:=by kernel_rfl
@[simp] theorem Pz.func39:Pz.prog.funcs[39]? = some Tryz.f39:=by kernel_rfl
@[simp] theorem Pz.call39 (args:Array Value)(w:World):(callFunc 39 args).run Pz.prog w=.ok (.enter 39 args) w:=by kernel_rfl
@[simp] theorem Pz.func40:Pz.prog.funcs[40]? = some Tryz.f40:=by kernel_rfl
@[simp] theorem Pz.call40 (args:Array Value)(w:World):(callFunc 40 args).run Pz.prog w=.ok (.enter 40 args) w:=by kernel_rfl
@[simp] theorem Pz.func41:Pz.prog.funcs[41]? = some Tryz.f41:=by kernel_rfl
@[simp] theorem Pz.call41 (args:Array Value)(w:World):(callFunc 41 args).run Pz.prog w=.ok (.enter 41 args) w:=by kernel_rfl
@[simp] theorem Pz.func42:Pz.prog.funcs[42]? = some Tryz.f42:=by kernel_rfl
@[simp] theorem Pz.call42 (args:Array Value)(w:World):(callFunc 42 args).run Pz.prog w=.ok (.enter 42 args) w:=by kernel_rfl
@[simp] theorem Pz.func43:Pz.prog.funcs[43]? = some Tryz.f43:=by kernel_rfl
@[simp] theorem Pz.call43 (args:Array Value)(w:World):(callFunc 43 args).run Pz.prog w=.ok (.enter 43 args) w:=by kernel_rfl
@[simp] theorem Pz.func44:Pz.prog.funcs[44]? = some Tryz.f44:=by kernel_rfl
@[simp] theorem Pz.call44 (args:Array Value)(w:World):(callFunc 44 args).run Pz.prog w=.ok (.enter 44 args) w:=by kernel_rfl
@[simp] theorem Pz.func45:Pz.prog.funcs[45]? = some Tryz.f45:=by kernel_rfl
@[simp] theorem Pz.call45 (args:Array Value)(w:World):(callFunc 45 args).run Pz.prog w=.ok (.enter 45 args) w:=by kernel_rfl
@[simp] theorem Pz.func46:Pz.prog.funcs[46]? = some Tryz.f46:=by kernel_rfl
@[simp] theorem Pz.call46 (args:Array Value)(w:World):(callFunc 46 args).run Pz.prog w=.ok (.enter 46 args) w:=by kernel_rfl
@[simp] theorem Pz.func47:Pz.prog.funcs[47]? = some Tryz.f47:=by kernel_rfl
@[simp] theorem Pz.call47 (args:Array Value)(w:World):(callFunc 47 args).run Pz.prog w=.ok (.enter 47 args) w:=by kernel_rfl
@[simp] theorem Pz.func48:Pz.prog.funcs[48]? = some Tryz.f48:=by kernel_rfl
@[simp] theorem Pz.call48 (args:Array Value)(w:World):(callFunc 48 args).run Pz.prog w=.ok (.enter 48 args) w:=by kernel_rfl
@[simp] theorem Pz.func58:Pz.prog.funcs[58]? = some Tryz.f58:=by kernel_rfl
@[simp] theorem Pz.call58 (args:Array Value)(w:World):(callFunc 58 args).run Pz.prog w=.ok (.enter 58 args) w:=by kernel_rfl
@[simp] theorem Pz.func64:Pz.prog.funcs[64]? = some Tryz.f64:=by kernel_rfl
@[simp] theorem Pz.call64 (args:Array Value)(w:World):(callFunc 64 args).run Pz.prog w=.ok (.enter 64 args) w:=by kernel_rfl
@[simp] theorem Pz.func66:Pz.prog.funcs[66]? = some Tryz.f66:=by kernel_rfl
@[simp] theorem Pz.call66 (args:Array Value)(w:World):(callFunc 66 args).run Pz.prog w=.ok (.enter 66 args) w:=by kernel_rfl
@[simp] theorem Pz.func67:Pz.prog.funcs[67]? = some Tryz.f67:=by kernel_rfl
@[simp] theorem Pz.call67 (args:Array Value)(w:World):(callFunc 67 args).run Pz.prog w=.ok (.enter 67 args) w:=by kernel_rfl
@[simp] theorem Pz.func68:Pz.prog.funcs[68]? = some Tryz.f68:=by kernel_rfl
@[simp] theorem Pz.call68 (args:Array Value)(w:World):(callFunc 68 args).run Pz.prog w=.ok (.enter 68 args) w:=by kernel_rfl
@[simp] theorem Pz.func69:Pz.prog.funcs[69]? = some Tryz.f69:=by kernel_rfl
@[simp] theorem Pz.call69 (args:Array Value)(w:World):(callFunc 69 args).run Pz.prog w=.ok (.enter 69 args) w:=by kernel_rfl
@[simp] theorem Pz.func70:Pz.prog.funcs[70]? = some Tryz.f70:=by kernel_rfl
@[simp] theorem Pz.call70 (args:Array Value)(w:World):(callFunc 70 args).run Pz.prog w=.ok (.enter 70 args) w:=by kernel_rfl
@[simp] theorem Pz.func72:Pz.prog.funcs[72]? = some Tryz.f72:=by kernel_rfl
@[simp] theorem Pz.func74:Pz.prog.funcs[74]? = some Tryz.f74:=by kernel_rfl
theorem Pz.ntmps74:Tryz.f74.ntmps=21:=Tryz.ntmps74
@[simp] theorem Pz.call74 (args:Array Value)(w:World):(callFunc 74 args).run Pz.prog w=.ok (.enter 74 args) w:=by kernel_rfl
@[simp] theorem Pz.func75:Pz.prog.funcs[75]? = some Tryz.f75:=by kernel_rfl
@[simp] theorem Pz.call75 (args:Array Value)(w:World):(callFunc 75 args).run Pz.prog w=.ok (.enter 75 args) w:=by kernel_rfl
@[simp] theorem Pz.func76:Pz.prog.funcs[76]? = some Tryz.f76:=by kernel_rfl
@[simp] theorem Pz.call76 (args:Array Value)(w:World):(callFunc 76 args).run Pz.prog w=.ok (.enter 76 args) w:=by kernel_rfl
@[simp] theorem Pz.func77:Pz.prog.funcs[77]? = some Tryz.f77:=by kernel_rfl
@[simp] theorem Pz.call77 (args:Array Value)(w:World):(callFunc 77 args).run Pz.prog w=.ok (.enter 77 args) w:=by kernel_rfl
@[simp] theorem Pz.func78:Pz.prog.funcs[78]? = some Tryz.f78:=by kernel_rfl
@[simp] theorem Pz.call78 (args:Array Value)(w:World):(callFunc 78 args).run Pz.prog w=.ok (.enter 78 args) w:=by kernel_rfl
@[simp] theorem Pz.func79:Pz.prog.funcs[79]? = some Tryz.f79:=by kernel_rfl
@[simp] theorem Pz.call79 (args:Array Value)(w:World):(callFunc 79 args).run Pz.prog w=.ok (.enter 79 args) w:=by kernel_rfl
@[simp] theorem Pz.func80:Pz.prog.funcs[80]? = some Tryz.f80:=by kernel_rfl
@[simp] theorem Pz.call80 (args:Array Value)(w:World):(callFunc 80 args).run Pz.prog w=.ok (.enter 80 args) w:=by kernel_rfl
@[simp] theorem Pz.func81:Pz.prog.funcs[81]? = some Tryz.f81:=by kernel_rfl
@[simp] theorem Pz.call81 (args:Array Value)(w:World):(callFunc 81 args).run Pz.prog w=.ok (.enter 81 args) w:=by kernel_rfl
@[simp] theorem Pz.func82:Pz.prog.funcs[82]? = some Tryz.f82:=by kernel_rfl
@[simp] theorem Pz.call82 (args:Array Value)(w:World):(callFunc 82 args).run Pz.prog w=.ok (.enter 82 args) w:=by kernel_rfl
@[simp] theorem Pz.func83:Pz.prog.funcs[83]? = some Tryz.f83:=by kernel_rfl
@[simp] theorem Pz.call83 (args:Array Value)(w:World):(callFunc 83 args).run Pz.prog w=.ok (.enter 83 args) w:=by kernel_rfl
@[simp] theorem Pz.func84:Pz.prog.funcs[84]? = some Tryz.f84:=by kernel_rfl
@[simp] theorem Pz.call84 (args:Array Value)(w:World):(callFunc 84 args).run Pz.prog w=.ok (.enter 84 args) w:=by kernel_rfl
@[simp] theorem Pz.func85:Pz.prog.funcs[85]? = some Tryz.f85:=by kernel_rfl
@[simp] theorem Pz.call85 (args:Array Value)(w:World):(callFunc 85 args).run Pz.prog w=.ok (.enter 85 args) w:=by kernel_rfl
@[simp] theorem Pz.func86:Pz.prog.funcs[86]? = some Tryz.f86:=by kernel_rfl
@[simp] theorem Pz.call86 (args:Array Value)(w:World):(callFunc 86 args).run Pz.prog w=.ok (.enter 86 args) w:=by kernel_rfl
@[simp] theorem Pz.func87:Pz.prog.funcs[87]? = some Tryz.f87:=by kernel_rfl
@[simp] theorem Pz.call87 (args:Array Value)(w:World):(callFunc 87 args).run Pz.prog w=.ok (.enter 87 args) w:=by kernel_rfl
@[simp] theorem Pz.func88:Pz.prog.funcs[88]? = some Tryz.f88:=by kernel_rfl
@[simp] theorem Pz.call88 (args:Array Value)(w:World):(callFunc 88 args).run Pz.prog w=.ok (.enter 88 args) w:=by kernel_rfl
@[simp] theorem Pz.func89:Pz.prog.funcs[89]? = some Tryz.f89:=by kernel_rfl
theorem Pz.ntmps89:Tryz.f89.ntmps=6:=Tryz.ntmps89
@[simp] theorem Pz.call89 (args:Array Value)(w:World):(callFunc 89 args).run Pz.prog w=.ok (.enter 89 args) w:=by kernel_rfl
@[simp] theorem Pz.func90:Pz.prog.funcs[90]? = some Tryz.f90:=by kernel_rfl
theorem Pz.ntmps90:Tryz.f90.ntmps=6:=Tryz.ntmps90
@[simp] theorem Pz.call90 (args:Array Value)(w:World):(callFunc 90 args).run Pz.prog w=.ok (.enter 90 args) w:=by kernel_rfl
@[simp] theorem Pz.func91:Pz.prog.funcs[91]? = some Tryz.f91:=by kernel_rfl
@[simp] theorem Pz.call91 (args:Array Value)(w:World):(callFunc 91 args).run Pz.prog w=.ok (.enter 91 args) w:=by kernel_rfl
@[simp] theorem Pz.func92:Pz.prog.funcs[92]? = some Tryz.f92:=by kernel_rfl
@[simp] theorem Pz.call92 (args:Array Value)(w:World):(callFunc 92 args).run Pz.prog w=.ok (.enter 92 args) w:=by kernel_rfl
@[simp] theorem Pz.func93:Pz.prog.funcs[93]? = some Tryz.f93:=by kernel_rfl
@[simp] theorem Pz.call93 (args:Array Value)(w:World):(callFunc 93 args).run Pz.prog w=.ok (.enter 93 args) w:=by kernel_rfl
@[simp] theorem Pz.func94:Pz.prog.funcs[94]? = some Tryz.f94:=by kernel_rfl
@[simp] theorem Pz.call94 (args:Array Value)(w:World):(callFunc 94 args).run Pz.prog w=.ok (.enter 94 args) w:=by kernel_rfl
@[simp] theorem Pz.func95:Pz.prog.funcs[95]? = some Tryz.f95:=by kernel_rfl
@[simp] theorem Pz.call95 (args:Array Value)(w:World):(callFunc 95 args).run Pz.prog w=.ok (.enter 95 args) w:=by kernel_rfl
@[simp] theorem Pz.func96:Pz.prog.funcs[96]? = some Tryz.f96:=by kernel_rfl
@[simp] theorem Pz.call96 (args:Array Value)(w:World):(callFunc 96 args).run Pz.prog w=.ok (.enter 96 args) w:=by kernel_rfl
@[simp] theorem Pz.func104:Pz.prog.funcs[104]? = some Tryz.f104:=by kernel_rfl
@[simp] theorem Pz.call104 (args:Array Value)(w:World):(callFunc 104 args).run Pz.prog w=.ok (.enter 104 args) w:=by kernel_rfl
@[simp] theorem Pz.func109:Pz.prog.funcs[109]? = some Tryz.f109:=by kernel_rfl
@[simp] theorem Pz.call109 (args:Array Value)(w:World):(callFunc 109 args).run Pz.prog w=.ok (.enter 109 args) w:=by kernel_rfl
@[simp] theorem Pz.func110:Pz.prog.funcs[110]? = some Tryz.f110:=by kernel_rfl
@[simp] theorem Pz.call110 (args:Array Value)(w:World):(callFunc 110 args).run Pz.prog w=.ok (.enter 110 args) w:=by kernel_rfl
@[simp] theorem Pz.func112:Pz.prog.funcs[112]? = some Tryz.f112:=by kernel_rfl
@[simp] theorem Pz.call112 (args:Array Value)(w:World):(callFunc 112 args).run Pz.prog w=.ok (.enter 112 args) w:=by kernel_rfl
@[simp] theorem Pz.func113:Pz.prog.funcs[113]? = some Tryz.f113:=by kernel_rfl
@[simp] theorem Pz.call113 (args:Array Value)(w:World):(callFunc 113 args).run Pz.prog w=.ok (.enter 113 args) w:=by kernel_rfl
@[simp] theorem Pz.func114:Pz.prog.funcs[114]? = some Tryz.f114:=by kernel_rfl
@[simp] theorem Pz.func115:Pz.prog.funcs[115]? = some Tryz.f115:=by kernel_rfl
@[simp] theorem Pz.call115 (args:Array Value)(w:World):(callFunc 115 args).run Pz.prog w=.ok (.enter 115 args) w:=by kernel_rfl
@[simp] theorem Pz.func116:Pz.prog.funcs[116]? = some Tryz.f116:=by kernel_rfl
@[simp] theorem Pz.call116 (args:Array Value)(w:World):(callFunc 116 args).run Pz.prog w=.ok (.enter 116 args) w:=by kernel_rfl
@[simp] theorem Pz.func117:Pz.prog.funcs[117]? = some Tryz.f117:=by kernel_rfl
@[simp] theorem Pz.call117 (args:Array Value)(w:World):(callFunc 117 args).run Pz.prog w=.ok (.enter 117 args) w:=by kernel_rfl
@[simp] theorem Pz.func119:Pz.prog.funcs[119]? = some Tryz.f119:=by kernel_rfl
@[simp] theorem Pz.call119 (args:Array Value)(w:World):(callFunc 119 args).run Pz.prog w=.ok (.enter 119 args) w:=by kernel_rfl
@[simp] theorem Pz.func124:Pz.prog.funcs[124]? = some Tryz.f124:=by kernel_rfl
@[simp] theorem Pz.call124 (args:Array Value)(w:World):(callFunc 124 args).run Pz.prog w=.ok (.enter 124 args) w:=by kernel_rfl
@[simp] theorem Pz.func125:Pz.prog.funcs[125]? = some Tryz.f125:=by kernel_rfl
@[simp] theorem Pz.call125 (args:Array Value)(w:World):(callFunc 125 args).run Pz.prog w=.ok (.enter 125 args) w:=by kernel_rfl
@[simp] theorem Pz.func126:Pz.prog.funcs[126]? = some Tryz.f126:=by kernel_rfl
@[simp] theorem Pz.call126 (args:Array Value)(w:World):(callFunc 126 args).run Pz.prog w=.ok (.enter 126 args) w:=by kernel_rfl
@[simp] theorem Pz.func137:Pz.prog.funcs[137]? = some Tryz.f137:=by kernel_rfl
@[simp] theorem Pz.call137 (args:Array Value)(w:World):(callFunc 137 args).run Pz.prog w=.ok (.enter 137 args) w:=by kernel_rfl
@[simp] theorem Pz.func138:Pz.prog.funcs[138]? = some Tryz.f138:=by kernel_rfl
@[simp] theorem Pz.call138 (args:Array Value)(w:World):(callFunc 138 args).run Pz.prog w=.ok (.enter 138 args) w:=by kernel_rfl
@[simp] theorem Pz.func139:Pz.prog.funcs[139]? = some Tryz.f139:=by kernel_rfl
@[simp] theorem Pz.call139 (args:Array Value)(w:World):(callFunc 139 args).run Pz.prog w=.ok (.enter 139 args) w:=by kernel_rfl
@[simp] theorem Pz.func140:Pz.prog.funcs[140]? = some Tryz.f140:=by kernel_rfl
@[simp] theorem Pz.call140 (args:Array Value)(w:World):(callFunc 140 args).run Pz.prog w=.ok (.enter 140 args) w:=by kernel_rfl
@[simp] theorem Pz.func141:Pz.prog.funcs[141]? = some Tryz.f141:=by kernel_rfl
@[simp] theorem Pz.call141 (args:Array Value)(w:World):(callFunc 141 args).run Pz.prog w=.ok (.enter 141 args) w:=by kernel_rfl
@[simp] theorem Pz.func142:Pz.prog.funcs[142]? = some Tryz.f142:=by kernel_rfl
@[simp] theorem Pz.call142 (args:Array Value)(w:World):(callFunc 142 args).run Pz.prog w=.ok (.enter 142 args) w:=by kernel_rfl
@[simp] theorem Pz.func143:Pz.prog.funcs[143]? = some Tryz.f143:=by kernel_rfl
@[simp] theorem Pz.call143 (args:Array Value)(w:World):(callFunc 143 args).run Pz.prog w=.ok (.enter 143 args) w:=by kernel_rfl
@[simp] theorem Pz.func144:Pz.prog.funcs[144]? = some Tryz.f144:=by kernel_rfl
@[simp] theorem Pz.call144 (args:Array Value)(w:World):(callFunc 144 args).run Pz.prog w=.ok (.enter 144 args) w:=by kernel_rfl
@[simp] theorem Pz.func145:Pz.prog.funcs[145]? = some Tryz.f145:=by kernel_rfl
@[simp] theorem Pz.call145 (args:Array Value)(w:World):(callFunc 145 args).run Pz.prog w=.ok (.enter 145 args) w:=by kernel_rfl
@[simp] theorem Pz.func146:Pz.prog.funcs[146]? = some Tryz.f146:=by kernel_rfl
@[simp] theorem Pz.call146 (args:Array Value)(w:World):(callFunc 146 args).run Pz.prog w=.ok (.enter 146 args) w:=by kernel_rfl
@[simp] theorem Pz.func147:Pz.prog.funcs[147]? = some Tryz.f147:=by kernel_rfl
@[simp] theorem Pz.call147 (args:Array Value)(w:World):(callFunc 147 args).run Pz.prog w=.ok (.enter 147 args) w:=by kernel_rfl
@[simp] theorem Pz.func148:Pz.prog.funcs[148]? = some Tryz.f148:=by kernel_rfl
@[simp] theorem Pz.call148 (args:Array Value)(w:World):(callFunc 148 args).run Pz.prog w=.ok (.enter 148 args) w:=by kernel_rfl
@[simp] theorem Pz.func153:Pz.prog.funcs[153]? = some Tryz.f153:=by kernel_rfl
@[simp] theorem Pz.func154:Pz.prog.funcs[154]? = some Pz.f154:=by kernel_rfl
theorem Pz.ntmps154:Pz.f154.ntmps=13:=Tryz.ntmps154
@[simp] theorem Pz.call154 (args:Array Value)(w:World):(callFunc 154 args).run Pz.prog w=.ok (.enter 154 args) w:=by kernel_rfl
@[simp] theorem Pz.func155:Pz.prog.funcs[155]? = some Pz.f155:=by kernel_rfl
theorem Pz.ntmps155:Pz.f155.ntmps=21:=Tryz.ntmps155
@[simp] theorem Pz.call155 (args:Array Value)(w:World):(callFunc 155 args).run Pz.prog w=.ok (.enter 155 args) w:=by kernel_rfl
@[simp] theorem Pz.func156:Pz.prog.funcs[156]? = some Tryz.f156:=by kernel_rfl
@[simp] theorem Pz.call156 (args:Array Value)(w:World):(callFunc 156 args).run Pz.prog w=.ok (.enter 156 args) w:=by kernel_rfl
@[simp] theorem Pz.func159:Pz.prog.funcs[159]? = some Tryz.f159:=by kernel_rfl
@[simp] theorem Pz.call159 (args:Array Value)(w:World):(callFunc 159 args).run Pz.prog w=.ok (.enter 159 args) w:=by kernel_rfl
@[simp] theorem Pz.func166:Pz.prog.funcs[166]? = some Tryz.f166:=by kernel_rfl
@[simp] theorem Pz.call166 (args:Array Value)(w:World):(callFunc 166 args).run Pz.prog w=.ok (.enter 166 args) w:=by kernel_rfl
@[simp] theorem Pz.call167 (args:Array Value)(w:World):(callFunc 167 args).run Pz.prog w=.ok (.enter 167 args) w:=by kernel_rfl
@[simp] theorem Pz.call168 (args:Array Value)(w:World):(callFunc 168 args).run Pz.prog w=.ok (.enter 168 args) w:=by kernel_rfl
@[simp] theorem Pz.func169:Pz.prog.funcs[169]? = some Tryz.f169:=by kernel_rfl
@[simp] theorem Pz.func170:Pz.prog.funcs[170]? = some Tryz.f170:=by kernel_rfl
@[simp] theorem Pz.func171:Pz.prog.funcs[171]? = some Tryz.f171:=by kernel_rfl
@[simp] theorem Pz.call171 (args:Array Value)(w:World):(callFunc 171 args).run Pz.prog w=.ok (.enter 171 args) w:=by kernel_rfl
@[simp] theorem Pz.func172:Pz.prog.funcs[172]? = some Tryz.f172:=by kernel_rfl
@[simp] theorem Pz.call172 (args:Array Value)(w:World):(callFunc 172 args).run Pz.prog w=.ok (.enter 172 args) w:=by kernel_rfl
@[simp] theorem Pz.func173:Pz.prog.funcs[173]? = some Tryz.f173:=by kernel_rfl
@[simp] theorem Pz.call173 (args:Array Value)(w:World):(callFunc 173 args).run Pz.prog w=.ok (.enter 173 args) w:=by kernel_rfl
@[simp] theorem Pz.func182:Pz.prog.funcs[182]? = some Tryz.f182:=by kernel_rfl
@[simp] theorem Pz.call182 (args:Array Value)(w:World):(callFunc 182 args).run Pz.prog w=.ok (.enter 182 args) w:=by kernel_rfl
@[simp] theorem Pz.func185:Pz.prog.funcs[185]? = some Tryz.f185:=by kernel_rfl
@[simp] theorem Pz.call185 (args:Array Value)(w:World):(callFunc 185 args).run Pz.prog w=.ok (.enter 185 args) w:=by kernel_rfl
@[simp] theorem Pz.func186:Pz.prog.funcs[186]? = some Tryz.f186:=by kernel_rfl
@[simp] theorem Pz.call186 (args:Array Value)(w:World):(callFunc 186 args).run Pz.prog w=.ok (.enter 186 args) w:=by kernel_rfl
@[simp] theorem Pz.func187:Pz.prog.funcs[187]? = some Tryz.f187:=by kernel_rfl
@[simp] theorem Pz.call187 (args:Array Value)(w:World):(callFunc 187 args).run Pz.prog w=.ok (.enter 187 args) w:=by kernel_rfl
@[simp] theorem Pz.func191:Pz.prog.funcs[191]? = some Tryz.f191:=by kernel_rfl
@[simp] theorem Pz.call191 (args:Array Value)(w:World):(callFunc 191 args).run Pz.prog w=.ok (.enter 191 args) w:=by kernel_rfl
@[simp] theorem Pz.func193:Pz.prog.funcs[193]? = some Tryz.f193:=by kernel_rfl
@[simp] theorem Pz.call193 (args:Array Value)(w:World):(callFunc 193 args).run Pz.prog w=.ok (.enter 193 args) w:=by kernel_rfl
@[simp] theorem Pz.func194:Pz.prog.funcs[194]? = some Tryz.f194:=by kernel_rfl
@[simp] theorem Pz.call194 (args:Array Value)(w:World):(callFunc 194 args).run Pz.prog w=.ok (.enter 194 args) w:=by kernel_rfl
@[simp] theorem Pz.func197:Pz.prog.funcs[197]? = some Tryz.f197:=by kernel_rfl
@[simp] theorem Pz.func199:Pz.prog.funcs[199]? = some Tryz.f199:=by kernel_rfl
@[simp] theorem Pz.func201:Pz.prog.funcs[201]? = some Tryz.f201:=by kernel_rfl
@[simp] theorem Pz.call201 (args:Array Value)(w:World):(callFunc 201 args).run Pz.prog w=.ok (.enter 201 args) w:=by kernel_rfl
@[simp] theorem Pz.func215:Pz.prog.funcs[215]? = some Tryz.f215:=by kernel_rfl
@[simp] theorem Pz.call215 (args:Array Value)(w:World):(callFunc 215 args).run Pz.prog w=.ok (.enter 215 args) w:=by kernel_rfl
@[simp] theorem Pz.func216:Pz.prog.funcs[216]? = some Tryz.f216:=by kernel_rfl
@[simp] theorem Pz.call216 (args:Array Value)(w:World):(callFunc 216 args).run Pz.prog w=.ok (.enter 216 args) w:=by kernel_rfl
@[simp] theorem Pz.func229:Pz.prog.funcs[229]? = some Tryz.f229:=by kernel_rfl
theorem Pz.ntmps229:Tryz.f229.ntmps=14:=Tryz.ntmps229
@[simp] theorem Pz.call229 (args:Array Value)(w:World):(callFunc 229 args).run Pz.prog w=.ok (.enter 229 args) w:=by kernel_rfl
@[simp] theorem Pz.func249:Pz.prog.funcs[249]? = some Tryz.f249:=by kernel_rfl
@[simp] theorem Pz.call249 (args:Array Value)(w:World):(callFunc 249 args).run Pz.prog w=.ok (.enter 249 args) w:=by kernel_rfl
@[simp] theorem Pz.func250:Pz.prog.funcs[250]? = some Tryz.f250:=by kernel_rfl
theorem Pz.ntmps250:Tryz.f250.ntmps=4:=Tryz.ntmps250
@[simp] theorem Pz.call250 (args:Array Value)(w:World):(callFunc 250 args).run Pz.prog w=.ok (.enter 250 args) w:=by kernel_rfl
@[simp] theorem Pz.func251:Pz.prog.funcs[251]? = some Tryz.f251:=by kernel_rfl
@[simp] theorem Pz.call251 (args:Array Value)(w:World):(callFunc 251 args).run Pz.prog w=.ok (.enter 251 args) w:=by kernel_rfl
@[simp] theorem Pz.func252:Pz.prog.funcs[252]? = some Tryz.f252:=by kernel_rfl
@[simp] theorem Pz.call252 (args:Array Value)(w:World):(callFunc 252 args).run Pz.prog w=.ok (.enter 252 args) w:=by kernel_rfl
@[simp] theorem Pz.func253:Pz.prog.funcs[253]? = some Tryz.f253:=by kernel_rfl
@[simp] theorem Pz.call253 (args:Array Value)(w:World):(callFunc 253 args).run Pz.prog w=.ok (.enter 253 args) w:=by kernel_rfl
@[simp] theorem Pz.func254:Pz.prog.funcs[254]? = some Tryz.f254:=by kernel_rfl
@[simp] theorem Pz.call254 (args:Array Value)(w:World):(callFunc 254 args).run Pz.prog w=.ok (.enter 254 args) w:=by kernel_rfl
@[simp] theorem Pz.func255:Pz.prog.funcs[255]? = some Tryz.f255:=by kernel_rfl
@[simp] theorem Pz.call255 (args:Array Value)(w:World):(callFunc 255 args).run Pz.prog w=.ok (.enter 255 args) w:=by kernel_rfl
@[simp] theorem Pz.func256:Pz.prog.funcs[256]? = some Tryz.f256:=by kernel_rfl
@[simp] theorem Pz.call256 (args:Array Value)(w:World):(callFunc 256 args).run Pz.prog w=.ok (.enter 256 args) w:=by kernel_rfl
@[simp] theorem Pz.func257:Pz.prog.funcs[257]? = some Tryz.f257:=by kernel_rfl
@[simp] theorem Pz.call257 (args:Array Value)(w:World):(callFunc 257 args).run Pz.prog w=.ok (.enter 257 args) w:=by kernel_rfl
@[simp] theorem Pz.func258:Pz.prog.funcs[258]? = some Tryz.f258:=by kernel_rfl
@[simp] theorem Pz.call258 (args:Array Value)(w:World):(callFunc 258 args).run Pz.prog w=.ok (.enter 258 args) w:=by kernel_rfl
@[simp] theorem Pz.func259:Pz.prog.funcs[259]? = some Tryz.f259:=by kernel_rfl
@[simp] theorem Pz.call259 (args:Array Value)(w:World):(callFunc 259 args).run Pz.prog w=.ok (.enter 259 args) w:=by kernel_rfl
@[simp] theorem Pz.func260:Pz.prog.funcs[260]? = some Tryz.f260:=by kernel_rfl
@[simp] theorem Pz.call260 (args:Array Value)(w:World):(callFunc 260 args).run Pz.prog w=.ok (.enter 260 args) w:=by kernel_rfl
@[simp] theorem Pz.func261:Pz.prog.funcs[261]? = some Tryz.f261:=by kernel_rfl
@[simp] theorem Pz.call261 (args:Array Value)(w:World):(callFunc 261 args).run Pz.prog w=.ok (.enter 261 args) w:=by kernel_rfl
@[simp] theorem Pz.func262:Pz.prog.funcs[262]? = some Tryz.f262:=by kernel_rfl
@[simp] theorem Pz.call262 (args:Array Value)(w:World):(callFunc 262 args).run Pz.prog w=.ok (.enter 262 args) w:=by kernel_rfl
@[simp] theorem Pz.func263:Pz.prog.funcs[263]? = some Tryz.f263:=by kernel_rfl
@[simp] theorem Pz.call263 (args:Array Value)(w:World):(callFunc 263 args).run Pz.prog w=.ok (.enter 263 args) w:=by kernel_rfl
@[simp] theorem Pz.func264:Pz.prog.funcs[264]? = some Tryz.f264:=by kernel_rfl
@[simp] theorem Pz.call264 (args:Array Value)(w:World):(callFunc 264 args).run Pz.prog w=.ok (.enter 264 args) w:=by kernel_rfl
@[simp] theorem Pz.func265:Pz.prog.funcs[265]? = some Tryz.f265:=by kernel_rfl
@[simp] theorem Pz.call265 (args:Array Value)(w:World):(callFunc 265 args).run Pz.prog w=.ok (.enter 265 args) w:=by kernel_rfl
@[simp] theorem Pz.func268:Pz.prog.funcs[268]? = some Tryz.f268:=by kernel_rfl
@[simp] theorem Pz.call268 (args:Array Value)(w:World):(callFunc 268 args).run Pz.prog w=.ok (.enter 268 args) w:=by kernel_rfl
end Go.Proofs.YtdianedehhecoaaGreatDoor