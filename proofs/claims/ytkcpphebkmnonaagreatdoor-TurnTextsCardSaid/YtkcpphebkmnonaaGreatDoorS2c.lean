/- Part of a proof, said shortly. -/
import Derived.Shelf.Small.Bits
import Derived.Shelf.Small.Wraps
import Derived.Shelf.Strconv.Itoa0
import Derived.Shelf.Strconv.Itoa1
import Derived.Shelf.LaysM
import Derived.Shelf.Strconv.Itoa2
import Derived.Shelf.Strings.Search1
import Derived.Shelf.Strings.Search2
import Derived.Shelf.Strings.Search3
import Derived.Shelf.Strings.Cut
import Derived.Shelf.Strings.Shaped
import Derived.Shelf.Strconv.AppendUint10
import Derived.Shelf.Strings.Prefix
import Derived.Test.YtkcpphebkmnonaaGreatDoorProg
import Derived.Deep.RegionHeld3
import Derived.Deep.DrawnRows
import Derived.Deep.RegionWith
import Derived.Deep.DeepCutAuto
import Derived.WalkKit
import Derived.Below
import Derived.Laws.Cells
import Derived.OrdersHeld
import Derived.LoopN
import Derived.Test.YtkcpphebkmnonaaGreatDoorAlzc
import Derived.Test.YtkcpphebkmnonaaGreatDoorC2c
import Derived.Test.YtkcpphebkmnonaaGreatDoorC3c
import Derived.Test.YtkcpphebkmnonaaGreatDoorC1c
import Derived.Test.YtkcpphebkmnonaaGreatDoorC5c
import Derived.Test.YtkcpphebkmnonaaGreatDoorC4c
import Derived.Test.YtkcpphebkmnonaaGreatDoorC9c
import Derived.Test.YtkcpphebkmnonaaGreatDoorC8c
import Derived.Test.YtkcpphebkmnonaaGreatDoorC7c
import Derived.Test.YtkcpphebkmnonaaGreatDoorC6c
import Derived.Test.YtkcpphebkmnonaaGreatDoorC10c
import Derived.Test.YtkcpphebkmnonaaGreatDoorC11c
import Derived.Test.YtkcpphebkmnonaaGreatDoorC12c
import Derived.Test.YtkcpphebkmnonaaGreatDoorC17c
import Derived.Test.YtkcpphebkmnonaaGreatDoorC16c
import Derived.Test.YtkcpphebkmnonaaGreatDoorC15c
import Derived.Test.YtkcpphebkmnonaaGreatDoorC13c
import Derived.Test.YtkcpphebkmnonaaGreatDoorC14c
import Derived.Test.YtkcpphebkmnonaaGreatDoorC18c
import Derived.Test.YtkcpphebkmnonaaGreatDoorC19c
set_option maxRecDepth 100000
set_option maxHeartbeats 8000000
set_option linter.unusedVariables false
set_option linter.unusedSimpArgs false
namespace Go.Proofs
open Go.Shelf BGQ
def Tryz.lays125_ren:Go.Shelf.Ren:=⟨fun | 125=>186 | 128=>200 | 129=>201 | n=>n,fun | 46=>146 | 3=>3 | 51=>113 | 53=>134 | 4=>4 | 5=>5 | 9=>9 | n=>n,fun | n=>n⟩
theorem Tryz.lays125:Go.Proofs.Lays.n125 Tryz.prog Tryz.lays125_ren := {
 mixed:=ah
 f125:=Tryz.func186.trans (congrArg some ah)
 f128:=Tryz.func200.trans (congrArg some ah)
 f129:=Tryz.func201.trans (congrArg some ah)
 t3:=anl
 a3:=anx
 z3:=anz
 v3:=anA
 t4:=anb
 a4:=amX
 z4:=amY
 v4:=anB
 t5:=anC
 a5:=anJ
 z5:=anK
 v5:=anL
 t9:=anE
 a9:=anM
 z9:=anN
 v9:=anO
 t46:=anP
 a46:=anQ
 z46:=anR
 v46:=anT
 t51:=anU
 a51:=aod
 z51:=aoe
 v51:=aof
 t53:=aon
 a53:=Tryz.isAgg134
 z53:=Tryz.sizeOf134
 v53:=Tryz.zeroValue134 }
theorem Tryz.bits_Len(x:Int)(w:World)(h0:0<=x)(h1:x<=18446744073709551615) :
  Calls Tryz.prog 186 #[.int .u64 x] w fun e w'=>e = .returned (.int .i64 (Lib.bitLen x.toNat))/\w'=w:=Any.bits_Len Tryz.lays125 x w h0 h1
def Tryz.lays103_ren:Go.Shelf.Ren:=⟨fun | 103=>159 | 210=>185 | 206=>199 | n=>n,fun | 9=>9 | 4=>4 | 24=>149 | 3=>3 | n=>n,fun | n=>n⟩
theorem Tryz.lays103:Go.Proofs.Lays.n103 Tryz.prog Tryz.lays103_ren := {
 mixed:=ah
 f103:=Tryz.func159.trans (congrArg some ah)
 f206:=Tryz.func199.trans (congrArg some ah)
 f210:=Tryz.func185.trans (congrArg some ah)
 t3:=anl
 a3:=anx
 z3:=anz
 v3:=anA
 t4:=anb
 a4:=amX
 z4:=amY
 v4:=anB
 t9:=anE
 a9:=anM
 z9:=anN
 v9:=anO
 t24:=Tryz.underlying149
 a24:=Tryz.isAgg149
 z24:=Tryz.sizeOf149
 v24:=Tryz.zeroValue149 }
open Go.RowKit in
theorem Tryz.strings_CutPrefix(s p:ByteArray)(w:World) :
  Calls Tryz.prog 159 #[.string s,.string p] w fun e w'=>e = .returned (.tuple #[.string ⟨(Lib.trimPrefix s.data.toList p.data.toList).toArray⟩,.bool (Lib.hasPrefix s.data.toList p.data.toList)])/\w'=w:=Any.strings_CutPrefix Tryz.lays103 s p w
def Tryz.lays144_ren:Go.Shelf.Ren:=⟨fun | 144=>116 | 143=>158 | 219=>184 | 217=>195 | 225=>196 | 224=>197 | 267=>198 | 266=>209 | 314=>210 | n=>n,fun | 9=>9 | 4=>4 | 3=>3 | 5=>5 | 46=>146 | 146=>184 | 51=>113 | n=>n,fun | 1=>1 | n=>n⟩
theorem Tryz.lays144:Go.Proofs.Lays.n144 Tryz.prog Tryz.lays144_ren := {
 mixed:=ah
 f143:=Tryz.func158.trans (congrArg some ah)
 f144:=Tryz.func116.trans (congrArg some ah)
 f217:=Tryz.func195.trans (congrArg some ah)
 f219:=Tryz.func184.trans (congrArg some ah)
 f224:=Tryz.func197.trans (congrArg some ah)
 f225:=Tryz.func196.trans (congrArg some ah)
 f266:=Tryz.func209.trans (congrArg some ah)
 f267:=Tryz.func198.trans (congrArg some ah)
 f314:=Tryz.func210.trans (congrArg some ah)
 t3:=anl
 a3:=anx
 z3:=anz
 v3:=anA
 t4:=anb
 a4:=amX
 z4:=amY
 v4:=anB
 t5:=anC
 a5:=anJ
 z5:=anK
 v5:=anL
 t9:=anE
 a9:=anM
 z9:=anN
 v9:=anO
 t46:=anP
 a46:=anQ
 z46:=anR
 v46:=anT
 t51:=anU
 a51:=aod
 z51:=aoe
 v51:=aof
 t146:=Tryz.underlying184
 a146:=Tryz.isAgg184
 z146:=Tryz.sizeOf184
 v146:=Tryz.zeroValue184
 g1:=by kernel_rfl }
open Go.RowKit Go.Lib in
theorem Tryz.strings_Contains_one(s:ByteArray)(c:UInt8)(w:World) :
  Calls Tryz.prog 116 #[.string s,.string ⟨#[c]⟩] w fun e w'=>e = .returned (.bool (decide (0<=Lib.indexByte s.data.toList c)))/\w'=w:=Any.strings_Contains_one Tryz.lays144 s c w
def Tryz.lays145_ren:Go.Shelf.Ren:=⟨fun | 145=>118 | 220=>163 | 219=>184 | 217=>195 | 225=>196 | 224=>197 | 267=>198 | 266=>209 | 314=>210 | n=>n,fun | 9=>9 | 4=>4 | 59=>121 | 3=>3 | 5=>5 | 46=>146 | 146=>184 | 51=>113 | n=>n,fun | 1=>1 | n=>n⟩
theorem Tryz.lays145:Go.Proofs.Lays.n145 Tryz.prog Tryz.lays145_ren := {
 mixed:=ah
 f145:=Tryz.func118.trans (congrArg some ah)
 f217:=Tryz.func195.trans (congrArg some ah)
 f219:=Tryz.func184.trans (congrArg some ah)
 f220:=Tryz.func163.trans (congrArg some ah)
 f224:=Tryz.func197.trans (congrArg some ah)
 f225:=Tryz.func196.trans (congrArg some ah)
 f266:=Tryz.func209.trans (congrArg some ah)
 f267:=Tryz.func198.trans (congrArg some ah)
 f314:=Tryz.func210.trans (congrArg some ah)
 t3:=anl
 a3:=anx
 z3:=anz
 v3:=anA
 t4:=anb
 a4:=amX
 z4:=amY
 v4:=anB
 t5:=anC
 a5:=anJ
 z5:=anK
 v5:=anL
 t9:=anE
 a9:=anM
 z9:=anN
 v9:=anO
 t46:=anP
 a46:=anQ
 z46:=anR
 v46:=anT
 t51:=anU
 a51:=aod
 z51:=aoe
 v51:=aof
 t59:=Tryz.underlying121
 a59:=Tryz.isAgg121
 z59:=Tryz.sizeOf121
 v59:=Tryz.zeroValue121
 t146:=Tryz.underlying184
 a146:=Tryz.isAgg184
 z146:=Tryz.sizeOf184
 v146:=Tryz.zeroValue184
 g1:=by kernel_rfl }
open Go.RowKit Go.Lib in
theorem Tryz.strings_Cut(s sep:ByteArray)(m:Int)(w:World)(hs:s.size<4294967281)(hm:w.cell? ⟨1,0,none⟩=some (.int .i64 m)) :
  Calls Tryz.prog 118 #[.string s,.string sep] w fun e w'=>e = .returned (.tuple #[.string ⟨(Lib.cut s.data.toList sep.data.toList).1.toArray⟩,.string ⟨(Lib.cut s.data.toList sep.data.toList).2.1.toArray⟩,.bool (Lib.cut s.data.toList sep.data.toList).2.2]) /\ ∃ n,w'=w.drewN n:=Any.strings_Cut Tryz.lays145 s sep m w hs hm
end Go.Proofs
namespace Lw
theorem Xr{a b:Int}(ha:sg a=false)(hb:sg b=false):gZ a.natAbs b.natAbs=eY a b:=by
 unfold sg at *;simp at ha hb;unfold gZ eY;split <;> split <;> (try split) <;> (try split) <;> omega
theorem Xn{a b:Int}(ha:sg a=true)(hb:sg b=true):gZ b.natAbs a.natAbs=eY a b:=by
 unfold sg at *;simp at ha hb;unfold gZ eY;split <;> split <;> (try split) <;> (try split) <;> omega
theorem Xq{a b:Int}(ha:sg a=false)(hb:sg b=true):1=eY a b:=by
 unfold sg at *;simp at ha hb;unfold eY;rw [if_neg af,if_neg af]
theorem Xo{a b:Int}(ha:sg a=true)(hb:sg b=false) : -1=eY a b:=by
 unfold sg at *;simp at ha hb;unfold eY;rw [if_pos af]
end Lw
namespace Go.Proofs.BGQ
open Go Go.RowKit Lw
attribute [local go_sem ↓] Go.wp_at_zero Go.wp_at_succ
set_option maxHeartbeats 3200000 in
theorem Xz(s s':Bool)(A A':Option Addr)(ns ms:List Nat)(n m c c' B B':Nat)(w:World)(h:Rd w B A ns)(h':Rd w B' A' ms)(hB:B<=w.heap.size)(hB':B'<=w.heap.size)(hn:ns.length=n)(hm:ms.length=m)(hl:n<=8388608)(hl':m<=8388608)(hc:n<=c)(hc':m<=c') :
  Calls Tryz.prog 67 #[.agg #[.bool s,.slice A n c],.agg #[.bool s',.slice A' m c']] w fun e w'=>e = .returned (.int .i64 (eY (zv s ns) (zv s' ms)))/\Below w.heap.size w w':=by
 have hlz:=ji (s:=s) h.bQ;have hlz':=ji (s:=s') h'.bQ;rw [hn] at hlz;rw [hm] at hlz'
 go_enter Tryz.func67,Tryz.ntmps67
 go_upto_region 1 with fail
 obtain ⟨T1,T2,_,hb0⟩:=bV (Below.refl _ ((w.alloc (.cells #[.bool s,.slice A n c] 79)).alloc (.cells #[.bool s',.slice A' m c'] 79)));have R1:=h.below (hb0.mono hB);have R2:=h'.below (hb0.mono hB');generalize hW:((w.alloc (.cells #[.bool s,.slice A n c] 79)).alloc (.cells #[.bool s',.slice A' m c'] 79))=W at *;clear hW;have l3:=T2.lt;obtain ⟨c10,c11,f10,f11⟩:=T1.facts;obtain ⟨c20,c21,f20,f21⟩:=T2.facts
 go_cut [] (fun wc => ∃ A1 c1 A2 c2,Two wc w.heap.size 79 (.bool (sg (zv s ns))) (.slice A1 (mg (zv s ns)).length c1)/\Two wc (w.heap.size+1) 79 (.bool (sg (zv s' ms))) (.slice A2 (mg (zv s' ms)).length c2) /\
  Rd wc B A1 (mg (zv s ns))/\Rd wc B' A2 (mg (zv s' ms))/\Below w.heap.size w wc/\(mg (zv s ns)).length<=c1/\(mg (zv s' ms)).length<=c2)
 case first =>
  go_region_with (first
   | (go_at_call_of 111 (Value.agg #[Value.bool s,Value.slice A n c]);refine (pg s A ns n c B _ (by first | exact R1.drew | exact R1.next K2 af) (by first | (simp;omega) | (have:=K2.size;omega)) hn af hc).mono ?_;rintro e w1 ⟨A1,c1,rfl,hc1,hr1,hb1⟩;have K1:Below W.heap.size W w1:=(by first | exact tV hb1 | exact tX K2 hb1);obtain ⟨d10,d11,g10,g11⟩:=(T1.next K1).facts;obtain ⟨d20,d21,g20,g21⟩:=(T2.next K1).facts)
   | (go_at_call_of 111 (Value.agg #[Value.bool s',Value.slice A' m c']);refine (pg s' A' ms m c' B' _ (by first | exact R2.drew | exact R2.next K1 af) (by first | (simp;omega) | (have:=K1.size;omega)) hm af hc').mono ?_;rintro e w2 ⟨A2,c2,rfl,hc2,hr2,hb2⟩;have K2:Below W.heap.size W w2:=(by first | exact tV hb2 | exact tX K1 hb2);obtain ⟨i10,i11,j10,j11⟩:=(T1.next K2).facts;obtain ⟨i20,i21,j20,j21⟩:=(T2.next K2).facts))
  all_goals
   obtain ⟨P1,P2,P3,P4,P5⟩:_/\_/\_/\_/\_:=by
    first
     | exact pK (sg (zv s ns)) (sg (zv s' ms)) (.slice A1 (mg (zv s ns)).length c1) (.slice A2 (mg (zv s' ms)).length c2) (T1.next K2) (T2.next K2) af (hr1.next hb2 (by have:=K1.size;omega)) hr2 (bK hb0 K2 af) (aoG _) af
     | exact pK (sg (zv s ns)) (sg (zv s' ms)) (.slice A1 (mg (zv s ns)).length c1) (.slice A2 (mg (zv s' ms)).length c2) (T1.next K1) (T2.next K1) af hr1 (hr2.next hb1 (by have:=K2.size;omega)) (bK hb0 K1 af) (aoG _) af
   clear d10 d11 g10 g11 d20 d21 g20 g21 i10 i11 i20 i21 j10 j11 j20 j21 c10 c11 c20 c21 f10 f11 f20 f21
   go_wp2_with fail
   go_meet
   exact ⟨A1,c1,A2,c2,P1,P2,P3,P4,P5,hc1,hc2⟩
 case rest =>
  obtain ⟨A1,c1,A2,c2,Q1,Q2,r1,r2,hbc,hc1,hc2⟩:=hcut;clear T1 T2 R1 R2 hb0 l3 c10 c11 c20 c21 f10 f11 f20 f21;obtain ⟨c10,c11,f10,f11⟩:=Q1.facts;obtain ⟨c20,c21,f20,f21⟩:=Q2.facts;have e1:=eX (zv s ns);have e2:=eX (zv s' ms);have E1:=Lib.hid e1;have E2:=Lib.hid e2;clear e1 e2
  cases ha:sg (zv s ns) <;> cases hb:sg (zv s' ms)
  ·have HC:Hid (gZ (zv s ns).natAbs (zv s' ms).natAbs=eY (zv s ns) (zv s' ms)):=Lib.hid (Xr ha hb)
   go_wp2_with fail
   refine (mW A1 A2 (mg (zv s ns)) (mg (zv s' ms)) _ _ c1 c2 B B' _ r1 r2 (tK _) (tK _) rfl rfl af af).mono ?_;rintro e w3 ⟨rfl,q,rfl⟩
   go_wp2_with fail
   go_ret
   exact ⟨eP (by rw [E1.out,E2.out,HC.out]),bK hbc (below_drewN' _ _ _) (aoG _)⟩
  ·have HC:Hid (1=eY (zv s ns) (zv s' ms)):=Lib.hid (Xq ha hb)
   go_wp2_with fail
   go_ret
   exact ⟨eP HC.out,hbc⟩
  ·have HC:Hid (-1=eY (zv s ns) (zv s' ms)):=Lib.hid (Xo ha hb)
   go_wp2_with fail
   go_ret
   exact ⟨eP HC.out,hbc⟩
  ·have HC:Hid (gZ (zv s' ms).natAbs (zv s ns).natAbs=eY (zv s ns) (zv s' ms)):=Lib.hid (Xn ha hb)
   go_wp2_with fail
   refine (mW A2 A1 (mg (zv s' ms)) (mg (zv s ns)) _ _ c2 c1 B' B _ r2 r1 (tK _) (tK _) rfl rfl af af).mono ?_;rintro e w3 ⟨rfl,q,rfl⟩
   go_wp2_with fail
   go_ret
   exact ⟨eP (by rw [E1.out,E2.out,HC.out]),bK hbc (below_drewN' _ _ _) (aoG _)⟩
def BK(w:World)(z:Int)(e:Ending)(w':World):Prop :=
 ∃ A c,e = .returned (.tuple #[.agg #[.bool (sg z),.slice A (mg z).length c],.nilIface])/\(mg z).length<=c/\Rd w' w'.heap.size A (mg z)/\Below w.heap.size w w'
end Go.Proofs.BGQ
namespace Lw
open Go Go.RowKit
def few(l:List Wh):Bool:=l.all fun a=>decide (a.n<=30)
end Lw
namespace Go.Proofs.BGQ
open Go Go.RowKit Lw
section
variable {t:TypeId} {W0 w:World} {bs:List Bx} {L:List En} {v v':Value} {x y:Int} {k k':Nat} {b b':Bool}
theorem Xv(HE:Env t W0 w bs L)(h:⟨v,x,k,b⟩∈L)(h':⟨v',y,k',b'⟩∈L)(hk:k+k'<=100000) :
  Calls Tryz.prog 67 #[v,v'] w fun e w'=>e = .returned (.int .i64 (eY x y))/\Env t W0 w' bs L:=by
 obtain ⟨s,A,n,c,ns,B,e1,h2,h3,h4,h5,h6,e7,h8⟩:=HE.ops _ h;obtain ⟨s',A',n',c',ns',B',e1',h2',h3',h4',h5',h6',dZ,h8'⟩:=HE.ops _ h';dsimp only at e1 e7 e1' dZ h5 h5';subst e1 e1' e7 dZ;exact (Xz s s' A A' ns ns' n n' c c' B B' w h2 h2' h3 h3' h4 h4' af af h6 h6').mono fun e w' hh=>⟨hh.1,HE.next hh.2⟩
end
section
variable {W0 w w':World} {bs:List Bx} {L L':List En} {ts:List Bt} {M M':List Qn}
theorem bu.PL{g:Nat}{x y:Value}(h:bu W0 w bs L ts M)(hm:⟨g,x,y⟩∈bs):g<w.heap.size:=(h.env.box _ hm).lt
end
section
variable {W0 w:World} {bs:List Bx} {L:List En} {ts:List Bt} {M:List Qn} {v v':Value} {x y:Int} {k k':Nat} {b b':Bool}
theorem O5(HE:bu W0 w bs L ts M)(h:⟨v,x,k,b⟩∈L)(h':⟨v',y,k',b'⟩∈L)(hk:k+k'<=100000) :
  Calls Tryz.prog 67 #[v,v'] w fun e w'=>e = .returned (.int .i64 (eY x y))/\bu W0 w' bs L ts M:=(Xv HE.env.here h h' hk).mono fun _ _ hh=>⟨hh.1,HE.step hh.2⟩
end
end Go.Proofs.BGQ
namespace Lw
open Go Go.RowKit
theorem Ua{z:Int}(h1 : -9223372036854775808<=z)(h2:z<=9223372036854775807):IntKind.i64.wrap z=z:=by rw [IntKind.wrap_i64];omega
end Lw
namespace Lw
open Go
def bG(l:List UInt8):Nat:=l.foldl (fun v b=>v*10+(b.toNat-48)) 0
def dn(l:List UInt8):Prop := ∀ b∈l,48<=b.toNat/\b.toNat<=57
theorem Yl:bG []=0:=rfl
theorem Cj(l:List UInt8)(b:UInt8):bG (l++[b])=bG l*10+(b.toNat-48):=by simp [bG]
theorem YD(l:List UInt8)(v:Nat):l.foldl (fun v b=>v*10+(b.toNat-48)) v=v*10^l.length+bG l:=by
 induction l generalizing v with
 | nil=>simp [bG]
 | cons b l ih =>
  have h:=ih (0*10+(b.toNat-48));rw [List.foldl_cons,ih,ao5,aoY];unfold bG;rw [List.foldl_cons,h];grind
theorem Nl(l m:List UInt8):bG (l++m)=bG l*10^m.length+bG m:=by
 unfold bG;rw [List.foldl_append,YD];rfl
theorem uU{l:List UInt8}{k:Nat}(h:k<l.length):bG (l.take (k+1))=bG (l.take k)*10+(l[k].toNat-48):=by
 rw [aqk h,Cj]
theorem yX{l:List UInt8}(h:dn l)(k:Nat)(hk:k<=l.length):bG (l.take k)<10^k:=by
 induction k with
 | zero=>simp [bG]
 | succ k ih =>
  have h1:=ih af;have h2:=h l[k] (ao9 _);rw [uU af,aoY];omega
theorem XX{l:List UInt8}(h:dn l)(k:Nat):dn (l.take k):=fun b hb=>h b (List.mem_of_mem_take hb)
theorem XV{l:List UInt8}(h:dn l)(k:Nat):dn (l.drop k):=fun b hb=>h b (aph hb)
theorem XO{l:List UInt8}{k G U b:Nat}(hk:k<l.length)(hG:G=bG (l.take k))(hU:U=10^k)(hb:l[k].toNat=b+48):G*10+b=bG (l.take (k+1))/\U*10=10^(k+1):=by
 rw [uU hk,<- hG,hb,aoY,<- hU];omega
theorem afp{l:List Nat}(w:bJ l)(h:pw (l.length-1)<=val l):dR l:=by
 rcases aoT l.length with h0 | h0
 ·rw [aoU h0];exact xP
 ·refine JI fun e => ?_
  have h1:=dh l (l.length-1);rw [show l.length-1+1=l.length from af,di (aoG _),e] at h1;have:=iY w (l.length-1);omega
theorem afr{cs ds:List Nat}{U G:Nat}(wd:bJ ds)(hl:ds.length=cs.length)(hU:0<U)(hv:val ds=val cs*U+G)(t:dR cs):dR ds:=by
 rcases aoT cs.length with h0 | h0
 ·rw [aoU (hl.trans h0)];exact xP
 ·refine afp wd ?_
  have h1:=vY t (by intro e;rw [e] at h0;simp at h0);rw [hl,hv];have:val cs*1<=val cs*U:=aoS _ hU;omega
theorem afq(l:List Nat){x:Nat}(h:x≠0):dR (l++[x]):=by
 intro y hy;simp at hy;omega
theorem afg{cs ds:List Nat}{k C C' R G U:Nat}(hk:k<ds.length)(hv:lo ds k+pw k*C=lo cs k*U+G)(_hd:dg ds k=dg cs k)(hD:C+dg cs k*U=C'*4294967296+R) :
  lo (ds.set k R) (k+1)+pw (k+1)*C'=lo cs (k+1)*U+G:=by
 rw [jG _ hk,dh,dV];have h:pw k*(C+dg cs k*U)=pw k*(C'*4294967296+R):=by rw [hD]
 grind
end Lw
namespace Go.Proofs.BGQ
open Go Go.RowKit Lw
set_option maxRecDepth 100000 in
set_option maxHeartbeats 3200000 in
theorem Wi(Bt:Nat)(l:List UInt8)(v:Value)(n:Nat)(cs:List Nat)(w:World)(hown:w.ownsRow Bt 113 1 v n (arr cs))(hcw:bJ cs)(hBt:Bt<=w.heap.size)(hn:n<=1048576)(hd:dn l)(hl:l.length<=9) :
  Calls Tryz.prog 187 #[v,.string ⟨l.toArray⟩] w fun e w' => ∃ v' n' ds,e = .returned v'/\w'.ownsRow Bt 113 1 v' n' (arr ds)/\bJ ds/\n'<=n+1/\val ds=val cs*10^l.length+bG l/\(dR cs->dR ds)/\Below Bt w w':=by
 obtain ⟨S,hS⟩ : ∃ S:ByteArray,S=⟨l.toArray⟩:=⟨_,rfl⟩;have hsz:S.size=l.length:=by rw [hS];simp [ByteArray.size]
 have hat : ∀ k (h:k<S.size),(S[k]'h).toNat=(l[k]'af).toNat:=by intro k h;subst hS;rfl
 obtain ⟨A,c,rfl⟩ : ∃ A c,v = .slice A n c:=by
  rcases hown.2 with ⟨rfl,rfl⟩ | ⟨g,cap,cur,rfl,_⟩
  ·exact ⟨_,_,rfl⟩
  ·exact ⟨_,_,rfl⟩
 rw [<- hS];have HAT:=Lib.hid hat;have HD:=Lib.hid hd;clear hS hat hd
 go_enter Tryz.func187,Tryz.ntmps187
 go_wp2_with fail
 go_loopw [5,6,13] (fun gv uv iv wr => ∃ k G U:Nat,k<=l.length/\iv = .int .i64 k/\gv = .int .u64 G/\uv = .int .u64 U/\G<U/\U<=1000000000/\Hid (G=bG (l.take k)/\U=10^k)/\wr=w) (fun _ _ i _=>l.length-(intOf i).toNat)
 case atStart=>exact ⟨0,0,1,aoI _,rfl,rfl,rfl,af,af,Lib.hid ⟨rfl,rfl⟩,rfl⟩
 case round =>
  obtain ⟨k,G,U,hk,rfl,rfl,rfl,hGU,hU,hv,rfl⟩:=hrel
  by_cases hkl:k<l.length
  ·have hks:k<S.size:=af
   have hb:=HD.out (l[k]'hkl) (ao9 _);obtain ⟨b,hbv⟩ : ∃ b,(l[k]'hkl).toNat=b+48:=⟨(l[k]'hkl).toNat-48,af⟩;have jF:b<=9:=af;have hsk:((S[k]'hks).toNat:Int)=(b:Int)+48:=by rw [HAT.out k hks,hbv];omega
   have HST:=Lib.hid (XO hkl hv.out.1 hv.out.2 hbv);have zy:Hid (U*10<=1000000000):=Lib.hid (by rw [HST.out.2];exact aoH (ao8 af (show k+1<=9 from af)) ai);clear hb hbv
   go_wp2_with fail
   go_roundw
   case rel=>exact ⟨k+1,G*10+b,U*10,af,by go_num,by go_num,by go_num,af,zy.out,Lib.hid HST.out,trivial⟩
   case measure=>simp [intOf];omega
  ·obtain rfl:k=l.length:=af
   have HV:Hid (G=bG l/\U=10^l.length):=Lib.hid (by have:=hv.out;rwa [ao7] at this);clear hv
   go_wp2_with fail
   go_loopw [8,30] (fun cv iv wr' => ∃ (k C:Nat) (ds:List Nat),k<=n/\C<=1000000000/\iv = .int .i64 k/\cv = .int .u64 C/\wr'.ownsRow Bt 113 1 (.slice A n c) n (arr ds)/\bJ ds/\Hid (ds.length=n) /\
     Hid (∀ j,k<=j->dg ds j=dg cs j)/\Hid (lo ds k+pw k*C=lo cs k*U+G)/\Below Bt wr wr') (fun _ i _=>n-(intOf i).toNat)
   case atStart=>exact ⟨0,G,cs,aoI _,af,rfl,rfl,hown,hcw,Lib.hid (by have:=hown.1;rwa [jS,ao1] at this),Lib.hid (fun _ _=>rfl),Lib.hid (by simp [fH,kY]),Below.refl _ _⟩
   case round =>
    obtain ⟨k,C,ds,hk,hC,rfl,rfl,hown2,hdw,hdl,hsame,hval,hbw⟩:=hrel;have C9:=hbw.size
    by_cases hkn:k<n
    ·obtain ⟨g,rfl,hgB⟩ : ∃ g,A=some ⟨g,0,none⟩/\Bt<=g:=by
      rcases hown2.2 with ⟨h1,h2⟩ | ⟨g,cap,cur,h1,h2,_⟩
      ·omega
      ·simp only [Value.slice.injEq] at h1;exact ⟨g,h1.1,h2⟩
     have hlt:=fA hdw k;have hcc:=hown2.cellAt k af;rw [BN ds k (by rw [hdl.out];exact hkn)] at hcc;have hfr:=hown2.frozenAt k;obtain ⟨x,hx⟩ : ∃ x,x=dg ds k:=⟨_,rfl⟩;rw [<- hx] at hcc hlt;obtain ⟨P,hP⟩ : ∃ P,P=x*U:=⟨_,rfl⟩;have hPl:P<=4294967295*1000000000:=by rw [hP];exact apl af hU
     have zx:(x:Int)*(U:Int)=(P:Int):=by rw [hP];simp
     have hPj:(U:Int)*(x:Int)=(P:Int):=by rw [Int.mul_comm];exact zx
     obtain ⟨R,hR⟩ : ∃ R,R=(C+P)%4294967296:=⟨_,rfl⟩;obtain ⟨C',hC'⟩ : ∃ C',C'=(C+P)/4294967296:=⟨_,rfl⟩;have HST:=Lib.hid (afg (C':=C') (R:=R) (by rw [hdl.out];exact hkn) hval.out (hsame.out k (aoG _)) (by rw [<- hsame.out k (aoG _),<- hx,<- hP,hR,hC'];omega));have hRl:R<4294967296:=af;have zl:C'<=1000000000:=af;have hRi:((C:Int)+(P:Int))%4294967296=(R:Int):=af;have Zp:((C:Int)+(P:Int))/4294967296=(C':Int):=af;have hst:=hown2.stored k (.int .u32 (R:Int));rw [LJ] at hst;have Fg:=Lib.hid hst;have aiL:P<=4294967295000000000:=af;clear hx hP hR hC' hst hPl
     go_wp2_with fail
     go_roundw
     case rel =>
      refine ⟨k+1,C',ds.set k R,af,zl,by go_num,by go_num,Fg.out.1,gB hdw _ hRl,Lib.hid (by rw [aoO];exact hdl.out),Lib.hid ?_,HST,hbw.setCell hgB _⟩;intro j hj;rw [iR _ (by rw [hdl.out];exact hkn),if_neg af];exact hsame.out j af
     case measure=>simp [intOf];omega
    ·obtain rfl:k=n:=af
     have hkc:cs.length=k:=by have:=hown.1;rwa [jS,ao1] at this
     have hv2:=hval.out;rw [di (by rw [hdl.out];exact aoG _),di af] at hv2;have Zv:0<U:=af
     by_cases h0:C=0
     ·subst h0
      rw [Nat.mul_zero,apv] at hv2;have HF:Hid (val ds=val cs*10^l.length+bG l/\(dR cs->dR ds)):=Lib.hid ⟨by rw [hv2,HV.out.1,<- HV.out.2],afr hdw (by rw [hdl.out,hkc]) Zv hv2⟩;clear hv2 hkc
      go_wp2_with fail
      go_ret
      exact ⟨_,k,ds,rfl,hown2,hdw,af,HF.out.1,HF.out.2,hbw⟩
     ·have HF:Hid (val (ds++[C])=val cs*10^l.length+bG l/\(dR cs->dR (ds++[C]))):=Lib.hid ⟨by rw [JP,hdl.out,hv2,HV.out.1,<- HV.out.2],fun _=>afq _ h0⟩
      have hC0:(0:Int)<(C:Int):=af;have lW:=(bF.new wr 113 [C]).rd (by rw [iH];exact ⟨af,gV⟩);have hcm:(C:Int)%4294967296=(C:Int):=af;clear hv2 hkc
      go_wp2_with (at_builtin;refine Ba _ rfl _ _ 22 rfl Bt 113 amZ iW _ k ds rfl (hown2.alloc _) _ _ [C] 1 1 rfl lW rfl af (by simp;omega) ?_;intro v' w4 hown4 hgrow4 hnil)
      have hgrow:(wr.alloc (.cells #[.int .u32 (C:Int)] 113)).grownBy w4 (Value.slice A k c).ownBlock:=hgrow4;have hb5:=(hbw.alloc af (.cells #[.int .u32 (C:Int)] 113)).grown hgrow (by simp;omega) (fun k hk=>(hown2.lt k hk).1);clear hgrow4 hnil hgrow lW
      go_wp2_with fail
      go_ret
      exact ⟨_,k+1,ds++[C],rfl,hown4,JV.2 ⟨hdw,by rw [iH];exact ⟨af,gV⟩⟩,af,HF.out.1,HF.out.2,hb5⟩
end Go.Proofs.BGQ
namespace Lw
open Go
theorem yZ(a:List UInt8)(i j:Nat):(ByteArray.mk a.toArray).extract i j=⟨((a.drop i).take (j-i)).toArray⟩:=by
 apply ByteArray.ext;rw [ByteArray.data_extract];simp
theorem ae8(l:List UInt8)(p m:Nat):l.take (p+m)=l.take p++(l.drop p).take m:=by rw [List.take_add]
end Lw
namespace Go.Proofs.BGQ
open Go Go.RowKit Lw
set_option maxRecDepth 100000 in
set_option maxHeartbeats 3200000 in
theorem ac8(l:List UInt8)(w:World)(hd:dn l)(hl:l.length<=65536) :
  Calls Tryz.prog 165 #[.string ⟨l.toArray⟩] w fun e w' => ∃ v n ds,e = .returned v/\w'.ownsRow w.heap.size 113 1 v n (arr ds)/\bJ ds/\n<=l.length/\val ds=bG l/\dR ds/\Below w.heap.size w w':=by
 obtain ⟨i0,hi0,hz0,hz1,hz2⟩:=info_parts iW;obtain ⟨S,hS⟩ : ∃ S:ByteArray,S=⟨l.toArray⟩:=⟨_,rfl⟩;have hsz:S.size=l.length:=by rw [hS];simp [ByteArray.size]
 rw [<- hS];have Fg:=Lib.hid hS;have HD:=Lib.hid hd;clear hS hd
 go_enter Tryz.func165,Tryz.ntmps165
 go_wp2_with (at_make;refine wpList_make_own _ rfl _ _ _ rfl w.heap.size 113 i0 _ 1 amZ hi0 hz0 hz1 _ _ _ (l.length/9+1) rfl rfl af (by rw [hz2];omega) (by unfold maxLen;omega) (aoG _) ?_;intro w1 hown hgrow)
 have hbel:Below w.heap.size w w1:=(Below.refl _ _).grown hgrow (aoG _) (fun k hk=>by cases hk);clear hgrow
 go_loopw [0,3] (fun sv v wr => ∃ (p n:Nat) (T:ByteArray) (ds:List Nat),p<=l.length/\sv = .string T/\T.size=l.length-p/\Hid (T=⟨(l.drop p).toArray⟩)/\wr.ownsRow w.heap.size 113 1 v n (arr ds)/\bJ ds/\n<=p /\
   Hid (val ds=bG (l.take p)/\dR ds)/\Below w.heap.size w wr) (fun sv _ _=>match sv with | .string T=>T.size | _=>0)
 case atStart=>exact ⟨0,0,S,[],aoI _,rfl,af,Lib.hid (by rw [Fg.out];rfl),hown,gV,aoG _,Lib.hid ⟨rfl,xP⟩,hbel⟩
 case round =>
  obtain ⟨p,n,T,ds,hp,rfl,hT,N7,hown2,hdw,hnp,hv,hbw⟩:=hrel;clear hown hbel;have C9:=hbw.size
  by_cases hpl:p<l.length
  ·obtain ⟨m,hm⟩ : ∃ m,m=(l.length-p-1)%9+1:=⟨_,rfl⟩
   have hm1:((l.length:Int)-(p:Int)-1)%9+1=(m:Int):=af;have ZY:m<=l.length-p:=af;have ZX:m<=9:=af;obtain ⟨r,hr⟩ : ∃ r,r=l.length-p:=⟨_,rfl⟩;rw [<- hr] at hT ZY hm;have hr0:0<r:=af;have hrl:r<=65536:=af;have Vz:Hid (T.extract 0 ((r-1)%9+1)=⟨((l.drop p).take m).toArray⟩):=Lib.hid (by rw [<- hm,N7.out,yZ,Nat.sub_zero,apx]);have yE:Hid (T.extract ((r-1)%9+1) r=⟨(l.drop (p+m)).toArray⟩):=Lib.hid (by rw [<- hm,N7.out,yZ,List.drop_drop,apj (by rw [apu];omega)]);have HM:=Lib.hid hm;have HR:=Lib.hid hr;have hlm:((l.drop p).take m).length=m:=by rw [apc,apu];omega
   have KJ:=Lib.hid hlm;clear hm hr hm1 hlm
   go_wp2_with fail
   rw [Vz.out];refine (Wi w.heap.size ((l.drop p).take m) u3 n ds _ hown2 hdw C9 af (XX (XV HD.out p) m) (by rw [KJ.out];exact ZX)).mono ?_;rintro e w2 ⟨v',n',ds',rfl,hown3,ZQ,hn3,hv3,ht3,hb3⟩;have uI:=Lib.hid hv3;have HT3:=Lib.hid ht3;have hbw3:=hbw.trans hb3;clear hv3 ht3 hown2 hb3 hbw
   go_wp2_with fail
   have hsz2:(T.extract ((r-1)%9+1) r).size=l.length-(p+m):=by rw [yE.out];simp [ByteArray.size]
   have hpm:p+m<=l.length:=by have:=HR.out;omega
   have hm0:1<=m:=by have:=HM.out;omega
   go_roundw
   case rel =>
    refine ⟨p+m,n',_,ds',hpm,rfl,hsz2,yE,hown3,ZQ,af,Lib.hid ⟨?_,HT3.out hv.out.2⟩,hbw3⟩;rw [uI.out,hv.out.1,ae8,Nl,KJ.out]
   case measure =>
    show (T.extract ((r-1)%9+1) r).size<T.size;have:=HR.out;omega
  ·obtain rfl:p=l.length:=af
   have HV:Hid (val ds=bG l/\dR ds):=Lib.hid (by have:=hv.out;rwa [ao7] at this);have hT0:T.size=0:=af;clear hv hT
   go_wp2_with fail
   go_ret
   exact ⟨_,n,ds,rfl,hown2,hdw,hnp,HV.out.1,HV.out.2,hbw⟩
end Go.Proofs.BGQ
namespace Lw
open Go
def Plain(l:List UInt8):Prop:=0<l.length/\dn l/\(1<l.length -> ∀ h:0<l.length,(l[0]'h).toNat≠48)
theorem uP(n:Nat):dn (Lib.decDigits n):=by
 induction n using Nat.strongRecOn with
 | ind n ih =>
  rw [Lib.decDigits]
  by_cases h:n<10
  ·rw [dif_pos h]
   intro b hb;rw [aqe] at hb;subst hb;have:=uO h;omega
  ·rw [dif_neg h]
   intro b hb;rw [ao6,aqe] at hb;rcases hb with hb | rfl
   ·exact ih (n/10) af b hb
   ·have:=uO (d:=n%10) af
    omega
theorem oQ(n:Nat):bG (Lib.decDigits n)=n:=by
 induction n using Nat.strongRecOn with
 | ind n ih =>
  rw [Lib.decDigits]
  by_cases h:n<10
  ·rw [dif_pos h]
   have:=uO h;simp [bG];omega
  ·rw [dif_neg h,Cj,ih (n/10) af]
   have:=uO (d:=n%10) af;omega
theorem XL(n:Nat)(h0:n≠0) : ∀ h:0<(Lib.decDigits n).length,((Lib.decDigits n)[0]'h).toNat≠48:=by
 induction n using Nat.strongRecOn with
 | ind n ih =>
  by_cases h:n<10
  ·intro hh
   have e:Lib.decDigits n=[UInt8.ofNat (48+n)]:=by rw [Lib.decDigits,dif_pos h]
   have:=uO h;simp only [e,List.getElem_cons_zero];omega
  ·intro hh
   have hp:=uN (n/10);have e:Lib.decDigits n=Lib.decDigits (n/10)++[UInt8.ofNat (48+n%10)]:=by rw [Lib.decDigits,dif_neg h]
   have h1:=ih (n/10) af af hp;simp only [e,List.getElem_append_left hp];exact h1
theorem pM(n:Nat):Plain (Lib.decDigits n):=by
 refine ⟨uN n,uP n,fun h1 h => ?_⟩
 by_cases h0:n=0
 ·subst h0
  rw [Lib.decDigits_one af] at h1;simp at h1
 ·exact XL n h0 h
end Lw
namespace Go.Proofs.BGQ
open Go Go.RowKit Lw
set_option maxRecDepth 100000 in
set_option maxHeartbeats 3200000 in
theorem DF(l:List UInt8)(w:World)(hp:Plain l)(hl:l.length<=65536) :
  Calls Tryz.prog 164 #[.string ⟨l.toArray⟩] w fun e w'=>e = .returned (.bool true)/\w=w':=by
 obtain ⟨S,hS⟩ : ∃ S:ByteArray,S=⟨l.toArray⟩:=⟨_,rfl⟩;have hsz:S.size=l.length:=by rw [hS];simp [ByteArray.size]
 have hat : ∀ k (h:k<S.size),(S[k]'h).toNat=(l[k]'af).toNat:=by intro k h;subst hS;rfl
 obtain ⟨h0,hd,hz⟩:=hp
 have hne:S.toList.isEmpty=false:=by
  rw [hS,ByteArray.toList_mk]
  cases l with
  | nil=>simp at h0
  | cons x l=>rfl
 have hs0:0<S.size:=af;have CW:=hd (l[0]'h0) (ao9 _);rw [<- hS];have HAT:=Lib.hid hat;have HD:=Lib.hid hd;obtain ⟨b,hb⟩ : ∃ b,b=(l[0]'h0).toNat:=⟨_,rfl⟩;have hsb:((S[0]'hs0).toNat:Int)=(b:Int):=by rw [hat 0 hs0,hb]
 have HZ:Hid (1<l.length->b≠48):=Lib.hid (fun h=>by rw [hb];exact hz h h0);rw [<- hb] at CW;clear hat hd hS hz hb
 go_enter Tryz.func164,Tryz.ntmps164
 by_cases h48:b=48
 ·have h1:l.length=1:=by rcases aoM 1 l.length with h | h;exact absurd h48 (HZ.out h);omega
  go_wp2_with fail
  go_loopw [18] (fun iv wr => ∃ i:Nat,i<=l.length/\iv = .int .i64 i/\w=wr) (fun iv _=>l.length-(intOf iv).toNat)
  case atStart=>exact ⟨0,aoI _,rfl,rfl⟩
  case round =>
   obtain ⟨i,hi,rfl,rfl⟩:=hrel
   by_cases hil:i<l.length
   ·have hks:i<S.size:=af
    have hbb:=HD.out (l[i]'hil) (ao9 _);obtain ⟨d,hdd⟩ : ∃ d,d=(l[i]'hil).toNat:=⟨_,rfl⟩;have hsk:((S[i]'hks).toNat:Int)=(d:Int):=by rw [HAT.out i hks,hdd]
    rw [<- hdd] at hbb;obtain ⟨hb1,hb2⟩:=hbb;clear hdd
    go_wp2_with fail
    go_roundw
    case rel=>exact ⟨i+1,af,by go_num,trivial⟩
    case measure=>simp [intOf];omega
   ·obtain rfl:i=l.length:=af
    go_wp2_with fail
    go_ret
    exact ⟨rfl,rfl⟩
 ·have hbi:((b:Int)==48)=false:=by rw [beq_eq_false_iff_ne];omega
  go_wp2_with fail
  go_loopw [18] (fun iv wr => ∃ i:Nat,i<=l.length/\iv = .int .i64 i/\w=wr) (fun iv _=>l.length-(intOf iv).toNat)
  case atStart=>exact ⟨0,aoI _,rfl,rfl⟩
  case round =>
   obtain ⟨i,hi,rfl,rfl⟩:=hrel
   by_cases hil:i<l.length
   ·have hks:i<S.size:=af
    have hbb:=HD.out (l[i]'hil) (ao9 _);obtain ⟨d,hdd⟩ : ∃ d,d=(l[i]'hil).toNat:=⟨_,rfl⟩;have hsk:((S[i]'hks).toNat:Int)=(d:Int):=by rw [HAT.out i hks,hdd]
    rw [<- hdd] at hbb;obtain ⟨hb1,hb2⟩:=hbb;clear hdd
    go_wp2_with fail
    go_roundw
    case rel=>exact ⟨i+1,af,by go_num,trivial⟩
    case measure=>simp [intOf];omega
   ·obtain rfl:i=l.length:=af
    go_wp2_with fail
    go_ret
    exact ⟨rfl,rfl⟩
theorem QM(N:Nat)(w:World)(hl:(Lib.decDigits N).length<=65536) :
  Calls Tryz.prog 165 #[.string ⟨(Lib.decDigits N).toArray⟩] w fun e w' => ∃ A c,e = .returned (.slice A (bn N).length c)/\(bn N).length<=c/\Rd w' w'.heap.size A (bn N)/\Below w.heap.size w w':=by
 refine (ac8 _ w (uP N) hl).mono ?_;rintro e w' ⟨v,n,ds,rfl,hown,hw,hn,hv,ht,hb⟩;rw [oQ] at hv;have hds:ds=bn N:=by rw [<- hv];exact (uS hw ht).symm
 subst hds;have hle:=hown.1;rw [jS,ao1] at hle;rcases hown.2 with ⟨rfl,h0⟩ | ⟨g,cap,cur,hv',_,_,hnc,_⟩
 ·have e0:bn N=[]:=aoU af
  rw [e0];exact ⟨none,0,rfl,aoG _,Rd.nil_ _ _ _,hb⟩
 ·obtain ⟨A,c,rfl,hr,hl2⟩:=II hown hw
  simp only [Value.slice.injEq] at hv';exact ⟨A,c,by rw [hle],af,hr,hb⟩
set_option maxRecDepth 100000 in
set_option maxHeartbeats 3200000 in
theorem ace(z:Int)(w:World)(hz:sg z=false)(hl:(Lib.decDigits z.natAbs).length<=60000) :
  Calls Tryz.prog 119 #[.string ⟨(Lib.decDigits z.natAbs).toArray⟩] w (BK w z):=by
 have hp:=DF _ w (pM z.natAbs) af;have hp':=fun W=>DF _ W (pM z.natAbs) af;have hr':=fun W=>QM z.natAbs W af;obtain ⟨l,hll⟩ : ∃ l,l=Lib.decDigits z.natAbs:=⟨_,rfl⟩;have hdd:dn l:=by rw [hll];exact uP _
 have h0:0<l.length:=by rw [hll];exact uN _
 rw [<- hll] at hl hp' hr' ⊢;obtain ⟨S,hS⟩ : ∃ S:ByteArray,S=⟨l.toArray⟩:=⟨_,rfl⟩;have hsz:S.size=l.length:=by rw [hS];simp [ByteArray.size]
 have hs0:0<S.size:=af;have CW:=hdd (l[0]'h0) (ao9 _);obtain ⟨b,hb⟩ : ∃ b,b=(l[0]'h0).toNat:=⟨_,rfl⟩;have hsb:((S[0]'hs0).toNat:Int)=(b:Int):=by subst hS;rw [hb];rfl
 rw [<- hb] at CW;rw [<- hS] at hp' hr' ⊢;have CS:((b:Int)==45)=false:=by rw [beq_eq_false_iff_ne];omega
 have HP:=Lib.hid hp';have HR:=Lib.hid hr';have HZ:=Lib.hid hz;obtain ⟨hb1,hb2⟩:=CW;clear hp hp' hr' hll hdd hS hb hz
 go_enter an3,an4
 go_wp2_with fail
 refine (HP.out _).mono ?_;rintro e w1 ⟨rfl,rfl⟩
 go_wp2_with fail
 refine (HR.out _).mono ?_;rintro e w1 ⟨A2,c2,rfl,hc2,hr2,hb4⟩;have U2:=(Two.new w 79 (.bool false) (.slice none 0 0)).next hb4
 go_wp2_with fail
 refine (jL false A2 z.natAbs _ c2 _ z _ hr2 (aoG _) rfl hc2 (by have:=ru z;rwa [HZ.out,eX] at this)).mono ?_;rintro e w4 ⟨A4,c4,rfl,hc4,hr4,hb5⟩;have V2:=U2.next hb5;obtain ⟨d0,d1,g0,g1⟩:=V2.facts;have hb3:=(Below.refl w.heap.size w).alloc (aoG _) (.cells #[.bool false,.slice none 0 0] 79)
 go_wp2_with fail
 refine bodyPost_ret (v := .tuple #[.agg #[.bool (sg z),.slice A4 (mg z).length c4],.nilIface]) (by simp [results,Tryz.results119,go_sem,d0,d1]) rfl ?_;obtain ⟨A5,c5,he,h1,h2,h3⟩:=fZ V2 hr4 hb5.size hc4 (bK (bK hb3 hb4 (aoG _)) hb5 (aoG _)) af
 injection he with he
 injection he with he;simp at he;obtain ⟨rfl,rfl⟩:=he;exact ⟨A4,c4,rfl,h1,h2,h3⟩
set_option maxRecDepth 100000 in
set_option maxHeartbeats 3200000 in
theorem ab8(z:Int)(w:World)(hz:sg z=true)(hl:(Lib.decDigits z.natAbs).length<=60000) :
  Calls Tryz.prog 119 #[.string ⟨(45::Lib.decDigits z.natAbs).toArray⟩] w (BK w z):=by
 have hp':=fun W=>DF _ W (pM z.natAbs) af;have hr':=fun W=>QM z.natAbs W af
 have G9:((Lib.decDigits z.natAbs)==[48])=false:=by
  rw [beq_eq_false_iff_ne];intro e;have h1:=oQ z.natAbs;rw [e] at h1;have h2:=(uo hz).2;have h3:bG [48]=0:=rfl;omega
 obtain ⟨l,hll⟩ : ∃ l,l=Lib.decDigits z.natAbs:=⟨_,rfl⟩;have h0:0<l.length:=by rw [hll];exact uN _
 rw [<- hll] at hl hp' hr' G9 ⊢;obtain ⟨D,hD⟩ : ∃ D:ByteArray,D=⟨l.toArray⟩:=⟨_,rfl⟩;obtain ⟨S,hS⟩ : ∃ S:ByteArray,S=⟨(45::l).toArray⟩:=⟨_,rfl⟩;obtain ⟨M,hM⟩ : ∃ M,M=l.length+1:=⟨_,rfl⟩;have hsz:S.size=M:=by rw [hS,hM];simp [ByteArray.size]
 have hs0:0<S.size:=af;have hM1:1<=M:=af;have hM2:M<=65536:=af;obtain ⟨b,hb⟩ : ∃ b:Nat,b=45:=⟨_,rfl⟩;have hsb:((S[0]'hs0).toNat:Int)=(b:Int):=by subst hS;rw [hb];rfl
 have CS:((b:Int)==45)=true:=by rw [hb];rfl
 have hx1:S.extract 1 M=D:=by rw [hS,hD,hM,yZ];simp
 have Zq:(D.toList==[48])=false:=by rw [hD,ByteArray.toList_mk];exact G9
 rw [<- hS];rw [<- hD] at hp' hr';have HP:=Lib.hid hp';have HR:=Lib.hid hr';have HZ:=Lib.hid hz;clear hp' hr' hll hD hS hz G9 hb hM hl h0
 go_enter an3,an4
 go_wp2_with fail
 refine (HP.out _).mono ?_;rintro e w1 ⟨rfl,rfl⟩
 go_wp2_with fail
 refine (HR.out _).mono ?_;rintro e w1 ⟨A2,c2,rfl,hc2,hr2,hb4⟩;have U2:=(Two.new w 79 (.bool false) (.slice none 0 0)).next hb4
 go_wp2_with fail
 refine (jL true A2 z.natAbs _ c2 _ z _ hr2 (aoG _) rfl hc2 (by have:=ru z;rwa [HZ.out,eX] at this)).mono ?_;rintro e w4 ⟨A4,c4,rfl,hc4,hr4,hb5⟩;have V2:=U2.next hb5;obtain ⟨d0,d1,g0,g1⟩:=V2.facts;have hb3:=(Below.refl w.heap.size w).alloc (aoG _) (.cells #[.bool false,.slice none 0 0] 79)
 go_wp2_with fail
 refine bodyPost_ret (v := .tuple #[.agg #[.bool (sg z),.slice A4 (mg z).length c4],.nilIface]) (by simp [results,Tryz.results119,go_sem,d0,d1]) rfl ?_;obtain ⟨A5,c5,he,h1,h2,h3⟩:=fZ V2 hr4 hb5.size hc4 (bK (bK hb3 hb4 (aoG _)) hb5 (aoG _)) af
 injection he with he
 injection he with he;simp at he;obtain ⟨rfl,rfl⟩:=he;exact ⟨A4,c4,rfl,h1,h2,h3⟩
theorem parse_any(z:Int)(w:World)(hl:(Lib.decDigits z.natAbs).length<=60000) :
  Calls Tryz.prog 119 #[.string ⟨(Lib.itoa z).toArray⟩] w (BK w z):=by
 cases h:sg z
 ·rw [je h];exact ace z w h hl
 ·rw [itoa_neg h];exact ab8 z w h hl
end Go.Proofs.BGQ
namespace Lw
open Go
theorem MS{b:UInt8}(h1:48<=b.toNat):UInt8.ofNat (48+(b.toNat-48))=b:=by
 rw [show 48+(b.toNat-48)=b.toNat by omega];exact UInt8.ofNat_toNat
theorem MO:Lib.decDigits 0=[48]:=by rw [Lib.decDigits,dif_pos af];rfl
theorem XM(k:Nat) : ∀ l:List UInt8,l.length<=k->Plain l->Lib.decDigits (bG l)=l:=by
 induction k with
 | zero=>intro l hl h;exact absurd h.1 af
 | succ k ih =>
  intro l hl h;obtain ⟨h0,hd,hz⟩:=h;obtain ⟨m,b,rfl⟩ : ∃ m b,l=m++[b]:=⟨l.dropLast,l.getLast (by intro e;rw [e] at h0;simp at h0),(List.dropLast_concat_getLast (by intro e;rw [e] at h0;simp at h0)).symm⟩;have hb:=hd b (by simp);rw [Cj];rcases aoT m.length with hm | hm
  ·obtain rfl:=aoU hm
   rw [Yl,Nat.zero_mul,apw,Lib.decDigits,dif_pos af,MS hb.1];rfl
  ·have hf:=hz (by simp;omega) (by simp)
   rw [List.getElem_append_left hm] at hf;have hp:Plain m:=⟨hm,fun x hx=>hd x (by simp [hx]),fun _ _=>hf⟩;have e:=ih m (by simp at hl;omega) hp
   have hv:bG m≠0:=by
    intro e0;rw [e0,MO] at e;subst e;exact hf rfl
   rw [Lib.decDigits,dif_neg af,show (bG m*10+(b.toNat-48))/10=bG m from af,show (bG m*10+(b.toNat-48))%10=b.toNat-48 from af,e,MS hb.1]
def Fits(neg:Bool)(d:List UInt8):Prop:=Plain d/\¬(neg=true/\d=[48])
theorem Gg{l:List UInt8}(h:Plain l):Lib.decDigits (bG l)=l:=XM l.length l (aoG _) h
theorem Gz{d:List UInt8}(h:Fits false d):d=Lib.itoa (bG d:Int):=by
 rw [je (by unfold sg;simp),aoL,ao3,Gg h.1]
theorem NT{d:List UInt8}(h:Fits true d):45::d=Lib.itoa (-(bG d:Int)):=by
 have h0:bG d≠0:=by
  intro e;have:=Gg h.1;rw [e,MO] at this;exact h.2 ⟨rfl,this.symm⟩
 rw [itoa_neg (by unfold sg;simp;omega),aqg,aoL,Gg h.1];rfl
theorem IC{l:List UInt8}(h:dn l)(h0:0<l.length):(l[0]'h0).toNat≠45:=by
 have:=h _ (ao9 h0);omega
theorem abR{l:List UInt8}(h45 : ∀ h:0<l.length,(l[0]'h).toNat≠45)(h:¬Fits false l) : ∀ z,l≠Lib.itoa z:=by
 intro z e
 cases hz:sg z
 ·rw [je hz,ao3] at e
  exact h ⟨by rw [e];exact pM _,fun hh=>by cases hh.1⟩
 ·rw [itoa_neg hz] at e
  subst e;exact h45 (by simp) rfl
theorem abQ{d:List UInt8}(h:¬Fits true d) : ∀ z,45::d≠Lib.itoa z:=by
 intro z e
 cases hz:sg z
 ·rw [je hz,ao3] at e
  have hp:=pM z.natAbs;rw [<- e] at hp;exact IC hp.2.1 hp.1 rfl
 ·rw [itoa_neg hz,apO] at e
  injection e with _ e;refine h ⟨by rw [e];exact pM _,fun hh => ?_⟩;have h1:=oQ z.natAbs;rw [<- e,hh.2] at h1;have h2:=(uo hz).2;have h3:bG [48]=0:=rfl;omega
theorem NE{neg:Bool}{d:List UInt8}(hd:dn d)(h0:0<d.length)(h:(d[0]'h0).toNat=48->d.length=1/\neg=false):Fits neg d:=by
 refine ⟨⟨h0,hd,fun h1 _ e=>by have:=(h e).1;omega⟩,fun hh => ?_⟩;obtain ⟨rfl,rfl⟩:=hh;have:=(h rfl).2
 cases this
theorem NS{neg:Bool}{d:List UInt8}(h:Fits neg d)(h0:0<d.length)(e:(d[0]'h0).toNat=48):d.length=1/\neg=false:=by
 obtain ⟨⟨_,hd,hz⟩,hn⟩:=h
 have h1:d.length=1:=by
  rcases aoM 1 d.length with h1 | h1
  ·exact absurd e (hz h1 h0)
  ·omega
 refine ⟨h1,?_⟩
 cases neg
 ·rfl
 ·refine absurd ⟨rfl,?_⟩ hn
  obtain ⟨b,rfl⟩:=List.length_eq_one_iff.1 h1;have e':b.toNat=48:=e;have:b=48:=UInt8.toNat_inj.1 e';rw [this]
end Lw
namespace Lw
open Go
theorem uQ{l:List UInt8}{i:Nat}(h:i<l.length)(hd:dn (l.take i))(hb:48<=(l[i]'h).toNat/\(l[i]'h).toNat<=57):dn (l.take (i+1)):=by
 rw [aqk h];intro b hb';rw [ao6,aqe] at hb';rcases hb' with hb' | rfl
 ·exact hd b hb'
 ·exact hb
end Lw
namespace Go.Proofs.BGQ
open Go Go.RowKit Lw
set_option maxRecDepth 100000 in
set_option maxHeartbeats 3200000 in
theorem Qx(l:List UInt8)(w:World)(hp:¬Plain l)(hl:l.length<=65536) :
  Calls Tryz.prog 164 #[.string ⟨l.toArray⟩] w fun e w'=>e = .returned (.bool false)/\w=w':=by
 obtain ⟨S,hS⟩ : ∃ S:ByteArray,S=⟨l.toArray⟩:=⟨_,rfl⟩;have hsz:S.size=l.length:=by rw [hS];simp [ByteArray.size]
 have hat : ∀ k (h:k<S.size),(S[k]'h).toNat=(l[k]'af).toNat:=by intro k h;subst hS;rfl
 have qC:=Lib.hid hp;have HAT:=Lib.hid hat;clear hp hat;rcases aoT l.length with h0 | h0
 ·have hne:S.toList.isEmpty=true:=by
   rw [hS,ByteArray.toList_mk]
   cases l with
   | nil=>rfl
   | cons x l=>simp at h0
  rw [<- hS];clear hS
  go_enter Tryz.func164,Tryz.ntmps164
  go_wp2_with fail
  go_ret
  exact ⟨rfl,rfl⟩
 have hne:S.toList.isEmpty=false:=by
  rw [hS,ByteArray.toList_mk]
  cases l with
  | nil=>simp at h0
  | cons x l=>rfl
 have hs0:0<S.size:=af;rw [<- hS];obtain ⟨b,hb⟩ : ∃ b,b=(l[0]'h0).toNat:=⟨_,rfl⟩;have hsb:((S[0]'hs0).toNat:Int)=(b:Int):=by rw [HAT.out 0 hs0,hb]
 have HB:=Lib.hid hb;clear hb hS
 go_enter Tryz.func164,Tryz.ntmps164
 by_cases h48:b=48
 ·by_cases h1:1<l.length
  ·go_wp2_with fail
   go_ret
   exact ⟨rfl,rfl⟩
  have h1':l.length=1:=af
  go_wp2_with fail
  go_loopw [18] (fun iv wr => ∃ i:Nat,i<=l.length/\iv = .int .i64 i/\Hid (dn (l.take i))/\w=wr) (fun iv _=>l.length-(intOf iv).toNat)
  case atStart=>exact ⟨0,aoI _,rfl,Lib.hid (by intro x hx;simp at hx),rfl⟩
  case round =>
   obtain ⟨i,hi,rfl,hdg,rfl⟩:=hrel
   by_cases hil:i<l.length
   ·have hks:i<S.size:=af
    obtain ⟨d,hdd⟩ : ∃ d,d=(l[i]'hil).toNat:=⟨_,rfl⟩;have hsk:((S[i]'hks).toNat:Int)=(d:Int):=by rw [HAT.out i hks,hdd]
    have rW:Hid (48<=d/\d<=57->dn (l.take (i+1))):=Lib.hid (fun hh=>uQ hil hdg.out (by rw [<- hdd];exact hh));clear hdd
    by_cases hd1:d<48
    ·go_wp2_with fail
     go_ret
     exact ⟨rfl,rfl⟩
    ·by_cases hd2:57<d
     ·go_wp2_with fail
      go_ret
      exact ⟨rfl,rfl⟩
     ·go_wp2_with fail
      go_roundw
      case rel=>exact ⟨i+1,af,by go_num,Lib.hid (rW.out ⟨af,af⟩),trivial⟩
      case measure=>simp [intOf];omega
   ·obtain rfl:i=l.length:=af
    exfalso;refine qC.out ⟨h0,?_,?_⟩
    ·have:=hdg.out;rwa [ao7] at this
    ·intro h1 hh;rw [<- HB.out];omega
 ·have hbi:((b:Int)==48)=false:=by rw [beq_eq_false_iff_ne];omega
  have UU:=Lib.hid h48
  go_wp2_with fail
  go_loopw [18] (fun iv wr => ∃ i:Nat,i<=l.length/\iv = .int .i64 i/\Hid (dn (l.take i))/\w=wr) (fun iv _=>l.length-(intOf iv).toNat)
  case atStart=>exact ⟨0,aoI _,rfl,Lib.hid (by intro x hx;simp at hx),rfl⟩
  case round =>
   obtain ⟨i,hi,rfl,hdg,rfl⟩:=hrel
   by_cases hil:i<l.length
   ·have hks:i<S.size:=af
    obtain ⟨d,hdd⟩ : ∃ d,d=(l[i]'hil).toNat:=⟨_,rfl⟩;have hsk:((S[i]'hks).toNat:Int)=(d:Int):=by rw [HAT.out i hks,hdd]
    have rW:Hid (48<=d/\d<=57->dn (l.take (i+1))):=Lib.hid (fun hh=>uQ hil hdg.out (by rw [<- hdd];exact hh));clear hdd
    by_cases hd1:d<48
    ·go_wp2_with fail
     go_ret
     exact ⟨rfl,rfl⟩
    ·by_cases hd2:57<d
     ·go_wp2_with fail
      go_ret
      exact ⟨rfl,rfl⟩
     ·go_wp2_with fail
      go_roundw
      case rel=>exact ⟨i+1,af,by go_num,Lib.hid (rW.out ⟨af,af⟩),trivial⟩
      case measure=>simp [intOf];omega
   ·obtain rfl:i=l.length:=af
    exfalso;refine qC.out ⟨h0,?_,?_⟩
    ·have:=hdg.out;rwa [ao7] at this
    ·intro h1 hh;rw [<- HB.out];exact UU.out
def FQ(w:World)(z:Int)(e:Ending)(w':World):Prop:=e = .returned (.tuple #[.agg #[.bool false,.slice none 0 0],.iface 88 (.int .i64 z)])/\Below w.heap.size w w'
set_option maxRecDepth 100000 in
set_option maxHeartbeats 3200000 in
theorem acd(l:List UInt8)(w:World)(h45 : ∀ h:0<l.length,(l[0]'h).toNat≠45)(hg:¬Fits false l)(hl:l.length<=65536) :
  Calls Tryz.prog 119 #[.string ⟨l.toArray⟩] w (FQ w 2):=by
 have hp':=fun W=>Qx l W (fun h=>hg ⟨h,fun hh=>by cases hh.1⟩) hl;obtain ⟨S,hS⟩ : ∃ S:ByteArray,S=⟨l.toArray⟩:=⟨_,rfl⟩;have hsz:S.size=l.length:=by rw [hS];simp [ByteArray.size]
 have hat : ∀ k (h:k<S.size),(S[k]'h).toNat=(l[k]'af).toNat:=by intro k h;subst hS;rfl
 rw [<- hS] at hp' ⊢;have HP:=Lib.hid hp';have HAT:=Lib.hid hat;have Bq:=Lib.hid h45;clear hp' hat hg hS h45;rcases aoT l.length with h0 | h0
 ·go_enter an3,an4
  go_wp2_with fail
  refine (HP.out _).mono ?_;rintro e w1 ⟨rfl,rfl⟩;obtain ⟨d0,d1,g0,g1⟩:=(Two.new w 79 (.bool false) (.slice none 0 0)).facts
  go_wp2_with fail
  refine bodyPost_ret (v := .tuple #[.agg #[.bool false,.slice none 0 0],.iface 88 (.int .i64 2)]) (by simp [results,Tryz.results119,go_sem,d0,d1]) rfl ?_;exact ⟨rfl,(Below.refl w.heap.size w).alloc (aoG _) _⟩
 ·have hs0:0<S.size:=af
  obtain ⟨b,hb⟩ : ∃ b,b=(l[0]'h0).toNat:=⟨_,rfl⟩;have hsb:((S[0]'hs0).toNat:Int)=(b:Int):=by rw [HAT.out 0 hs0,hb]
  have hb2:((b:Int)==45)=false:=by rw [beq_eq_false_iff_ne];have:=Bq.out h0;omega
  clear hb
  go_enter an3,an4
  go_wp2_with fail
  refine (HP.out _).mono ?_;rintro e w1 ⟨rfl,rfl⟩;obtain ⟨d0,d1,g0,g1⟩:=(Two.new w 79 (.bool false) (.slice none 0 0)).facts
  go_wp2_with fail
  refine bodyPost_ret (v := .tuple #[.agg #[.bool false,.slice none 0 0],.iface 88 (.int .i64 2)]) (by simp [results,Tryz.results119,go_sem,d0,d1]) rfl ?_;exact ⟨rfl,(Below.refl w.heap.size w).alloc (aoG _) _⟩
set_option maxRecDepth 100000 in
set_option maxHeartbeats 3200000 in
theorem ab9(l:List UInt8)(w:World)(hg:¬Fits true l)(hl:l.length+1<=65536) :
  Calls Tryz.prog 119 #[.string ⟨(45::l).toArray⟩] w (FQ w 2):=by
 obtain ⟨D,hD⟩ : ∃ D:ByteArray,D=⟨l.toArray⟩:=⟨_,rfl⟩;obtain ⟨S,hS⟩ : ∃ S:ByteArray,S=⟨(45::l).toArray⟩:=⟨_,rfl⟩;obtain ⟨M,hM⟩ : ∃ M,M=l.length+1:=⟨_,rfl⟩;have hsz:S.size=M:=by rw [hS,hM];simp [ByteArray.size]
 have hs0:0<S.size:=af;have hM1:1<=M:=af;have hM2:M<=65536:=af;obtain ⟨b,hb⟩ : ∃ b:Nat,b=45:=⟨_,rfl⟩;have hsb:((S[0]'hs0).toNat:Int)=(b:Int):=by subst hS;rw [hb];rfl
 have CS:((b:Int)==45)=true:=by rw [hb];rfl
 have hx1:S.extract 1 M=D:=by rw [hS,hD,hM,yZ];simp
 rw [<- hS]
 by_cases hp:Plain l
 ·have h48:l=[48]:=by
   rcases Classical.em (l=[48]) with h | h
   ·exact h
   ·exact absurd ⟨hp,fun hh=>h hh.2⟩ hg
  have hp':=fun W=>DF l W hp af;have Zq:(D.toList==[48])=true:=by rw [hD,ByteArray.toList_mk,h48];rfl
  rw [<- hD] at hp';have HP:=Lib.hid hp';clear hp' hD hS h48 hb hM hl hp hg
  go_enter an3,an4
  go_wp2_with fail
  refine (HP.out _).mono ?_;rintro e w1 ⟨rfl,rfl⟩;obtain ⟨d0,d1,g0,g1⟩:=(Two.new w 79 (.bool false) (.slice none 0 0)).facts
  go_wp2_with fail
  refine bodyPost_ret (v := .tuple #[.agg #[.bool false,.slice none 0 0],.iface 88 (.int .i64 2)]) (by simp [results,Tryz.results119,go_sem,d0,d1]) rfl ?_;exact ⟨rfl,(Below.refl w.heap.size w).alloc (aoG _) _⟩
 ·have hp':=fun W=>Qx l W hp af
  rw [<- hD] at hp';have HP:=Lib.hid hp';clear hp' hD hS hb hM hl hp hg
  go_enter an3,an4
  go_wp2_with fail
  refine (HP.out _).mono ?_;rintro e w1 ⟨rfl,rfl⟩;obtain ⟨d0,d1,g0,g1⟩:=(Two.new w 79 (.bool false) (.slice none 0 0)).facts
  go_wp2_with fail
  refine bodyPost_ret (v := .tuple #[.agg #[.bool false,.slice none 0 0],.iface 88 (.int .i64 2)]) (by simp [results,Tryz.results119,go_sem,d0,d1]) rfl ?_;exact ⟨rfl,(Below.refl w.heap.size w).alloc (aoG _) _⟩
theorem Qs(l:List UInt8)(w:World)(hl:l.length<=400) :
  Calls Tryz.prog 119 #[.string ⟨l.toArray⟩] w fun e w'=>(∃ z,l=Lib.itoa z/\BK w z e w')\/((∀ z,l≠Lib.itoa z)/\FQ w 2 e w'):=by
 rcases Classical.em (∃ z,l=Lib.itoa z) with ⟨z,h⟩ | h
 ·subst h
  refine (parse_any z w ?_).mono fun e w' hh => .inl ⟨z,rfl,hh⟩
  cases hz:sg z
  ·rw [je hz,ao3] at hl;omega
  ·rw [itoa_neg hz,apO,ao5] at hl;omega
 ·have h' : ∀ z,l≠Lib.itoa z:=fun z e=>h ⟨z,e⟩
  by_cases h45 : ∀ h:0<l.length,(l[0]'h).toNat≠45
  ·exact (acd l w h45 (fun hg=>h' _ (Gz hg)) af).mono fun e w' hh => .inr ⟨h',hh⟩
  ·obtain ⟨d,rfl⟩ : ∃ d,l=45::d:=by
    cases l with
    | nil=>exact absurd (fun h=>by simp at h) h45
    | cons x d =>
     refine ⟨d,?_⟩;rcases Classical.em (x.toNat=45) with hx | hx
     ·rw [show x=45 from UInt8.toNat_inj.1 hx]
     ·exact absurd (fun _=>hx) h45
   exact (ab9 d w (fun hg=>h' _ (NT hg)) (by clear h45;have h9:=hl;rw [ao5] at h9;omega)).mono fun e w' hh => .inr ⟨h',hh⟩
set_option maxRecDepth 100000 in
set_option maxHeartbeats 3200000 in
theorem aaJ(l:List UInt8)(r:Bool)(w:World)(hr:r=true↔0<l.length/\dn l)(hl:l.length<=65536) :
  Calls Tryz.prog 160 #[.string ⟨l.toArray⟩] w fun e w'=>e = .returned (.bool r)/\w=w':=by
 obtain ⟨S,hS⟩ : ∃ S:ByteArray,S=⟨l.toArray⟩:=⟨_,rfl⟩;have hsz:S.size=l.length:=by rw [hS];simp [ByteArray.size]
 have hat : ∀ k (h:k<S.size),(S[k]'h).toNat=(l[k]'af).toNat:=by intro k h;subst hS;rfl
 have hne:S.toList.isEmpty=decide (l.length=0):=by
  rw [hS,ByteArray.toList_mk]
  cases l with
  | nil=>rfl
  | cons x l=>rfl
 have HR:=Lib.hid hr;have HAT:=Lib.hid hat;have BD:=Lib.hid hne;clear hr hat hne;rw [<- hS];clear hS
 go_enter Tryz.func160,Tryz.ntmps160
 go_wp2_with fail
 go_loopw [6] (fun iv wr => ∃ i:Nat,i<=l.length/\iv = .int .i64 i/\Hid (dn (l.take i))/\w=wr) (fun iv _=>l.length-(intOf iv).toNat)
 case atStart=>exact ⟨0,aoI _,rfl,Lib.hid (by intro x hx;simp at hx),rfl⟩
 case round =>
  obtain ⟨i,hi,rfl,hdg,rfl⟩:=hrel
  by_cases hil:i<l.length
  ·have hks:i<S.size:=af
   obtain ⟨d,hdd⟩ : ∃ d,d=(l[i]'hil).toNat:=⟨_,rfl⟩;have hsk:((S[i]'hks).toNat:Int)=(d:Int):=by rw [HAT.out i hks,hdd]
   have rW:Hid (48<=d/\d<=57->dn (l.take (i+1))):=Lib.hid (fun hh=>uQ hil hdg.out (by rw [<- hdd];exact hh))
   have lH:Hid (¬(48<=d/\d<=57)->false=r):=Lib.hid (fun hh=>by
    cases hrr:r
    ·rfl
    ·exfalso
     refine hh ?_;rw [hdd];exact (HR.out.1 hrr).2 _ (ao9 hil))
   clear hdd
   by_cases hd1:d<48
   ·go_wp2_with fail
    go_ret
    exact ⟨iP (lH.out af),rfl⟩
   ·by_cases hd2:57<d
    ·go_wp2_with fail
     go_ret
     exact ⟨iP (lH.out af),rfl⟩
    ·go_wp2_with fail
     go_roundw
     case rel=>exact ⟨i+1,af,by go_num,Lib.hid (rW.out ⟨af,af⟩),trivial⟩
     case measure=>simp [intOf];omega
  ·obtain rfl:i=l.length:=af
   have hD:dn l:=by have:=hdg.out;rwa [ao7] at this
   by_cases h0:l.length=0
   ·have hne:=BD.out
    rw [decide_eq_true h0] at hne
    have HF:Hid (false=r):=Lib.hid (by
     cases hrr:r
     ·rfl
     ·have:=(HR.out.1 hrr).1;omega)
    clear hD
    go_wp2_with fail
    go_ret
    exact ⟨iP HF.out,rfl⟩
   ·have hne:=BD.out
    rw [decide_eq_false h0] at hne;have HF:Hid (true=r):=Lib.hid (HR.out.2 ⟨af,hD⟩).symm;clear hD
    go_wp2_with fail
    go_ret
    exact ⟨iP HF.out,rfl⟩
section
variable {W0 w:World} {bs:List Bx} {L:List En} {ts:List Bt} {M:List Qn}
set_option maxRecDepth 100000 in
set_option maxHeartbeats 3200000 in
theorem abV(l:List UInt8)(HE:bu W0 w bs L ts M)(hd:dn l)(hl:l.length<=1000) :
  Calls Tryz.prog 161 #[.string ⟨l.toArray⟩] w (fC W0 bs L ts M (bG l:Int) (6*l.length+1)):=by
 refine Calls.mono (R:=fC w [] L [] M (bG l:Int) (6*l.length+1)) ?_ fun _ _ hh=>fC.of HE hh;obtain ⟨S,hS⟩ : ∃ S:ByteArray,S=⟨l.toArray⟩:=⟨_,rfl⟩;have hsz:S.size=l.length:=by rw [hS];simp [ByteArray.size]
 have hat : ∀ k (h:k<S.size),(S[k]'h).toNat=(l[k]'af).toNat:=by intro k h;subst hS;rfl
 have HAT:=Lib.hid hat;have HD:=Lib.hid hd;clear hat hd;rw [<- hS];clear hS;replace HE:=HE.here.bV (.bool false) (.slice none 0 0);obtain ⟨q0,q1,q2,q3⟩:=HE.c2 ak
 go_enter Tryz.func161,Tryz.ntmps161
 go_wp2_with fail
 refine (tJ HE af af).mono ?_;clear HE;rintro e w1 ⟨s0,D0,m0,d0,rfl,HE⟩;have EY:=Lib.hid (HE.PL ak);replace HE:=(HE.bV (.bool false) (.slice none 0 0)).bV (.bool s0) (.slice D0 m0 d0);simp only [World.size_alloc] at HE;clear q0 q1 q2 q3
 go_wp2_with fail
 go_loopw [10] (fun iv wr => ∃ (i:Nat) (s1:Bool) (D1:Option Addr) (m1 d1:Nat),i<=l.length/\iv = .int .i64 i/\bu w wr [⟨w1.heap.size+1,.bool s0,.slice D0 m0 d0⟩,⟨w1.heap.size,.bool s1,.slice D1 m1 d1⟩,⟨w.heap.size,.bool false,.slice none 0 0⟩] (⟨.agg #[.bool s1,.slice D1 m1 d1],(bG (l.take i):Int),6*i+1,true⟩::⟨.agg #[.bool s0,.slice D0 m0 d0],10,2,true⟩::L) [] M) (fun iv _=>l.length-(intOf iv).toNat)
 case atStart=>exact ⟨0,false,none,0,0,aoI _,rfl,HE.push ⟨false,none,0,0,[],0,rfl,Rd.nil_ _ _ _,aoI _,rfl,aoI _,aoG _,rfl,rfl⟩⟩
 case round =>
  clear HE;obtain ⟨i,s1,D1,m1,d1,hi,rfl,HE⟩:=hrel
  by_cases hil:i<l.length
  ·have hks:i<S.size:=af
   obtain ⟨d,hdd⟩ : ∃ d,d=(l[i]'hil).toNat:=⟨_,rfl⟩;have hsk:((S[i]'hks).toNat:Int)=(d:Int):=by rw [HAT.out i hks,hdd]
   have hdb:=HD.out _ (ao9 hil);rw [<- hdd] at hdb;obtain ⟨c,hc⟩ : ∃ c:Nat,d=c+48:=⟨d-48,af⟩
   have HV:=Lib.hid (show (bG (l.take i):Int)*10+(c:Int)=(bG (l.take (i+1)):Int) by
    rw [aqk hil,Cj,<- hdd];omega)
   subst hc;have e1:IntKind.u8.wrap (((c+48:Nat):Int)-48)=(c:Int):=by rw [IntKind.wrap_u8];omega
   have e2:IntKind.i64.wrap (c:Int)=(c:Int):=Ua af af;have e3:IntKind.u8.wrap (c:Int)=(c:Int):=by rw [IntKind.wrap_u8];omega
   have HC:=Lib.hid (show (-9223372036854775808:Int)<=c/\(c:Int)<=9223372036854775807/\6*i+1<=7000 from ⟨af,af,af⟩);clear hdd hdb;obtain ⟨q0,q1,q2,q3⟩:=HE.c2 au;obtain ⟨q4,q5,q6,q7⟩:=HE.c2 ak
   go_wp2_with fail
   go_region_with
    (first
     | (go_at_call 69;refine (Di (by with_reducible first | exact HE | exact HE.drew) ak au (by have:=HC.out;omega)).mono ?_;rintro e wm ⟨sa,Da,ma,da,rfl,HE⟩)
     | (go_at_call 121;refine (tJ (z:=(c:Int)) (by with_reducible first | exact HE | exact HE.drew) HC.out.1 HC.out.2.1).mono ?_;rintro e wo ⟨sb,Db,mb,db,rfl,HE⟩)
     | (go_at_call 70;refine (O0 (by with_reducible first | exact HE | exact HE.drew) au ak (by have:=HC.out;omega)).mono ?_;rw [HV.out];rintro e wn ⟨sx,Ax,nx,cx,rfl,HE⟩;obtain ⟨z0,z1,z2,z3⟩:=HE.c2 au))
   all_goals
    clear q0 q1 q2 q3 q4 q5 q6 q7;have hA:=EY.out;replace HE:=HE.iF au [⟨w1.heap.size+1,.bool s0,.slice D0 m0 d0⟩,⟨w.heap.size,.bool false,.slice none 0 0⟩] (fun b hb=>by simp only [List.mem_cons,List.not_mem_nil,or_false] at hb;rcases hb with rfl | rfl <;> exact ⟨(by repeat (first | exact aZ | refine .tail _ ?_)),by dsimp only;omega⟩) sx (.slice Ax nx cx);clear hA z0 z1 z2 z3
    go_wp2_with fail
    go_roundw
    case rel =>
     refine ⟨i+1,sx,Ax,nx,cx,af,by go_num,?_⟩
     have HF:=(HE.hdi (K:=6*(i+1)+1) (·.weak af)).pick (L':=_::_::L) (fun e he=>by
      rcases List.mem_cons.1 he with rfl | he
      ·exact ak
      ·rcases List.mem_cons.1 he with rfl | he
       ·exact aA
       ·exact .tail _ (.tail _ (.tail _ (.tail _ (.tail _ he))))) (fun _ he=>he)
     exact (((HF.Ej).Ej).Ej.bare.BL (HF.two ay) (HF.lo _ ay)).BL (HF.two ak) (HF.lo _ ak) |>.BL (HF.two au) (HF.lo _ au)
    case measure=>simp [intOf];omega
  ·obtain rfl:i=l.length:=af
   rw [ao7] at HE;obtain ⟨q0,q1,q2,q3⟩:=HE.c2 au;obtain ⟨q4,q5,q6,q7⟩:=HE.c2 ay
   go_wp2_with fail
   have HF:=HE.done2 ay s1 (.slice D1 m1 d1);refine bodyPost_ret (v := .agg #[.bool s1,.slice D1 m1 d1]) (by simp [results,Tryz.results161,go_sem,q4,q5]) rfl ?_;exact ⟨_,_,_,_,rfl,HF.pick (fun _ he=>by rcases List.mem_cons.1 he with rfl | he;exact ak;exact .tail _ (.tail _ he)) (fun _ he=>he)⟩
end
end Go.Proofs.BGQ
namespace Lw
open Go Go.RowKit
theorem acz{z:Int}{k m:Nat}(h:z.natAbs<pw k):(z^m).natAbs<pw (k*m+1):=by
 rw [Int.natAbs_pow];have h1:z.natAbs^m<=pw k^m:=aqh (aoZ h) m;have h2:pw k^m=pw (k*m):=by unfold pw;rw [<- apn]
 have:=jf (k*m);rw [dV];omega
theorem aeR{n j:Nat} : n/2^j=2*(n/2^(j+1))+n/2^j%2:=by
 have:n/2^(j+1)=n/2^j/2:=by rw [aoY,apV]
 omega
end Lw
namespace Go.Proofs.BGQ
open Go Go.RowKit Lw
section
variable {W0 w:World} {bs:List Bx} {L:List En} {ts:List Bt} {M:List Qn} {s s':Bool} {A A' B B':Option Addr} {n c n' c' m d m' d' k k':Nat} {x:Int}
set_option maxRecDepth 100000 in
set_option maxHeartbeats 3200000 in
theorem acW(HE:bu W0 w bs L ts M)(h:⟨.agg #[.bool s,.slice A n c],x,k,true⟩∈L)(hk:k<=100)(hm:m<=100)(hx:x.natAbs<pw k) :
  Calls Tryz.prog 162 #[.agg #[.bool s,.slice A n c],.int .i64 m] w (fC W0 bs L ts M (x^m) (k*m+1)):=by
 refine Calls.mono (R:=fC w [] L [] M (x^m) (k*m+1)) ?_ fun _ _ hh=>fC.of HE hh;have HX:=Lib.hid hx;have hbl:Lib.bitLen m<=7:=Lib.bitLen_le m 7 af af;have hu:IntKind.u64.wrap (m:Int)=(m:Int):=IntWalk.u64_in _ af;have HB:=Lib.hid (show Lib.bitLen ((m:Int)).toNat=Lib.bitLen m by rw [apF]);replace HE:=(HE.here.bV (.bool s) (.slice A n c)).bV (.bool false) (.slice none 0 0);simp only [World.size_alloc] at HE;obtain ⟨q0,q1,q2,q3⟩:=HE.c2 ak;obtain ⟨q4,q5,q6,q7⟩:=HE.c2 au;clear hx
 go_enter Tryz.func162,Tryz.ntmps162
 go_wp2_with fail
 refine (tJ HE af af).mono ?_;clear HE;rintro e w1 ⟨s0,D0,m0,d0,rfl,HE⟩;have hlA:=HE.PL ak;replace HE:=HE.bV (.bool s0) (.slice D0 m0 d0);clear q0 q1 q2 q3 q4 q5 q6 q7
 go_wp2_with fail
 refine (Tryz.bits_Len _ _ af af).mono ?_;rw [HB.out];rintro e w2 ⟨rfl,rfl⟩;obtain ⟨t,ht⟩ : ∃ t,t=Lib.bitLen m:=⟨_,rfl⟩;have HT:=Lib.hid ht;rw [<- ht] at hbl ⊢;clear ht;have ht1:IntKind.i64.wrap ((t:Int)-1)=(t:Int)-1:=Ua af af;replace HE:=HE.hdi (K:=k*m+1) (·.tight (by have:=dV (k*m);have:=jf (k*m);show 1<_;omega));have HS:=Lib.hid (show m/2^t=0 from ape (by rw [HT.out];exact (show ∀ n:Fin 101,n.val<2^Lib.bitLen n.val by decide +kernel) ⟨m,af⟩))
 go_wp2_with fail
 go_loopw [6] (fun iv wr => ∃ (j:Nat) (s1:Bool) (D1:Option Addr) (m1 d1:Nat),j<=t/\iv = .int .i64 ((j:Int)-1)/\bu w wr [⟨w1.heap.size,.bool s1,.slice D1 m1 d1⟩,⟨w.heap.size+1,.bool false,.slice none 0 0⟩,⟨w.heap.size,.bool s,.slice A n c⟩] (⟨.agg #[.bool s1,.slice D1 m1 d1],x^(m/2^j),k*m+1,true⟩::L) [] M) (fun iv _=>(intOf iv+1).toNat)
 case atStart=>exact ⟨t,s0,D0,m0,d0,aoG _,rfl,by rw [HS.out,apY];exact HE⟩
 case round =>
  clear HE;obtain ⟨j,s1,D1,m1,d1,hj,rfl,HE⟩:=hrel
  by_cases hj0:j=0
  ·subst hj0
   rw [Nat.pow_zero,ap7] at HE;obtain ⟨q0,q1,q2,q3⟩:=HE.c2 ak;obtain ⟨q4,q5,q6,q7⟩:=HE.c2 au;clear hlA
   go_wp2_with fail
   have HF:=HE.done2 au s1 (.slice D1 m1 d1);refine bodyPost_ret (v := .agg #[.bool s1,.slice D1 m1 d1]) (by simp [results,Tryz.results162,go_sem,q4,q5]) rfl ?_;exact ⟨_,_,_,_,rfl,HF⟩
  ·obtain ⟨i,rfl⟩ : ∃ i,j=i+1:=⟨j-1,af⟩
   obtain ⟨q0,q1,q2,q3⟩:=HE.c2 ak;have hi1:((i+1:Nat):Int)-1=(i:Int):=af;rw [hi1];have HV:=Lib.hid (show x^(m/2^(i+1))*x^(m/2^(i+1))=x^(2*(m/2^(i+1))) by rw [<- Int.pow_add];congr 1;omega);have KI:=Lib.hid (show k*m<=10000 from apl hk hm)
   go_wp2_with fail
   refine (Di HE ak ak (by have:=KI.out;omega)).mono ?_;rw [HV.out];clear HE;rintro e w3 ⟨s2,D2,m2,d2,rfl,HE⟩;clear q0 q1 q2 q3;have EY:=Lib.hid hlA;have HE2:=HE.iF ak [⟨w.heap.size+1,.bool false,.slice none 0 0⟩,⟨w.heap.size,.bool s,.slice A n c⟩] (fun b hb=>by simp only [List.mem_cons,List.not_mem_nil,or_false] at hb;rcases hb with rfl | rfl <;> exact ⟨(by repeat (first | exact aZ | refine .tail _ ?_)),by dsimp only;omega⟩) s2 (.slice D2 m2 d2);obtain ⟨q0,q1,q2,q3⟩:=HE.c2 ak;obtain ⟨q4,q5,q6,q7⟩:=HE2.c2 ak;obtain ⟨q8,q9,q10,q11⟩:=HE2.c2 ay;clear HE hlA;have hdv:m/2^i<=m:=ao4 _ _;have yD:=Lib.hid (show (x^(m/2^i)).natAbs<pw (k*m+1) from aoK (acz HX.out) (dU (Nat.succ_le_succ (aoS k hdv))));have hsh:=aeR (n:=m) (j:=i);obtain ⟨P,hP⟩ : ∃ P,P=m/2^i:=⟨_,rfl⟩;have hPI:(m:Int)/2^i=(P:Int):=by rw [hP,ap1,Int.natCast_pow];rfl
   rw [<- hP] at hdv yD hsh;have HP:=Lib.hid hP;have hbt:=(show ∀ n:Fin 101,bits BinOp.and IntKind.i64 (n.val:Int) 1=((n.val%2:Nat):Int) by decide +kernel) ⟨P,af⟩;dsimp only at hbt
   by_cases hb:P%2=1
   ·rw [hb] at hbt hsh
    have hbi:bits BinOp.and IntKind.i64 (P:Int) 1=1:=hbt;have Fv:=Lib.hid (show x^(2*(m/2^(i+1)))*x=x^P by rw [hsh,apQ]);clear hb hbt hsh hP hdv
    go_wp2_with fail
    refine (Di HE2 ak (.tail _ (.tail _ h)) (by have:=KI.out;omega)).mono ?_;rw [Fv.out];clear HE2;rintro e w4 ⟨s3,D3,m3,d3,rfl,HE⟩;clear q0 q1 q2 q3 q4 q5 q6 q7 q8 q9 q10 q11;have U6:=HE.iF ak [⟨w.heap.size+1,.bool false,.slice none 0 0⟩,⟨w.heap.size,.bool s,.slice A n c⟩] (fun b hb=>by have:=EY.out;simp only [List.mem_cons,List.not_mem_nil,or_false] at hb;rcases hb with rfl | rfl <;> exact ⟨(by repeat (first | exact aZ | refine .tail _ ?_)),by dsimp only;omega⟩) s3 (.slice D3 m3 d3);obtain ⟨q0,q1,q2,q3⟩:=HE.c2 ak;clear HE
    go_wp2_with fail
    go_roundw
    case rel =>
     refine ⟨i,s3,D3,m3,d3,af,rfl,?_⟩;rw [<- HP.out];exact (U6.hdi (·.tight yD.out)).pick (fun _ he=>by rcases List.mem_cons.1 he with rfl | he;exact ak;exact .tail _ (.tail _ (.tail _ he))) (fun _ he=>he)
    case measure=>simp [intOf]
   ·have hb0:P%2=0:=af
    rw [hb0] at hbt hsh;have hbi:bits BinOp.and IntKind.i64 (P:Int) 1=0:=hbt;have Fv:=Lib.hid (show x^(2*(m/2^(i+1)))=x^P by rw [hsh];rfl);clear hb hb0 hbt hsh hP hdv
    go_wp2_with fail
    rw [Fv.out] at HE2
    go_roundw
    case rel =>
     refine ⟨i,s2,D2,m2,d2,af,rfl,?_⟩;rw [<- HP.out];exact (HE2.hdi (·.tight yD.out)).pick (fun _ he=>by rcases List.mem_cons.1 he with rfl | he;exact ak;exact .tail _ (.tail _ he)) (fun _ he=>he)
    case measure=>simp [intOf]
end
end Go.Proofs.BGQ
namespace bI
open Go Go.RowKit
section
variable {P:Program} {ρ:Operand->Value} {w:World} {dst:Option Tmp} {ty:TypeId} {pos:String} {bD:Array Edge} {gd:Option (Nat×Bool)}
theorem xH{t t':TypeId}{x y:Operand}{k:IntKind}{a b c:Int}(hx:ρ x = .int k a)(hy:ρ y = .int k b)(h:k.wrap (a-b)=c):(execOp ρ ⟨dst,.binOp .sub t x y t',ty,pos,bD,gd⟩).run P w = .ok (.value (.int k c)) w :=
 Ry hx hy (by rw [<- h];rfl) (.inr (.inl rfl))
theorem Ar{t t':TypeId}{x y:Operand}{k:IntKind}{a b:Int}{c:Bool}(hx:ρ x = .int k a)(hy:ρ y = .int k b)(h:decide (a<=b)=c):(execOp ρ ⟨dst,.binOp .leq t x y t',ty,pos,bD,gd⟩).run P w = .ok (.value (.bool c)) w :=
 Ap hx hy (by rw [<- h];rfl) (.inr (.inl rfl))
theorem aem{x:Operand}{t:TypeId}{b:ByteArray}(hx:ρ x = .string b)(hu : ∀ w,(underlying t).run P w = .ok .string w):(execOp ρ ⟨dst,.call ⟨.builtin .len,#[x],#[t]⟩,ty,pos,bD,gd⟩).run P w = .ok (.value (.int .i64 b.size)) w:=by
 simp [execOp,resolve,invoke,builtin,Builtin.len_,hx,hu,goInt]
end
section
variable {P:Program} {ops:Array Oper} {Q:Exit->Act->World->Prop} {late:List Nat} {S:World->Prop} {N:Nat} {T:List (Nat×Value)} {W0 w w':World} {U:List Box} {Ps:List (World->Prop)}
variable {fuel d i:Nat} {listed listed':Array Bool} {o:Oper} {v:Value}
theorem JL.sJ{id:Nat}{c:Code}{T':List (Nat×Value)}(hT : ∀ t v,bT T' t=some v->bT T t=some v)(h:JC P c Q N T' w):JL P ops (Exit.inBlock id (Exit.then (c.wp P Q) Q)) [] N T w:=fun a ha=>h a (ha.sub hT)
theorem JR.sJ{id:Nat}{c:Code}{T':List (Nat×Value)}(hr:Region.ready .any ops listed=[])(hT : ∀ t v,bT T' t=some v->bT T t=some v)(h:JC P c Q N T' w):JR P ops (Exit.inBlock id (Exit.then (c.wp P Q) Q)) late S fuel listed N T w:=JR.done hr fun a ha=>h a (ha.sub hT)
end
end bI
namespace bI
open Go Go.RowKit
section
variable {P:Program} {ρ:Operand->Value} {w:World} {dst:Option Tmp} {ty:TypeId} {pos:String} {bD:Array Edge} {gd:Option (Nat×Bool)}
theorem xC{s t:TypeId}{x:Operand}{k k':IntKind}{n m:Int}{d:TypeDesc}(hx:ρ x = .int k n)(hs : ∀ w,(underlying s).run P w = .ok d w)(hd : ∀ w,(underlying t).run P w = .ok (.int k') w)(h:k'.wrap n=m) :
  (execOp ρ ⟨dst,.convert s t x,ty,pos,bD,gd⟩).run P w = .ok (.value (.int k' m)) w:=by
 subst h;simp [execOp,hx,convert,hs,hd,Conv.intToInt]
end
section
variable {P:Program} {ops:Array Oper} {Q:Exit->Act->World->Prop} {late:List Nat} {S:World->Prop} {N d fuel:Nat} {T:List (Nat×Value)} {w:World} {U:List Box} {listed:Array Bool} {o:Oper} {v:Value}
theorem Jp{op:Op}{ty:TypeId}{pos:String}{bD:Array Edge}{j:Nat}{want b:Bool}{oj:Oper}{t:Nat}(i:Nat)(hc:lZ ops late listed i=true)(hi:ops[i]? = some ⟨some d,op,ty,pos,bD,some (j,want)⟩)(hN:Nat.ble (d+1) N=true)(hq : ∀ c a w,Q (.panic c) (a.put (some d) undef) w->Q (.panic c) a w)(hj:ops[j]? = some oj)(hdj:oj.dst=some t)(dG:Nat.ble (t+1) N=true)(hv:bT T t=some (.bool b))(hb:(b==want)=false)(hS:dw late listed->S w)(h:JR P ops Q late S fuel (listed.setIfInBounds i true) N ((d,undef)::T) w):JR P ops Q late S (fuel+1) listed N T w :=
 have ⟨a,b,c,e⟩:=Ik hc
 JR.pass i hi a b c e hq rfl hN rfl hj hdj dG hv hb hS rfl h
end
end bI
namespace bI
open Go Go.RowKit
section
variable {P:Program} {ops:Array Oper} {Q:Exit->Act->World->Prop} {late:List Nat} {S:World->Prop} {N d i:Nat} {fuel:Nat} {T:List (Nat×Value)} {w:World} {listed:Array Bool} {rest:List Oper} {x y z:Operand} {v:Value} {ty t t':TypeId} {pos:String} {bD:Array Edge} {k:IntKind} {a b n c j:Nat} {A:Option Addr} {id:Nat} {l:List Oper} {m u:Code}
theorem Lb{p q:Int}(hx:ev T x=some (.int k p))(hy:ev T y=some (.int k q))(h:JL P ops Q rest N ((d,.bool (decide (p<q)))::T) w)(hN:Nat.ble (d+1) N=true:=by rfl):JL P ops Q (⟨some d,.binOp .lss t x y t',ty,pos,bD,none⟩::rest) N T w:=JL.val rfl rfl hN (fun _ ha=>dX (ha.ev hx) (ha.ev hy) rfl) h
theorem Dx{vs:Array Value}{e:Nat}(i:Nat)(hi:ops[i]? = some ⟨some d,.extract x e,ty,pos,bD,none⟩)(hS:dw late listed->S w)(hx:ev T x=some (.tuple vs))(hv:vs[e]? = some v)(h:JR P ops Q late S fuel (listed.setIfInBounds i true) N ((d,v)::T) w)(hc:lZ ops late listed i=true:=by kernel_rfl)(hN:Nat.ble (d+1) N=true:=by rfl)(hq : ∀ c a w,Q (.panic c) (a.put (some d) v) w->Q (.panic c) a w:=by exact fun _ _ _ h=>h):JR P ops Q late S (fuel+1) listed N T w:=Dv v i hi hS (fun _ ha _=>Rw (ha.ev hx) hv) h hc hN hq
theorem Jw{ι:Type}(p:ι->Nat)(T':ι->List (Nat×Value))(G:ι->World->Prop)(round : ∀ i w,G i w->JC P m (Exit.then (fun a' w' => ∃ j,p j<p i/\Kn a' N (T' j)/\G j w') Q) N (T' i) w)(i:ι)(w:World)(hG:G i w)(hT:oK T (T' i):=by (repeat refine ⟨rfl,?_⟩);trivial):JC P (.loop m) Q N T w:=JC.sub hT.out (JC.loop p T' G round i w hG)
section
variable {ι:Type} {p:ι->Nat} {T':ι->List (Nat×Value)} {G:ι->World->Prop} {j:Nat}
theorem Jr(i:ι)(hG:G i w)(hm:p i<j:=by first | omega | (dsimp only;omega))(hT:oK T (T' i):=by (repeat refine ⟨rfl,?_⟩);trivial):JL P ops (Exit.then (fun a' w' => ∃ i,p i<j/\Kn a' N (T' i)/\G i w') Q) [] N T w:=JL.round i hm hT.out hG
end
end
end bI
namespace Lw
open Go Go.RowKit bI
section
variable (W0:World) (U:List Box) (Ps:List (World->Prop))
def EH(z:Int)(k:Nat)(er:Value)(u:Value)(w:World):Prop := ∃ (s:Bool) (A:Option Addr) (n c:Nat),u = .tuple #[.agg #[.bool s,.slice A n c],er]/\St W0 U (FI (.agg #[.bool s,.slice A n c]) z k::Ps) w
end
end Lw
namespace Go.Proofs.BGQ
open Go Go.RowKit Lw bI
section
variable {W0 w w':World} {U:List Box} {Ps:List (World->Prop)} {v v':Value} {q r:Rat} {x y:Int} {k k':Nat} {b b':Bool} {f:FuncId} {vs:List Value} {L:List En} {M:List Qn}
section
variable {s1 s2:Bool} {x1 x2:Int} {c1 c2 k1 k2 n1 n2:Nat} {A1 A2:Option Addr}
theorem uh(HT:Tz W0)(HB:Tab W0)(HS:St W0 U Ps w)(f1:FI (.agg #[.bool s1,.slice A1 n1 c1]) x1 k1 w)(f2:FI (.agg #[.bool s2,.slice A2 n2 c2]) x2 k2 w)(hk:k1+k2<=4000)(hy:x2≠0):bC Tryz.prog 103 [.agg #[.bool s1,.slice A1 n1 c1],.agg #[.bool s2,.slice A2 n2 c2]] w (jk W0 U Ps (Rat.divInt x1 x2) (k1+1+(k2+1))) :=
 zg HS (uY (((St.start HS HT HB).push f2).push f1) ak au hk hy)
theorem xy(HT:Tz W0)(HB:Tab W0)(HS:St W0 U Ps w)(f1:FI (.agg #[.bool s1,.slice A1 n1 c1]) x1 k1 w)(f2:FI (.agg #[.bool s2,.slice A2 n2 c2]) x2 k2 w)(hk:k1<=10000/\k2<=10000):bC Tryz.prog 107 [.agg #[.bool s1,.slice A1 n1 c1],.agg #[.bool s2,.slice A2 n2 c2]] w (iI W0 U Ps (x1+x2) (k1+k2+1)) :=
 lN HS (QJ (((St.start HS HT HB).push f2).push f1) ak au hk)
theorem kZ(HT:Tz W0)(HB:Tab W0)(HS:St W0 U Ps w)(f1:FI (.agg #[.bool s1,.slice A1 n1 c1]) x1 k1 w)(f2:FI (.agg #[.bool s2,.slice A2 n2 c2]) x2 k2 w)(hk:k1<=10000/\k2<=10000):bC Tryz.prog 105 [.agg #[.bool s1,.slice A1 n1 c1],.agg #[.bool s2,.slice A2 n2 c2]] w (iI W0 U Ps (x1*x2) (k1+k2+1)) :=
 lN HS (DU (((St.start HS HT HB).push f2).push f1) ak au hk)
theorem l9(HT:Tz W0)(HB:Tab W0)(HS:St W0 U Ps w)(f1:FI (.agg #[.bool s1,.slice A1 n1 c1]) x1 k1 w)(hk:k1<=100000):bC Tryz.prog 100 [.agg #[.bool s1,.slice A1 n1 c1]] w (dm W0 U Ps (.int .i64 (dD x1))) :=
 mY HS (qW ((St.start HS HT HB).push f1) ak hk)
theorem ad2(HT:Tz W0)(HB:Tab W0)(HS:St W0 U Ps w)(f1:FI (.agg #[.bool s1,.slice A1 n1 c1]) x1 k1 w)(hk:k1<=10000):bC Tryz.prog 108 [.agg #[.bool s1,.slice A1 n1 c1]] w (iI W0 U Ps (-x1) (k1)) :=
 lN HS (DV ((St.start HS HT HB).push f1) ak hk)
theorem jh(HT:Tz W0)(HB:Tab W0)(HS:St W0 U Ps w){z1:Int}(h1 : -9223372036854775808<=z1)(h2:z1<=9223372036854775807):bC Tryz.prog 104 [.int .i64 z1] w (iI W0 U Ps (z1) (2)) :=
 lN HS (Am (St.start HS HT HB)  h1 h2)
theorem Ig(HT:Tz W0)(HB:Tab W0)(HS:St W0 U Ps w)(f1:FI (.agg #[.bool s1,.slice A1 n1 c1]) x1 k1 w)(f2:FI (.agg #[.bool s2,.slice A2 n2 c2]) x2 k2 w)(hk:k1+k2<=100000):bC Tryz.prog 67 [.agg #[.bool s1,.slice A1 n1 c1],.agg #[.bool s2,.slice A2 n2 c2]] w (dm W0 U Ps (.int .i64 (eY x1 x2))) :=
 mY HS (O5 (((St.start HS HT HB).push f2).push f1) ak au hk)
end
end
theorem jc.err(z:Int):jc (.iface 88 (.int .i64 z)) z:=fun _ _ _ _ HS=>vV HS z
end Go.Proofs.BGQ
namespace Lw
open Go Go.RowKit bI
section
variable {s:Bool} {A B:Option Addr} {n c m d k:Nat} {q:Rat} {w:World}
theorem FV.bad{b:Bool}(h:FV (aoC s A n c B m d) q k b w)(hb:b=false):q=0:=by
 obtain ⟨s',A1,n1,c1,A2,n2,c2,ns,ms,h1,h2,h3,h4,h5,h6,h7,h8,h9,h10,h11⟩:=h;dsimp only at h10 h11;subst hb;unfold qv at h10;rw [h11] at h10
 simpa using h10.symm
end
theorem Xm{x y:Int} : eY x y<=0↔x<=y:=by
 unfold eY
 split
 ·constructor <;> intro <;> omega
 ·split <;> constructor <;> intro <;> omega
theorem Gf(x y:Int):decide (eY x y<=0)=decide (x<=y):=by rw [decide_eq_decide];exact Xm
end Lw
namespace Go.Proofs.BGQ
open Go Go.RowKit Lw bI
section
variable {W0 w:World} {U:List Box} {Ps:List (World->Prop)}
set_option maxRecDepth 100000 in
set_option maxHeartbeats 400000 in
theorem afJ(HT:Tz W0)(HB:Tab W0){g:Nat}{u1:Bool}{s1:Bool}{A1:Option Addr}{n1 c1:Nat}{B1:Option Addr}{m1 d1:Nat}{q1:Rat}{k1:Nat}{b1:Bool}(HS:St W0 (⟨g,26,[.bool s1,.slice A1 n1 c1,.slice B1 m1 d1,.bool u1]⟩::U) Ps w)(f1:FV (.agg #[.bool s1,.slice A1 n1 c1,.slice B1 m1 d1]) q1 k1 b1 w)(hk1:k1<=900)(hg1:ed b1 u1 q1):bC Tryz.prog 43 [.slice (some ⟨g,0,none⟩) 1 1] w (dm W0 (⟨g,26,[.bool s1,.slice A1 n1 c1,.slice B1 m1 d1,.bool u1]⟩::U) Ps (.bool true)):=by
 have HS:=HS.add (FV.stable _ _ _ _) f1;clear f1;refine cZ Tryz.func43 rfl Tryz.ntmps43 rfl<|Js<|La rfl<|Jn<|JC.seq<|Js<|Lm rfl<|Ll rfl am0<|Lm rfl<|Jn<|JC.block<|JC.uq 40<|Js<|Lz (.bool true) (fun a ha=>dX (ha.ev rfl) (ha.ev rfl) ai)<|Jn<|JC.seq<|JC.bP rfl<|Jk<|JC.seq<|JC.block<|Js<|Lz (.pointer (some ⟨g,0,none⟩)) (fun a ha=>mD (ha.ev rfl) (ha.ev rfl) am0 amK (j:=0) rfl ai rfl)<|JL.load (.agg #[.bool s1,.slice A1 n1 c1,.slice B1 m1 d1,.bool u1]) HS 0 rfl rfl rfl amO amK rfl rfl<|JL.alloc (vs:=[.bool false,.slice none 0 0,.slice none 0 0,.bool false]) HS rfl amS rfl rfl (fun g21 dO HS => ?_);refine JL.store HS rfl rfl (i:=0) rfl amK rfl rfl rfl (vs':=[.bool s1,.slice A1 n1 c1,.slice B1 m1 d1,.bool u1]) rfl rfl (fun dQ HS => ?_);refine Jn<|Js<|JL.load (.agg #[.bool s1,.slice A1 n1 c1,.slice B1 m1 d1,.bool u1]) HS 0 rfl rfl rfl amO amK rfl rfl<|JL.call rfl rfl aoi (Jg HT HB HS (HS.at_ 0 rfl) af hg1)<|?_;rintro v23 fB ⟨rfl,HS⟩;refine Lz (.bool false) (fun a ha=>fK (ha.ev rfl) (ha.ev rfl) ai)<|Jn<|JC.bH rfl<|JC.mG (fun _ _ h=>h)<|JC.region<|Lz (.int .i64 1) (fun a ha=>fP (ha.ev rfl) (ha.ev rfl) ai)<|Lm rfl<|JL.again 39 (fun _ _ h=>h)<|Js<|Lz (.bool false) (fun a ha=>dX (ha.ev rfl) (ha.ev rfl) ai)<|Jn<|JC.seq<|JC.bH rfl<|JC.exit (fun _ _ h=>h) (fun _ _ h=>h)<|Js<|La rfl<|Jn<|Ja Tryz.results43 (.tmp rfl)<|?_;exact ⟨rfl,HS.o0 1 1⟩
set_option maxRecDepth 100000 in
set_option maxHeartbeats 400000 in
theorem afI(HT:Tz W0)(HB:Tab W0){g:Nat}{u1:Bool}{s1:Bool}{A1:Option Addr}{n1 c1:Nat}{B1:Option Addr}{m1 d1:Nat}{q1:Rat}{k1:Nat}{b1:Bool}(HS:St W0 (⟨g,26,[.bool s1,.slice A1 n1 c1,.slice B1 m1 d1,.bool u1]⟩::U) Ps w)(f1:FV (.agg #[.bool s1,.slice A1 n1 c1,.slice B1 m1 d1]) q1 k1 b1 w)(hk1:k1<=900)(hg:¬ (ed b1 u1 q1)):bC Tryz.prog 43 [.slice (some ⟨g,0,none⟩) 1 1] w (dm W0 (⟨g,26,[.bool s1,.slice A1 n1 c1,.slice B1 m1 d1,.bool u1]⟩::U) Ps (.bool false)):=by
 have HS:=HS.add (FV.stable _ _ _ _) f1;clear f1;refine cZ Tryz.func43 rfl Tryz.ntmps43 rfl<|Js<|La rfl<|Jn<|JC.seq<|Js<|Lm rfl<|Ll rfl am0<|Lm rfl<|Jn<|JC.block<|JC.uq 40<|Js<|Lz (.bool true) (fun a ha=>dX (ha.ev rfl) (ha.ev rfl) ai)<|Jn<|JC.seq<|JC.bP rfl<|Jk<|JC.seq<|JC.block<|Js<|Lz (.pointer (some ⟨g,0,none⟩)) (fun a ha=>mD (ha.ev rfl) (ha.ev rfl) am0 amK (j:=0) rfl ai rfl)<|JL.load (.agg #[.bool s1,.slice A1 n1 c1,.slice B1 m1 d1,.bool u1]) HS 0 rfl rfl rfl amO amK rfl rfl<|JL.alloc (vs:=[.bool false,.slice none 0 0,.slice none 0 0,.bool false]) HS rfl amS rfl rfl (fun g21 dO HS => ?_);refine JL.store HS rfl rfl (i:=0) rfl amK rfl rfl rfl (vs':=[.bool s1,.slice A1 n1 c1,.slice B1 m1 d1,.bool u1]) rfl rfl (fun dQ HS => ?_);refine Jn<|Js<|JL.load (.agg #[.bool s1,.slice A1 n1 c1,.slice B1 m1 d1,.bool u1]) HS 0 rfl rfl rfl amO amK rfl rfl<|?_
 by_cases jY:ed b1 u1 q1
 ·skip
  refine JL.call rfl rfl aoi (Jg HT HB HS (HS.at_ 0 rfl) af jY)<|?_;rintro v24 fO ⟨rfl,HS⟩;refine Lz (.bool false) (fun a ha=>fK (ha.ev rfl) (ha.ev rfl) ai)<|Jn<|JC.bH rfl<|JC.mG (fun _ _ h=>h)<|JC.region<|Lz (.int .i64 1) (fun a ha=>fP (ha.ev rfl) (ha.ev rfl) ai)<|Lm rfl<|JL.again 39 (fun _ _ h=>h)<|Js<|Lz (.bool false) (fun a ha=>dX (ha.ev rfl) (ha.ev rfl) ai)<|Jn<|JC.seq<|JC.bH rfl<|JC.exit (fun _ _ h=>h) (fun _ _ h=>h)<|Js<|La rfl<|Jn<|Ja Tryz.results43 (.tmp rfl)<|?_;exact ⟨(absurd jY hg),HS.o0 1 1⟩
 ·skip
  refine JL.call rfl rfl aoi (Ro HT HB HS (HS.at_ 0 rfl) af jY)<|?_;rintro v25 fU ⟨rfl,HS⟩;refine Lz (.bool true) (fun a ha=>fK (ha.ev rfl) (ha.ev rfl) ai)<|Jn<|JC.bP rfl<|Js<|La rfl<|Jn<|Ja Tryz.results43 (.tmp rfl)<|?_;exact ⟨rfl,HS.o0 1 1⟩
end
end Go.Proofs.BGQ
namespace Lw
open Go Go.RowKit
theorem F6{l:List UInt8}{c:UInt8}(h : ∀ x∈l,x≠c):Lib.indexByte l c = -1:=by
 induction l with
 | nil=>rfl
 | cons b l ih =>
  unfold Lib.indexByte;rw [if_neg (by simpa using h b ak),ih (fun x hx=>h x (.tail _ hx))]
  rfl
theorem aaI{l:List UInt8}{c:UInt8}(h : ∀ x∈l,x≠c):Lib.index l [c] = -1:=by
 induction l with
 | nil=>rfl
 | cons b l ih =>
  have hb:([c].isPrefixOf (b::l))=false:=by
   simp only [List.isPrefixOf,Bool.and_true,beq_eq_false_iff_ne];exact fun e=>h b ak e.symm
  unfold Lib.index;rw [hb,ih (fun x hx=>h x (.tail _ hx))]
  rfl
theorem aaH{l:List UInt8}{c:UInt8}(r:List UInt8)(h : ∀ x∈l,x≠c):Lib.index (l++([c]++r)) [c]=(l.length:Int):=by
 induction l with
 | nil =>
  show Lib.index (c::r) [c]=0;unfold Lib.index;rw [if_pos (by simp [List.isPrefixOf])]
 | cons b l ih =>
  have hb:([c].isPrefixOf (b::(l++([c]++r))))=false:=by
   simp only [List.isPrefixOf,Bool.and_true,beq_eq_false_iff_ne];exact fun e=>h b ak e.symm
  show Lib.index (b::(l++([c]++r))) [c]=_;unfold Lib.index;rw [hb,ih (fun x hx=>h x (.tail _ hx))];have:(((l.length:Int)) == -1)=false:=by rw [beq_eq_false_iff_ne];omega
  rw [this];simp
theorem MK{l:List UInt8}{c:UInt8}(h : ∀ x∈l,x≠c):Lib.cut l [c]=(l,[],false):=by
 unfold Lib.cut;rw [aaI h,if_neg ai]
theorem uM{l:List UInt8}{c:UInt8}(r:List UInt8)(h : ∀ x∈l,x≠c):Lib.cut (l++([c]++r)) [c]=(l,r,true):=by
 unfold Lib.cut;rw [aaH r h,if_pos af];simp
theorem Dj(z:Int) : ∀ x∈Lib.itoa z,x.toNat=45\/(48<=x.toNat/\x.toNat<=57):=by
 intro x hx
 cases hs:sg z
 ·rw [je hs] at hx
  simp only [ao3] at hx;exact .inr (uP _ x hx)
 ·rw [itoa_neg hs] at hx
  rcases ao6.1 hx with hx | hx
  ·simp only [List.mem_cons,List.not_mem_nil,or_false] at hx
   subst hx;exact .inl rfl
  ·exact .inr (uP _ x hx)
theorem nG{z:Int}{c:UInt8}(h:c.toNat=46\/c.toNat=47) : ∀ x∈Lib.itoa z,x≠c:=by
 rintro x hx rfl;have:=Dj z x hx;omega
end Lw
namespace Go.Proofs.BGQ
open Go Go.RowKit Lw
section
variable {W0 w:World} {bs:List Bx} {L:List En} {ts:List Bt} {M:List Qn} {s:Bool} {A A':Option Addr} {n c n' c' k:Nat} {q:Rat} {b:Bool}
theorem Ii{z:Int}{K:Nat}(HE:bu W0 w bs L ts M)(h:z.natAbs<pw K)(hk:K<=100) :
  Calls Tryz.prog 119 #[.string ⟨(Lib.itoa z).toArray⟩] w fun e w' => ∃ (s:Bool) (A:Option Addr) (n c:Nat),e = .returned (.tuple #[.agg #[.bool s,.slice A n c],.nilIface])/\bu W0 w' bs (⟨.agg #[.bool s,.slice A n c],z,K,true⟩::L) ts M:=by
 refine (parse_any z w (by have:=MN h hk;omega)).mono ?_;rintro e w5 ⟨A9,c9,rfl,dM,dS,jF⟩;exact ⟨_,_,_,_,rfl,(HE.next jF).push ⟨sg z,A9,_,c9,mg z,_,rfl,dS,aoG _,rfl,pq h,dM,og z,mO z⟩⟩
theorem Xp{y:Int}(h:1<y):eY y 1=1:=by unfold eY;rw [if_neg af,if_neg af]
theorem bu.k23{g g':Nat}{x y x' y' z':Value}(h:bu W0 w (⟨g,x,y⟩::bs) L (⟨g',x',y',z'⟩::ts) M):w.cell? ⟨g,0,none⟩=some x/\w.cell? ⟨g,1,none⟩=some y/\w.cell? ⟨g',0,none⟩=some x'/\w.cell? ⟨g',1,none⟩=some y'/\w.cell? ⟨g',2,none⟩=some z' :=
 ⟨(h.c2 ak).1,(h.c2 ak).2.1,(h.c3 ak).1,(h.c3 ak).2.1,(h.c3 ak).2.2.1⟩
set_option maxRecDepth 100000 in
set_option maxHeartbeats 3200000 in
theorem YF{K:Nat}(HE:bu W0 w bs L ts M)(hx:Mx w)(hn:q.num.natAbs<pw K)(hd:q.den=1)(hK:K<=40) :
  Calls Tryz.prog 73 #[.string ⟨(Lib.itoa q.num).toArray⟩] w (ja W0 bs L ts M q (K+2)):=by
 refine Calls.mono (R:=ja w [] L [] M q (K+2)) ?_ fun _ _ hh=>ja.of HE hh;have hl:=zO hn af;replace HE:=HE.here.dF (.bool false) (.slice none 0 0) (.slice none 0 0);obtain ⟨z,hz1⟩:=hx.next ((Below.refl _ w).alloc (aoG _) (.cells #[.bool false,.slice none 0 0,.slice none 0 0] 24));have C1:=Lib.hid (fun W=>Tryz.strings_Contains_one ⟨(Lib.itoa q.num).toArray⟩ 46 W);have C2:=Lib.hid (Tryz.strings_Cut ⟨(Lib.itoa q.num).toArray⟩ ⟨#[47]⟩ z _ (by simp [ByteArray.size];omega) hz1);have H1:=Lib.hid (show decide (0<=Lib.indexByte (Lib.itoa q.num) 46)=false by rw [F6 (nG (.inl rfl))];rfl);have H3:=Lib.hid (MK (nG (z:=q.num) (c:=47) (.inr rfl)));have hsz:(⟨(Lib.itoa q.num).toArray⟩:ByteArray).size=(Lib.itoa q.num).length:=by simp [ByteArray.size]
 have HN:=Lib.hid hn;have HD:=Lib.hid (show (q.den:Int)=1 by rw [hd];rfl);obtain ⟨q0,q1,q2,q3,q4,q5⟩:=HE.c3 ak;clear hx hn hd hz1
 go_enter anc,ane
 go_wp2_with fail
 refine (C1.out _).mono ?_;rw [H1.out];rintro e w1 ⟨rfl,rfl⟩
 go_wp2_with fail
 refine C2.out.mono ?_;rw [H3.out];rintro e w2 ⟨rfl,p,rfl⟩;clear q0 q1 q2 q3 q4 q5;replace HE:=HE.next (below_drewN' _ _ p)
 go_wp2_with fail
 refine (Ii HE HN.out af).mono ?_;clear HE;rintro e w3 ⟨s1,D1,m1,d1,rfl,HE⟩;replace HE:=HE.bV (.bool s1) (.slice D1 m1 d1);obtain ⟨q0,q1,q2,q3⟩:=HE.c2 ak;obtain ⟨q4,q5,q6,q7,q8,q9⟩:=HE.c3 ak
 go_wp2_with fail
 go_region_held3 (fun w'=>w'.cell? ⟨w3.heap.size,0,none⟩=some (.bool s1)/\w'.cell? ⟨w3.heap.size,1,none⟩=some (.slice D1 m1 d1)) (with_reducible first | exact bu.k2 HE | exact bu.k2 HE.drew | exact bu.k2 HK)
  (first
   | (go_at_call 121;refine (tJ (by with_reducible first | exact HE | exact HE.drew) af af).mono ?_;rintro e wn ⟨s2,D2,m2,d2,rfl,HE⟩)
   | (go_at_call 120;refine (Iu (by with_reducible first | exact HE | exact HE.drew) (by repeat (first | exact aZ | assumption | refine .tail _ ?_)) (by repeat (first | exact aZ | assumption | refine .tail _ ?_)) rfl HD.out).mono ?_;rintro e wn ⟨sx,Ax,nx,cx,Ay,ny,cy,rfl,HE⟩;obtain ⟨g0,g1,g2,g3,g4,g5⟩:=HE.c3 ak;have HK:=HE.iT (D:=Ax) (m:=nx) (d:=cx) ak sx (.slice Ay ny cy)))
 go_wp2_with fail
 refine bodyPost_ret (v := .tuple #[.agg #[.bool sx,.slice Ax nx cx,.slice Ay ny cy],.nilIface]) (by simp [results,Tryz.results73,go_sem,g0,g1,g2]) rfl ?_;exact ⟨_,_,_,_,_,_,_,rfl,HK.bare.pick (fun e he => .tail _ (.tail _ he)) (fun _ he=>he)⟩
set_option maxRecDepth 100000 in
set_option maxHeartbeats 3200000 in
theorem YG{K:Nat}(HE:bu W0 w bs L ts M)(hx:Mx w)(hn:q.num.natAbs<pw K)(hd:q.den<pw K)(hd1:q.den≠1)(hK:K<=40) :
  Calls Tryz.prog 73 #[.string ⟨(Lib.itoa q.num++([47]++Lib.itoa (q.den:Int))).toArray⟩] w (ja W0 bs L ts M q (K+K)):=by
 refine Calls.mono (R:=ja w [] L [] M q (K+K)) ?_ fun _ _ hh=>ja.of HE hh;have hl:=zO hn af;replace HE:=HE.here.dF (.bool false) (.slice none 0 0) (.slice none 0 0);obtain ⟨z,hz1⟩:=hx.next ((Below.refl _ w).alloc (aoG _) (.cells #[.bool false,.slice none 0 0,.slice none 0 0] 24));have C1:=Lib.hid (fun W=>Tryz.strings_Contains_one ⟨(Lib.itoa q.num++([47]++Lib.itoa (q.den:Int))).toArray⟩ 46 W);have hd':(q.den:Int).natAbs<pw K:=by rw [aoL];exact hd
 have hl2:=zO hd' af;have hlen:(Lib.itoa q.num++([47]++Lib.itoa (q.den:Int))).length<=3000:=by simp only [apf,ao5,List.length_nil];omega
 have hno : ∀ x∈Lib.itoa q.num++([47]++Lib.itoa (q.den:Int)),x≠46:=by
  intro x hx;rcases ao6.1 hx with hx | hx
  ·exact nG (.inl rfl) x hx
  ·rcases ao6.1 hx with hx | hx
   ·simp only [List.mem_cons,List.not_mem_nil,or_false] at hx;subst hx;decide
   ·exact nG (.inl rfl) x hx
 have H1:=Lib.hid (show decide (0<=Lib.indexByte (Lib.itoa q.num++([47]++Lib.itoa (q.den:Int))) 46)=false by rw [F6 hno];rfl);have H3:=Lib.hid (uM (Lib.itoa (q.den:Int)) (nG (z:=q.num) (c:=47) (.inr rfl)));have HZ:=Lib.hid (zO hn af)
 have hq0:q.num≠0:=by
  intro e;have h1:Nat.gcd q.num.natAbs q.den=1:=q.reduced;rw [e,Int.natAbs_zero,apX] at h1;exact hd1 h1
 have hpos:=q.den_pos;have HQ:=Lib.hid (show q.num≠0/\0<(q.den:Int)/\Nat.gcd q.num.natAbs (q.den:Int).natAbs=1/\eY (q.den:Int) 1=1 from ⟨hq0,af,by rw [aoL];exact q.reduced,Xp af⟩);have HN:=Lib.hid hn;have HD:=Lib.hid hd';clear hl hl2;generalize hT:Lib.itoa q.num++([47]++Lib.itoa (q.den:Int))=T at *;have C2:=Lib.hid (Tryz.strings_Cut ⟨T.toArray⟩ ⟨#[47]⟩ z _ (by simp [ByteArray.size];omega) hz1);have hsz:(⟨T.toArray⟩:ByteArray).size=T.length:=by simp [ByteArray.size]
 obtain ⟨q0,q1,q2,q3,q4,q5⟩:=HE.c3 ak;clear hx hn hd hd' hd1 hz1 hno hT hq0 hpos
 go_enter anc,ane
 go_wp2_with fail
 refine (C1.out _).mono ?_;rw [H1.out];rintro e w1 ⟨rfl,rfl⟩
 go_wp2_with fail
 refine C2.out.mono ?_;rw [H3.out];rintro e w2 ⟨rfl,p,rfl⟩;clear q0 q1 q2 q3 q4 q5;replace HE:=HE.next (below_drewN' _ _ p)
 go_wp2_with fail
 refine (Ii HE HN.out af).mono ?_;clear HE;rintro e w3 ⟨s1,D1,m1,d1,rfl,HE⟩;replace HE:=HE.bV (.bool s1) (.slice D1 m1 d1)
 go_wp2_with fail
 refine (Ii HE HD.out af).mono ?_;clear HE;rintro e w4 ⟨s2,D2,m2,d2,rfl,HE⟩;replace HE:=(HE.Gu au ak HQ.out.1 HQ.out.2.1 HQ.out.2.2.1);rw [show Rat.divInt q.num (q.den:Int)=q from aps q] at HE;obtain ⟨z0,z1,z2,z3⟩:=HE.c2 ak;have HB:=HE.bV (.bool s2) (.slice D2 m2 d2);obtain ⟨z4,z5,z6,z7⟩:=HB.c2 au;obtain ⟨z8,z9,z10,z11⟩:=HB.c2 ak;replace HE:=HB.dF (.bool s1) (.slice D1 m1 d1) (.slice D2 m2 d2);clear HB;simp only [World.size_alloc] at HE;obtain ⟨q0,q1,q2,q3⟩:=HE.c2 ak;obtain ⟨q4,q5,q6,q7,q8,q9⟩:=HE.c3 ak;obtain ⟨y0,y1,y2,y3⟩:=HE.c2 au;obtain ⟨y4,y5,y6,y7,y8,y9⟩:=HE.c3 au
 go_wp2_with fail
 go_region_held3 (fun w'=>w'.cell? ⟨w4.heap.size,0,none⟩=some (.bool s2)/\w'.cell? ⟨w4.heap.size,1,none⟩=some (.slice D2 m2 d2)/\w'.cell? ⟨w4.heap.size+1,0,none⟩=some (.bool s1)/\w'.cell? ⟨w4.heap.size+1,1,none⟩=some (.slice D1 m1 d1)/\w'.cell? ⟨w4.heap.size+1,2,none⟩=some (.slice D2 m2 d2)) (with_reducible first | exact bu.k23 HE | exact bu.k23 HE.drew)
  (first
   | (go_at_call 121;refine (tJ (by with_reducible first | exact HE | exact HE.drew) af af).mono ?_;rintro e wn ⟨s3,D3,m3,d3,rfl,HE⟩)
   | (go_at_call 67;refine (O5 (by with_reducible first | exact HE | exact HE.drew) (by repeat (first | exact aZ | assumption | refine .tail _ ?_)) (by repeat (first | exact aZ | assumption | refine .tail _ ?_)) af).mono ?_;rw [HQ.out.2.2.2];rintro e wn ⟨rfl,HE⟩)
   | (go_at_call 56;refine (NH (by with_reducible first | exact HE | exact HE.drew) (by repeat (first | exact aZ | assumption | refine .tail _ ?_)) af).mono ?_;rintro e wn ⟨rfl,HE⟩))
 obtain ⟨q0,q1,q2,q3,q4,q5⟩:=HE.c3 ak;obtain ⟨z0,z1,z2,z3,z4,z5⟩:=HE.c3 au;have TF:=(HE.nV au).put (.bool s1) (.slice D1 m1 d1) (.slice D2 m2 d2)
 go_wp2_with fail
 obtain ⟨x0,x1,x2,-,-,-⟩:=TF.cells;have HF:=(HE.iT (D:=D1) (m:=m1) (d:=d1) au s1 (.slice D2 m2 d2)).bare;refine bodyPost_ret (v := .tuple #[.agg #[.bool s1,.slice D1 m1 d1,.slice D2 m2 d2],.nilIface]) (by simp [results,Tryz.results73,go_sem,x0,x1,x2]) rfl ?_;exact ⟨_,_,_,_,_,_,_,rfl,HF.pick (fun e he => .tail _ (.tail _ (.tail _ he))) (fun _ he=>he)⟩
theorem YJ{K:Nat}(HE:bu W0 w bs L ts M)(hx:Mx w)(hn:q.num.natAbs<pw K)(hd:q.den<pw K)(hK:K<=40) :
  Calls Tryz.prog 73 #[.string ⟨(fE q).toArray⟩] w (ja W0 bs L ts M q (2*K+2)):=by
 have hw : ∀ k,k<=2*K+2 -> ∀ e w',ja W0 bs L ts M q k e w'->ja W0 bs L ts M q (2*K+2) e w':=by
  rintro k hk e w' ⟨s,A,n,c,A',n',c',rfl,HF⟩;exact ⟨s,A,n,c,A',n',c',rfl,HF.hd (·.weak hk)⟩
 unfold fE
 by_cases h1:q.den=1
 ·rw [if_pos h1]
  exact (YF HE hx hn h1 hK).mono (hw _ af)
 ·rw [if_neg h1]
  exact (YG HE hx hn hd h1 hK).mono (hw _ af)
end
end Go.Proofs.BGQ
namespace bI
open Go Go.RowKit
theorem bytes_at(l:List UInt8)(j:Nat):(⟨l.toArray⟩:ByteArray)[j]? = l[j]? := by
 have hs:(⟨l.toArray⟩:ByteArray).size=l.length:=by simp [ByteArray.size]
 by_cases h:j<l.length
 ·rw [getElem?_pos (⟨l.toArray⟩:ByteArray) j (by rw [hs];exact h),getElem?_pos l j h];rfl
 ·rw [getElem?_neg (⟨l.toArray⟩:ByteArray) j (by rw [hs];exact h),getElem?_neg l j h]
theorem LU(l:List UInt8)(i j:Nat):(⟨l.toArray⟩:ByteArray).extract i j=⟨((l.take j).drop i).toArray⟩:=by
 apply ByteArray.ext;rw [ByteArray.data_extract];simp [List.extract_toArray,List.drop_take]
section
variable {P:Program} {ρ:Operand->Value} {w:World} {dst:Option Tmp} {ty:TypeId} {pos:String} {bD:Array Edge} {gd:Option (Nat×Bool)}
theorem dI{x:Operand}{t:TypeId}{l:List UInt8}{n:Int}(hx:ρ x = .string ⟨l.toArray⟩)(hu : ∀ w,(underlying t).run P w = .ok .string w)(hn:(l.length:Int)=n) :
  (execOp ρ ⟨dst,.call ⟨.builtin .len,#[x],#[t]⟩,ty,pos,bD,gd⟩).run P w = .ok (.value (.int .i64 n)) w:=by
 subst hn;rw [aem hx hu];simp [ByteArray.size]
theorem dY{t:TypeId}{x y:Operand}{l:List UInt8}{k:IntKind}{i:Int}{j:Nat}{b:UInt8}{c:Int}(hx:ρ x = .string ⟨l.toArray⟩)(hy:ρ y = .int k i)(hu : ∀ w,(underlying t).run P w = .ok .string w)(hi:i=(j:Int))(hb:l[j]? = some b)(hc:(b.toNat:Int)=c) :
  (execOp ρ ⟨dst,.index t x y,ty,pos,bD,gd⟩).run P w = .ok (.value (.int .u8 c)) w:=by
 subst hi hc;simp [execOp,hx,hy,Instr.index,asIntOf,hu,bytes_at,hb]
theorem Jm{t:TypeId}{x y:Operand}{l m:List UInt8}{k:IntKind}{i:Int}{j:Nat}(hx:ρ x = .string ⟨l.toArray⟩)(hy:ρ y = .int k i)(hu : ∀ w,(underlying t).run P w = .ok .string w)(hi:i=(j:Int))(hj:j<=l.length)(hm:l.take j=m) :
  (execOp ρ ⟨dst,.slice t x none (some y) none,ty,pos,bD,gd⟩).run P w = .ok (.value (.string ⟨m.toArray⟩)) w:=by
 subst hi hm;have hs:(⟨l.toArray⟩:ByteArray).size=l.length:=by simp [ByteArray.size]
 simp [execOp,hx,hy,Instr.sliceAt,Instr.slice,Instr.sliceBounds,Instr.sliceBound,asIntOf,hu,hs,LU,hj]
theorem xG{t:TypeId}{x y:Operand}{l m:List UInt8}{k:IntKind}{i:Int}{j:Nat}(hx:ρ x = .string ⟨l.toArray⟩)(hy:ρ y = .int k i)(hu : ∀ w,(underlying t).run P w = .ok .string w)(hi:i=(j:Int))(hj:j<=l.length)(hm:l.drop j=m) :
  (execOp ρ ⟨dst,.slice t x (some y) none none,ty,pos,bD,gd⟩).run P w = .ok (.value (.string ⟨m.toArray⟩)) w:=by
 subst hi hm;have hs:(⟨l.toArray⟩:ByteArray).size=l.length:=by simp [ByteArray.size]
 simp [execOp,hx,hy,Instr.sliceAt,Instr.slice,Instr.sliceBounds,Instr.sliceBound,asIntOf,hu,hs,LU,hj]
theorem DZ{t t':TypeId}{x y:Operand}{a b:List UInt8}{c:Bool}(hx:ρ x = .string ⟨a.toArray⟩)(hy:ρ y = .string ⟨b.toArray⟩)(h:(a != b)=c) :
  (execOp ρ ⟨dst,.binOp .neq t x y t',ty,pos,bD,gd⟩).run P w = .ok (.value (.bool c)) w:=by
 subst h;simp [execOp,hx,hy,eqGuard,binOp,Op.stringOp,ByteArray.toList_eq,bne]
end
section
variable {P:Program} {ops:Array Oper} {Q:Exit->Act->World->Prop} {N:Nat} {T:List (Nat×Value)} {w:World}
theorem JC.D9{id id':Nat}{c:Code}{T':List (Nat×Value)}(hT : ∀ t v,bT T' t=some v->bT T t=some v)(h:JC P c Q N T' w):JC P .skip (Exit.inBlock id (Exit.inBlock id' (Exit.then (c.wp P Q) Q))) N T w:=JC.skip fun a ha=>h a (ha.sub hT)
end
end bI
namespace Lw
open Go
theorem uT{l:List UInt8}{k:Nat}(h:dn (l.take k))(hk:k<=l.length):bG (l.take k)<pw k:=by
 have h1:=yX h k (by rw [apc];omega);rw [ap',Nat.min_self] at h1;exact aoK h1 (aqh af k)
theorem LM(w:World)(t:TypeId)(l:List Nat)(o:Obj):bF ((w.alloc o).alloc (.cells (arr l).toArray t)) (w.heap.size+1) t l:=by
 have:=bF.new (w.alloc o) t l
 simpa using this
theorem Ip(w:World)(t:TypeId):bF (w.alloc (.cells #[.int .u32 10] t)) w.heap.size t [10]:=bF.new w t [10]
theorem Iq(w:World)(t:TypeId)(o:Obj):bF ((w.alloc o).alloc (.cells #[.int .u32 10] t)) (w.heap.size+1) t [10]:=LM w t [10] o
theorem Il(w:World)(t:TypeId)(c:Nat):bF (w.alloc (.cells #[.int .u32 (c:Int)] t)) w.heap.size t [c]:=bF.new w t [c]
theorem Io(w:World)(t:TypeId)(c:Nat)(o:Obj):bF ((w.alloc o).alloc (.cells #[.int .u32 (c:Int)] t)) (w.heap.size+1) t [c]:=LM w t [c] o
end Lw
namespace Go.Proofs.BGQ
open Go Go.RowKit Lw
def sD(w:World)(N:Nat)(e:Ending)(w':World):Prop :=
 ∃ g n c,e = .returned (.slice (some ⟨g,0,none⟩) n c)/\Hid ((bn N).length=n)/\n<=c/\w.heap.size<=g/\bF w' g 113 (bn N)/\Below w.heap.size w w'
theorem xO{w w':World}{N:Nat}{e:Ending}(h:sF w N e w'):sD w N e w':=by
 obtain ⟨g,c,h1,h2,h3,h4,h5⟩:=h;exact ⟨g,_,c,h1,Lib.hid rfl,h2,h3,h4,h5⟩
def FT(w:World)(l:List UInt8)(e:Ending)(w':World):Prop :=
 (∃ z A c,l=Lib.itoa z/\e = .returned (.tuple #[.agg #[.bool (sg z),.slice A (mg z).length c],.int .i64 0])/\(mg z).length<=c/\Rd w' w'.heap.size A (mg z)/\Below w.heap.size w w') \/
 ((∀ z,l≠Lib.itoa z)/\e = .returned (.tuple #[.agg #[.bool false,.slice none 0 0],.int .i64 2])/\Below w.heap.size w w')
set_option maxRecDepth 100000 in
set_option maxHeartbeats 6400000 in
theorem ady(d l:List UInt8)(w:World)(hl:d.length<=400)(hdl:l=d)(h45 : ∀ h:0<d.length,(d[0]'h).toNat≠45) :
    Calls Tryz.prog 122 #[.string ⟨d.toArray⟩] w (FT w l):=by
  obtain ⟨D,hD⟩ : ∃ D:ByteArray,D=⟨d.toArray⟩:=⟨_,rfl⟩;obtain ⟨Z,hZ⟩ : ∃ Z:Int,Z=(bG d:Int):=⟨_,rfl⟩;have lH:Hid (¬Fits false d -> ∀ z,l≠Lib.itoa z):=Lib.hid (fun h=>by rw [hdl];exact abR h45 h);have BH:Hid (Fits false d->l=Lib.itoa Z/\Z=if false=true then -(bG d:Int) else (bG d:Int)):=Lib.hid (fun h=>⟨by rw [hdl,hZ];exact Gz h,by rw [hZ];rfl⟩);have Bq:=Lib.hid h45;obtain ⟨W0,hW0⟩ : ∃ W0,W0=w.alloc (.cells #[.bool false,.slice none 0 0] 79):=⟨_,rfl⟩;have hT0:Two W0 w.heap.size 79 (.bool false) (.slice none 0 0):=by rw [hW0];exact Two.new w _ _ _
  have hB0:Below w.heap.size w W0:=by rw [hW0];exact (Below.refl _ _).alloc (aoG _) _
  have hs0:w.heap.size<=W0.heap.size:=hB0.size;have HT0:=Lib.hid hT0;have HB0:=Lib.hid hB0;clear hT0 hB0;subst hW0;obtain ⟨L,hL⟩ : ∃ L,L=d.length:=⟨_,rfl⟩;have HL:Hid (∀ k,k<L->k<d.length):=Lib.hid (fun k h=>af);have jO:Hid (∀ k,L<=k->d.length<=k):=Lib.hid (fun k h=>af);have hDs:D.size=L:=by rw [hD,hL];simp [ByteArray.size]
  have HAT:Hid (∀ k (h:k<L),∃ (hs:k<D.size) (b:Nat),((D[k]'hs).toNat:Int)=(b:Int)/\b=(d[k]'(HL.out k h)).toNat):=Lib.hid (fun k h=>⟨af,_,rfl,by subst hD;rfl⟩);have hL4:L<=400:=af;rw [<- hD];clear hD hZ h45 hdl hl hL;rcases aoT L with h0 | h0
  · have HZ:=Lib.hid (lH.out (fun hf=>by have:=jO.out 0 af;have:=hf.1.1;omega))
    obtain ⟨d0,d1,g0,g1⟩:=HT0.out.facts
    go_enter anr,ant
    go_wp2_with fail
    refine bodyPost_ret (v := .tuple #[.agg #[.bool false,.slice none 0 0],.int .i64 2]) (by simp [results,Tryz.results122,go_sem,d0,d1]) rfl ?_;exact .inr ⟨HZ.out,rfl,HB0.out⟩
  · obtain ⟨G7,b0,hb0,hbd0⟩:=HAT.out 0 h0
    have aiE:b0≠45:=by rw [hbd0];exact Bq.out _
    have BB:Hid ((b0=48->L=1)->dn d->Fits false d):=Lib.hid (fun h hd=>NE hd (HL.out 0 h0) (fun e=>⟨by have:=h af;have:=HL.out 0 h0;have:=jO.out 1 af;omega,rfl⟩));have EP:Hid (b0=48->1<L->¬Fits false d):=Lib.hid (fun e h1 hf=>by have:=(NS hf (HL.out 0 h0) af).1;have:=HL.out 1 h1;omega);have CS:((b0:Int)==45)=false:=by rw [beq_eq_false_iff_ne];omega
    clear hbd0 Bq;have hLq:((L:Int)==0)=false:=by rw [beq_eq_false_iff_ne];omega
    by_cases h48:b0=48
    · by_cases h1:1<L
      · have HZ:=Lib.hid (lH.out (EP.out h48 h1))
        obtain ⟨d0,d1,g0,g1⟩:=HT0.out.facts
        go_enter anr,ant
        go_wp2_with fail
        refine bodyPost_ret (v := .tuple #[.agg #[.bool false,.slice none 0 0],.int .i64 2]) (by simp [results,Tryz.results122,go_sem,d0,d1]) rfl ?_;exact .inr ⟨HZ.out,rfl,HB0.out⟩
      · have yA:=Lib.hid (BB.out (fun _=>af))
        have hL1:L=1:=af
        go_enter anr,ant
        go_wp2_with fail
        go_loopw [6,42] (fun mv iv wr => ∃ (k n' c':Nat) (A':Option Addr),k<=L/\iv = .int .i64 k/\mv = .slice A' n' c'/\n'<=c'/\n'<=k/\Hid ((bn (bG (d.take k))).length=n')/\Rd wr wr.heap.size A' (bn (bG (d.take k)))/\Hid (dn (d.take k))/\Below (w.alloc (.cells #[.bool false,.slice none 0 0] 79)).heap.size (w.alloc (.cells #[.bool false,.slice none 0 0] 79)) wr) (fun _ i _=>L-(intOf i).toNat)
        case atStart=>exact ⟨0,0,0,none,aoI _,rfl,rfl,aoG _,aoG _,Lib.hid rfl,Rd.nil_ _ _ _,Lib.hid (by intro x hx;simp at hx),Below.refl _ _⟩
        case round =>
          obtain ⟨k,n',c',A',hk,rfl,rfl,hc',hnk,hlen,hr,hdg,hbw⟩:=hrel;have T1:=HT0.out.next hbw;obtain ⟨d0,d1,g0,g1⟩:=T1.facts;have hbw0:=bK HB0.out hbw af;have H8:=hbw.size
          by_cases jl:k<L
          · obtain ⟨hks,b,hsk,hb⟩:=HAT.out k jl
            have lG:Hid (b<48\/57<b -> ∀ z,l≠Lib.itoa z):=Lib.hid (fun hh=>lH.out (fun hf=>by have:=hf.1.2.1 _ (ao9 (HL.out k jl));omega));have qB:Hid (∀ c,b=c+48->c<=9->dn (d.take (k+1))/\bG (d.take (k+1))=bG (d.take k)*10+c):=Lib.hid (fun c hc h9=>⟨uQ (HL.out k jl) hdg.out af,by rw [uU (HL.out k jl)];omega⟩);clear hb
            by_cases hd1:b<48
            · have HZ:=Lib.hid (lG.out (.inl hd1))
              go_wp2_with fail
              refine bodyPost_ret (v := .tuple #[.agg #[.bool false,.slice none 0 0],.int .i64 2]) (by simp [results,Tryz.results122,go_sem,d0,d1]) rfl ?_;exact .inr ⟨HZ.out,rfl,(hbw0.setCell (aoG _) _).setCell (aoG _) _⟩
            · by_cases hd2:57<b
              · have HZ:=Lib.hid (lG.out (.inr hd2))
                go_wp2_with fail
                refine bodyPost_ret (v := .tuple #[.agg #[.bool false,.slice none 0 0],.int .i64 2]) (by simp [results,Tryz.results122,go_sem,d0,d1]) rfl ?_;exact .inr ⟨HZ.out,rfl,(hbw0.setCell (aoG _) _).setCell (aoG _) _⟩
              · obtain ⟨c,rfl⟩ : ∃ c,b=c+48:=⟨b-48,af⟩
                have dM:c<=9:=af;have HM:=Lib.hid (qB.out c rfl dM);have hsk':((D[k]'hks).toNat:Int)=(c:Int)+48:=by rw [hsk];omega
                clear qB lG hsk hd1 hd2;have hm1:n'<=16777216:=af;have hdk:k+1<=d.length:=by have:=HL.out k jl;omega
                have yJ:bJ [10]:=by rw [iH];exact ⟨af,gV⟩
                have WC:bJ [c]:=by rw [iH];exact ⟨af,gV⟩
                have hl3:(bn (bG (d.take k)*10)).length<=k+1:=fD (aoK (Nat.mul_lt_mul_of_lt_of_le (uT hdg.out af) (show 10<=4294967296 from af) af) (by rw [dV,aoR];exact aoG _));have hl4:Hid ((bn (bG (d.take (k+1)))).length<=k+1):=Lib.hid (fD (uT HM.out.1 hdk))
                have oH:Hid (∀ (W:World) (g:Nat),Rd W wr.heap.size A' (bn (bG (d.take k)))->Rd W W.heap.size (some ⟨g,0,none⟩) [10]->wr.heap.size<=W.heap.size->Calls Tryz.prog 149 #[.slice A' n' c',.slice (some ⟨g,0,none⟩) 1 1] W (sD W (bG (d.take k)*10))):=Lib.hid (fun W g h1 h2 h3 =>
                  (DL A' _ (bn (bG (d.take k))) [10] n' 1 c' 1 wr.heap.size W.heap.size W h1 h2 h3 (aoG _) hlen.out rfl hm1 af).mono fun e w' hh=>by rw [bM,show val [10]=10 from rfl] at hh;exact xO hh)
                have qC:Hid (∀ (W:World) (g g3 n3 c3:Nat),Hid ((bn (bG (d.take k)*10)).length=n3)->Rd W W.heap.size (some ⟨g3,0,none⟩) (bn (bG (d.take k)*10))->Rd W W.heap.size (some ⟨g,0,none⟩) [c]->Calls Tryz.prog 150 #[.slice (some ⟨g3,0,none⟩) n3 c3,.slice (some ⟨g,0,none⟩) 1 1] W (sD W (bG (d.take (k+1))))):=Lib.hid (fun W g g3 n3 c3 h0 h1 h2 =>
                  (Ak _ _ (bn (bG (d.take k)*10)) [c] n3 1 c3 1 W.heap.size W.heap.size W h1 h2 (aoG _) (aoG _) h0.out rfl (by have:=h0.out;omega) af).mono fun e w' hh=>by rw [bM,show val [c]=c by simp [val],<- HM.out.2] at hh;exact xO hh)
                have hw8:IntKind.u8.wrap (c:Int)=(c:Int):=IntWalk.u8_in _ af;have hw32:IntKind.u32.wrap (c:Int)=(c:Int):=IntWalk.u32_in _ af;have hA:=Below.refl wr.heap.size wr;clear hlen hl3 hdk
                go_wp2_with fail
                go_region_held3 (fun _=>True) (exact trivial)
                  (first
                    | (go_at_call 150
                       refine (qC.out _ _ g3 _ _ hn3 ?_ ?_).mono ?_
                       · refine bF.rd (t:=113) ?_ (dK _)
                         with_reducible repeat' (first | exact hblk3 | refine bF.drew ?_ | refine bF.alloc ?_ _)
                       · refine bF.rd (t:=113) ?_ WC
                         with_reducible repeat' (first | exact Il _ _ _ | exact Io _ _ _ _ | refine bF.drew ?_ | refine bF.alloc ?_ _ | refine bF.below ?_ hb3 ?_ | simp | omega)
                       rintro e w4 ⟨g4,n4,c4,rfl,hn4,hc4,hg4,kT,hb4⟩
                       have hA4:Below wr.heap.size wr w4:=by
                         refine bK ?_ hb4 (by simp)
                         with_reducible repeat' (first | exact hA | exact aoG _ | exact hA.size | refine Below.drew ?_ | refine Below.alloc ?_ ?_ _ | simp | omega))
                    | (go_at_call 149
                       refine (oH.out _ _ ?_ ?_ ?_).mono ?_
                       · with_reducible repeat' (first | exact hr | refine Rd.drew ?_ | refine Rd.alloc ?_ ?_ _ | exact aoG _ | simp | omega)
                       · refine bF.rd (t:=113) ?_ yJ
                         with_reducible repeat' (first | exact Ip _ _ | exact Iq _ _ _ | refine bF.drew ?_ | refine bF.alloc ?_ _)
                       · (simp;try omega)
                       rintro e w3 ⟨g3,n3,c3,rfl,hn3,hc3,hg3,hblk3,hb3⟩
                       have hA:Below wr.heap.size wr w3:=by
                         refine bK ?_ hb3 (by simp)
                         with_reducible repeat' (first | exact hA | exact aoG _ | refine Below.drew ?_ | refine Below.alloc ?_ ?_ _ | simp | omega)))
                all_goals
                  have yx:=bK hbw hA4 (aoG _);have HR4:=kT.rd (dK _)
                  go_wp2_with fail
                  go_roundw
                  case rel=>exact ⟨k+1,_,c4,_,af,by go_num,rfl,hc4,by rw [<- hn4.out];exact hl4.out,hn4,HR4,Lib.hid HM.out.1,yx⟩
                  case measure=>simp [intOf];omega
          · have HF:Hid (Fits false d):=Lib.hid (yA.out (by have h9:=hdg.out;rwa [apj (jO.out k af)] at h9))
            have hlen':Hid ((bn (bG d)).length=n'):=Lib.hid (by have h9:=hlen.out;rwa [apj (jO.out k af)] at h9);rw [apj (jO.out k af)] at hr;have HY:=Lib.hid (BH.out HF.out);have hn16:n'<=4294967296:=af;obtain rfl:k=L:=af;clear hlen hdg
            go_wp2_with fail
            refine (uX false A' (bn (bG d)) n' c' _ Z _ hr (aoG _) hlen'.out hn16 (by rw [bM];exact HY.out.2)).mono ?_;rintro e w5 ⟨A5,c5,rfl,hc5,iO,hb5⟩;have V2:=T1.next hb5;obtain ⟨d0,d1,g0,g1⟩:=V2.facts
            go_wp2_with fail
            refine bodyPost_ret (v := .tuple #[.agg #[.bool (sg Z),.slice A5 (mg Z).length c5],.int .i64 0]) (by simp [results,Tryz.results122,go_sem,d0,d1]) rfl ?_;obtain ⟨A6,c6,he,h1,h2,h3⟩:=fZ V2 iO (aoG _) hc5 (bK hbw0 hb5 (aoG _)) af
            injection he with he
            injection he with he;simp at he;obtain ⟨rfl,rfl⟩:=he;exact .inl ⟨Z,A5,c5,HY.out.1,rfl,h1,h2,h3⟩
    · have yA:=Lib.hid (BB.out (fun h=>absurd h h48))
      have hb48:((b0:Int)==48)=false:=by rw [beq_eq_false_iff_ne];omega
      go_enter anr,ant
      go_wp2_with fail
      go_loopw [6,42] (fun mv iv wr => ∃ (k n' c':Nat) (A':Option Addr),k<=L/\iv = .int .i64 k/\mv = .slice A' n' c'/\n'<=c'/\n'<=k/\Hid ((bn (bG (d.take k))).length=n')/\Rd wr wr.heap.size A' (bn (bG (d.take k)))/\Hid (dn (d.take k))/\Below (w.alloc (.cells #[.bool false,.slice none 0 0] 79)).heap.size (w.alloc (.cells #[.bool false,.slice none 0 0] 79)) wr) (fun _ i _=>L-(intOf i).toNat)
      case atStart=>exact ⟨0,0,0,none,aoI _,rfl,rfl,aoG _,aoG _,Lib.hid rfl,Rd.nil_ _ _ _,Lib.hid (by intro x hx;simp at hx),Below.refl _ _⟩
      case round =>
        obtain ⟨k,n',c',A',hk,rfl,rfl,hc',hnk,hlen,hr,hdg,hbw⟩:=hrel;have T1:=HT0.out.next hbw;obtain ⟨d0,d1,g0,g1⟩:=T1.facts;have hbw0:=bK HB0.out hbw af;have H8:=hbw.size
        by_cases jl:k<L
        · obtain ⟨hks,b,hsk,hb⟩:=HAT.out k jl
          have lG:Hid (b<48\/57<b -> ∀ z,l≠Lib.itoa z):=Lib.hid (fun hh=>lH.out (fun hf=>by have:=hf.1.2.1 _ (ao9 (HL.out k jl));omega));have qB:Hid (∀ c,b=c+48->c<=9->dn (d.take (k+1))/\bG (d.take (k+1))=bG (d.take k)*10+c):=Lib.hid (fun c hc h9=>⟨uQ (HL.out k jl) hdg.out af,by rw [uU (HL.out k jl)];omega⟩);clear hb
          by_cases hd1:b<48
          · have HZ:=Lib.hid (lG.out (.inl hd1))
            go_wp2_with fail
            refine bodyPost_ret (v := .tuple #[.agg #[.bool false,.slice none 0 0],.int .i64 2]) (by simp [results,Tryz.results122,go_sem,d0,d1]) rfl ?_;exact .inr ⟨HZ.out,rfl,(hbw0.setCell (aoG _) _).setCell (aoG _) _⟩
          · by_cases hd2:57<b
            · have HZ:=Lib.hid (lG.out (.inr hd2))
              go_wp2_with fail
              refine bodyPost_ret (v := .tuple #[.agg #[.bool false,.slice none 0 0],.int .i64 2]) (by simp [results,Tryz.results122,go_sem,d0,d1]) rfl ?_;exact .inr ⟨HZ.out,rfl,(hbw0.setCell (aoG _) _).setCell (aoG _) _⟩
            · obtain ⟨c,rfl⟩ : ∃ c,b=c+48:=⟨b-48,af⟩
              have dM:c<=9:=af;have HM:=Lib.hid (qB.out c rfl dM);have hsk':((D[k]'hks).toNat:Int)=(c:Int)+48:=by rw [hsk];omega
              clear qB lG hsk hd1 hd2;have hm1:n'<=16777216:=af;have hdk:k+1<=d.length:=by have:=HL.out k jl;omega
              have yJ:bJ [10]:=by rw [iH];exact ⟨af,gV⟩
              have WC:bJ [c]:=by rw [iH];exact ⟨af,gV⟩
              have hl3:(bn (bG (d.take k)*10)).length<=k+1:=fD (aoK (Nat.mul_lt_mul_of_lt_of_le (uT hdg.out af) (show 10<=4294967296 from af) af) (by rw [dV,aoR];exact aoG _));have hl4:Hid ((bn (bG (d.take (k+1)))).length<=k+1):=Lib.hid (fD (uT HM.out.1 hdk))
              have oH:Hid (∀ (W:World) (g:Nat),Rd W wr.heap.size A' (bn (bG (d.take k)))->Rd W W.heap.size (some ⟨g,0,none⟩) [10]->wr.heap.size<=W.heap.size->Calls Tryz.prog 149 #[.slice A' n' c',.slice (some ⟨g,0,none⟩) 1 1] W (sD W (bG (d.take k)*10))):=Lib.hid (fun W g h1 h2 h3 =>
                (DL A' _ (bn (bG (d.take k))) [10] n' 1 c' 1 wr.heap.size W.heap.size W h1 h2 h3 (aoG _) hlen.out rfl hm1 af).mono fun e w' hh=>by rw [bM,show val [10]=10 from rfl] at hh;exact xO hh)
              have qC:Hid (∀ (W:World) (g g3 n3 c3:Nat),Hid ((bn (bG (d.take k)*10)).length=n3)->Rd W W.heap.size (some ⟨g3,0,none⟩) (bn (bG (d.take k)*10))->Rd W W.heap.size (some ⟨g,0,none⟩) [c]->Calls Tryz.prog 150 #[.slice (some ⟨g3,0,none⟩) n3 c3,.slice (some ⟨g,0,none⟩) 1 1] W (sD W (bG (d.take (k+1))))):=Lib.hid (fun W g g3 n3 c3 h0 h1 h2 =>
                (Ak _ _ (bn (bG (d.take k)*10)) [c] n3 1 c3 1 W.heap.size W.heap.size W h1 h2 (aoG _) (aoG _) h0.out rfl (by have:=h0.out;omega) af).mono fun e w' hh=>by rw [bM,show val [c]=c by simp [val],<- HM.out.2] at hh;exact xO hh)
              have hw8:IntKind.u8.wrap (c:Int)=(c:Int):=IntWalk.u8_in _ af;have hw32:IntKind.u32.wrap (c:Int)=(c:Int):=IntWalk.u32_in _ af;have hA:=Below.refl wr.heap.size wr;clear hlen hl3 hdk
              go_wp2_with fail
              go_region_held3 (fun _=>True) (exact trivial)
                (first
                  | (go_at_call 150
                     refine (qC.out _ _ g3 _ _ hn3 ?_ ?_).mono ?_
                     · refine bF.rd (t:=113) ?_ (dK _)
                       with_reducible repeat' (first | exact hblk3 | refine bF.drew ?_ | refine bF.alloc ?_ _)
                     · refine bF.rd (t:=113) ?_ WC
                       with_reducible repeat' (first | exact Il _ _ _ | exact Io _ _ _ _ | refine bF.drew ?_ | refine bF.alloc ?_ _ | refine bF.below ?_ hb3 ?_ | simp | omega)
                     rintro e w4 ⟨g4,n4,c4,rfl,hn4,hc4,hg4,kT,hb4⟩
                     have hA4:Below wr.heap.size wr w4:=by
                       refine bK ?_ hb4 (by simp)
                       with_reducible repeat' (first | exact hA | exact aoG _ | exact hA.size | refine Below.drew ?_ | refine Below.alloc ?_ ?_ _ | simp | omega))
                  | (go_at_call 149
                     refine (oH.out _ _ ?_ ?_ ?_).mono ?_
                     · with_reducible repeat' (first | exact hr | refine Rd.drew ?_ | refine Rd.alloc ?_ ?_ _ | exact aoG _ | simp | omega)
                     · refine bF.rd (t:=113) ?_ yJ
                       with_reducible repeat' (first | exact Ip _ _ | exact Iq _ _ _ | refine bF.drew ?_ | refine bF.alloc ?_ _)
                     · (simp;try omega)
                     rintro e w3 ⟨g3,n3,c3,rfl,hn3,hc3,hg3,hblk3,hb3⟩
                     have hA:Below wr.heap.size wr w3:=by
                       refine bK ?_ hb3 (by simp)
                       with_reducible repeat' (first | exact hA | exact aoG _ | refine Below.drew ?_ | refine Below.alloc ?_ ?_ _ | simp | omega)))
              all_goals
                have yx:=bK hbw hA4 (aoG _);have HR4:=kT.rd (dK _)
                go_wp2_with fail
                go_roundw
                case rel=>exact ⟨k+1,_,c4,_,af,by go_num,rfl,hc4,by rw [<- hn4.out];exact hl4.out,hn4,HR4,Lib.hid HM.out.1,yx⟩
                case measure=>simp [intOf];omega
        · have HF:Hid (Fits false d):=Lib.hid (yA.out (by have h9:=hdg.out;rwa [apj (jO.out k af)] at h9))
          have hlen':Hid ((bn (bG d)).length=n'):=Lib.hid (by have h9:=hlen.out;rwa [apj (jO.out k af)] at h9);rw [apj (jO.out k af)] at hr;have HY:=Lib.hid (BH.out HF.out);have hn16:n'<=4294967296:=af;obtain rfl:k=L:=af;clear hlen hdg
          go_wp2_with fail
          refine (uX false A' (bn (bG d)) n' c' _ Z _ hr (aoG _) hlen'.out hn16 (by rw [bM];exact HY.out.2)).mono ?_;rintro e w5 ⟨A5,c5,rfl,hc5,iO,hb5⟩;have V2:=T1.next hb5;obtain ⟨d0,d1,g0,g1⟩:=V2.facts
          go_wp2_with fail
          refine bodyPost_ret (v := .tuple #[.agg #[.bool (sg Z),.slice A5 (mg Z).length c5],.int .i64 0]) (by simp [results,Tryz.results122,go_sem,d0,d1]) rfl ?_;obtain ⟨A6,c6,he,h1,h2,h3⟩:=fZ V2 iO (aoG _) hc5 (bK hbw0 hb5 (aoG _)) af
          injection he with he
          injection he with he;simp at he;obtain ⟨rfl,rfl⟩:=he;exact .inl ⟨Z,A5,c5,HY.out.1,rfl,h1,h2,h3⟩
set_option maxRecDepth 100000 in
set_option maxHeartbeats 6400000 in
theorem adx(d l:List UInt8)(w:World)(hl:d.length<=400)(hdl:l=45::d) :
    Calls Tryz.prog 122 #[.string ⟨(45::d).toArray⟩] w (FT w l):=by
  obtain ⟨D,hD⟩ : ∃ D:ByteArray,D=⟨d.toArray⟩:=⟨_,rfl⟩;obtain ⟨S,hS⟩ : ∃ S:ByteArray,S=⟨(45::d).toArray⟩:=⟨_,rfl⟩;obtain ⟨Z,hZ⟩ : ∃ Z:Int,Z = -(bG d:Int):=⟨_,rfl⟩;have lH:Hid (¬Fits true d -> ∀ z,l≠Lib.itoa z):=Lib.hid (fun h=>by rw [hdl];exact abQ h);have BH:Hid (Fits true d->l=Lib.itoa Z/\Z=if true=true then -(bG d:Int) else (bG d:Int)):=Lib.hid (fun h=>⟨by rw [hdl,hZ];exact NT h,by rw [hZ];rfl⟩);obtain ⟨W0,hW0⟩ : ∃ W0,W0=w.alloc (.cells #[.bool false,.slice none 0 0] 79):=⟨_,rfl⟩;have hT0:Two W0 w.heap.size 79 (.bool false) (.slice none 0 0):=by rw [hW0];exact Two.new w _ _ _
  have hB0:Below w.heap.size w W0:=by rw [hW0];exact (Below.refl _ _).alloc (aoG _) _
  have hs0:w.heap.size<=W0.heap.size:=hB0.size;have HT0:=Lib.hid hT0;have HB0:=Lib.hid hB0;clear hT0 hB0;subst hW0;obtain ⟨L,hL⟩ : ∃ L,L=d.length:=⟨_,rfl⟩;have HL:Hid (∀ k,k<L->k<d.length):=Lib.hid (fun k h=>af);have jO:Hid (∀ k,L<=k->d.length<=k):=Lib.hid (fun k h=>af);have hDs:D.size=L:=by rw [hD,hL];simp [ByteArray.size]
  have HAT:Hid (∀ k (h:k<L),∃ (hs:k<D.size) (b:Nat),((D[k]'hs).toNat:Int)=(b:Int)/\b=(d[k]'(HL.out k h)).toNat):=Lib.hid (fun k h=>⟨af,_,rfl,by subst hD;rfl⟩);have hL4:L<=400:=af;obtain ⟨M,hM⟩ : ∃ M,M=d.length+1:=⟨_,rfl⟩;have hsz:S.size=M:=by rw [hS,hM];simp [ByteArray.size]
  have hs0':0<S.size:=af;have hM1:1<=M:=af;have hM2:M<=401:=af;obtain ⟨b,hb⟩ : ∃ b:Nat,b=45:=⟨_,rfl⟩;have hsb:((S[0]'hs0').toNat:Int)=(b:Int):=by subst hS;rw [hb];rfl
  have CS:((b:Int)==45)=true:=by rw [hb];rfl
  have hx1:S.extract 1 M=D:=by rw [hS,hD,hM,yZ];simp
  rw [<- hS];clear hD hS hZ hdl hl hL hb hM;rcases aoT L with h0 | h0
  · have HZ:=Lib.hid (lH.out (fun hf=>by have:=jO.out 0 af;have:=hf.1.1;omega))
    obtain ⟨d0,d1,g0,g1⟩:=HT0.out.facts
    go_enter anr,ant
    go_wp2_with fail
    refine bodyPost_ret (v := .tuple #[.agg #[.bool false,.slice none 0 0],.int .i64 2]) (by simp [results,Tryz.results122,go_sem,d0,d1]) rfl ?_;exact .inr ⟨HZ.out,rfl,HB0.out⟩
  · obtain ⟨G7,b0,hb0,hbd0⟩:=HAT.out 0 h0
    have BB:Hid (b0≠48->dn d->Fits true d):=Lib.hid (fun h hd=>NE hd (HL.out 0 h0) (fun e=>absurd af h));have EP:Hid (b0=48->¬Fits true d):=Lib.hid (fun e hf=>by have:=(NS hf (HL.out 0 h0) af).2;cases this);clear hbd0;have hLq:((L:Int)==0)=false:=by rw [beq_eq_false_iff_ne];omega
    by_cases h48:b0=48
    · have HZ:=Lib.hid (lH.out (EP.out h48))
      obtain ⟨d0,d1,g0,g1⟩:=HT0.out.facts
      by_cases h1:1<L
      · go_enter anr,ant
        go_wp2_with fail
        refine bodyPost_ret (v := .tuple #[.agg #[.bool false,.slice none 0 0],.int .i64 2]) (by simp [results,Tryz.results122,go_sem,d0,d1]) rfl ?_;exact .inr ⟨HZ.out,rfl,HB0.out⟩
      · have hL1:L=1:=af
        go_enter anr,ant
        go_wp2_with fail
        refine bodyPost_ret (v := .tuple #[.agg #[.bool false,.slice none 0 0],.int .i64 2]) (by simp [results,Tryz.results122,go_sem,d0,d1]) rfl ?_;exact .inr ⟨HZ.out,rfl,HB0.out⟩
    · have yA:=Lib.hid (BB.out h48)
      have hb48:((b0:Int)==48)=false:=by rw [beq_eq_false_iff_ne];omega
      go_enter anr,ant
      go_wp2_with fail
      go_loopw [6,42] (fun mv iv wr => ∃ (k n' c':Nat) (A':Option Addr),k<=L/\iv = .int .i64 k/\mv = .slice A' n' c'/\n'<=c'/\n'<=k/\Hid ((bn (bG (d.take k))).length=n')/\Rd wr wr.heap.size A' (bn (bG (d.take k)))/\Hid (dn (d.take k))/\Below (w.alloc (.cells #[.bool false,.slice none 0 0] 79)).heap.size (w.alloc (.cells #[.bool false,.slice none 0 0] 79)) wr) (fun _ i _=>L-(intOf i).toNat)
      case atStart=>exact ⟨0,0,0,none,aoI _,rfl,rfl,aoG _,aoG _,Lib.hid rfl,Rd.nil_ _ _ _,Lib.hid (by intro x hx;simp at hx),Below.refl _ _⟩
      case round =>
        obtain ⟨k,n',c',A',hk,rfl,rfl,hc',hnk,hlen,hr,hdg,hbw⟩:=hrel;have T1:=HT0.out.next hbw;obtain ⟨d0,d1,g0,g1⟩:=T1.facts;have hbw0:=bK HB0.out hbw af;have H8:=hbw.size
        by_cases jl:k<L
        · obtain ⟨hks,b,hsk,hb⟩:=HAT.out k jl
          have lG:Hid (b<48\/57<b -> ∀ z,l≠Lib.itoa z):=Lib.hid (fun hh=>lH.out (fun hf=>by have:=hf.1.2.1 _ (ao9 (HL.out k jl));omega));have qB:Hid (∀ c,b=c+48->c<=9->dn (d.take (k+1))/\bG (d.take (k+1))=bG (d.take k)*10+c):=Lib.hid (fun c hc h9=>⟨uQ (HL.out k jl) hdg.out af,by rw [uU (HL.out k jl)];omega⟩);clear hb
          by_cases hd1:b<48
          · have HZ:=Lib.hid (lG.out (.inl hd1))
            go_wp2_with fail
            refine bodyPost_ret (v := .tuple #[.agg #[.bool false,.slice none 0 0],.int .i64 2]) (by simp [results,Tryz.results122,go_sem,d0,d1]) rfl ?_;exact .inr ⟨HZ.out,rfl,(hbw0.setCell (aoG _) _).setCell (aoG _) _⟩
          · by_cases hd2:57<b
            · have HZ:=Lib.hid (lG.out (.inr hd2))
              go_wp2_with fail
              refine bodyPost_ret (v := .tuple #[.agg #[.bool false,.slice none 0 0],.int .i64 2]) (by simp [results,Tryz.results122,go_sem,d0,d1]) rfl ?_;exact .inr ⟨HZ.out,rfl,(hbw0.setCell (aoG _) _).setCell (aoG _) _⟩
            · obtain ⟨c,rfl⟩ : ∃ c,b=c+48:=⟨b-48,af⟩
              have dM:c<=9:=af;have HM:=Lib.hid (qB.out c rfl dM);have hsk':((D[k]'hks).toNat:Int)=(c:Int)+48:=by rw [hsk];omega
              clear qB lG hsk hd1 hd2;have hm1:n'<=16777216:=af;have hdk:k+1<=d.length:=by have:=HL.out k jl;omega
              have yJ:bJ [10]:=by rw [iH];exact ⟨af,gV⟩
              have WC:bJ [c]:=by rw [iH];exact ⟨af,gV⟩
              have hl3:(bn (bG (d.take k)*10)).length<=k+1:=fD (aoK (Nat.mul_lt_mul_of_lt_of_le (uT hdg.out af) (show 10<=4294967296 from af) af) (by rw [dV,aoR];exact aoG _));have hl4:Hid ((bn (bG (d.take (k+1)))).length<=k+1):=Lib.hid (fD (uT HM.out.1 hdk))
              have oH:Hid (∀ (W:World) (g:Nat),Rd W wr.heap.size A' (bn (bG (d.take k)))->Rd W W.heap.size (some ⟨g,0,none⟩) [10]->wr.heap.size<=W.heap.size->Calls Tryz.prog 149 #[.slice A' n' c',.slice (some ⟨g,0,none⟩) 1 1] W (sD W (bG (d.take k)*10))):=Lib.hid (fun W g h1 h2 h3 =>
                (DL A' _ (bn (bG (d.take k))) [10] n' 1 c' 1 wr.heap.size W.heap.size W h1 h2 h3 (aoG _) hlen.out rfl hm1 af).mono fun e w' hh=>by rw [bM,show val [10]=10 from rfl] at hh;exact xO hh)
              have qC:Hid (∀ (W:World) (g g3 n3 c3:Nat),Hid ((bn (bG (d.take k)*10)).length=n3)->Rd W W.heap.size (some ⟨g3,0,none⟩) (bn (bG (d.take k)*10))->Rd W W.heap.size (some ⟨g,0,none⟩) [c]->Calls Tryz.prog 150 #[.slice (some ⟨g3,0,none⟩) n3 c3,.slice (some ⟨g,0,none⟩) 1 1] W (sD W (bG (d.take (k+1))))):=Lib.hid (fun W g g3 n3 c3 h0 h1 h2 =>
                (Ak _ _ (bn (bG (d.take k)*10)) [c] n3 1 c3 1 W.heap.size W.heap.size W h1 h2 (aoG _) (aoG _) h0.out rfl (by have:=h0.out;omega) af).mono fun e w' hh=>by rw [bM,show val [c]=c by simp [val],<- HM.out.2] at hh;exact xO hh)
              have hw8:IntKind.u8.wrap (c:Int)=(c:Int):=IntWalk.u8_in _ af;have hw32:IntKind.u32.wrap (c:Int)=(c:Int):=IntWalk.u32_in _ af;have hA:=Below.refl wr.heap.size wr;clear hlen hl3 hdk
              go_wp2_with fail
              go_region_held3 (fun _=>True) (exact trivial)
                (first
                  | (go_at_call 150
                     refine (qC.out _ _ g3 _ _ hn3 ?_ ?_).mono ?_
                     · refine bF.rd (t:=113) ?_ (dK _)
                       with_reducible repeat' (first | exact hblk3 | refine bF.drew ?_ | refine bF.alloc ?_ _)
                     · refine bF.rd (t:=113) ?_ WC
                       with_reducible repeat' (first | exact Il _ _ _ | exact Io _ _ _ _ | refine bF.drew ?_ | refine bF.alloc ?_ _ | refine bF.below ?_ hb3 ?_ | simp | omega)
                     rintro e w4 ⟨g4,n4,c4,rfl,hn4,hc4,hg4,kT,hb4⟩
                     have hA4:Below wr.heap.size wr w4:=by
                       refine bK ?_ hb4 (by simp)
                       with_reducible repeat' (first | exact hA | exact aoG _ | exact hA.size | refine Below.drew ?_ | refine Below.alloc ?_ ?_ _ | simp | omega))
                  | (go_at_call 149
                     refine (oH.out _ _ ?_ ?_ ?_).mono ?_
                     · with_reducible repeat' (first | exact hr | refine Rd.drew ?_ | refine Rd.alloc ?_ ?_ _ | exact aoG _ | simp | omega)
                     · refine bF.rd (t:=113) ?_ yJ
                       with_reducible repeat' (first | exact Ip _ _ | exact Iq _ _ _ | refine bF.drew ?_ | refine bF.alloc ?_ _)
                     · (simp;try omega)
                     rintro e w3 ⟨g3,n3,c3,rfl,hn3,hc3,hg3,hblk3,hb3⟩
                     have hA:Below wr.heap.size wr w3:=by
                       refine bK ?_ hb3 (by simp)
                       with_reducible repeat' (first | exact hA | exact aoG _ | refine Below.drew ?_ | refine Below.alloc ?_ ?_ _ | simp | omega)))
              all_goals
                have yx:=bK hbw hA4 (aoG _);have HR4:=kT.rd (dK _)
                go_wp2_with fail
                go_roundw
                case rel=>exact ⟨k+1,_,c4,_,af,by go_num,rfl,hc4,by rw [<- hn4.out];exact hl4.out,hn4,HR4,Lib.hid HM.out.1,yx⟩
                case measure=>simp [intOf];omega
        · have HF:Hid (Fits true d):=Lib.hid (yA.out (by have h9:=hdg.out;rwa [apj (jO.out k af)] at h9))
          have hlen':Hid ((bn (bG d)).length=n'):=Lib.hid (by have h9:=hlen.out;rwa [apj (jO.out k af)] at h9);rw [apj (jO.out k af)] at hr;have HY:=Lib.hid (BH.out HF.out);have hn16:n'<=4294967296:=af;obtain rfl:k=L:=af;clear hlen hdg
          go_wp2_with fail
          refine (uX true A' (bn (bG d)) n' c' _ Z _ hr (aoG _) hlen'.out hn16 (by rw [bM];exact HY.out.2)).mono ?_;rintro e w5 ⟨A5,c5,rfl,hc5,iO,hb5⟩;have V2:=T1.next hb5;obtain ⟨d0,d1,g0,g1⟩:=V2.facts
          go_wp2_with fail
          refine bodyPost_ret (v := .tuple #[.agg #[.bool (sg Z),.slice A5 (mg Z).length c5],.int .i64 0]) (by simp [results,Tryz.results122,go_sem,d0,d1]) rfl ?_;obtain ⟨A6,c6,he,h1,h2,h3⟩:=fZ V2 iO (aoG _) hc5 (bK hbw0 hb5 (aoG _)) af
          injection he with he
          injection he with he;simp at he;obtain ⟨rfl,rfl⟩:=he;exact .inl ⟨Z,A5,c5,HY.out.1,rfl,h1,h2,h3⟩
theorem QT(l:List UInt8)(w:World)(hl:l.length<=400) :
  Calls Tryz.prog 122 #[.string ⟨l.toArray⟩] w (FT w l):=by
 by_cases h45 : ∀ h:0<l.length,(l[0]'h).toNat≠45
 ·exact ady l l w hl rfl h45
 ·obtain ⟨d,rfl⟩ : ∃ d,l=45::d:=by
   cases l with
   | nil=>exact absurd (fun h=>by simp at h) h45
   | cons x d =>
    refine ⟨d,?_⟩;rcases Classical.em (x.toNat=45) with hx | hx
    ·rw [show x=45 from UInt8.toNat_inj.1 hx]
    ·exact absurd (fun _=>hx) h45
  exact adx d _ w (by clear h45;have h9:=hl;rw [ao5] at h9;omega) rfl
end Go.Proofs.BGQ
namespace Lw
open Go Go.RowKit
theorem zN{z z':Int}(h:Lib.itoa z=Lib.itoa z'):z=z':=by
 cases hz:sg z <;> cases hz':sg z'
 ·rw [je hz,je hz',ao3,ao3] at h
  have h1:=congrArg bG h;rw [oQ,oQ] at h1;have:=AP hz;have:=AP hz';omega
 ·rw [je hz,itoa_neg hz',ao3,apO] at h
  have hp:=pM z.natAbs;rw [h] at hp;exact absurd rfl (IC hp.2.1 hp.1)
 ·rw [itoa_neg hz,je hz',ao3,apO] at h
  have hp:=pM z'.natAbs;rw [<- h] at hp;exact absurd rfl (IC hp.2.1 hp.1)
 ·rw [itoa_neg hz,itoa_neg hz',apO,apO] at h
  injection h with _ h;have h1:=congrArg bG h;rw [oQ,oQ] at h1;have:=(uo hz).1;have:=(uo hz').1;omega
end Lw
namespace Lw
open Go
theorem WO{l:List UInt8}{c:UInt8}(h:c∈l):0<=Lib.indexByte l c:=by
 induction l with
 | nil=>cases h
 | cons b l ih =>
  unfold Lib.indexByte
  by_cases hb:b=c
  ·rw [if_pos (by simpa using hb)];decide
  ·have h2:c∈l:=by
    rcases List.mem_cons.1 h with e | e
    ·exact absurd e.symm hb
    ·exact e
   have h3:=ih h2;rw [if_neg (by simpa using hb),if_neg (by simp;omega)];omega
end Lw
namespace Go.Proofs.BGQ
open Go Go.RowKit Lw bI
section
variable {W0 w:World} {U:List Box} {Ps:List (World->Prop)} {l a r:List UInt8}
variable {b s1 s2:Bool} {x1 x2 z:Int} {c1 c2 k k1 k2 n1 n2:Nat} {A1 A2:Option Addr}
theorem mx0(HX:Mx W0)(HS:St W0 U Ps w):Mx w:=HX.next HS.below
theorem uk(HS:St W0 U Ps w)(h : ∀ x∈l,x≠46):bC Tryz.prog 116 [.string ⟨l.toArray⟩,.string ⟨([46]).toArray⟩] w (dm W0 U Ps (.bool false)):=by
 refine Calls.mono (Tryz.strings_Contains_one ⟨l.toArray⟩ 46 w) fun e w' hh => ?_;obtain ⟨rfl,rfl⟩:=hh;refine ⟨_,rfl,?_,HS⟩;show Value.bool (decide (0<=Lib.indexByte l 46)) = .bool false;rw [F6 h];rfl
theorem aeI(HS:St W0 U Ps w)(h:46∈l):bC Tryz.prog 116 [.string ⟨l.toArray⟩,.string ⟨([46]).toArray⟩] w (dm W0 U Ps (.bool true)):=by
 refine Calls.mono (Tryz.strings_Contains_one ⟨l.toArray⟩ 46 w) fun e w' hh => ?_;obtain ⟨rfl,rfl⟩:=hh;refine ⟨_,rfl,?_,HS⟩;show Value.bool (decide (0<=Lib.indexByte l 46)) = .bool true;rw [decide_eq_true (WO h)]
theorem kP(HX:Mx W0)(HS:St W0 U Ps w){c:UInt8}{x y:List UInt8}(h:Lib.cut l [c]=(x,y,b))(hl:l.length<=100000) :
  bC Tryz.prog 118 [.string ⟨l.toArray⟩,.string ⟨([c]).toArray⟩] w (dm W0 U Ps (.tuple #[.string ⟨x.toArray⟩,.string ⟨y.toArray⟩,.bool b])):=by
 obtain ⟨m,hm⟩:=mx0 HX HS;have hs:(⟨l.toArray⟩:ByteArray).size=l.length:=by simp [ByteArray.size]
 refine Calls.mono (Tryz.strings_Cut ⟨l.toArray⟩ ⟨#[c]⟩ m w (by rw [hs];omega) hm) fun e w' hh => ?_;obtain ⟨rfl,n,rfl⟩:=hh;refine ⟨_,rfl,?_,HS.next (below_drewN' _ _ n)⟩;show Value.tuple #[.string ⟨(Lib.cut l [c]).1.toArray⟩,.string ⟨(Lib.cut l [c]).2.1.toArray⟩,.bool (Lib.cut l [c]).2.2]=_;rw [h]
theorem aeJ(HS:St W0 U Ps w):bC Tryz.prog 159 [.string ⟨l.toArray⟩,.string ⟨([45]).toArray⟩] w (dm W0 U Ps (.tuple #[.string ⟨(Lib.trimPrefix l [45]).toArray⟩,.bool (Lib.hasPrefix l [45])])):=by
 refine Calls.mono (Tryz.strings_CutPrefix ⟨l.toArray⟩ ⟨#[45]⟩ w) fun e w' hh => ?_;obtain ⟨rfl,rfl⟩:=hh;exact ⟨_,rfl,rfl,HS⟩
theorem o9(HS:St W0 U Ps w)(h:b=true↔0<l.length/\dn l)(hl:l.length<=65536):bC Tryz.prog 160 [.string ⟨l.toArray⟩] w (dm W0 U Ps (.bool b)):=by
 refine Calls.mono (aaJ l b w h hl) fun e w' hh => ?_;obtain ⟨rfl,rfl⟩:=hh;exact ⟨_,rfl,rfl,HS⟩
theorem Qk(HT:Tz W0)(HB:Tab W0)(HS:St W0 U Ps w)(hd:dn l)(hl:l.length<=1000):bC Tryz.prog 161 [.string ⟨l.toArray⟩] w (iI W0 U Ps (bG l:Int) (6*l.length+1)) :=
 lN HS (abV l (St.start HS HT HB) hd hl)
theorem QK(HT:Tz W0)(HB:Tab W0)(HS:St W0 U Ps w){m2:Nat}(f1:FI (.agg #[.bool s1,.slice A1 n1 c1]) x1 k1 w)(hk:k1<=100)(hm:m2<=100) :
  bC Tryz.prog 162 [.agg #[.bool s1,.slice A1 n1 c1],aj m2] w (iI W0 U Ps (x1^m2) (k1*m2+1)) :=
 lN HS (acW ((St.start HS HT HB).push f1) ak hk hm (dB.lt f1))
theorem QN(HT:Tz W0)(HB:Tab W0)(HS:St W0 U Ps w)(f1:FI (.agg #[.bool s1,.slice A1 n1 c1]) x1 k1 w)(f2:FI (.agg #[.bool s2,.slice A2 n2 c2]) x2 k2 w)(hk:k1+k2<=40000)(hy:0<x2) :
  bC Tryz.prog 90 [.agg #[.bool s1,.slice A1 n1 c1],.agg #[.bool s2,.slice A2 n2 c2]] w (jk W0 U Ps (Rat.divInt x1 x2) (k1+1+(k2+1))) :=
 zg HS (I8 (((St.start HS HT HB).push f2).push f1) ak au hk hy)
theorem Qg(HT:Tz W0)(HB:Tab W0)(HS:St W0 U Ps w){B1:Option Addr}{m1 d1:Nat}{q1:Rat}(f1:FV (aoC s1 A1 n1 c1 B1 m1 d1) q1 k1 true w)(hk:k1<=100000) :
  bC Tryz.prog 139 [(aoC s1 A1 n1 c1 B1 m1 d1)] w (jk W0 U Ps (-q1) k1) :=
 zg HS (Qh ((St.start HS HT HB).cons f1) ak hk)
theorem aaY(HT:Tz W0)(HB:Tab W0)(HS:St W0 U Ps w)(f1:FI (.agg #[.bool s1,.slice A1 n1 c1]) x1 k1 w)(f2:FI (.agg #[.bool s2,.slice A2 n2 c2]) x2 k2 w)(hy:x2=1) :
  bC Tryz.prog 120 [.agg #[.bool s1,.slice A1 n1 c1],.agg #[.bool s2,.slice A2 n2 c2]] w (jk W0 U Ps ((x1:Int):Rat) (k1+k2)) :=
 zg HS (Iu (((St.start HS HT HB).push f2).push f1) ak au (Rat.num_intCast _) (by rw [hy,Rat.den_intCast];rfl))
theorem vF(h:(Lib.itoa z).length<=300):z.natAbs<pw 32:=by
 have h1:z.natAbs<10^(Lib.decDigits z.natAbs).length:=by
  have h2:=yX (uP z.natAbs) (Lib.decDigits z.natAbs).length (aoG _)
  rwa [ao7,oQ] at h2
 have hl:(Lib.decDigits z.natAbs).length<=300:=by
  cases hz:sg z
  ·rw [je hz,ao3] at h;exact h
  ·rw [itoa_neg hz,apO,ao5] at h;omega
 obtain ⟨e,he⟩ : ∃ e:Nat,e=3:=⟨3,rfl⟩
 have h3:10^(Lib.decDigits z.natAbs).length<=(10^100)^e:=by
  rw [<- apn];exact ao8 ai af
 have h4:(10^100)^e<pw 32:=by subst he;decide +kernel
 omega
theorem Ph(h:(Lib.itoa z).length<=300):(mg z).length<=32:=pq (vF h)
theorem FV.pair{x:Int}{y:Int}{w:World}(f1:FI (.agg #[.bool s1,.slice A1 n1 c1]) x k w)(f2:FI (.agg #[.bool s2,.slice A2 n2 c2]) y k w)(hy:0<y) :
  ∃ (q:Rat) (b:Bool),FV (aoC s1 A1 n1 c1 A2 n2 c2) q k b w/\(b=true↔x≠0/\Nat.gcd x.natAbs y.natAbs=1)/\(b=true->q=Rat.divInt x y):=by
 obtain ⟨a1,a2,a3,a4,a5⟩:=dB.len f1;obtain ⟨b1,b2,b3,b4,b5⟩:=dB.len f2;subst a1 b1
 have hy0:1<=(mg y).length:=by
  have:=mt (kW (z:=y)).1 af;omega
 refine ⟨qv (sg x) (mg x) (mg y),fV (sg x) (mg x) (mg y),⟨sg x,A1,n1,c1,A2,n2,c2,mg x,mg y,rfl,a3,b3,a2.symm,b2.symm,a4,b4,a5,b5,rfl,rfl⟩,?_,?_⟩
 ·by_cases hx:x=0
  ·rw [Gp rfl rfl (.inl (kW.2 hx)) (by have:=kW.2 hx;omega)]
   exact ⟨fun h=>(by cases h),fun h=>absurd hx h.1⟩
  ·have hx0:1<=(mg x).length:=by
    have:=mt (kW (z:=x)).1 hx;omega
   rw [Gm rfl rfl hx0 hy0,show vB false (mg x)=true from AU af,show vB false (mg y)=true from AU af];unfold cp;rw [eX,eX];simp [hx]
 ·intro h
  unfold qv;rw [if_pos h,eX y];have h1:=og x;unfold zv at h1;rw [if_pos (mO x)] at h1;rw [h1]
  congr 1
  omega
theorem FI.made{A:Option Addr}{c:Nat}{w':World}(hc:(mg z).length<=c)(hr:Rd w' w'.heap.size A (mg z))(hk:(mg z).length<=k):FI (.agg #[.bool (sg z),.slice A (mg z).length c]) z k w' :=
 ⟨_,_,_,_,_,_,rfl,hr,aoG _,rfl,hk,hc,og z,mO z⟩
theorem qQ(HS:St W0 U Ps w)(h:l=Lib.itoa z)(hl:l.length<=300):bC Tryz.prog 119 [.string ⟨l.toArray⟩] w (EH W0 U Ps z 32 .nilIface):=by
 have hz:=Ph (z:=z) (by rw [<- h];exact hl);refine Calls.mono (Qs l w af) fun e w' hh => ?_;rcases hh with ⟨z',h1,A,c,h2,h3,h4,h5⟩ | ⟨h1,_⟩
 ·obtain rfl:=zN (h.symm.trans h1)
  exact ⟨_,h2,_,_,_,_,rfl,(HS.next h5).add (FI.stable _ _ _) (FI.made h3 h4 af)⟩
 ·exact absurd h (h1 z)
theorem Ih(HS:St W0 U Ps w)(h : ∀ z,l≠Lib.itoa z)(hl:l.length<=300):bC Tryz.prog 119 [.string ⟨l.toArray⟩] w (dm W0 U Ps (.tuple #[.agg #[.bool false,.slice none 0 0],.iface 88 (.int .i64 2)])):=by
 refine Calls.mono (Qs l w af) fun e w' hh => ?_;rcases hh with ⟨z',h1,_⟩ | ⟨_,h2,h3⟩
 ·exact absurd h1 (h z')
 ·exact ⟨_,h2,rfl,HS.next h3⟩
theorem ad4(HS:St W0 U Ps w)(h:l=Lib.itoa z)(hl:l.length<=300):bC Tryz.prog 122 [.string ⟨l.toArray⟩] w (EH W0 U Ps z 32 (.int .i64 0)):=by
 have hz:=Ph (z:=z) (by rw [<- h];exact hl);refine Calls.mono (QT l w af) fun e w' hh => ?_;rcases hh with ⟨z',A,c,h1,h2,h3,h4,h5⟩ | ⟨h1,_⟩
 ·obtain rfl:=zN (h.symm.trans h1)
  exact ⟨_,h2,_,_,_,_,rfl,(HS.next h5).add (FI.stable _ _ _) (FI.made h3 h4 af)⟩
 ·exact absurd h (h1 z)
theorem ad3(HS:St W0 U Ps w)(h : ∀ z,l≠Lib.itoa z)(hl:l.length<=300):bC Tryz.prog 122 [.string ⟨l.toArray⟩] w (dm W0 U Ps (.tuple #[.agg #[.bool false,.slice none 0 0],.int .i64 2])):=by
 refine Calls.mono (QT l w af) fun e w' hh => ?_;rcases hh with ⟨z',A,c,h1,_⟩ | ⟨_,h2,h3⟩
 ·exact absurd h1 (h z')
 ·exact ⟨_,h2,rfl,HS.next h3⟩
end
end Go.Proofs.BGQ
