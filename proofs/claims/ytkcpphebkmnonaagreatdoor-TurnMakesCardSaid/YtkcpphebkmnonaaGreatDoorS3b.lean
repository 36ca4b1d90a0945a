/- Part of a proof, said shortly. -/
import Derived.Shelf.Small.Bits
import Derived.Shelf.Small.Wraps
import Derived.Shelf.Strconv.Itoa0
import Derived.Shelf.Strconv.Itoa1
import Derived.Shelf.LaysM
import Derived.Shelf.Strconv.Itoa2
import Derived.Shelf.Strings.Search1
import Derived.Shelf.Strings.Search2
import Derived.Shelf.Strings.Search3
import Derived.Shelf.Strings.Cut
import Derived.Shelf.Strings.Shaped
import Derived.Shelf.Strconv.AppendUint10
import Derived.Shelf.Strings.Prefix
import Derived.Test.YtkcpphebkmnonaaGreatDoorProg
import Derived.Deep.LoopGhost
import Derived.Laws.IdiomStrings
import Derived.Lib.BufferRead
import Derived.Deep.RegionWith
import Derived.Deep.DeepCutAuto
import Derived.Test.YtkcpphebkmnonaaGreatDoorCards
import Derived.Test.YtkcpphebkmnonaaGreatDoorTie
import Derived.WalkKit
import Derived.ProofKit
import Derived.OpenShut
import Derived.Carry
import Derived.Deep.DeepHandedRow
import Derived.Deep.DeepLaidRun
import Derived.Lib.LaidTab
import Derived.Lib.SmallJoins
import Derived.LaidSub
import Derived.LaidMore
import Derived.Shelf.Vars
import Derived.Below
import Derived.Laws.Cells
import Derived.OrdersHeld
import Derived.LoopN
import Derived.OwnWalk
import Derived.Deep.RegionHeld3
import Derived.Test.YtkcpphebkmnonaaGreatDoorAlzb
import Derived.Test.YtkcpphebkmnonaaGreatDoorC2b
import Derived.Test.YtkcpphebkmnonaaGreatDoorC3b
import Derived.Test.YtkcpphebkmnonaaGreatDoorC1b
import Derived.Test.YtkcpphebkmnonaaGreatDoorC4b
import Derived.Test.YtkcpphebkmnonaaGreatDoorC9b
import Derived.Test.YtkcpphebkmnonaaGreatDoorC8b
import Derived.Test.YtkcpphebkmnonaaGreatDoorC5b
import Derived.Test.YtkcpphebkmnonaaGreatDoorC7b
import Derived.Test.YtkcpphebkmnonaaGreatDoorC6b
import Derived.Test.YtkcpphebkmnonaaGreatDoorC10b
import Derived.Test.YtkcpphebkmnonaaGreatDoorC11b
import Derived.Test.YtkcpphebkmnonaaGreatDoorC12b
import Derived.Test.YtkcpphebkmnonaaGreatDoorC16b
import Derived.Test.YtkcpphebkmnonaaGreatDoorC15b
import Derived.Test.YtkcpphebkmnonaaGreatDoorC13b
import Derived.Test.YtkcpphebkmnonaaGreatDoorC14b
import Derived.Test.YtkcpphebkmnonaaGreatDoorC17b
import Derived.Test.YtkcpphebkmnonaaGreatDoorC18b
set_option maxRecDepth 100000
set_option maxHeartbeats 8000000
set_option linter.unusedVariables false
set_option linter.unusedSimpArgs false
namespace Go.Proofs
open Go.Shelf BGQ
def Tryz.lays125_ren:Go.Shelf.Ren:=⟨fun | 125=>186 | 128=>200 | 129=>201 | n=>n,fun | 46=>146 | 3=>3 | 51=>113 | 53=>134 | 4=>4 | 5=>5 | 9=>9 | n=>n,fun | n=>n⟩
theorem Tryz.lays125:Go.Proofs.Lays.n125 Tryz.prog Tryz.lays125_ren := {
 mixed:=ah
 f125:=Tryz.func186.trans (congrArg some ah)
 f128:=Tryz.func200.trans (congrArg some ah)
 f129:=Tryz.func201.trans (congrArg some ah)
 t3:=auw
 a3:=auF
 z3:=auG
 v3:=auH
 t4:=aud
 a4:=atQ
 z4:=atT
 v4:=auI
 t5:=auL
 a5:=au7
 z5:=au8
 v5:=au9
 t9:=auM
 a9:=au'
 z9:=ava
 v9:=avb
 t46:=avc
 a46:=avd
 z46:=ave
 v46:=avf
 t51:=avg
 a51:=avs
 z51:=avt
 v51:=avu
 t53:=Tryz.underlying134
 a53:=Tryz.isAgg134
 z53:=Tryz.sizeOf134
 v53:=Tryz.zeroValue134 }
theorem Tryz.bits_Len(x:Int)(w:World)(h0:0<=x)(h1:x<=18446744073709551615) :
  Calls Tryz.prog 186 #[.int .u64 x] w fun e w'=>e = .returned (.int .i64 (Lib.bitLen x.toNat))/\w'=w:=Any.bits_Len Tryz.lays125 x w h0 h1
def Tryz.lays103_ren:Go.Shelf.Ren:=⟨fun | 103=>159 | 210=>185 | 206=>199 | n=>n,fun | 9=>9 | 4=>4 | 24=>149 | 3=>3 | n=>n,fun | n=>n⟩
theorem Tryz.lays103:Go.Proofs.Lays.n103 Tryz.prog Tryz.lays103_ren := {
 mixed:=ah
 f103:=Tryz.func159.trans (congrArg some ah)
 f206:=Tryz.func199.trans (congrArg some ah)
 f210:=Tryz.func185.trans (congrArg some ah)
 t3:=auw
 a3:=auF
 z3:=auG
 v3:=auH
 t4:=aud
 a4:=atQ
 z4:=atT
 v4:=auI
 t9:=auM
 a9:=au'
 z9:=ava
 v9:=avb
 t24:=Tryz.underlying149
 a24:=Tryz.isAgg149
 z24:=Tryz.sizeOf149
 v24:=Tryz.zeroValue149 }
open Go.RowKit in
theorem Tryz.strings_CutPrefix(s p:ByteArray)(w:World) :
  Calls Tryz.prog 159 #[.string s,.string p] w fun e w'=>e = .returned (.tuple #[.string ⟨(Lib.trimPrefix s.data.toList p.data.toList).toArray⟩,.bool (Lib.hasPrefix s.data.toList p.data.toList)])/\w'=w:=Any.strings_CutPrefix Tryz.lays103 s p w
def Tryz.lays144_ren:Go.Shelf.Ren:=⟨fun | 144=>116 | 143=>158 | 219=>184 | 217=>195 | 225=>196 | 224=>197 | 267=>198 | 266=>209 | 314=>210 | n=>n,fun | 9=>9 | 4=>4 | 3=>3 | 5=>5 | 46=>146 | 146=>184 | 51=>113 | n=>n,fun | 1=>1 | n=>n⟩
theorem Tryz.lays144:Go.Proofs.Lays.n144 Tryz.prog Tryz.lays144_ren := {
 mixed:=ah
 f143:=Tryz.func158.trans (congrArg some ah)
 f144:=Tryz.func116.trans (congrArg some ah)
 f217:=Tryz.func195.trans (congrArg some ah)
 f219:=Tryz.func184.trans (congrArg some ah)
 f224:=Tryz.func197.trans (congrArg some ah)
 f225:=Tryz.func196.trans (congrArg some ah)
 f266:=Tryz.func209.trans (congrArg some ah)
 f267:=Tryz.func198.trans (congrArg some ah)
 f314:=Tryz.func210.trans (congrArg some ah)
 t3:=auw
 a3:=auF
 z3:=auG
 v3:=auH
 t4:=aud
 a4:=atQ
 z4:=atT
 v4:=auI
 t5:=auL
 a5:=au7
 z5:=au8
 v5:=au9
 t9:=auM
 a9:=au'
 z9:=ava
 v9:=avb
 t46:=avc
 a46:=avd
 z46:=ave
 v46:=avf
 t51:=avg
 a51:=avs
 z51:=avt
 v51:=avu
 t146:=Tryz.underlying184
 a146:=Tryz.isAgg184
 z146:=Tryz.sizeOf184
 v146:=Tryz.zeroValue184
 g1:=by kernel_rfl }
open Go.RowKit Go.Lib in
theorem Tryz.strings_Contains_one(s:ByteArray)(c:UInt8)(w:World) :
  Calls Tryz.prog 116 #[.string s,.string ⟨#[c]⟩] w fun e w'=>e = .returned (.bool (decide (0<=Lib.indexByte s.data.toList c)))/\w'=w:=Any.strings_Contains_one Tryz.lays144 s c w
def Tryz.lays145_ren:Go.Shelf.Ren:=⟨fun | 145=>118 | 220=>163 | 219=>184 | 217=>195 | 225=>196 | 224=>197 | 267=>198 | 266=>209 | 314=>210 | n=>n,fun | 9=>9 | 4=>4 | 59=>121 | 3=>3 | 5=>5 | 46=>146 | 146=>184 | 51=>113 | n=>n,fun | 1=>1 | n=>n⟩
theorem Tryz.lays145:Go.Proofs.Lays.n145 Tryz.prog Tryz.lays145_ren := {
 mixed:=ah
 f145:=Tryz.func118.trans (congrArg some ah)
 f217:=Tryz.func195.trans (congrArg some ah)
 f219:=Tryz.func184.trans (congrArg some ah)
 f220:=Tryz.func163.trans (congrArg some ah)
 f224:=Tryz.func197.trans (congrArg some ah)
 f225:=Tryz.func196.trans (congrArg some ah)
 f266:=Tryz.func209.trans (congrArg some ah)
 f267:=Tryz.func198.trans (congrArg some ah)
 f314:=Tryz.func210.trans (congrArg some ah)
 t3:=auw
 a3:=auF
 z3:=auG
 v3:=auH
 t4:=aud
 a4:=atQ
 z4:=atT
 v4:=auI
 t5:=auL
 a5:=au7
 z5:=au8
 v5:=au9
 t9:=auM
 a9:=au'
 z9:=ava
 v9:=avb
 t46:=avc
 a46:=avd
 z46:=ave
 v46:=avf
 t51:=avg
 a51:=avs
 z51:=avt
 v51:=avu
 t59:=Tryz.underlying121
 a59:=Tryz.isAgg121
 z59:=Tryz.sizeOf121
 v59:=Tryz.zeroValue121
 t146:=Tryz.underlying184
 a146:=Tryz.isAgg184
 z146:=Tryz.sizeOf184
 v146:=Tryz.zeroValue184
 g1:=by kernel_rfl }
open Go.RowKit Go.Lib in
theorem Tryz.strings_Cut(s sep:ByteArray)(m:Int)(w:World)(hs:s.size<4294967281)(hm:w.cell? ⟨1,0,none⟩=some (.int .i64 m)) :
  Calls Tryz.prog 118 #[.string s,.string sep] w fun e w'=>e = .returned (.tuple #[.string ⟨(Lib.cut s.data.toList sep.data.toList).1.toArray⟩,.string ⟨(Lib.cut s.data.toList sep.data.toList).2.1.toArray⟩,.bool (Lib.cut s.data.toList sep.data.toList).2.2]) /\ ∃ n,w'=w.drewN n:=Any.strings_Cut Tryz.lays145 s sep m w hs hm
end Go.Proofs
namespace Lw
open Go Go.RowKit
theorem BQ{d:Nat}(h:d<10):((UInt8.ofNat (48+d)).toNat:Int)=48+(d:Int):=by
 have:(UInt8.ofNat (48+d)).toNat=48+d:=by
  rw [UInt8.toNat_ofNat'];omega
 omega
end Lw
namespace Lw
open Go Go.RowKit
theorem RG(k u:Nat)(h:u<10^(k+1)):(Lib.decDigits u).length<=k+1:=by
 induction k generalizing u with
 | zero=>rw [Lib.decDigits,dif_pos (by simpa using h)];simp
 | succ k ih =>
  rw [Lib.decDigits];grind
theorem Gr.others{t e:TypeId}{w w':World}{A:Option Addr}{gs:List Nat}(h:Gr t w A gs)(hk:Lib.OthersKept e none w w')(ht:t≠e):Gr t w' A gs:=by
 rcases h with rfl | ⟨g,rfl,rest,h⟩
 ·exact .inl rfl
 ·exact .inr ⟨g,rfl,rest,hk g _ h (by simp) (fun c fz e=>by cases e;exact ht rfl)⟩
end Lw
namespace Lw
open Go Go.RowKit
theorem itoa_neg{z:Int}(h:sg z=true):Lib.itoa z=[45]++Lib.decDigits z.natAbs:=by
 have:=yD h;unfold Lib.itoa;rw [if_pos af];rfl
theorem kZ{z:Int}(h:sg z=false):Lib.itoa z=[]++Lib.decDigits z.natAbs:=by
 have:=Eg h;unfold Lib.itoa;rw [if_neg af,show z.toNat=z.natAbs by omega];rfl
theorem Fq(u:Nat):0<(Lib.decDigits u).length:=by
 rw [Lib.decDigits];grind
end Lw
namespace Go.Proofs.BGQ
open Go Go.RowKit Lw
def EY(w:World)(z:Int)(e:Ending)(w':World):Prop :=
 ∃ A c,e = .returned (.tuple #[.agg #[.bool (sg z),.slice A (mg z).length c],.nilIface])/\(mg z).length<=c/\Rd w' w'.heap.size A (mg z)/\Below w.heap.size w w'
end Go.Proofs.BGQ
namespace Lw
open Go Go.RowKit
def few(l:List Wh):Bool:=l.all fun a=>decide (a.n<=30)
end Lw
namespace Go.Proofs.BGQ
open Go Go.RowKit Lw
theorem aaU(z:Int)(w:World):Sem.run Tryz.prog (Instr.typeAssert (.iface 88 (.int .i64 z)) 30 88 true) w = .ok (.tuple #[.int .i64 z,.bool true]) w:=ah
set_option maxRecDepth 100000 in
set_option maxHeartbeats 800000 in
theorem agh(z:Int)(w:World):Calls Tryz.prog 18 #[.iface 88 (.int .i64 z)] w fun e w'=>e = .returned (.int .i64 z)/\w=w':=by
 go_enter Tryz.func18,Tryz.ntmps18
 have ha:=aaU z w
 go_wp2
 go_ret
 exact ⟨rfl,rfl⟩
end Go.Proofs.BGQ
namespace Lw
open Go
def lD(q:Rat):List UInt8:=if q.den=1 then Lib.itoa q.num else Lib.itoa q.num++([47]++Lib.itoa (q.den:Int))
end Lw
namespace Lw
open Go
def bI(l:List UInt8):Nat:=l.foldl (fun v b=>v*10+(b.toNat-48)) 0
def dG(l:List UInt8):Prop := ∀ b∈l,48<=b.toNat/\b.toNat<=57
theorem acI:bI []=0:=rfl
theorem FC(l:List UInt8)(b:UInt8):bI (l++[b])=bI l*10+(b.toNat-48):=by simp [bI]
theorem ac8(l:List UInt8)(v:Nat):l.foldl (fun v b=>v*10+(b.toNat-48)) v=v*10^l.length+bI l:=by
 induction l generalizing v with
 | nil=>simp [bI]
 | cons b l ih =>
  have h:=ih (0*10+(b.toNat-48));rw [List.foldl_cons,ih,awq,awi];unfold bI;rw [List.foldl_cons,h];grind
theorem Sv(l m:List UInt8):bI (l++m)=bI l*10^m.length+bI m:=by
 unfold bI;rw [List.foldl_append,ac8];rfl
theorem y9{l:List UInt8}{k:Nat}(h:k<l.length):bI (l.take (k+1))=bI (l.take k)*10+(l[k].toNat-48):=by
 rw [axy h,FC]
theorem BV{l:List UInt8}(h:dG l)(k:Nat)(hk:k<=l.length):bI (l.take k)<10^k:=by
 induction k with
 | zero=>simp [bI]
 | succ k ih =>
  have h1:=ih af;have h2:=h l[k] (awr _);rw [y9 af,awi];omega
theorem ace{l:List UInt8}(h:dG l)(k:Nat):dG (l.take k):=fun b hb=>h b (List.mem_of_mem_take hb)
theorem ab9{l:List UInt8}(h:dG l)(k:Nat):dG (l.drop k):=fun b hb=>h b (awF hb)
theorem ab4{l:List UInt8}{k G U b:Nat}(hk:k<l.length)(hG:G=bI (l.take k))(hU:U=10^k)(hb:l[k].toNat=b+48):G*10+b=bI (l.take (k+1))/\U*10=10^(k+1):=by
 rw [y9 hk,<- hG,hb,awi,<- hU];omega
theorem ajO{l:List Nat}(w:bM l)(h:pw (l.length-1)<=val l):eP l:=by
 rcases av' l.length with h0 | h0
 ·rw [awc h0];exact Ar
 ·refine N9 fun e => ?_
  have h1:=dA l (l.length-1);rw [show l.length-1+1=l.length from af,dF (avW _),e] at h1;have:=kE w (l.length-1);omega
theorem ajQ{cs ds:List Nat}{U G:Nat}(wd:bM ds)(hl:ds.length=cs.length)(hU:0<U)(hv:val ds=val cs*U+G)(t:eP cs):eP ds:=by
 rcases av' cs.length with h0 | h0
 ·rw [awc (hl.trans h0)];exact Ar
 ·refine ajO wd ?_
  have h1:=DK t (by intro e;rw [e] at h0;simp at h0);rw [hl,hv];have:val cs*1<=val cs*U:=av9 _ hU;omega
theorem ajP(l:List Nat){x:Nat}(h:x≠0):eP (l++[x]):=by
 intro y hy;simp at hy;omega
theorem ajD{cs ds:List Nat}{k C C' R G U:Nat}(hk:k<ds.length)(hv:lo ds k+pw k*C=lo cs k*U+G)(_hd:dg ds k=dg cs k)(hD:C+dg cs k*U=C'*4294967296+R) :
  lo (ds.set k R) (k+1)+pw (k+1)*C'=lo cs (k+1)*U+G:=by
 rw [lg _ hk,dA,fB];have h:pw k*(C+dg cs k*U)=pw k*(C'*4294967296+R):=by rw [hD]
 grind
end Lw
namespace Go.Proofs.BGQ
open Go Go.RowKit Lw
set_option maxRecDepth 100000 in
set_option maxHeartbeats 3200000 in
theorem aaR(Bt:Nat)(l:List UInt8)(v:Value)(n:Nat)(cs:List Nat)(w:World)(hown:w.ownsRow Bt 113 1 v n (arr cs))(hcw:bM cs)(hBt:Bt<=w.heap.size)(hn:n<=1048576)(hd:dG l)(hl:l.length<=9) :
  Calls Tryz.prog 187 #[v,.string ⟨l.toArray⟩] w fun e w' => ∃ v' n' ds,e = .returned v'/\w'.ownsRow Bt 113 1 v' n' (arr ds)/\bM ds/\n'<=n+1/\val ds=val cs*10^l.length+bI l/\(eP cs->eP ds)/\Below Bt w w':=by
 obtain ⟨S,hS⟩ : ∃ S:ByteArray,S=⟨l.toArray⟩:=⟨_,rfl⟩;have hsz:S.size=l.length:=by rw [hS];simp [ByteArray.size]
 have hat : ∀ k (h:k<S.size),(S[k]'h).toNat=(l[k]'af).toNat:=by intro k h;subst hS;rfl
 obtain ⟨A,c,rfl⟩ : ∃ A c,v = .slice A n c:=by
  rcases hown.2 with ⟨rfl,rfl⟩ | ⟨g,cap,cur,rfl,_⟩
  ·exact ⟨_,_,rfl⟩
  ·exact ⟨_,_,rfl⟩
 rw [<- hS];have HAT:=Lib.hid hat;have HD:=Lib.hid hd;clear hS hat hd
 go_enter Tryz.func187,Tryz.ntmps187
 go_wp2_with fail
 go_loopw [5,6,13] (fun gv uv iv wr => ∃ k G U:Nat,k<=l.length/\iv = .int .i64 k/\gv = .int .u64 G/\uv = .int .u64 U/\G<U/\U<=1000000000/\Hid (G=bI (l.take k)/\U=10^k)/\wr=w) (fun _ _ i _=>l.length-(intOf i).toNat)
 case atStart=>exact ⟨0,0,1,avY _,rfl,rfl,rfl,af,af,Lib.hid ⟨rfl,rfl⟩,rfl⟩
 case round =>
  obtain ⟨k,G,U,hk,rfl,rfl,rfl,hGU,hU,hv,rfl⟩:=hrel
  by_cases hkl:k<l.length
  ·have hks:k<S.size:=af
   have hb:=HD.out (l[k]'hkl) (awr _);obtain ⟨b,hbv⟩ : ∃ b,(l[k]'hkl).toNat=b+48:=⟨(l[k]'hkl).toNat-48,af⟩;have lW:b<=9:=af;have hsk:((S[k]'hks).toNat:Int)=(b:Int)+48:=by rw [HAT.out k hks,hbv];omega
   have HST:=Lib.hid (ab4 hkl hv.out.1 hv.out.2 hbv);have CG:Hid (U*10<=1000000000):=Lib.hid (by rw [HST.out.2];exact avX (awv af (show k+1<=9 from af)) ai);clear hb hbv
   go_wp2_with fail
   go_roundw
   case rel=>exact ⟨k+1,G*10+b,U*10,af,by go_num,by go_num,by go_num,af,CG.out,Lib.hid HST.out,trivial⟩
   case measure=>simp [intOf];omega
  ·obtain rfl:k=l.length:=af
   have HV:Hid (G=bI l/\U=10^l.length):=Lib.hid (by have:=hv.out;rwa [awm] at this);clear hv
   go_wp2_with fail
   go_loopw [8,30] (fun cv iv wr' => ∃ (k C:Nat) (ds:List Nat),k<=n/\C<=1000000000/\iv = .int .i64 k/\cv = .int .u64 C/\wr'.ownsRow Bt 113 1 (.slice A n c) n (arr ds)/\bM ds/\Hid (ds.length=n) /\
     Hid (∀ j,k<=j->dg ds j=dg cs j)/\Hid (lo ds k+pw k*C=lo cs k*U+G)/\Below Bt wr wr') (fun _ i _=>n-(intOf i).toNat)
   case atStart=>exact ⟨0,G,cs,avY _,af,rfl,rfl,hown,hcw,Lib.hid (by have:=hown.1;rwa [nD,awn] at this),Lib.hid (fun _ _=>rfl),Lib.hid (by simp [iG,o8]),Below.refl _ _⟩
   case round =>
    obtain ⟨k,C,ds,hk,hC,rfl,rfl,hown2,hdw,hdl,hsame,hval,hbw⟩:=hrel;have LX:=hbw.size
    by_cases hkn:k<n
    ·obtain ⟨g,rfl,hgB⟩ : ∃ g,A=some ⟨g,0,none⟩/\Bt<=g:=by
      rcases hown2.2 with ⟨h1,h2⟩ | ⟨g,cap,cur,h1,h2,_⟩
      ·omega
      ·simp only [Value.slice.injEq] at h1;exact ⟨g,h1.1,h2⟩
     have hlt:=gY hdw k;have hcc:=hown2.cellAt k af;rw [E5 ds k (by rw [hdl.out];exact hkn)] at hcc;have hfr:=hown2.frozenAt k;obtain ⟨x,hx⟩ : ∃ x,x=dg ds k:=⟨_,rfl⟩;rw [<- hx] at hcc hlt;obtain ⟨P,hP⟩ : ∃ P,P=x*U:=⟨_,rfl⟩;have hPl:P<=4294967295*1000000000:=by rw [hP];exact awy af hU
     have CB:(x:Int)*(U:Int)=(P:Int):=by rw [hP];simp
     have hPj:(U:Int)*(x:Int)=(P:Int):=by rw [Int.mul_comm];exact CB
     obtain ⟨R,hR⟩ : ∃ R,R=(C+P)%4294967296:=⟨_,rfl⟩;obtain ⟨C',hC'⟩ : ∃ C',C'=(C+P)/4294967296:=⟨_,rfl⟩;have HST:=Lib.hid (ajD (C':=C') (R:=R) (by rw [hdl.out];exact hkn) hval.out (hsame.out k (avW _)) (by rw [<- hsame.out k (avW _),<- hx,<- hP,hR,hC'];omega));have hRl:R<4294967296:=af;have Cf:C'<=1000000000:=af;have hRi:((C:Int)+(P:Int))%4294967296=(R:Int):=af;have hCi:((C:Int)+(P:Int))/4294967296=(C':Int):=af;have hst:=hown2.stored k (.int .u32 (R:Int));rw [Qv] at hst;have JG:=Lib.hid hst;have anB:P<=4294967295000000000:=af;clear hx hP hR hC' hst hPl
     go_wp2_with fail
     go_roundw
     case rel =>
      refine ⟨k+1,C',ds.set k R,af,Cf,by go_num,by go_num,JG.out.1,jk hdw _ hRl,Lib.hid (by rw [av4];exact hdl.out),Lib.hid ?_,HST,hbw.setCell hgB _⟩;intro j hj;rw [kC _ (by rw [hdl.out];exact hkn),if_neg af];exact hsame.out j af
     case measure=>simp [intOf];omega
    ·obtain rfl:k=n:=af
     have hkc:cs.length=k:=by have:=hown.1;rwa [nD,awn] at this
     have hv2:=hval.out;rw [dF (by rw [hdl.out];exact avW _),dF af] at hv2;have hU0:0<U:=af
     by_cases h0:C=0
     ·subst h0
      rw [Nat.mul_zero,awx] at hv2;have HF:Hid (val ds=val cs*10^l.length+bI l/\(eP cs->eP ds)):=Lib.hid ⟨by rw [hv2,HV.out.1,<- HV.out.2],ajQ hdw (by rw [hdl.out,hkc]) hU0 hv2⟩;clear hv2 hkc
      go_wp2_with fail
      go_ret
      exact ⟨_,k,ds,rfl,hown2,hdw,af,HF.out.1,HF.out.2,hbw⟩
     ·have HF:Hid (val (ds++[C])=val cs*10^l.length+bI l/\(eP cs->eP (ds++[C]))):=Lib.hid ⟨by rw [Om,hdl.out,hv2,HV.out.1,<- HV.out.2],fun _=>ajP _ h0⟩
      have hC0:(0:Int)<(C:Int):=af;have vw:=(bH.new wr 113 [C]).rd (by rw [jP];exact ⟨af,jo⟩);have hcm:(C:Int)%4294967296=(C:Int):=af;clear hv2 hkc
      go_wp2_with (at_builtin;refine IV _ rfl _ _ 22 rfl Bt 113 atV kJ _ k ds rfl (hown2.alloc _) _ _ [C] 1 1 rfl vw rfl af (by simp;omega) ?_;intro v' w4 hown4 hgrow4 hnil)
      have hgrow:(wr.alloc (.cells #[.int .u32 (C:Int)] 113)).grownBy w4 (Value.slice A k c).ownBlock:=hgrow4;have hb5:=(hbw.alloc af (.cells #[.int .u32 (C:Int)] 113)).grown hgrow (by simp;omega) (fun k hk=>(hown2.lt k hk).1);clear hgrow4 hnil hgrow vw
      go_wp2_with fail
      go_ret
      exact ⟨_,k+1,ds++[C],rfl,hown4,Ou.2 ⟨hdw,by rw [jP];exact ⟨af,jo⟩⟩,af,HF.out.1,HF.out.2,hb5⟩
end Go.Proofs.BGQ
namespace Lw
open Go
theorem BZ(a:List UInt8)(i j:Nat):(ByteArray.mk a.toArray).extract i j=⟨((a.drop i).take (j-i)).toArray⟩:=by
 apply ByteArray.ext;rw [ByteArray.data_extract];simp
theorem ajs(l:List UInt8)(p m:Nat):l.take (p+m)=l.take p++(l.drop p).take m:=by rw [List.take_add]
end Lw
namespace Go.Proofs.BGQ
open Go Go.RowKit Lw
set_option maxRecDepth 100000 in
set_option maxHeartbeats 3200000 in
theorem ahC(l:List UInt8)(w:World)(hd:dG l)(hl:l.length<=65536) :
  Calls Tryz.prog 165 #[.string ⟨l.toArray⟩] w fun e w' => ∃ v n ds,e = .returned v/\w'.ownsRow w.heap.size 113 1 v n (arr ds)/\bM ds/\n<=l.length/\val ds=bI l/\eP ds/\Below w.heap.size w w':=by
 obtain ⟨i0,hi0,hz0,hz1,hz2⟩:=info_parts kJ;obtain ⟨S,hS⟩ : ∃ S:ByteArray,S=⟨l.toArray⟩:=⟨_,rfl⟩;have hsz:S.size=l.length:=by rw [hS];simp [ByteArray.size]
 rw [<- hS];have JG:=Lib.hid hS;have HD:=Lib.hid hd;clear hS hd
 go_enter Tryz.func165,Tryz.ntmps165
 go_wp2_with (at_make;refine wpList_make_own _ rfl _ _ _ rfl w.heap.size 113 i0 _ 1 atV hi0 hz0 hz1 _ _ _ (l.length/9+1) rfl rfl af (by rw [hz2];omega) (by unfold maxLen;omega) (avW _) ?_;intro w1 hown hgrow)
 have hbel:Below w.heap.size w w1:=(Below.refl _ _).grown hgrow (avW _) (fun k hk=>by cases hk);clear hgrow
 go_loopw [0,3] (fun sv v wr => ∃ (p n:Nat) (T:ByteArray) (ds:List Nat),p<=l.length/\sv = .string T/\T.size=l.length-p/\Hid (T=⟨(l.drop p).toArray⟩)/\wr.ownsRow w.heap.size 113 1 v n (arr ds)/\bM ds/\n<=p /\
   Hid (val ds=bI (l.take p)/\eP ds)/\Below w.heap.size w wr) (fun sv _ _=>match sv with | .string T=>T.size | _=>0)
 case atStart=>exact ⟨0,0,S,[],avY _,rfl,af,Lib.hid (by rw [JG.out];rfl),hown,jo,avW _,Lib.hid ⟨rfl,Ar⟩,hbel⟩
 case round =>
  obtain ⟨p,n,T,ds,hp,rfl,hT,TQ,hown2,hdw,hnp,hv,hbw⟩:=hrel;clear hown hbel;have LX:=hbw.size
  by_cases hpl:p<l.length
  ·obtain ⟨m,hm⟩ : ∃ m,m=(l.length-p-1)%9+1:=⟨_,rfl⟩
   have hm1:((l.length:Int)-(p:Int)-1)%9+1=(m:Int):=af;have aeq:m<=l.length-p:=af;have hm9:m<=9:=af;obtain ⟨r,hr⟩ : ∃ r,r=l.length-p:=⟨_,rfl⟩;rw [<- hr] at hT aeq hm;have hr0:0<r:=af;have hrl:r<=65536:=af;have HX1:Hid (T.extract 0 ((r-1)%9+1)=⟨((l.drop p).take m).toArray⟩):=Lib.hid (by rw [<- hm,TQ.out,BZ,Nat.sub_zero,awS]);have Bo:Hid (T.extract ((r-1)%9+1) r=⟨(l.drop (p+m)).toArray⟩):=Lib.hid (by rw [<- hm,TQ.out,BZ,List.drop_drop,awG (by rw [awP];omega)]);have HM:=Lib.hid hm;have HR:=Lib.hid hr;have hlm:((l.drop p).take m).length=m:=by rw [aww,awP];omega
   have P8:=Lib.hid hlm;clear hm hr hm1 hlm
   go_wp2_with fail
   rw [HX1.out];refine (aaR w.heap.size ((l.drop p).take m) u3 n ds _ hown2 hdw LX af (ace (ab9 HD.out p) m) (by rw [P8.out];exact hm9)).mono ?_;rintro e w2 ⟨v',n',ds',rfl,hown3,aej,hn3,hv3,ht3,hb3⟩;have HV3:=Lib.hid hv3;have HT3:=Lib.hid ht3;have hbw3:=hbw.trans hb3;clear hv3 ht3 hown2 hb3 hbw
   go_wp2_with fail
   have hsz2:(T.extract ((r-1)%9+1) r).size=l.length-(p+m):=by rw [Bo.out];simp [ByteArray.size]
   have hpm:p+m<=l.length:=by have:=HR.out;omega
   have hm0:1<=m:=by have:=HM.out;omega
   go_roundw
   case rel =>
    refine ⟨p+m,n',_,ds',hpm,rfl,hsz2,Bo,hown3,aej,af,Lib.hid ⟨?_,HT3.out hv.out.2⟩,hbw3⟩;rw [HV3.out,hv.out.1,ajs,Sv,P8.out]
   case measure =>
    show (T.extract ((r-1)%9+1) r).size<T.size;have:=HR.out;omega
  ·obtain rfl:p=l.length:=af
   have HV:Hid (val ds=bI l/\eP ds):=Lib.hid (by have:=hv.out;rwa [awm] at this);have hT0:T.size=0:=af;clear hv hT
   go_wp2_with fail
   go_ret
   exact ⟨_,n,ds,rfl,hown2,hdw,hnp,HV.out.1,HV.out.2,hbw⟩
end Go.Proofs.BGQ
namespace Lw
open Go
def Plain(l:List UInt8):Prop:=0<l.length/\dG l/\(1<l.length -> ∀ h:0<l.length,(l[0]'h).toNat≠48)
theorem yX(n:Nat):dG (Lib.decDigits n):=by
 induction n using Nat.strongRecOn with
 | ind n ih =>
  rw [Lib.decDigits]
  by_cases h:n<10
  ·rw [dif_pos h]
   intro b hb;rw [List.mem_singleton] at hb;subst hb;have:=BQ h;omega
  ·rw [dif_neg h]
   intro b hb;rw [awE,List.mem_singleton] at hb;rcases hb with hb | rfl
   ·exact ih (n/10) af b hb
   ·have:=BQ (d:=n%10) af
    omega
theorem rD(n:Nat):bI (Lib.decDigits n)=n:=by
 induction n using Nat.strongRecOn with
 | ind n ih =>
  rw [Lib.decDigits]
  by_cases h:n<10
  ·rw [dif_pos h]
   have:=BQ h;simp [bI];omega
  ·rw [dif_neg h,FC,ih (n/10) af]
   have:=BQ (d:=n%10) af;omega
theorem ab1(n:Nat)(h0:n≠0) : ∀ h:0<(Lib.decDigits n).length,((Lib.decDigits n)[0]'h).toNat≠48:=by
 induction n using Nat.strongRecOn with
 | ind n ih =>
  by_cases h:n<10
  ·intro hh
   have e:Lib.decDigits n=[UInt8.ofNat (48+n)]:=by rw [Lib.decDigits,dif_pos h]
   have:=BQ h;simp only [e,List.getElem_cons_zero];omega
  ·intro hh
   have hp:=Fq (n/10);have e:Lib.decDigits n=Lib.decDigits (n/10)++[UInt8.ofNat (48+n%10)]:=by rw [Lib.decDigits,dif_neg h]
   have h1:=ih (n/10) af af hp;simp only [e,List.getElem_append_left hp];exact h1
theorem sN(n:Nat):Plain (Lib.decDigits n):=by
 refine ⟨Fq n,yX n,fun h1 h => ?_⟩
 by_cases h0:n=0
 ·subst h0
  rw [Lib.decDigits_one af] at h1;simp at h1
 ·exact ab1 n h0 h
end Lw
namespace Go.Proofs.BGQ
open Go Go.RowKit Lw
set_option maxRecDepth 100000 in
set_option maxHeartbeats 3200000 in
theorem GU(l:List UInt8)(w:World)(hp:Plain l)(hl:l.length<=65536) :
  Calls Tryz.prog 164 #[.string ⟨l.toArray⟩] w fun e w'=>e = .returned (.bool true)/\w=w':=by
 obtain ⟨S,hS⟩ : ∃ S:ByteArray,S=⟨l.toArray⟩:=⟨_,rfl⟩;have hsz:S.size=l.length:=by rw [hS];simp [ByteArray.size]
 have hat : ∀ k (h:k<S.size),(S[k]'h).toNat=(l[k]'af).toNat:=by intro k h;subst hS;rfl
 obtain ⟨h0,hd,hz⟩:=hp
 have hne:S.toList.isEmpty=false:=by
  rw [hS,ByteArray.toList_mk]
  cases l with
  | nil=>simp at h0
  | cons x l=>rfl
 have hs0:0<S.size:=af;have F5:=hd (l[0]'h0) (awr _);rw [<- hS];have HAT:=Lib.hid hat;have HD:=Lib.hid hd;obtain ⟨b,hb⟩ : ∃ b,b=(l[0]'h0).toNat:=⟨_,rfl⟩;have hsb:((S[0]'hs0).toNat:Int)=(b:Int):=by rw [hat 0 hs0,hb]
 have HZ:Hid (1<l.length->b≠48):=Lib.hid (fun h=>by rw [hb];exact hz h h0);rw [<- hb] at F5;clear hat hd hS hz hb
 go_enter Tryz.func164,Tryz.ntmps164
 by_cases h48:b=48
 ·have h1:l.length=1:=by rcases av3 1 l.length with h | h;exact absurd h48 (HZ.out h);omega
  go_wp2_with fail
  go_loopw [18] (fun iv wr => ∃ i:Nat,i<=l.length/\iv = .int .i64 i/\w=wr) (fun iv _=>l.length-(intOf iv).toNat)
  case atStart=>exact ⟨0,avY _,rfl,rfl⟩
  case round =>
   obtain ⟨i,hi,rfl,rfl⟩:=hrel
   by_cases hil:i<l.length
   ·have hks:i<S.size:=af
    have hbb:=HD.out (l[i]'hil) (awr _);obtain ⟨d,hdd⟩ : ∃ d,d=(l[i]'hil).toNat:=⟨_,rfl⟩;have hsk:((S[i]'hks).toNat:Int)=(d:Int):=by rw [HAT.out i hks,hdd]
    rw [<- hdd] at hbb;obtain ⟨hb1,hb2⟩:=hbb;clear hdd
    go_wp2_with fail
    go_roundw
    case rel=>exact ⟨i+1,af,by go_num,trivial⟩
    case measure=>simp [intOf];omega
   ·obtain rfl:i=l.length:=af
    go_wp2_with fail
    go_ret
    exact ⟨rfl,rfl⟩
 ·have hbi:((b:Int)==48)=false:=by rw [beq_eq_false_iff_ne];omega
  go_wp2_with fail
  go_loopw [18] (fun iv wr => ∃ i:Nat,i<=l.length/\iv = .int .i64 i/\w=wr) (fun iv _=>l.length-(intOf iv).toNat)
  case atStart=>exact ⟨0,avY _,rfl,rfl⟩
  case round =>
   obtain ⟨i,hi,rfl,rfl⟩:=hrel
   by_cases hil:i<l.length
   ·have hks:i<S.size:=af
    have hbb:=HD.out (l[i]'hil) (awr _);obtain ⟨d,hdd⟩ : ∃ d,d=(l[i]'hil).toNat:=⟨_,rfl⟩;have hsk:((S[i]'hks).toNat:Int)=(d:Int):=by rw [HAT.out i hks,hdd]
    rw [<- hdd] at hbb;obtain ⟨hb1,hb2⟩:=hbb;clear hdd
    go_wp2_with fail
    go_roundw
    case rel=>exact ⟨i+1,af,by go_num,trivial⟩
    case measure=>simp [intOf];omega
   ·obtain rfl:i=l.length:=af
    go_wp2_with fail
    go_ret
    exact ⟨rfl,rfl⟩
theorem WQ(N:Nat)(w:World)(hl:(Lib.decDigits N).length<=65536) :
  Calls Tryz.prog 165 #[.string ⟨(Lib.decDigits N).toArray⟩] w fun e w' => ∃ A c,e = .returned (.slice A (bn N).length c)/\(bn N).length<=c/\Rd w' w'.heap.size A (bn N)/\Below w.heap.size w w':=by
 refine (ahC _ w (yX N) hl).mono ?_;rintro e w' ⟨v,n,ds,rfl,hown,hw,hn,hv,ht,hb⟩;rw [rD] at hv;have hds:ds=bn N:=by rw [<- hv];exact (yZ hw ht).symm
 subst hds;have hle:=hown.1;rw [nD,awn] at hle;rcases hown.2 with ⟨rfl,h0⟩ | ⟨g,cap,cur,hv',_,_,hnc,_⟩
 ·have e0:bn N=[]:=awc af
  rw [e0];exact ⟨none,0,rfl,avW _,Rd.nil_ _ _ _,hb⟩
 ·obtain ⟨A,c,rfl,hr,hl2⟩:=Na hown hw
  simp only [Value.slice.injEq] at hv';exact ⟨A,c,by rw [hle],af,hr,hb⟩
set_option maxRecDepth 100000 in
set_option maxHeartbeats 3200000 in
theorem agr(z:Int)(w:World)(hz:sg z=false)(hl:(Lib.decDigits z.natAbs).length<=60000) :
  Calls Tryz.prog 119 #[.string ⟨(Lib.decDigits z.natAbs).toArray⟩] w (EY w z):=by
 have hp:=GU _ w (sN z.natAbs) af;have hp':=fun W=>GU _ W (sN z.natAbs) af;have hr':=fun W=>WQ z.natAbs W af;obtain ⟨l,hll⟩ : ∃ l,l=Lib.decDigits z.natAbs:=⟨_,rfl⟩;have hdd:dG l:=by rw [hll];exact yX _
 have h0:0<l.length:=by rw [hll];exact Fq _
 rw [<- hll] at hl hp' hr' ⊢;obtain ⟨S,hS⟩ : ∃ S:ByteArray,S=⟨l.toArray⟩:=⟨_,rfl⟩;have hsz:S.size=l.length:=by rw [hS];simp [ByteArray.size]
 have hs0:0<S.size:=af;have F5:=hdd (l[0]'h0) (awr _);obtain ⟨b,hb⟩ : ∃ b,b=(l[0]'h0).toNat:=⟨_,rfl⟩;have hsb:((S[0]'hs0).toNat:Int)=(b:Int):=by subst hS;rw [hb];rfl
 rw [<- hb] at F5;rw [<- hS] at hp' hr' ⊢;have FU:((b:Int)==45)=false:=by rw [beq_eq_false_iff_ne];omega
 have HP:=Lib.hid hp';have HR:=Lib.hid hr';have HZ:=Lib.hid hz;obtain ⟨hb1,hb2⟩:=F5;clear hp hp' hr' hll hdd hS hb hz
 go_enter auU,auV
 go_wp2_with fail
 refine (HP.out _).mono ?_;rintro e w1 ⟨rfl,rfl⟩
 go_wp2_with fail
 refine (HR.out _).mono ?_;rintro e w1 ⟨A2,c2,rfl,hc2,hr2,hb4⟩;have U2:=(Two.new w 79 (.bool false) (.slice none 0 0)).next hb4
 go_wp2_with fail
 refine (lG false A2 z.natAbs _ c2 _ z _ hr2 (avW _) rfl hc2 (by have:=wG z;rwa [HZ.out,gX] at this)).mono ?_;rintro e w4 ⟨A4,c4,rfl,hc4,hr4,hb5⟩;have V2:=U2.next hb5;obtain ⟨d0,d1,g0,g1⟩:=V2.facts;have hb3:=(Below.refl w.heap.size w).alloc (avW _) (.cells #[.bool false,.slice none 0 0] 79)
 go_wp2_with fail
 refine bodyPost_ret (v := .tuple #[.agg #[.bool (sg z),.slice A4 (mg z).length c4],.nilIface]) (by simp [results,Tryz.results119,go_sem,d0,d1]) rfl ?_;obtain ⟨A5,c5,he,h1,h2,h3⟩:=iY V2 hr4 hb5.size hc4 (bP (bP hb3 hb4 (avW _)) hb5 (avW _)) af
 injection he with he
 injection he with he;simp at he;obtain ⟨rfl,rfl⟩:=he;exact ⟨A4,c4,rfl,h1,h2,h3⟩
set_option maxRecDepth 100000 in
set_option maxHeartbeats 3200000 in
theorem agn(z:Int)(w:World)(hz:sg z=true)(hl:(Lib.decDigits z.natAbs).length<=60000) :
  Calls Tryz.prog 119 #[.string ⟨(45::Lib.decDigits z.natAbs).toArray⟩] w (EY w z):=by
 have hp':=fun W=>GU _ W (sN z.natAbs) af;have hr':=fun W=>WQ z.natAbs W af
 have LH:((Lib.decDigits z.natAbs)==[48])=false:=by
  rw [beq_eq_false_iff_ne];intro e;have h1:=rD z.natAbs;rw [e] at h1;have h2:=(yD hz).2;have h3:bI [48]=0:=rfl;omega
 obtain ⟨l,hll⟩ : ∃ l,l=Lib.decDigits z.natAbs:=⟨_,rfl⟩;have h0:0<l.length:=by rw [hll];exact Fq _
 rw [<- hll] at hl hp' hr' LH ⊢;obtain ⟨D,hD⟩ : ∃ D:ByteArray,D=⟨l.toArray⟩:=⟨_,rfl⟩;obtain ⟨S,hS⟩ : ∃ S:ByteArray,S=⟨(45::l).toArray⟩:=⟨_,rfl⟩;obtain ⟨M,hM⟩ : ∃ M,M=l.length+1:=⟨_,rfl⟩;have hsz:S.size=M:=by rw [hS,hM];simp [ByteArray.size]
 have hs0:0<S.size:=af;have hM1:1<=M:=af;have hM2:M<=65536:=af;obtain ⟨b,hb⟩ : ∃ b:Nat,b=45:=⟨_,rfl⟩;have hsb:((S[0]'hs0).toNat:Int)=(b:Int):=by subst hS;rw [hb];rfl
 have FU:((b:Int)==45)=true:=by rw [hb];rfl
 have hx1:S.extract 1 M=D:=by rw [hS,hD,hM,BZ];simp
 have adV:(D.toList==[48])=false:=by rw [hD,ByteArray.toList_mk];exact LH
 rw [<- hS];rw [<- hD] at hp' hr';have HP:=Lib.hid hp';have HR:=Lib.hid hr';have HZ:=Lib.hid hz;clear hp' hr' hll hD hS hz LH hb hM hl h0
 go_enter auU,auV
 go_wp2_with fail
 refine (HP.out _).mono ?_;rintro e w1 ⟨rfl,rfl⟩
 go_wp2_with fail
 refine (HR.out _).mono ?_;rintro e w1 ⟨A2,c2,rfl,hc2,hr2,hb4⟩;have U2:=(Two.new w 79 (.bool false) (.slice none 0 0)).next hb4
 go_wp2_with fail
 refine (lG true A2 z.natAbs _ c2 _ z _ hr2 (avW _) rfl hc2 (by have:=wG z;rwa [HZ.out,gX] at this)).mono ?_;rintro e w4 ⟨A4,c4,rfl,hc4,hr4,hb5⟩;have V2:=U2.next hb5;obtain ⟨d0,d1,g0,g1⟩:=V2.facts;have hb3:=(Below.refl w.heap.size w).alloc (avW _) (.cells #[.bool false,.slice none 0 0] 79)
 go_wp2_with fail
 refine bodyPost_ret (v := .tuple #[.agg #[.bool (sg z),.slice A4 (mg z).length c4],.nilIface]) (by simp [results,Tryz.results119,go_sem,d0,d1]) rfl ?_;obtain ⟨A5,c5,he,h1,h2,h3⟩:=iY V2 hr4 hb5.size hc4 (bP (bP hb3 hb4 (avW _)) hb5 (avW _)) af
 injection he with he
 injection he with he;simp at he;obtain ⟨rfl,rfl⟩:=he;exact ⟨A4,c4,rfl,h1,h2,h3⟩
theorem parse_any(z:Int)(w:World)(hl:(Lib.decDigits z.natAbs).length<=60000) :
  Calls Tryz.prog 119 #[.string ⟨(Lib.itoa z).toArray⟩] w (EY w z):=by
 cases h:sg z
 ·rw [kZ h];exact agr z w h hl
 ·rw [itoa_neg h];exact agn z w h hl
end Go.Proofs.BGQ
namespace Lw
open Go
theorem RN{b:UInt8}(h1:48<=b.toNat):UInt8.ofNat (48+(b.toNat-48))=b:=by
 rw [show 48+(b.toNat-48)=b.toNat by omega];exact UInt8.ofNat_toNat
theorem RH:Lib.decDigits 0=[48]:=by rw [Lib.decDigits,dif_pos af];rfl
theorem ab3(k:Nat) : ∀ l:List UInt8,l.length<=k->Plain l->Lib.decDigits (bI l)=l:=by
 induction k with
 | zero=>intro l hl h;exact absurd h.1 af
 | succ k ih =>
  intro l hl h;obtain ⟨h0,hd,hz⟩:=h;obtain ⟨m,b,rfl⟩ : ∃ m b,l=m++[b]:=⟨l.dropLast,l.getLast (by intro e;rw [e] at h0;simp at h0),(List.dropLast_concat_getLast (by intro e;rw [e] at h0;simp at h0)).symm⟩;have hb:=hd b (by simp);rw [FC];rcases av' m.length with hm | hm
  ·obtain rfl:=awc hm
   rw [acI,Nat.zero_mul,awR,Lib.decDigits,dif_pos af,RN hb.1];rfl
  ·have hf:=hz (by simp;omega) (by simp)
   rw [List.getElem_append_left hm] at hf;have hp:Plain m:=⟨hm,fun x hx=>hd x (by simp [hx]),fun _ _=>hf⟩;have e:=ih m (by simp at hl;omega) hp
   have hv:bI m≠0:=by
    intro e0;rw [e0,RH] at e;subst e;exact hf rfl
   rw [Lib.decDigits,dif_neg af,show (bI m*10+(b.toNat-48))/10=bI m from af,show (bI m*10+(b.toNat-48))%10=b.toNat-48 from af,e,RN hb.1]
def Fits(neg:Bool)(d:List UInt8):Prop:=Plain d/\¬(neg=true/\d=[48])
theorem Kz{l:List UInt8}(h:Plain l):Lib.decDigits (bI l)=l:=ab3 l.length l (avW _) h
theorem KQ{d:List UInt8}(h:Fits false d):d=Lib.itoa (bI d:Int):=by
 rw [kZ (by unfold sg;simp),av2,awj,Kz h.1]
theorem TE{d:List UInt8}(h:Fits true d):45::d=Lib.itoa (-(bI d:Int)):=by
 have h0:bI d≠0:=by
  intro e;have:=Kz h.1;rw [e,RH] at this;exact h.2 ⟨rfl,this.symm⟩
 rw [itoa_neg (by unfold sg;simp;omega),axl,av2,Kz h.1];rfl
theorem MQ{l:List UInt8}(h:dG l)(h0:0<l.length):(l[0]'h0).toNat≠45:=by
 have:=h _ (awr h0);omega
theorem agc{l:List UInt8}(h45 : ∀ h:0<l.length,(l[0]'h).toNat≠45)(h:¬Fits false l) : ∀ z,l≠Lib.itoa z:=by
 intro z e
 cases hz:sg z
 ·rw [kZ hz,awj] at e
  exact h ⟨by rw [e];exact sN _,fun hh=>by cases hh.1⟩
 ·rw [itoa_neg hz] at e
  subst e;exact h45 (by simp) rfl
theorem agb{d:List UInt8}(h:¬Fits true d) : ∀ z,45::d≠Lib.itoa z:=by
 intro z e
 cases hz:sg z
 ·rw [kZ hz,awj] at e
  have hp:=sN z.natAbs;rw [<- e] at hp;exact MQ hp.2.1 hp.1 rfl
 ·rw [itoa_neg hz,aw7] at e
  injection e with _ e;refine h ⟨by rw [e];exact sN _,fun hh => ?_⟩;have h1:=rD z.natAbs;rw [<- e,hh.2] at h1;have h2:=(yD hz).2;have h3:bI [48]=0:=rfl;omega
theorem SX{neg:Bool}{d:List UInt8}(hd:dG d)(h0:0<d.length)(h:(d[0]'h0).toNat=48->d.length=1/\neg=false):Fits neg d:=by
 refine ⟨⟨h0,hd,fun h1 _ e=>by have:=(h e).1;omega⟩,fun hh => ?_⟩;obtain ⟨rfl,rfl⟩:=hh;have:=(h rfl).2
 cases this
theorem TD{neg:Bool}{d:List UInt8}(h:Fits neg d)(h0:0<d.length)(e:(d[0]'h0).toNat=48):d.length=1/\neg=false:=by
 obtain ⟨⟨_,hd,hz⟩,hn⟩:=h
 have h1:d.length=1:=by
  rcases av3 1 d.length with h1 | h1
  ·exact absurd e (hz h1 h0)
  ·omega
 refine ⟨h1,?_⟩
 cases neg
 ·rfl
 ·refine absurd ⟨rfl,?_⟩ hn
  obtain ⟨b,rfl⟩:=List.length_eq_one_iff.1 h1;have e':b.toNat=48:=e;have:b=48:=UInt8.toNat_inj.1 e';rw [this]
end Lw
namespace Lw
open Go
theorem yY{l:List UInt8}{i:Nat}(h:i<l.length)(hd:dG (l.take i))(hb:48<=(l[i]'h).toNat/\(l[i]'h).toNat<=57):dG (l.take (i+1)):=by
 rw [axy h];intro b hb';rw [awE,List.mem_singleton] at hb';rcases hb' with hb' | rfl
 ·exact hd b hb'
 ·exact hb
end Lw
namespace Go.Proofs.BGQ
open Go Go.RowKit Lw
set_option maxRecDepth 100000 in
set_option maxHeartbeats 3200000 in
theorem Ws(l:List UInt8)(w:World)(hp:¬Plain l)(hl:l.length<=65536) :
  Calls Tryz.prog 164 #[.string ⟨l.toArray⟩] w fun e w'=>e = .returned (.bool false)/\w=w':=by
 obtain ⟨S,hS⟩ : ∃ S:ByteArray,S=⟨l.toArray⟩:=⟨_,rfl⟩;have hsz:S.size=l.length:=by rw [hS];simp [ByteArray.size]
 have hat : ∀ k (h:k<S.size),(S[k]'h).toNat=(l[k]'af).toNat:=by intro k h;subst hS;rfl
 have uS:=Lib.hid hp;have HAT:=Lib.hid hat;clear hp hat;rcases av' l.length with h0 | h0
 ·have hne:S.toList.isEmpty=true:=by
   rw [hS,ByteArray.toList_mk]
   cases l with
   | nil=>rfl
   | cons x l=>simp at h0
  rw [<- hS];clear hS
  go_enter Tryz.func164,Tryz.ntmps164
  go_wp2_with fail
  go_ret
  exact ⟨rfl,rfl⟩
 have hne:S.toList.isEmpty=false:=by
  rw [hS,ByteArray.toList_mk]
  cases l with
  | nil=>simp at h0
  | cons x l=>rfl
 have hs0:0<S.size:=af;rw [<- hS];obtain ⟨b,hb⟩ : ∃ b,b=(l[0]'h0).toNat:=⟨_,rfl⟩;have hsb:((S[0]'hs0).toNat:Int)=(b:Int):=by rw [HAT.out 0 hs0,hb]
 have HB:=Lib.hid hb;clear hb hS
 go_enter Tryz.func164,Tryz.ntmps164
 by_cases h48:b=48
 ·by_cases h1:1<l.length
  ·go_wp2_with fail
   go_ret
   exact ⟨rfl,rfl⟩
  have h1':l.length=1:=af
  go_wp2_with fail
  go_loopw [18] (fun iv wr => ∃ i:Nat,i<=l.length/\iv = .int .i64 i/\Hid (dG (l.take i))/\w=wr) (fun iv _=>l.length-(intOf iv).toNat)
  case atStart=>exact ⟨0,avY _,rfl,Lib.hid (by intro x hx;simp at hx),rfl⟩
  case round =>
   obtain ⟨i,hi,rfl,hdg,rfl⟩:=hrel
   by_cases hil:i<l.length
   ·have hks:i<S.size:=af
    obtain ⟨d,hdd⟩ : ∃ d,d=(l[i]'hil).toNat:=⟨_,rfl⟩;have hsk:((S[i]'hks).toNat:Int)=(d:Int):=by rw [HAT.out i hks,hdd]
    have wZ:Hid (48<=d/\d<=57->dG (l.take (i+1))):=Lib.hid (fun hh=>yY hil hdg.out (by rw [<- hdd];exact hh));clear hdd
    by_cases hd1:d<48
    ·go_wp2_with fail
     go_ret
     exact ⟨rfl,rfl⟩
    ·by_cases hd2:57<d
     ·go_wp2_with fail
      go_ret
      exact ⟨rfl,rfl⟩
     ·go_wp2_with fail
      go_roundw
      case rel=>exact ⟨i+1,af,by go_num,Lib.hid (wZ.out ⟨af,af⟩),trivial⟩
      case measure=>simp [intOf];omega
   ·obtain rfl:i=l.length:=af
    exfalso;refine uS.out ⟨h0,?_,?_⟩
    ·have:=hdg.out;rwa [awm] at this
    ·intro h1 hh;rw [<- HB.out];omega
 ·have hbi:((b:Int)==48)=false:=by rw [beq_eq_false_iff_ne];omega
  have ZH:=Lib.hid h48
  go_wp2_with fail
  go_loopw [18] (fun iv wr => ∃ i:Nat,i<=l.length/\iv = .int .i64 i/\Hid (dG (l.take i))/\w=wr) (fun iv _=>l.length-(intOf iv).toNat)
  case atStart=>exact ⟨0,avY _,rfl,Lib.hid (by intro x hx;simp at hx),rfl⟩
  case round =>
   obtain ⟨i,hi,rfl,hdg,rfl⟩:=hrel
   by_cases hil:i<l.length
   ·have hks:i<S.size:=af
    obtain ⟨d,hdd⟩ : ∃ d,d=(l[i]'hil).toNat:=⟨_,rfl⟩;have hsk:((S[i]'hks).toNat:Int)=(d:Int):=by rw [HAT.out i hks,hdd]
    have wZ:Hid (48<=d/\d<=57->dG (l.take (i+1))):=Lib.hid (fun hh=>yY hil hdg.out (by rw [<- hdd];exact hh));clear hdd
    by_cases hd1:d<48
    ·go_wp2_with fail
     go_ret
     exact ⟨rfl,rfl⟩
    ·by_cases hd2:57<d
     ·go_wp2_with fail
      go_ret
      exact ⟨rfl,rfl⟩
     ·go_wp2_with fail
      go_roundw
      case rel=>exact ⟨i+1,af,by go_num,Lib.hid (wZ.out ⟨af,af⟩),trivial⟩
      case measure=>simp [intOf];omega
   ·obtain rfl:i=l.length:=af
    exfalso;refine uS.out ⟨h0,?_,?_⟩
    ·have:=hdg.out;rwa [awm] at this
    ·intro h1 hh;rw [<- HB.out];exact ZH.out
def JZ(w:World)(z:Int)(e:Ending)(w':World):Prop:=e = .returned (.tuple #[.agg #[.bool false,.slice none 0 0],.iface 88 (.int .i64 z)])/\Below w.heap.size w w'
set_option maxRecDepth 100000 in
set_option maxHeartbeats 3200000 in
theorem agq(l:List UInt8)(w:World)(h45 : ∀ h:0<l.length,(l[0]'h).toNat≠45)(hg:¬Fits false l)(hl:l.length<=65536) :
  Calls Tryz.prog 119 #[.string ⟨l.toArray⟩] w (JZ w 2):=by
 have hp':=fun W=>Ws l W (fun h=>hg ⟨h,fun hh=>by cases hh.1⟩) hl;obtain ⟨S,hS⟩ : ∃ S:ByteArray,S=⟨l.toArray⟩:=⟨_,rfl⟩;have hsz:S.size=l.length:=by rw [hS];simp [ByteArray.size]
 have hat : ∀ k (h:k<S.size),(S[k]'h).toNat=(l[k]'af).toNat:=by intro k h;subst hS;rfl
 rw [<- hS] at hp' ⊢;have HP:=Lib.hid hp';have HAT:=Lib.hid hat;have EK:=Lib.hid h45;clear hp' hat hg hS h45;rcases av' l.length with h0 | h0
 ·go_enter auU,auV
  go_wp2_with fail
  refine (HP.out _).mono ?_;rintro e w1 ⟨rfl,rfl⟩;obtain ⟨d0,d1,g0,g1⟩:=(Two.new w 79 (.bool false) (.slice none 0 0)).facts
  go_wp2_with fail
  refine bodyPost_ret (v := .tuple #[.agg #[.bool false,.slice none 0 0],.iface 88 (.int .i64 2)]) (by simp [results,Tryz.results119,go_sem,d0,d1]) rfl ?_;exact ⟨rfl,(Below.refl w.heap.size w).alloc (avW _) _⟩
 ·have hs0:0<S.size:=af
  obtain ⟨b,hb⟩ : ∃ b,b=(l[0]'h0).toNat:=⟨_,rfl⟩;have hsb:((S[0]'hs0).toNat:Int)=(b:Int):=by rw [HAT.out 0 hs0,hb]
  have hb2:((b:Int)==45)=false:=by rw [beq_eq_false_iff_ne];have:=EK.out h0;omega
  clear hb
  go_enter auU,auV
  go_wp2_with fail
  refine (HP.out _).mono ?_;rintro e w1 ⟨rfl,rfl⟩;obtain ⟨d0,d1,g0,g1⟩:=(Two.new w 79 (.bool false) (.slice none 0 0)).facts
  go_wp2_with fail
  refine bodyPost_ret (v := .tuple #[.agg #[.bool false,.slice none 0 0],.iface 88 (.int .i64 2)]) (by simp [results,Tryz.results119,go_sem,d0,d1]) rfl ?_;exact ⟨rfl,(Below.refl w.heap.size w).alloc (avW _) _⟩
set_option maxRecDepth 100000 in
set_option maxHeartbeats 3200000 in
theorem agp(l:List UInt8)(w:World)(hg:¬Fits true l)(hl:l.length+1<=65536) :
  Calls Tryz.prog 119 #[.string ⟨(45::l).toArray⟩] w (JZ w 2):=by
 obtain ⟨D,hD⟩ : ∃ D:ByteArray,D=⟨l.toArray⟩:=⟨_,rfl⟩;obtain ⟨S,hS⟩ : ∃ S:ByteArray,S=⟨(45::l).toArray⟩:=⟨_,rfl⟩;obtain ⟨M,hM⟩ : ∃ M,M=l.length+1:=⟨_,rfl⟩;have hsz:S.size=M:=by rw [hS,hM];simp [ByteArray.size]
 have hs0:0<S.size:=af;have hM1:1<=M:=af;have hM2:M<=65536:=af;obtain ⟨b,hb⟩ : ∃ b:Nat,b=45:=⟨_,rfl⟩;have hsb:((S[0]'hs0).toNat:Int)=(b:Int):=by subst hS;rw [hb];rfl
 have FU:((b:Int)==45)=true:=by rw [hb];rfl
 have hx1:S.extract 1 M=D:=by rw [hS,hD,hM,BZ];simp
 rw [<- hS]
 by_cases hp:Plain l
 ·have h48:l=[48]:=by
   rcases Classical.em (l=[48]) with h | h
   ·exact h
   ·exact absurd ⟨hp,fun hh=>h hh.2⟩ hg
  have hp':=fun W=>GU l W hp af;have adV:(D.toList==[48])=true:=by rw [hD,ByteArray.toList_mk,h48];rfl
  rw [<- hD] at hp';have HP:=Lib.hid hp';clear hp' hD hS h48 hb hM hl hp hg
  go_enter auU,auV
  go_wp2_with fail
  refine (HP.out _).mono ?_;rintro e w1 ⟨rfl,rfl⟩;obtain ⟨d0,d1,g0,g1⟩:=(Two.new w 79 (.bool false) (.slice none 0 0)).facts
  go_wp2_with fail
  refine bodyPost_ret (v := .tuple #[.agg #[.bool false,.slice none 0 0],.iface 88 (.int .i64 2)]) (by simp [results,Tryz.results119,go_sem,d0,d1]) rfl ?_;exact ⟨rfl,(Below.refl w.heap.size w).alloc (avW _) _⟩
 ·have hp':=fun W=>Ws l W hp af
  rw [<- hD] at hp';have HP:=Lib.hid hp';clear hp' hD hS hb hM hl hp hg
  go_enter auU,auV
  go_wp2_with fail
  refine (HP.out _).mono ?_;rintro e w1 ⟨rfl,rfl⟩;obtain ⟨d0,d1,g0,g1⟩:=(Two.new w 79 (.bool false) (.slice none 0 0)).facts
  go_wp2_with fail
  refine bodyPost_ret (v := .tuple #[.agg #[.bool false,.slice none 0 0],.iface 88 (.int .i64 2)]) (by simp [results,Tryz.results119,go_sem,d0,d1]) rfl ?_;exact ⟨rfl,(Below.refl w.heap.size w).alloc (avW _) _⟩
theorem Wn(l:List UInt8)(w:World)(hl:l.length<=400) :
  Calls Tryz.prog 119 #[.string ⟨l.toArray⟩] w fun e w'=>(∃ z,l=Lib.itoa z/\EY w z e w')\/((∀ z,l≠Lib.itoa z)/\JZ w 2 e w'):=by
 rcases Classical.em (∃ z,l=Lib.itoa z) with ⟨z,h⟩ | h
 ·subst h
  refine (parse_any z w ?_).mono fun e w' hh => .inl ⟨z,rfl,hh⟩
  cases hz:sg z
  ·rw [kZ hz,awj] at hl;omega
  ·rw [itoa_neg hz,aw7,awq] at hl;omega
 ·have h' : ∀ z,l≠Lib.itoa z:=fun z e=>h ⟨z,e⟩
  by_cases h45 : ∀ h:0<l.length,(l[0]'h).toNat≠45
  ·exact (agq l w h45 (fun hg=>h' _ (KQ hg)) af).mono fun e w' hh => .inr ⟨h',hh⟩
  ·obtain ⟨d,rfl⟩ : ∃ d,l=45::d:=by
    cases l with
    | nil=>exact absurd (fun h=>by simp at h) h45
    | cons x d =>
     refine ⟨d,?_⟩;rcases Classical.em (x.toNat=45) with hx | hx
     ·rw [show x=45 from UInt8.toNat_inj.1 hx]
     ·exact absurd (fun _=>hx) h45
   exact (agp d w (fun hg=>h' _ (TE hg)) (by clear h45;have h9:=hl;rw [awq] at h9;omega)).mono fun e w' hh => .inr ⟨h',hh⟩
set_option maxRecDepth 100000 in
set_option maxHeartbeats 3200000 in
theorem ae7(l:List UInt8)(r:Bool)(w:World)(hr:r=true↔0<l.length/\dG l)(hl:l.length<=65536) :
  Calls Tryz.prog 160 #[.string ⟨l.toArray⟩] w fun e w'=>e = .returned (.bool r)/\w=w':=by
 obtain ⟨S,hS⟩ : ∃ S:ByteArray,S=⟨l.toArray⟩:=⟨_,rfl⟩;have hsz:S.size=l.length:=by rw [hS];simp [ByteArray.size]
 have hat : ∀ k (h:k<S.size),(S[k]'h).toNat=(l[k]'af).toNat:=by intro k h;subst hS;rfl
 have hne:S.toList.isEmpty=decide (l.length=0):=by
  rw [hS,ByteArray.toList_mk]
  cases l with
  | nil=>rfl
  | cons x l=>rfl
 have HR:=Lib.hid hr;have HAT:=Lib.hid hat;have EQ:=Lib.hid hne;clear hr hat hne;rw [<- hS];clear hS
 go_enter Tryz.func160,Tryz.ntmps160
 go_wp2_with fail
 go_loopw [6] (fun iv wr => ∃ i:Nat,i<=l.length/\iv = .int .i64 i/\Hid (dG (l.take i))/\w=wr) (fun iv _=>l.length-(intOf iv).toNat)
 case atStart=>exact ⟨0,avY _,rfl,Lib.hid (by intro x hx;simp at hx),rfl⟩
 case round =>
  obtain ⟨i,hi,rfl,hdg,rfl⟩:=hrel
  by_cases hil:i<l.length
  ·have hks:i<S.size:=af
   obtain ⟨d,hdd⟩ : ∃ d,d=(l[i]'hil).toNat:=⟨_,rfl⟩;have hsk:((S[i]'hks).toNat:Int)=(d:Int):=by rw [HAT.out i hks,hdd]
   have wZ:Hid (48<=d/\d<=57->dG (l.take (i+1))):=Lib.hid (fun hh=>yY hil hdg.out (by rw [<- hdd];exact hh))
   have oz:Hid (¬(48<=d/\d<=57)->false=r):=Lib.hid (fun hh=>by
    cases hrr:r
    ·rfl
    ·exfalso
     refine hh ?_;rw [hdd];exact (HR.out.1 hrr).2 _ (awr hil))
   clear hdd
   by_cases hd1:d<48
   ·go_wp2_with fail
    go_ret
    exact ⟨jY (oz.out af),rfl⟩
   ·by_cases hd2:57<d
    ·go_wp2_with fail
     go_ret
     exact ⟨jY (oz.out af),rfl⟩
    ·go_wp2_with fail
     go_roundw
     case rel=>exact ⟨i+1,af,by go_num,Lib.hid (wZ.out ⟨af,af⟩),trivial⟩
     case measure=>simp [intOf];omega
  ·obtain rfl:i=l.length:=af
   have hD:dG l:=by have:=hdg.out;rwa [awm] at this
   by_cases h0:l.length=0
   ·have hne:=EQ.out
    rw [decide_eq_true h0] at hne
    have HF:Hid (false=r):=Lib.hid (by
     cases hrr:r
     ·rfl
     ·have:=(HR.out.1 hrr).1;omega)
    clear hD
    go_wp2_with fail
    go_ret
    exact ⟨jY HF.out,rfl⟩
   ·have hne:=EQ.out
    rw [decide_eq_false h0] at hne;have HF:Hid (true=r):=Lib.hid (HR.out.2 ⟨af,hD⟩).symm;clear hD
    go_wp2_with fail
    go_ret
    exact ⟨jY HF.out,rfl⟩
section
variable {W0 w:World} {bs:List Bx} {L:List En} {ts:List Bt} {M:List Qn}
set_option maxRecDepth 100000 in
set_option maxHeartbeats 3200000 in
theorem agf(l:List UInt8)(HE:bu W0 w bs L ts M)(hd:dG l)(hl:l.length<=1000) :
  Calls Tryz.prog 161 #[.string ⟨l.toArray⟩] w (gI W0 bs L ts M (bI l:Int) (6*l.length+1)):=by
 refine Calls.mono (R:=gI w [] L [] M (bI l:Int) (6*l.length+1)) ?_ fun _ _ hh=>gI.of HE hh;obtain ⟨S,hS⟩ : ∃ S:ByteArray,S=⟨l.toArray⟩:=⟨_,rfl⟩;have hsz:S.size=l.length:=by rw [hS];simp [ByteArray.size]
 have hat : ∀ k (h:k<S.size),(S[k]'h).toNat=(l[k]'af).toNat:=by intro k h;subst hS;rfl
 have HAT:=Lib.hid hat;have HD:=Lib.hid hd;clear hat hd;rw [<- hS];clear hS;replace HE:=HE.here.bT (.bool false) (.slice none 0 0);obtain ⟨q0,q1,q2,q3⟩:=HE.c2 ak
 go_enter Tryz.func161,Tryz.ntmps161
 go_wp2_with fail
 refine (xW HE af af).mono ?_;clear HE;rintro e w1 ⟨s0,D0,m0,d0,rfl,HE⟩;have Ju:=Lib.hid (HE.vI ak);replace HE:=(HE.bT (.bool false) (.slice none 0 0)).bT (.bool s0) (.slice D0 m0 d0);simp only [World.size_alloc] at HE;clear q0 q1 q2 q3
 go_wp2_with fail
 go_loopw [10] (fun iv wr => ∃ (i:Nat) (s1:Bool) (D1:Option Addr) (m1 d1:Nat),i<=l.length/\iv = .int .i64 i/\bu w wr [⟨w1.heap.size+1,.bool s0,.slice D0 m0 d0⟩,⟨w1.heap.size,.bool s1,.slice D1 m1 d1⟩,⟨w.heap.size,.bool false,.slice none 0 0⟩] (⟨.agg #[.bool s1,.slice D1 m1 d1],(bI (l.take i):Int),6*i+1,true⟩::⟨.agg #[.bool s0,.slice D0 m0 d0],10,2,true⟩::L) [] M) (fun iv _=>l.length-(intOf iv).toNat)
 case atStart=>exact ⟨0,false,none,0,0,avY _,rfl,HE.push ⟨false,none,0,0,[],0,rfl,Rd.nil_ _ _ _,avY _,rfl,avY _,avW _,rfl,rfl⟩⟩
 case round =>
  clear HE;obtain ⟨i,s1,D1,m1,d1,hi,rfl,HE⟩:=hrel
  by_cases hil:i<l.length
  ·have hks:i<S.size:=af
   obtain ⟨d,hdd⟩ : ∃ d,d=(l[i]'hil).toNat:=⟨_,rfl⟩;have hsk:((S[i]'hks).toNat:Int)=(d:Int):=by rw [HAT.out i hks,hdd]
   have hdb:=HD.out _ (awr hil);rw [<- hdd] at hdb;obtain ⟨c,hc⟩ : ∃ c:Nat,d=c+48:=⟨d-48,af⟩
   have HV:=Lib.hid (show (bI (l.take i):Int)*10+(c:Int)=(bI (l.take (i+1)):Int) by
    rw [axy hil,FC,<- hdd];omega)
   subst hc;have e1:IntKind.u8.wrap (((c+48:Nat):Int)-48)=(c:Int):=by rw [IntKind.wrap_u8];omega
   have e2:IntKind.i64.wrap (c:Int)=(c:Int):=pG af af;have e3:IntKind.u8.wrap (c:Int)=(c:Int):=by rw [IntKind.wrap_u8];omega
   have HC:=Lib.hid (show (-9223372036854775808:Int)<=c/\(c:Int)<=9223372036854775807/\6*i+1<=7000 from ⟨af,af,af⟩);clear hdd hdb;obtain ⟨q0,q1,q2,q3⟩:=HE.c2 au;obtain ⟨q4,q5,q6,q7⟩:=HE.c2 ak
   go_wp2_with fail
   go_region_with
    (first
     | (go_at_call 69;refine (xR (by with_reducible first | exact HE | exact HE.drew) ak au (by have:=HC.out;omega)).mono ?_;rintro e wm ⟨sa,Da,ma,da,rfl,HE⟩)
     | (go_at_call 121;refine (xW (z:=(c:Int)) (by with_reducible first | exact HE | exact HE.drew) HC.out.1 HC.out.2.1).mono ?_;rintro e wo ⟨sb,Db,mb,db,rfl,HE⟩)
     | (go_at_call 70;refine (UN (by with_reducible first | exact HE | exact HE.drew) au ak (by have:=HC.out;omega)).mono ?_;rw [HV.out];rintro e wn ⟨sx,Ax,nx,cx,rfl,HE⟩;obtain ⟨z0,z1,z2,z3⟩:=HE.c2 au))
   all_goals
    clear q0 q1 q2 q3 q4 q5 q6 q7;have hA:=Ju.out;replace HE:=HE.jH au [⟨w1.heap.size+1,.bool s0,.slice D0 m0 d0⟩,⟨w.heap.size,.bool false,.slice none 0 0⟩] (fun b hb=>by simp only [List.mem_cons,List.not_mem_nil,or_false] at hb;rcases hb with rfl | rfl <;> exact ⟨(by repeat (first | exact aZ | refine .tail _ ?_)),by dsimp only;omega⟩) sx (.slice Ax nx cx);clear hA z0 z1 z2 z3
    go_wp2_with fail
    go_roundw
    case rel =>
     refine ⟨i+1,sx,Ax,nx,cx,af,by go_num,?_⟩
     have HF:=(HE.hdi (K:=6*(i+1)+1) (·.weak af)).pick (L':=_::_::L) (fun e he=>by
      rcases List.mem_cons.1 he with rfl | he
      ·exact ak
      ·rcases List.mem_cons.1 he with rfl | he
       ·exact aA
       ·exact .tail _ (.tail _ (.tail _ (.tail _ (.tail _ he))))) (fun _ he=>he)
     exact (((HF.IE).IE).IE.bare.yS (HF.two ay) (HF.lo _ ay)).yS (HF.two ak) (HF.lo _ ak) |>.yS (HF.two au) (HF.lo _ au)
    case measure=>simp [intOf];omega
  ·obtain rfl:i=l.length:=af
   rw [awm] at HE;obtain ⟨q0,q1,q2,q3⟩:=HE.c2 au;obtain ⟨q4,q5,q6,q7⟩:=HE.c2 ay
   go_wp2_with fail
   have HF:=HE.done2 ay s1 (.slice D1 m1 d1);refine bodyPost_ret (v := .agg #[.bool s1,.slice D1 m1 d1]) (by simp [results,Tryz.results161,go_sem,q4,q5]) rfl ?_;exact ⟨_,_,_,_,rfl,HF.pick (fun _ he=>by rcases List.mem_cons.1 he with rfl | he;exact ak;exact .tail _ (.tail _ he)) (fun _ he=>he)⟩
end
end Go.Proofs.BGQ
namespace Lw
open Go Go.RowKit
theorem agE{z:Int}{k m:Nat}(h:z.natAbs<pw k):(z^m).natAbs<pw (k*m+1):=by
 rw [Int.natAbs_pow];have h1:z.natAbs^m<=pw k^m:=axK (awg h) m;have h2:pw k^m=pw (k*m):=by unfold pw;rw [<- awY]
 have:=kK (k*m);rw [fB];omega
theorem ai9{n j:Nat} : n/2^j=2*(n/2^(j+1))+n/2^j%2:=by
 have:n/2^(j+1)=n/2^j/2:=by rw [awi,axm]
 omega
end Lw
namespace Go.Proofs.BGQ
open Go Go.RowKit Lw
section
variable {W0 w:World} {bs:List Bx} {L:List En} {ts:List Bt} {M:List Qn} {s s':Bool} {A A' B B':Option Addr} {n c n' c' m d m' d' k k':Nat} {x:Int}
set_option maxRecDepth 100000 in
set_option maxHeartbeats 3200000 in
theorem ahm(HE:bu W0 w bs L ts M)(h:⟨.agg #[.bool s,.slice A n c],x,k,true⟩∈L)(hk:k<=100)(hm:m<=100)(hx:x.natAbs<pw k) :
  Calls Tryz.prog 162 #[.agg #[.bool s,.slice A n c],.int .i64 m] w (gI W0 bs L ts M (x^m) (k*m+1)):=by
 refine Calls.mono (R:=gI w [] L [] M (x^m) (k*m+1)) ?_ fun _ _ hh=>gI.of HE hh;have HX:=Lib.hid hx;have hbl:Lib.bitLen m<=7:=Lib.bitLen_le m 7 af af;have hu:IntKind.u64.wrap (m:Int)=(m:Int):=IntWalk.u64_in _ af;have HB:=Lib.hid (show Lib.bitLen ((m:Int)).toNat=Lib.bitLen m by rw [aw1]);replace HE:=(HE.here.bT (.bool s) (.slice A n c)).bT (.bool false) (.slice none 0 0);simp only [World.size_alloc] at HE;obtain ⟨q0,q1,q2,q3⟩:=HE.c2 ak;obtain ⟨q4,q5,q6,q7⟩:=HE.c2 au;clear hx
 go_enter Tryz.func162,Tryz.ntmps162
 go_wp2_with fail
 refine (xW HE af af).mono ?_;clear HE;rintro e w1 ⟨s0,D0,m0,d0,rfl,HE⟩;have hlA:=HE.vI ak;replace HE:=HE.bT (.bool s0) (.slice D0 m0 d0);clear q0 q1 q2 q3 q4 q5 q6 q7
 go_wp2_with fail
 refine (Tryz.bits_Len _ _ af af).mono ?_;rw [HB.out];rintro e w2 ⟨rfl,rfl⟩;obtain ⟨t,ht⟩ : ∃ t,t=Lib.bitLen m:=⟨_,rfl⟩;have HT:=Lib.hid ht;rw [<- ht] at hbl ⊢;clear ht;have ht1:IntKind.i64.wrap ((t:Int)-1)=(t:Int)-1:=pG af af;replace HE:=HE.hdi (K:=k*m+1) (·.tight (by have:=fB (k*m);have:=kK (k*m);show 1<_;omega));have HS:=Lib.hid (show m/2^t=0 from awz (by rw [HT.out];exact (show ∀ n:Fin 101,n.val<2^Lib.bitLen n.val by decide +kernel) ⟨m,af⟩))
 go_wp2_with fail
 go_loopw [6] (fun iv wr => ∃ (j:Nat) (s1:Bool) (D1:Option Addr) (m1 d1:Nat),j<=t/\iv = .int .i64 ((j:Int)-1)/\bu w wr [⟨w1.heap.size,.bool s1,.slice D1 m1 d1⟩,⟨w.heap.size+1,.bool false,.slice none 0 0⟩,⟨w.heap.size,.bool s,.slice A n c⟩] (⟨.agg #[.bool s1,.slice D1 m1 d1],x^(m/2^j),k*m+1,true⟩::L) [] M) (fun iv _=>(intOf iv+1).toNat)
 case atStart=>exact ⟨t,s0,D0,m0,d0,avW _,rfl,by rw [HS.out,axf];exact HE⟩
 case round =>
  clear HE;obtain ⟨j,s1,D1,m1,d1,hj,rfl,HE⟩:=hrel
  by_cases hj0:j=0
  ·subst hj0
   rw [Nat.pow_zero,axp] at HE;obtain ⟨q0,q1,q2,q3⟩:=HE.c2 ak;obtain ⟨q4,q5,q6,q7⟩:=HE.c2 au;clear hlA
   go_wp2_with fail
   have HF:=HE.done2 au s1 (.slice D1 m1 d1);refine bodyPost_ret (v := .agg #[.bool s1,.slice D1 m1 d1]) (by simp [results,Tryz.results162,go_sem,q4,q5]) rfl ?_;exact ⟨_,_,_,_,rfl,HF⟩
  ·obtain ⟨i,rfl⟩ : ∃ i,j=i+1:=⟨j-1,af⟩
   obtain ⟨q0,q1,q2,q3⟩:=HE.c2 ak;have hi1:((i+1:Nat):Int)-1=(i:Int):=af;rw [hi1];have HV:=Lib.hid (show x^(m/2^(i+1))*x^(m/2^(i+1))=x^(2*(m/2^(i+1))) by rw [<- Int.pow_add];congr 1;omega);have P7:=Lib.hid (show k*m<=10000 from awy hk hm)
   go_wp2_with fail
   refine (xR HE ak ak (by have:=P7.out;omega)).mono ?_;rw [HV.out];clear HE;rintro e w3 ⟨s2,D2,m2,d2,rfl,HE⟩;clear q0 q1 q2 q3;have Ju:=Lib.hid hlA;have HE2:=HE.jH ak [⟨w.heap.size+1,.bool false,.slice none 0 0⟩,⟨w.heap.size,.bool s,.slice A n c⟩] (fun b hb=>by simp only [List.mem_cons,List.not_mem_nil,or_false] at hb;rcases hb with rfl | rfl <;> exact ⟨(by repeat (first | exact aZ | refine .tail _ ?_)),by dsimp only;omega⟩) s2 (.slice D2 m2 d2);obtain ⟨q0,q1,q2,q3⟩:=HE.c2 ak;obtain ⟨q4,q5,q6,q7⟩:=HE2.c2 ak;obtain ⟨q8,q9,q10,q11⟩:=HE2.c2 ay;clear HE hlA;have hdv:m/2^i<=m:=awl _ _;have Bl:=Lib.hid (show (x^(m/2^i)).natAbs<pw (k*m+1) from av1 (agE HX.out) (fM (Nat.succ_le_succ (av9 k hdv))));have hsh:=ai9 (n:=m) (j:=i);obtain ⟨P,hP⟩ : ∃ P,P=m/2^i:=⟨_,rfl⟩;have hPI:(m:Int)/2^i=(P:Int):=by rw [hP,awU,Int.natCast_pow];rfl
   rw [<- hP] at hdv Bl hsh;have HP:=Lib.hid hP;have hbt:=(show ∀ n:Fin 101,bits BinOp.and IntKind.i64 (n.val:Int) 1=((n.val%2:Nat):Int) by decide +kernel) ⟨P,af⟩;dsimp only at hbt
   by_cases hb:P%2=1
   ·rw [hb] at hbt hsh
    have hbi:bits BinOp.and IntKind.i64 (P:Int) 1=1:=hbt;have JK:=Lib.hid (show x^(2*(m/2^(i+1)))*x=x^P by rw [hsh,aw8]);clear hb hbt hsh hP hdv
    go_wp2_with fail
    refine (xR HE2 ak (.tail _ (.tail _ h)) (by have:=P7.out;omega)).mono ?_;rw [JK.out];clear HE2;rintro e w4 ⟨s3,D3,m3,d3,rfl,HE⟩;clear q0 q1 q2 q3 q4 q5 q6 q7 q8 q9 q10 q11;have ZM:=HE.jH ak [⟨w.heap.size+1,.bool false,.slice none 0 0⟩,⟨w.heap.size,.bool s,.slice A n c⟩] (fun b hb=>by have:=Ju.out;simp only [List.mem_cons,List.not_mem_nil,or_false] at hb;rcases hb with rfl | rfl <;> exact ⟨(by repeat (first | exact aZ | refine .tail _ ?_)),by dsimp only;omega⟩) s3 (.slice D3 m3 d3);obtain ⟨q0,q1,q2,q3⟩:=HE.c2 ak;clear HE
    go_wp2_with fail
    go_roundw
    case rel =>
     refine ⟨i,s3,D3,m3,d3,af,rfl,?_⟩;rw [<- HP.out];exact (ZM.hdi (·.tight Bl.out)).pick (fun _ he=>by rcases List.mem_cons.1 he with rfl | he;exact ak;exact .tail _ (.tail _ (.tail _ he))) (fun _ he=>he)
    case measure=>simp [intOf]
   ·have hb0:P%2=0:=af
    rw [hb0] at hbt hsh;have hbi:bits BinOp.and IntKind.i64 (P:Int) 1=0:=hbt;have JK:=Lib.hid (show x^(2*(m/2^(i+1)))=x^P by rw [hsh];rfl);clear hb hb0 hbt hsh hP hdv
    go_wp2_with fail
    rw [JK.out] at HE2
    go_roundw
    case rel =>
     refine ⟨i,s2,D2,m2,d2,af,rfl,?_⟩;rw [<- HP.out];exact (HE2.hdi (·.tight Bl.out)).pick (fun _ he=>by rcases List.mem_cons.1 he with rfl | he;exact ak;exact .tail _ (.tail _ he)) (fun _ he=>he)
    case measure=>simp [intOf]
end
open Go.ChangeShapes Go.WideShapes Go.ChangeAt Go.Joins
set_option maxRecDepth 100000 in
theorem WM{H:Type}{enc:TypeId×Value->H}{W:World}{base:Nat}{v:Value}{d:DataW H}{p:List MemPlace}(hv:Value.okWide Tryz.prog W .any base 24 v)(h:DataW.Trod enc Tryz.prog W 0 (fun _=>true) true 24 v d p) :
  ∃ s A n c B m c' k q b,v = .agg #[.bool s,.slice A n c,.slice B m c']/\dB W ⟨.agg #[.bool s,.slice A n c,.slice B m c'],q,k,b⟩:=by
 obtain ⟨c0,c1,c2,y0,y1,y2,_,rfl,rfl,rfl,hy0,hy1,hy2⟩:=open_agg3 Tryz.underlying24 ah Rf hv h;obtain ⟨s,e0,rfl⟩:=DataW.trod_bool aud hy0;obtain rfl:c0 = .bool s:=by simpa using e0
 obtain ⟨A,n,c,l,rfl,h1,h2,h3⟩:=IU hy1;obtain ⟨B,m,c',l',rfl,g1,g2,g3⟩:=IU hy2;exact ⟨s,A,n,c,B,m,c',max n m,qv s l l',fV s l l',rfl,s,A,n,c,B,m,c',l,l',rfl,h1,g1,h2,g2,Nat.le_max_left _ _,Nat.le_max_right _ _,h3,g3,rfl,rfl⟩
end Go.Proofs.BGQ
namespace bF
open Go Go.RowKit
section
variable {P:Program} {ρ:Operand->Value} {w:World} {dst:Option Tmp} {ty:TypeId} {pos:String} {bD:Array Edge} {gd:Option (Nat×Bool)}
theorem zW{t t':TypeId}{x y:Operand}{k:IntKind}{a b c:Int}(hx:ρ x = .int k a)(hy:ρ y = .int k b)(h:k.wrap (a-b)=c):(execOp ρ ⟨dst,.binOp .sub t x y t',ty,pos,bD,gd⟩).run P w = .ok (.value (.int k c)) w :=
 Xt hx hy (by rw [<- h];rfl) (.inr (.inl rfl))
theorem aiF{x:Operand}{t:TypeId}{b:ByteArray}(hx:ρ x = .string b)(hu : ∀ w,(underlying t).run P w = .ok .string w):(execOp ρ ⟨dst,.call ⟨.builtin .len,#[x],#[t]⟩,ty,pos,bD,gd⟩).run P w = .ok (.value (.int .i64 b.size)) w:=by
 simp [execOp,resolve,invoke,builtin,Builtin.len_,hx,hu,goInt]
end
section
variable {P:Program} {ops:Array Oper} {Q:Exit->Act->World->Prop} {late:List Nat} {S:World->Prop} {N:Nat} {T:List (Nat×Value)} {W0 w w':World} {U:List Box} {Ps:List (World->Prop)}
variable {fuel d i:Nat} {listed listed':Array Bool} {o:Oper} {v:Value}
theorem JL.xx{id:Nat}{c:Code}{T':List (Nat×Value)}(hT : ∀ t v,bY T' t=some v->bY T t=some v)(h:JC P c Q N T' w):JL P ops (Exit.inBlock id (Exit.then (c.wp P Q) Q)) [] N T w:=fun a ha=>h a (ha.sub hT)
theorem JR.xx{id:Nat}{c:Code}{T':List (Nat×Value)}(hr:Region.ready .any ops listed=[])(hT : ∀ t v,bY T' t=some v->bY T t=some v)(h:JC P c Q N T' w):JR P ops (Exit.inBlock id (Exit.then (c.wp P Q) Q)) late S fuel listed N T w:=JR.done hr fun a ha=>h a (ha.sub hT)
end
end bF
namespace bF
open Go Go.RowKit
section
variable {P:Program} {ρ:Operand->Value} {w:World} {dst:Option Tmp} {ty:TypeId} {pos:String} {bD:Array Edge} {gd:Option (Nat×Bool)}
theorem H9{t t':TypeId}{x y:Operand}{a b c:List UInt8}(hx:ρ x = .string ⟨a.toArray⟩)(hy:ρ y = .string ⟨b.toArray⟩)(hl:a.length+b.length<=9223372036854775807)(h:a++b=c) :
  (execOp ρ ⟨dst,.binOp .add t x y t',ty,pos,bD,gd⟩).run P w = .ok (.value (.string ⟨c.toArray⟩)) w:=by
 subst h
 have e:(⟨a.toArray⟩:ByteArray)++⟨b.toArray⟩=⟨(a++b).toArray⟩:=by
  apply ByteArray.ext;simp [ByteArray.data_append]
 have h1:(⟨a.toArray⟩:ByteArray).size=a.length:=by simp [ByteArray.size]
 have h2:(⟨b.toArray⟩:ByteArray).size=b.length:=by simp [ByteArray.size]
 have h3:¬ (((a.length+b.length:Nat):Int) > IntKind.i64.max):=by
  show ¬ (((a.length+b.length:Nat):Int) > 9223372036854775807);omega
 simp only [execOp,hx,hy,eqGuard,binOp,Op.stringOp,h1,h2,if_neg h3,e];simp
theorem aiD{t t':TypeId}{x y:Operand}{a b:ByteArray}{c:Bool}(hx:ρ x = .string a)(hy:ρ y = .string b)(h:(a.toList==b.toList)=c) :
  (execOp ρ ⟨dst,.binOp .eql t x y t',ty,pos,bD,gd⟩).run P w = .ok (.value (.bool c)) w:=by
 subst h;simp [execOp,hx,hy,eqGuard,binOp,Op.stringOp]
theorem zU{t t':TypeId}{x y:Operand}{a b:List UInt8}{c:Bool}(hx:ρ x = .string ⟨a.toArray⟩)(hy:ρ y = .string ⟨b.toArray⟩)(h:(a==b)=c) :
  (execOp ρ ⟨dst,.binOp .eql t x y t',ty,pos,bD,gd⟩).run P w = .ok (.value (.bool c)) w:=aiD hx hy (by rw [ByteArray.toList_eq,ByteArray.toList_eq];simpa using h)
theorem zS{s t:TypeId}{x:Operand}{k k':IntKind}{n m:Int}{d:TypeDesc}(hx:ρ x = .int k n)(hs : ∀ w,(underlying s).run P w = .ok d w)(hd : ∀ w,(underlying t).run P w = .ok (.int k') w)(h:k'.wrap n=m) :
  (execOp ρ ⟨dst,.convert s t x,ty,pos,bD,gd⟩).run P w = .ok (.value (.int k' m)) w:=by
 subst h;simp [execOp,hx,convert,hs,hd,Conv.intToInt]
end
section
variable {P:Program} {ops:Array Oper} {Q:Exit->Act->World->Prop} {late:List Nat} {S:World->Prop} {N d fuel:Nat} {T:List (Nat×Value)} {w:World} {U:List Box} {listed:Array Bool} {o:Oper} {v:Value}
theorem Jp{op:Op}{ty:TypeId}{pos:String}{bD:Array Edge}{j:Nat}{want b:Bool}{oj:Oper}{t:Nat}(i:Nat)(hc:oW ops late listed i=true)(hi:ops[i]? = some ⟨some d,op,ty,pos,bD,some (j,want)⟩)(hN:Nat.ble (d+1) N=true)(hq : ∀ c a w,Q (.panic c) (a.put (some d) undef) w->Q (.panic c) a w)(hj:ops[j]? = some oj)(hdj:oj.dst=some t)(dP:Nat.ble (t+1) N=true)(hv:bY T t=some (.bool b))(hb:(b==want)=false)(hS:dI late listed->S w)(h:JR P ops Q late S fuel (listed.setIfInBounds i true) N ((d,undef)::T) w):JR P ops Q late S (fuel+1) listed N T w :=
 have ⟨a,b,c,e⟩:=Me hc
 JR.pass i hi a b c e hq rfl hN rfl hj hdj dP hv hb hS rfl h
end
end bF
namespace bF
open Go Go.RowKit
section
variable {α:Type} {R:α->List Value->World->Prop} {sz:Nat} {w w' W0:World} {vs:List Value} {xs:List α}
variable {A:Option Addr} {n c:Nat}
theorem FL.empty(h:FL R sz (.slice A n c) vs xs w)(hn:n=0):xs=[]:=axA.1 (h.len.trans hn)
end
end bF
namespace bF
open Go Go.RowKit
section
variable {P:Program} {ops:Array Oper} {Q:Exit->Act->World->Prop} {late:List Nat} {S:World->Prop} {N d i:Nat} {fuel:Nat} {T:List (Nat×Value)} {w:World} {listed:Array Bool} {rest:List Oper} {x y z:Operand} {v:Value} {ty t t':TypeId} {pos:String} {bD:Array Edge} {k:IntKind} {a b n c j:Nat} {A:Option Addr} {id:Nat} {l:List Oper} {m u:Code}
theorem Jw{ι:Type}(p:ι->Nat)(T':ι->List (Nat×Value))(G:ι->World->Prop)(round : ∀ i w,G i w->JC P m (Exit.then (fun a' w' => ∃ j,p j<p i/\Kn a' N (T' j)/\G j w') Q) N (T' i) w)(i:ι)(w:World)(hG:G i w)(hT:qX T (T' i):=by (repeat refine ⟨rfl,?_⟩);trivial):JC P (.loop m) Q N T w:=JC.sub hT.out (JC.loop p T' G round i w hG)
section
variable {ι:Type} {p:ι->Nat} {T':ι->List (Nat×Value)} {G:ι->World->Prop} {j:Nat}
theorem Jr(i:ι)(hG:G i w)(hm:p i<j:=by first | omega | (dsimp only;omega))(hT:qX T (T' i):=by (repeat refine ⟨rfl,?_⟩);trivial):JL P ops (Exit.then (fun a' w' => ∃ i,p i<j/\Kn a' N (T' i)/\G i w') Q) [] N T w:=JL.round i hm hT.out hG
end
end
end bF
namespace Go.Proofs.BGQ
open Go Go.RowKit Lw
section
variable {W0 w:World} {bs:List Bx} {L:List En} {ts:List Bt} {M:List Qn} {v v':Value} {q r:Rat} {k k':Nat} {b b':Bool}
theorem bu.Ff{g1:Nat}{x1 y1 z1:Value}(h:bu W0 w bs L ts M)(h1:⟨g1,x1,y1,z1⟩∈ts) :
  w.cell? ⟨g1,0,none⟩=some x1/\w.cell? ⟨g1,1,none⟩=some y1/\w.cell? ⟨g1,2,none⟩=some z1:=⟨(h.c3 h1).1,(h.c3 h1).2.1,(h.c3 h1).2.2.1⟩
end
section
variable {W0 w:World} {bs:List Bx} {L:List En} {ts:List Bt} {M:List Qn} {s s':Bool} {A A' B B':Option Addr} {n c n' c' m d m' d' k k':Nat} {q r:Rat} {x y:Int} {b b':Bool}
set_option maxRecDepth 100000 in
set_option maxHeartbeats 3200000 in
theorem aic(HE:bu W0 w bs L ts M)(h:⟨.agg #[.bool s,.slice A n c,.slice A' n' c'],q,k,b⟩∈M)(h':⟨.agg #[.bool s',.slice B m d,.slice B' m' d'],r,k',b'⟩∈M)(hk:k+k'<=1000) :
  Calls Tryz.prog 59 #[.agg #[.bool s,.slice A n c,.slice A' n' c'],.agg #[.bool s',.slice B m d,.slice B' m' d']] w (dR W0 bs L ts M (q*r) (k+k'+2)):=by
 refine Calls.mono (R:=(dR w [] L [] M (q*r) (k+k'+2))) ?_ fun _ _ hh=>dR.of HE hh;have HP:=Lib.hid (VC (Dk HE h) (Dk HE h'));have HD:=Lib.hid (Int.mul_ne_zero (uX q) (uX r));replace HE:=((HE.here.dm (.bool s) (.slice A n c) (.slice A' n' c')).dm (.bool s') (.slice B m d) (.slice B' m' d')).dm (.bool false) (.slice none 0 0) (.slice none 0 0);simp only [World.size_alloc] at HE;obtain ⟨q0,q1,q2,q3,q4,q5⟩:=HE.c3 ak;obtain ⟨q6,q7,q8,q9,q10,q11⟩:=HE.c3 au;obtain ⟨q12,q13,fP,fQ,q16,fU⟩:=HE.c3 ay
 go_enter Tryz.func59,Tryz.ntmps59
 go_wp2_with fail
 refine (uq HE h af).mono ?_;clear HE;rintro e w1 ⟨s1,D1,m1,d1,s2,D2,m2,d2,rfl,HE⟩;replace HE:=(HE.bT (.bool s1) (.slice D1 m1 d1)).bT (.bool s2) (.slice D2 m2 d2);simp only [World.size_alloc] at HE;clear q0 q1 q2 q3 q4 q5 q6 q7 q8 q9 q10 q11 q12 q13 fP fQ q16 fU;obtain ⟨gJ,gK,ig,iq⟩:=HE.c2 ak;obtain ⟨q22,q23,q24,iC⟩:=HE.c2 au;obtain ⟨iH,iI,iU,iV,q30,iW⟩:=HE.c3 ak;obtain ⟨q32,jc,jd,q35,jX,q37⟩:=HE.c3 au;obtain ⟨kL,kQ,kR,kS,lq,lC⟩:=HE.c3 ay
 go_wp2_with fail
 refine (uq HE h' af).mono ?_;clear HE;rintro e w2 ⟨s3,D3,m3,d3,s4,D4,m4,d4,rfl,HE⟩;replace HE:=(HE.bT (.bool s3) (.slice D3 m3 d3)).bT (.bool s4) (.slice D4 m4 d4);simp only [World.size_alloc] at HE;clear gJ gK ig iq q22 q23 q24 iC iH iI iU iV q30 iW q32 jc jd q35 jX q37 kL kQ kR kS lq lC;obtain ⟨nJ,nK,nM,nN⟩:=HE.c2 ak;obtain ⟨qC,qE,qF,qG⟩:=HE.c2 au;obtain ⟨qH,qI,sQ,sS⟩:=HE.c2 ay;obtain ⟨sU,sV,sW,sZ⟩:=HE.c2 az;obtain ⟨tq,tH,tJ,tK,tV,tX⟩:=HE.c3 ak;obtain ⟨tY,tZ,uf,ug,uh,uj⟩:=HE.c3 au;obtain ⟨vT,vU,vV,vW,vX,vY⟩:=HE.c3 ay
 go_wp2_with fail
 go_region_held3 (fun w'=>w'.cell? ⟨w1.heap.size,0,none⟩=some (.bool s1)/\w'.cell? ⟨w1.heap.size,1,none⟩=some (.slice D1 m1 d1)/\w'.cell? ⟨w1.heap.size+1,0,none⟩=some (.bool s2)/\w'.cell? ⟨w1.heap.size+1,1,none⟩=some (.slice D2 m2 d2)/\w'.cell? ⟨w2.heap.size,0,none⟩=some (.bool s3)/\w'.cell? ⟨w2.heap.size,1,none⟩=some (.slice D3 m3 d3)/\w'.cell? ⟨w2.heap.size+1,0,none⟩=some (.bool s4)/\w'.cell? ⟨w2.heap.size+1,1,none⟩=some (.slice D4 m4 d4)) (first | exact ⟨(HE.c2 az).1,(HE.c2 az).2.1,(HE.c2 ay).1,(HE.c2 ay).2.1,(HE.c2 au).1,(HE.c2 au).2.1,(HE.c2 ak).1,(HE.c2 ak).2.1⟩ | exact ⟨(HE.drew.c2 az).1,(HE.drew.c2 az).2.1,(HE.drew.c2 ay).1,(HE.drew.c2 ay).2.1,(HE.drew.c2 au).1,(HE.drew.c2 au).2.1,(HE.drew.c2 ak).1,(HE.drew.c2 ak).2.1⟩ | exact ⟨(HK.c2 az).1,(HK.c2 az).2.1,(HK.c2 ay).1,(HK.c2 ay).2.1,(HK.c2 au).1,(HK.c2 au).2.1,(HK.c2 ak).1,(HK.c2 ak).2.1⟩)
  (first
   | (go_at_call 105;refine (Hq (by with_reducible first | exact HE | exact HE.drew) (by repeat (first | exact aZ | assumption | refine .tail _ ?_)) (by repeat (first | exact aZ | assumption | refine .tail _ ?_)) af).mono ?_;rintro e wn ⟨sx,Ax,nx,cx,rfl,HE⟩)
   | (go_at_call 103;refine (zi (by with_reducible first | exact HE | exact HE.drew) (by repeat (first | exact aZ | assumption | refine .tail _ ?_)) (by repeat (first | exact aZ | assumption | refine .tail _ ?_)) af HD.out).mono ?_;rintro e wn ⟨sx,Ax,nx,cx,Ay,ny,cy,rfl,HE⟩;have HK:=HE.ja (D:=Ax) (m:=nx) (d:=cx) ak sx (.slice Ay ny cy);obtain ⟨z0,z1,z2,z3,z4,z5⟩:=HE.c3 ak))
 go_wp2_with fail
 refine bodyPost_ret (v := .agg #[.bool sx,.slice Ax nx cx,.slice Ay ny cy]) (by simp [results,Tryz.results59,go_sem,z0,z1,z2]) rfl ?_;have HF:=HK.bare;rw [<- ML] at HF;replace HF:=HF.hd (fun hh=>dB.tight hh HP.out.1 HP.out.2);exact ⟨_,_,_,_,_,_,_,rfl,HF.pick (fun e he => .tail _ (.tail _ (.tail _ (.tail _ (.tail _ (.tail _ (he))))))) (fun _ he=>he)⟩
end
section
variable {W0 w:World} {bs:List Bx} {L:List En} {ts:List Bt} {M:List Qn} {s s':Bool} {A A' B B':Option Addr} {n c n' c' m d m' d' k k':Nat} {q r:Rat} {x y:Int} {b b':Bool}
theorem aci(q r:Rat):q*r⁻¹=Rat.divInt (q.num*(r.den:Int)) ((q.den:Int)*r.num):=by
 have h:=Rat.divInt_mul_divInt q.num (r.den:Int) (d₁:=(q.den:Int)) (d₂:=r.num);rw [awW,<- Rat.inv_def] at h;exact h
set_option maxRecDepth 100000 in
set_option maxHeartbeats 3200000 in
theorem ah'(HE:bu W0 w bs L ts M)(h:⟨.agg #[.bool s,.slice A n c,.slice A' n' c'],q,k,b⟩∈M)(h':⟨.agg #[.bool s',.slice B m d,.slice B' m' d'],r,k',b'⟩∈M)(hk:k+k'<=900)(hr:r≠0) :
  Calls Tryz.prog 106 #[.agg #[.bool s,.slice A n c,.slice A' n' c'],.agg #[.bool s',.slice B m d,.slice B' m' d']] w (fun e w' => ∃ (s:Bool) (A:Option Addr) (n c:Nat) (A':Option Addr) (n' c':Nat),e = .returned (.tuple #[.agg #[.bool s,.slice A n c,.slice A' n' c'],.int .i64 0])/\bu W0 w' bs L ts (⟨.agg #[.bool s,.slice A n c,.slice A' n' c'],q*r⁻¹,2*k+2*k'+12,true⟩::M)):=by
 refine Calls.mono (R:=(fun e w' => ∃ (s:Bool) (A:Option Addr) (n c:Nat) (A':Option Addr) (n' c':Nat),e = .returned (.tuple #[.agg #[.bool s,.slice A n c,.slice A' n' c'],.int .i64 0])/\bu w w' [] L [] (⟨.agg #[.bool s,.slice A n c,.slice A' n' c'],q*r⁻¹,2*k+2*k'+12,true⟩::M))) ?_ fun _ _ hh=>by obtain ⟨s,A,n,c,A',n',c',e1,he⟩:=hh;exact ⟨s,A,n,c,A',n',c',e1,HE.back he⟩
 have HD:=Lib.hid (Int.mul_ne_zero (uX q) (fun e=>hr (awo.1 e)));have HV:=Lib.hid (aci q r);clear hr;replace HE:=((HE.here.dm (.bool s) (.slice A n c) (.slice A' n' c')).dm (.bool s') (.slice B m d) (.slice B' m' d')).dm (.bool false) (.slice none 0 0) (.slice none 0 0);simp only [World.size_alloc] at HE;obtain ⟨q0,q1,q2,q3,q4,q5⟩:=HE.c3 ak;obtain ⟨q6,q7,q8,q9,q10,q11⟩:=HE.c3 au;obtain ⟨q12,q13,fP,fQ,q16,fU⟩:=HE.c3 ay
 go_enter Tryz.func106,Tryz.ntmps106
 go_wp2_with fail
 refine (uq HE h af).mono ?_;clear HE;rintro e w1 ⟨s1,D1,m1,d1,s2,D2,m2,d2,rfl,HE⟩;replace HE:=(HE.bT (.bool s1) (.slice D1 m1 d1)).bT (.bool s2) (.slice D2 m2 d2);simp only [World.size_alloc] at HE;clear q0 q1 q2 q3 q4 q5 q6 q7 q8 q9 q10 q11 q12 q13 fP fQ q16 fU;obtain ⟨gJ,gK,ig,iq⟩:=HE.c2 ak;obtain ⟨q22,q23,q24,iC⟩:=HE.c2 au;obtain ⟨iH,iI,iU,iV,q30,iW⟩:=HE.c3 ak;obtain ⟨q32,jc,jd,q35,jX,q37⟩:=HE.c3 au;obtain ⟨kL,kQ,kR,kS,lq,lC⟩:=HE.c3 ay
 go_wp2_with fail
 refine (uq HE h' af).mono ?_;clear HE;rintro e w2 ⟨s3,D3,m3,d3,s4,D4,m4,d4,rfl,HE⟩;replace HE:=(HE.bT (.bool s3) (.slice D3 m3 d3)).bT (.bool s4) (.slice D4 m4 d4);simp only [World.size_alloc] at HE;clear gJ gK ig iq q22 q23 q24 iC iH iI iU iV q30 iW q32 jc jd q35 jX q37 kL kQ kR kS lq lC;obtain ⟨nJ,nK,nM,nN⟩:=HE.c2 ak;obtain ⟨qC,qE,qF,qG⟩:=HE.c2 au;obtain ⟨qH,qI,sQ,sS⟩:=HE.c2 ay;obtain ⟨sU,sV,sW,sZ⟩:=HE.c2 az;obtain ⟨tq,tH,tJ,tK,tV,tX⟩:=HE.c3 ak;obtain ⟨tY,tZ,uf,ug,uh,uj⟩:=HE.c3 au;obtain ⟨vT,vU,vV,vW,vX,vY⟩:=HE.c3 ay
 go_wp2_with fail
 go_region_held3 (fun w'=>w'.cell? ⟨w1.heap.size,0,none⟩=some (.bool s1)/\w'.cell? ⟨w1.heap.size,1,none⟩=some (.slice D1 m1 d1)/\w'.cell? ⟨w1.heap.size+1,0,none⟩=some (.bool s2)/\w'.cell? ⟨w1.heap.size+1,1,none⟩=some (.slice D2 m2 d2)/\w'.cell? ⟨w2.heap.size,0,none⟩=some (.bool s3)/\w'.cell? ⟨w2.heap.size,1,none⟩=some (.slice D3 m3 d3)/\w'.cell? ⟨w2.heap.size+1,0,none⟩=some (.bool s4)/\w'.cell? ⟨w2.heap.size+1,1,none⟩=some (.slice D4 m4 d4)) (first | exact ⟨(HE.c2 az).1,(HE.c2 az).2.1,(HE.c2 ay).1,(HE.c2 ay).2.1,(HE.c2 au).1,(HE.c2 au).2.1,(HE.c2 ak).1,(HE.c2 ak).2.1⟩ | exact ⟨(HE.drew.c2 az).1,(HE.drew.c2 az).2.1,(HE.drew.c2 ay).1,(HE.drew.c2 ay).2.1,(HE.drew.c2 au).1,(HE.drew.c2 au).2.1,(HE.drew.c2 ak).1,(HE.drew.c2 ak).2.1⟩ | exact ⟨(HK.c2 az).1,(HK.c2 az).2.1,(HK.c2 ay).1,(HK.c2 ay).2.1,(HK.c2 au).1,(HK.c2 au).2.1,(HK.c2 ak).1,(HK.c2 ak).2.1⟩)
  (first
   | (go_at_call 105;refine (Hq (by with_reducible first | exact HE | exact HE.drew) (by repeat (first | exact aZ | assumption | refine .tail _ ?_)) (by repeat (first | exact aZ | assumption | refine .tail _ ?_)) af).mono ?_;rintro e wn ⟨sx,Ax,nx,cx,rfl,HE⟩)
   | (go_at_call 135;refine (WZ (by with_reducible first | exact HE | exact HE.drew) (by repeat (first | exact aZ | assumption | refine .tail _ ?_)) (by repeat (first | exact aZ | assumption | refine .tail _ ?_)) af HD.out).mono ?_;rintro e wn ⟨sx,Ax,nx,cx,Ay,ny,cy,rfl,HE⟩;have HK:=HE.ja (D:=Ax) (m:=nx) (d:=cx) ak sx (.slice Ay ny cy);obtain ⟨z0,z1,z2,z3,z4,z5⟩:=HE.c3 ak))
 go_wp2_with fail
 refine bodyPost_ret (v := .tuple #[.agg #[.bool sx,.slice Ax nx cx,.slice Ay ny cy],.int .i64 0]) (by simp [results,Tryz.results106,go_sem,z0,z1,z2]) rfl ?_;rw [HV.out];exact ⟨_,_,_,_,_,_,_,rfl,(HK.bare.pick (fun e he => .tail _ (.tail _ (.tail _ (.tail _ (.tail _ (.tail _ (he))))))) (fun _ he=>he)).hd (·.weak af)⟩
end
section
variable {W0 w:World} {bs:List Bx} {L:List En} {ts:List Bt} {M:List Qn} {s s':Bool} {A A' B B':Option Addr} {n c n' c' m d m' d' k k':Nat} {q r:Rat} {x y:Int} {b b':Bool}
set_option maxRecDepth 100000 in
set_option maxHeartbeats 1600000 in
theorem aif(HE:bu W0 w bs L ts M)(n1 : -9223372036854775808<=x)(n2:x<=9223372036854775807) :
  Calls Tryz.prog 58 #[.int .i64 x] w (dR W0 bs L ts M (x:Rat) 6):=by
 refine Calls.mono (R:=(dR w [] L [] M (x:Rat) 6)) ?_ fun _ _ hh=>dR.of HE hh;replace HE:=HE.here.dm (.bool false) (.slice none 0 0) (.slice none 0 0);have HX:=Lib.hid (show Rat.divInt x 1=(x:Rat) from Rat.ext (by rw [awL];simp) (by rw [awM];simp));have HN:=Lib.hid (show -9223372036854775808<=x/\x<=9223372036854775807 from ⟨n1,n2⟩);clear n1 n2;obtain ⟨q0,q1,q2,q3,q4,q5⟩:=HE.c3 ak
 go_enter Tryz.func58,Tryz.ntmps58
 go_wp2_with fail
 refine (D9 HE HN.out.1 HN.out.2).mono ?_;clear HE;rintro e w1 ⟨s1,A1,n1,c1,rfl,HE⟩;clear q0 q1 q2 q3 q4 q5
 go_wp2_with fail
 refine (DF HE).mono ?_;clear HE;rintro e w2 ⟨s2,A2,n2,c2,rfl,HE⟩
 go_wp2_with fail
 refine (zi HE au ak af af).mono ?_;rw [HX.out];clear HE;rintro e w3 ⟨sx,Ax,nx,cx,Ay,ny,cy,rfl,HE⟩;obtain ⟨q6,q7,q8,q9,q10,q11⟩:=HE.c3 ak
 go_wp2_with fail
 refine bodyPost_ret (v := .agg #[.bool sx,.slice Ax nx cx,.slice Ay ny cy]) (by simp [results,Tryz.results58,go_sem,q6,q7,q8]) rfl ?_;have HK:=(HE.ja (D:=Ax) (m:=nx) (d:=cx) ak sx (.slice Ay ny cy)).bare;exact ⟨_,_,_,_,_,_,_,rfl,HK.pick (fun e he => .tail _ (.tail _ he)) (fun _ he=>he)⟩
end
section
variable {W0 w:World} {bs:List Bx} {L:List En} {ts:List Bt} {M:List Qn} {v v':Value} {q r:Rat} {k k':Nat} {b b':Bool}
theorem ah6(HE:bu W0 w bs L ts M)(h:⟨v,q,k,b⟩∈M)(h':⟨v',r,k',b'⟩∈M)(hk:k+k'<=800) :
  Calls Tryz.prog 63 #[v,v'] w (oq W0 bs L ts M (q+r) (k+k'+2)):=by
 obtain ⟨s,A,n,c,A',n',c',e1⟩:=(HE.fr _ h).shape;obtain ⟨t,B,m,d,B',m',d',e2⟩:=(HE.fr _ h').shape;dsimp only at e1 e2;subst e1 e2;exact (WY HE h h' af).mono fun _ _ hh=>oq.of hh
theorem aid(HE:bu W0 w bs L ts M)(h:⟨v,q,k,b⟩∈M)(h':⟨v',r,k',b'⟩∈M)(hk:k+k'<=800) :
  Calls Tryz.prog 59 #[v,v'] w (oq W0 bs L ts M (q*r) (k+k'+2)):=by
 obtain ⟨s,A,n,c,A',n',c',e1⟩:=(HE.fr _ h).shape;obtain ⟨t,B,m,d,B',m',d',e2⟩:=(HE.fr _ h').shape;dsimp only at e1 e2;subst e1 e2;exact (aic HE h h' af).mono fun _ _ hh=>oq.of hh
end
section
variable {W0 w:World} {bs:List Bx} {L:List En} {ts:List Bt} {M:List Qn} {v v':Value} {q r:Rat} {x y:Int} {k k':Nat} {b b':Bool}
theorem aih(HE:bu W0 w bs L ts M)(n1 : -9223372036854775808<=x)(n2:x<=9223372036854775807) :
  Calls Tryz.prog 58 #[.int .i64 x] w (oq W0 bs L ts M (x:Rat) 6):=(aif HE n1 n2).mono fun _ _ hh=>oq.of hh
end
end Go.Proofs.BGQ
namespace Lw
open Go Go.RowKit bF
section
variable (W0:World) (U:List Box) (Ps:List (World->Prop))
def I9(z:Int)(k:Nat)(er:Value)(u:Value)(w:World):Prop := ∃ (s:Bool) (A:Option Addr) (n c:Nat),u = .tuple #[.agg #[.bool s,.slice A n c],er]/\St W0 U (FI (.agg #[.bool s,.slice A n c]) z k::Ps) w
end
end Lw
namespace Go.Proofs.BGQ
open Go Go.RowKit Lw bF
section
variable {W0 w w':World} {U:List Box} {Ps:List (World->Prop)} {v v':Value} {q r:Rat} {x y:Int} {k k':Nat} {b b':Bool} {f:FuncId} {vs:List Value} {L:List En} {M:List Qn}
section
variable {b1 b2 s1 s2:Bool} {x1 x2 z1:Int} {c1 c2 d1 d2 k1 k2 m1 m2 n1 n2:Nat} {A1 A2 B1 B2:Option Addr} {q1 q2:Rat}
theorem Xa(HT:Tz W0)(HB:Tab W0)(HS:St W0 U Ps w)(h1 : -9223372036854775808<=z1)(h2:z1<=9223372036854775807):bC Tryz.prog 58 [.int .i64 z1] w (lK W0 U Ps ((z1:Rat)) (6)) :=
 FN HS (aih (St.start HS HT HB)  h1 h2)
theorem WX(HT:Tz W0)(HB:Tab W0)(HS:St W0 U Ps w)(f1:FV (avS s1 A1 n1 c1 B1 m1 d1) q1 k1 b1 w)(f2:FV (avS s2 A2 n2 c2 B2 m2 d2) q2 k2 b2 w)(hk:k1+k2<=800):bC Tryz.prog 63 [(avS s1 A1 n1 c1 B1 m1 d1),(avS s2 A2 n2 c2 B2 m2 d2)] w (lK W0 U Ps (q1+q2) (k1+k2+2)) :=
 FN HS (ah6 (((St.start HS HT HB).cons f2).cons f1) ak au hk)
theorem W9(HT:Tz W0)(HB:Tab W0)(HS:St W0 U Ps w)(f1:FV (avS s1 A1 n1 c1 B1 m1 d1) q1 k1 b1 w)(f2:FV (avS s2 A2 n2 c2 B2 m2 d2) q2 k2 b2 w)(hk:k1+k2<=800):bC Tryz.prog 59 [(avS s1 A1 n1 c1 B1 m1 d1),(avS s2 A2 n2 c2 B2 m2 d2)] w (lK W0 U Ps (q1*q2) (k1+k2+2)) :=
 FN HS (aid (((St.start HS HT HB).cons f2).cons f1) ak au hk)
theorem ah9(HT:Tz W0)(HB:Tab W0)(HS:St W0 U Ps w)(f1:FV (avS s1 A1 n1 c1 B1 m1 d1) q1 k1 b1 w)(f2:FV (avS s2 A2 n2 c2 B2 m2 d2) q2 k2 b2 w)(hk:k1+k2<=900)(hr:q2≠0):bC Tryz.prog 106 [(avS s1 A1 n1 c1 B1 m1 d1),(avS s2 A2 n2 c2 B2 m2 d2)] w (fJ W0 U Ps (q1*q2⁻¹) (2*k1+2*k2+12) (.int .i64 0)) :=
 zn HS (ah' (((St.start HS HT HB).cons f2).cons f1) ak au hk hr)
theorem aii(HT:Tz W0)(HB:Tab W0)(HS:St W0 U Ps w)(f1:FV (avS s1 A1 n1 c1 B1 m1 d1) q1 k1 b1 w)(hk:k1<=3000):bC Tryz.prog 99 [(avS s1 A1 n1 c1 B1 m1 d1)] w (Jc W0 U Ps (q1.num) ((q1.den:Int)) (k1+2)) :=
 TG HS (uq ((St.start HS HT HB).cons f1) ak hk)
theorem vZ(HT:Tz W0)(HB:Tab W0)(HS:St W0 U Ps w)    : bC Tryz.prog 98 [] w (jR W0 U Ps (1) (2)) :=
 oK HS (DF (St.start HS HT HB)  )
theorem yt(HT:Tz W0)(HB:Tab W0)(HS:St W0 U Ps w)(f1:FI (.agg #[.bool s1,.slice A1 n1 c1]) x1 k1 w)(f2:FI (.agg #[.bool s2,.slice A2 n2 c2]) x2 k2 w)(hk:k1+k2<=4000)(hy:x2≠0):bC Tryz.prog 103 [.agg #[.bool s1,.slice A1 n1 c1],.agg #[.bool s2,.slice A2 n2 c2]] w (lK W0 U Ps (Rat.divInt x1 x2) (k1+1+(k2+1))) :=
 Cb HS (zi (((St.start HS HT HB).push f2).push f1) ak au hk hy)
theorem zL(HT:Tz W0)(HB:Tab W0)(HS:St W0 U Ps w)(f1:FI (.agg #[.bool s1,.slice A1 n1 c1]) x1 k1 w)(f2:FI (.agg #[.bool s2,.slice A2 n2 c2]) x2 k2 w)(hk:k1<=10000/\k2<=10000):bC Tryz.prog 107 [.agg #[.bool s1,.slice A1 n1 c1],.agg #[.bool s2,.slice A2 n2 c2]] w (jR W0 U Ps (x1+x2) (k1+k2+1)) :=
 oK HS (WJ (((St.start HS HT HB).push f2).push f1) ak au hk)
theorem nO(HT:Tz W0)(HB:Tab W0)(HS:St W0 U Ps w)(f1:FI (.agg #[.bool s1,.slice A1 n1 c1]) x1 k1 w)(f2:FI (.agg #[.bool s2,.slice A2 n2 c2]) x2 k2 w)(hk:k1<=10000/\k2<=10000):bC Tryz.prog 105 [.agg #[.bool s1,.slice A1 n1 c1],.agg #[.bool s2,.slice A2 n2 c2]] w (jR W0 U Ps (x1*x2) (k1+k2+1)) :=
 oK HS (Hq (((St.start HS HT HB).push f2).push f1) ak au hk)
theorem ahs(HT:Tz W0)(HB:Tab W0)(HS:St W0 U Ps w)(f1:FI (.agg #[.bool s1,.slice A1 n1 c1]) x1 k1 w)(f2:FI (.agg #[.bool s2,.slice A2 n2 c2]) x2 k2 w)(hk:k1<=10000/\k2<=10000):bC Tryz.prog 96 [.agg #[.bool s1,.slice A1 n1 c1],.agg #[.bool s2,.slice A2 n2 c2]] w (di W0 U Ps (.int .i64 (dX x1 x2))) :=
 ni HS (WO (((St.start HS HT HB).push f2).push f1) ak au hk)
theorem o9(HT:Tz W0)(HB:Tab W0)(HS:St W0 U Ps w)(f1:FI (.agg #[.bool s1,.slice A1 n1 c1]) x1 k1 w)(hk:k1<=100000):bC Tryz.prog 100 [.agg #[.bool s1,.slice A1 n1 c1]] w (di W0 U Ps (.int .i64 (dL x1))) :=
 ni HS (wu ((St.start HS HT HB).push f1) ak hk)
theorem ain(HT:Tz W0)(HB:Tab W0)(HS:St W0 U Ps w)(f1:FI (.agg #[.bool s1,.slice A1 n1 c1]) x1 k1 w)(hk:k1<=10000):bC Tryz.prog 108 [.agg #[.bool s1,.slice A1 n1 c1]] w (jR W0 U Ps (-x1) (k1)) :=
 oK HS (Hw ((St.start HS HT HB).push f1) ak hk)
theorem kM(HT:Tz W0)(HB:Tab W0)(HS:St W0 U Ps w)(h1 : -9223372036854775808<=z1)(h2:z1<=9223372036854775807):bC Tryz.prog 104 [.int .i64 z1] w (jR W0 U Ps (z1) (2)) :=
 oK HS (D9 (St.start HS HT HB)  h1 h2)
theorem Dc(HT:Tz W0)(HB:Tab W0)(HS:St W0 U Ps w)(f1:FI (.agg #[.bool s1,.slice A1 n1 c1]) x1 k1 w)(f2:FI (.agg #[.bool s2,.slice A2 n2 c2]) x2 k2 w)(hk:k1+k2<=100000):bC Tryz.prog 67 [.agg #[.bool s1,.slice A1 n1 c1],.agg #[.bool s2,.slice A2 n2 c2]] w (di W0 U Ps (.int .i64 (dX x1 x2))) :=
 ni HS (UO (((St.start HS HT HB).push f2).push f1) ak au hk)
theorem Gi(HT:Tz W0)(HB:Tab W0)(HS:St W0 U Ps w)(f1:FI (.agg #[.bool s1,.slice A1 n1 c1]) x1 k1 w)(hk:k1<=100000):bC Tryz.prog 72 [.agg #[.bool s1,.slice A1 n1 c1]] w (di W0 U Ps (.int .i64 (dL x1))) :=
 ni HS (Gj ((St.start HS HT HB).push f1) ak hk)
end
end
section
variable {W0 w:World} {U:List Box} {Ps:List (World->Prop)}
theorem Dz(HS:St W0 U Ps w)(z:Int):bC Tryz.prog 18 [.iface 88 (.int .i64 z)] w (di W0 U Ps (.int .i64 z)):=St.same HS (agh z w)
end
theorem jL.err(z:Int):jL (.iface 88 (.int .i64 z)) z:=fun _ _ _ _ HS=>Dz HS z
end Go.Proofs.BGQ
namespace Lw
open Go Go.RowKit bF
section
variable {s:Bool} {A B:Option Addr} {n c m d k:Nat} {q:Rat} {w:World}
theorem FV.bad{b:Bool}(h:FV (avS s A n c B m d) q k b w)(hb:b=false):q=0:=by
 obtain ⟨s',A1,n1,c1,A2,n2,c2,ns,ms,h1,h2,h3,h4,h5,h6,h7,h8,h9,h10,h11⟩:=h;dsimp only at h10 h11;subst hb;unfold qv at h10;rw [h11] at h10
 simpa using h10.symm
end
theorem aby{x y:Int} : dX x y<=0↔x<=y:=by
 unfold dX
 split
 ·constructor <;> intro <;> omega
 ·split <;> constructor <;> intro <;> omega
theorem Kw(x y:Int):decide (dX x y<=0)=decide (x<=y):=by rw [decide_eq_decide];exact aby
theorem Io(x:Int):(dL x==0)=decide (x=0):=by
 rw [Bool.eq_iff_iff,beq_iff_eq,decide_eq_true_iff];unfold dL
 split
 ·constructor <;> intro <;> omega
 ·split <;> constructor <;> intro <;> omega
end Lw
namespace Lw
open Go Go.RowKit bF
theorem Ro(q r:Rat):(eX q r != 0)=(!(decide (q=r))):=by rw [<- BL];rfl
end Lw
namespace Go.Proofs.BGQ
open Go Go.RowKit Lw bF
section
variable {W0 w:World} {U:List Box} {Ps:List (World->Prop)}
theorem fO(w:World):Sem.run Tryz.prog (Array.mapM (fun (f:Go.Field)=>Prod.mk f.offset <$> Go.sizeOf f.type) #[{ name:= "Neg",type:=4,offset:=0,embedded:=false,tag:= "",pkgPath:= "",byteOffset:=0 },{ name:= "Num",type:=22,offset:=1,embedded:=false,tag:= "",pkgPath:= "",byteOffset:=8 },{ name:= "Den",type:=22,offset:=2,embedded:=false,tag:= "",pkgPath:= "",byteOffset:=32 }]) w = .ok #[(0,1),(1,1),(2,1)] w:=ah
theorem qA(w:World):Sem.run Tryz.prog (Array.mapM (fun (f:Go.Field)=>Prod.mk f.offset <$> Go.sizeOf f.type) #[{ name:= "X",type:=24,offset:=0,embedded:=false,tag:= "",pkgPath:= "",byteOffset:=0 },{ name:= "Y",type:=24,offset:=3,embedded:=false,tag:= "",pkgPath:= "",byteOffset:=56 }]) w = .ok #[(0,3),(3,3)] w:=ah
set_option maxRecDepth 100000 in
set_option maxHeartbeats 400000 in
theorem NG(HT:Tz W0)(HB:Tab W0)(HS:St W0 U Ps w)   : bC Tryz.prog 62 [] w (lK W0 U Ps (1) (6)):=by
 refine cO Tryz.func62 rfl Tryz.ntmps62 rfl<|Js<|JL.alloc (vs:=[.bool false,.slice none 0 0,.slice none 0 0]) HS rfl atF rfl rfl (fun g21 dN HS => ?_);refine Jn<|Js<|JL.call rfl rfl Tryz.call58 (Xa HT HB HS  af af)<|?_;rintro v22 dO ⟨jJ,jq,n22,jy,jw,m22,d22,rfl,HS⟩;refine JL.store HS rfl rfl (i:=0) rfl atz rfl rfl rfl (vs':=[.bool jJ,.slice jq n22 jy,.slice jw m22 d22]) rfl rfl (fun fH HS => ?_);refine Jn<|Ja Tryz.results62 (.agg rfl atD atz (HS.box _ ak) rfl rfl)<|?_;exact ⟨_,_,_,_,_,_,_,rfl,HS.oh 1 1 0 rfl (fun _ h=>h.as (show ((1:Int):Rat)=1 from rfl) af)⟩
set_option maxRecDepth 100000 in
set_option maxHeartbeats 400000 in
theorem Xl(HT:Tz W0)(HB:Tab W0){s1:Bool}{A1:Option Addr}{n1 c1:Nat}{B1:Option Addr}{m1 d1:Nat}{q1:Rat}{k1:Nat}{b1:Bool}{s2:Bool}{A2:Option Addr}{n2 c2:Nat}{B2:Option Addr}{m2 d2:Nat}{q2:Rat}{k2:Nat}{b2:Bool}(HS:St W0 U Ps w)(f1:FV (.agg #[.bool s1,.slice A1 n1 c1,.slice B1 m1 d1]) q1 k1 b1 w)(f2:FV (.agg #[.bool s2,.slice A2 n2 c2,.slice B2 m2 d2]) q2 k2 b2 w)(hk:k1+k2<=900)(hr:q2≠0):bC Tryz.prog 60 [.agg #[.bool s1,.slice A1 n1 c1,.slice B1 m1 d1],.agg #[.bool s2,.slice A2 n2 c2,.slice B2 m2 d2]] w (lK W0 U Ps (q1*q2⁻¹) (2*k1+2*k2+12)):=by
 have HS:=HS.add (FV.stable _ _ _ _) f1;have HS:=HS.add (FV.stable _ _ _ _) f2;clear f1 f2;refine cO Tryz.func60 rfl Tryz.ntmps60 rfl<|Js<|JL.box (vs:=[.bool s1,.slice A1 n1 c1,.slice B1 m1 d1]) HS rfl rfl rfl rfl (fun g21 dN HS => ?_);refine JL.box (vs:=[.bool s2,.slice A2 n2 c2,.slice B2 m2 d2]) HS rfl rfl rfl rfl (fun g22 dO HS => ?_);refine JL.alloc (vs:=[.bool false,.slice none 0 0,.slice none 0 0]) HS rfl atF rfl rfl (fun g23 fH HS => ?_);refine Jn<|Js<|JL.load (.agg #[.bool s1,.slice A1 n1 c1,.slice B1 m1 d1]) HS 2 rfl rfl rfl atD atz rfl rfl<|JL.load (.agg #[.bool s2,.slice A2 n2 c2,.slice B2 m2 d2]) HS 1 rfl rfl rfl atD atz rfl rfl<|JL.call rfl rfl Tryz.call106 (ah9 HT HB HS (HS.at_ 1 rfl) (HS.at_ 0 rfl) af hr)<|?_;rintro v24 gu ⟨s24,AX,n24,c24,Bd,m24,d24,rfl,HS⟩;refine Lm rfl<|Lx rfl rfl<|Lx rfl rfl<|JL.alloc (vs:=[.bool false,.slice none 0 0,.slice none 0 0]) HS rfl atF rfl rfl (fun lV gy HS => ?_);refine JL.store HS rfl rfl (i:=0) rfl atz rfl rfl rfl (vs':=[.bool s24,.slice AX n24 c24,.slice Bd m24 d24]) rfl rfl (fun iJ HS => ?_);refine La rfl<|Jn<|Js<|JL.load (.agg #[.bool s24,.slice AX n24 c24,.slice Bd m24 d24]) HS 0 rfl rfl rfl atD atz rfl rfl<|JL.store HS rfl rfl (i:=1) rfl atz rfl rfl rfl (vs':=[.bool s24,.slice AX n24 c24,.slice Bd m24 d24]) rfl rfl (fun kN HS => ?_);refine Jn<|Ja Tryz.results60 (.agg rfl atD atz (HS.box _ au) rfl rfl)<|?_;exact ⟨_,_,_,_,_,_,_,rfl,HS.oh 4 3 0 rfl (fun _ h=>h.as rfl af)⟩
set_option maxRecDepth 100000 in
set_option maxHeartbeats 400000 in
theorem H7(HT:Tz W0)(HB:Tab W0){s1:Bool}{A1:Option Addr}{n1 c1:Nat}{B1:Option Addr}{m1 d1:Nat}{q1:Rat}{k1:Nat}{b1:Bool}{s2:Bool}{A2:Option Addr}{n2 c2:Nat}{B2:Option Addr}{m2 d2:Nat}{q2:Rat}{k2:Nat}{b2:Bool}(HS:St W0 U Ps w)(f1:FV (.agg #[.bool s1,.slice A1 n1 c1,.slice B1 m1 d1]) q1 k1 b1 w)(f2:FV (.agg #[.bool s2,.slice A2 n2 c2,.slice B2 m2 d2]) q2 k2 b2 w)(hk:k1+k2<=200):bC Tryz.prog 74 [.agg #[.bool s1,.slice A1 n1 c1,.slice B1 m1 d1],.agg #[.bool s2,.slice A2 n2 c2,.slice B2 m2 d2]] w (lK W0 U Ps (q1*q1+q2*q2) (2*k1+2*k2+6)):=by
 have HS:=HS.add (FV.stable _ _ _ _) f1;have HS:=HS.add (FV.stable _ _ _ _) f2;clear f1 f2;refine cO Tryz.func74 rfl Tryz.ntmps74 rfl<|Js<|JL.box (vs:=[.bool s1,.slice A1 n1 c1,.slice B1 m1 d1]) HS rfl rfl rfl rfl (fun g21 dN HS => ?_);refine JL.box (vs:=[.bool s2,.slice A2 n2 c2,.slice B2 m2 d2]) HS rfl rfl rfl rfl (fun g22 dO HS => ?_);refine JL.alloc (vs:=[.bool false,.slice none 0 0,.slice none 0 0]) HS rfl atF rfl rfl (fun g23 fH HS => ?_);refine Jn<|JC.seq<|JC.draw HS [7] ah (fun gu HS => ?_);refine Da (.agg #[.bool s1,.slice A1 n1 c1,.slice B1 m1 d1]) 0 2 rfl HS.b0 rfl rfl atD atz<|Da (.agg #[.bool s1,.slice A1 n1 c1,.slice B1 m1 d1]) 1 2 rfl HS.b0 rfl rfl atD atz<|Da (.agg #[.bool s2,.slice A2 n2 c2,.slice B2 m2 d2]) 3 1 rfl HS.b0 rfl rfl atD atz<|Da (.agg #[.bool s2,.slice A2 n2 c2,.slice B2 m2 d2]) 4 1 rfl HS.b0 rfl rfl atD atz<|bV 2 rfl rfl rfl Tryz.call59 (W9 HT HB HS (HS.at_ 1 rfl) (HS.at_ 1 rfl) af)<|?_;rintro aqD ar5 ⟨apM,alO,aoj,amz,amc,an3,amW,rfl,HS⟩;refine ⟨HS.b0,?_⟩;refine bV 5 rfl rfl rfl Tryz.call59 (W9 HT HB HS (HS.at_ 1 rfl) (HS.at_ 1 rfl) af)<|?_;rintro akx akY ⟨XI,OO,VK,QH,PG,Vs,Ry,rfl,HS⟩;refine ⟨HS.b0,?_⟩;refine bV 6 rfl rfl rfl Tryz.call63 (WX HT HB HS (HS.at_ 1 rfl) (HS.at_ 0 rfl) af)<|?_;rintro aqF ar7 ⟨aiN,Zg,afP,abg,Zv,afr,abT,rfl,HS⟩;refine ⟨HS.b0,?_⟩;refine iZ 7 [.bool aiN,.slice Zg afP abg,.slice Zv afr abT] HS 0 rfl rfl rfl rfl atz (fun _ HS=>⟨(gZ (s:=7) rfl rfl),?_⟩);refine JR.next ah (fun _ _ h=>h)<|Ja Tryz.results74 (.agg rfl atD atz (HS.box _ ak) rfl rfl)<|?_;exact ⟨_,_,_,_,_,_,_,rfl,HS.oh 3 5 0 rfl (fun _ h=>h.as rfl af)⟩
set_option maxRecDepth 100000 in
set_option maxHeartbeats 400000 in
theorem Xk(HT:Tz W0)(HB:Tab W0){s1:Bool}{A1:Option Addr}{n1 c1:Nat}{B1:Option Addr}{m1 d1:Nat}{q1:Rat}{k1:Nat}{b1:Bool}{s2:Bool}{A2:Option Addr}{n2 c2:Nat}{B2:Option Addr}{m2 d2:Nat}{q2:Rat}{k2:Nat}{b2:Bool}(HS:St W0 U Ps w)(f1:FV (.agg #[.bool s1,.slice A1 n1 c1,.slice B1 m1 d1]) q1 k1 b1 w)(f2:FV (.agg #[.bool s2,.slice A2 n2 c2,.slice B2 m2 d2]) q2 k2 b2 w)(hk:k1+k2<=60)(ho:q1*q1+q2*q2=1):bC Tryz.prog 29 [.agg #[.bool s1,.slice A1 n1 c1,.slice B1 m1 d1],.agg #[.bool s2,.slice A2 n2 c2,.slice B2 m2 d2]] w (mD W0 U Ps (if q1 = -1 then 0 else q2*(1+q1)⁻¹) (decide (q1 = -1)) (2*k1+2*k2+100) (.int .i64 0)):=by
 have HS:=HS.add (FV.stable _ _ _ _) f1;have HS:=HS.add (FV.stable _ _ _ _) f2;clear f1 f2;refine cO Tryz.func29 rfl Tryz.ntmps29 rfl<|Js<|JL.box (vs:=[.bool s1,.slice A1 n1 c1,.slice B1 m1 d1]) HS rfl rfl rfl rfl (fun g21 dN HS => ?_);refine JL.box (vs:=[.bool s2,.slice A2 n2 c2,.slice B2 m2 d2]) HS rfl rfl rfl rfl (fun g22 dO HS => ?_);refine JL.alloc (vs:=[.bool false,.slice none 0 0,.slice none 0 0,.bool false]) HS rfl atG rfl rfl (fun g23 fH HS => ?_);refine La rfl<|Jn<|JC.seq<|Js<|JL.load (.agg #[.bool s1,.slice A1 n1 c1,.slice B1 m1 d1]) HS 2 rfl rfl rfl atD atz rfl rfl<|JL.load (.agg #[.bool s2,.slice A2 n2 c2,.slice B2 m2 d2]) HS 1 rfl rfl rfl atD atz rfl rfl<|JL.call rfl rfl avI (H7 HT HB HS (HS.at_ 1 rfl) (HS.at_ 0 rfl) af)<|?_;rintro v24 gu ⟨s24,AX,n24,c24,Bd,m24,d24,rfl,HS⟩;refine JL.call rfl rfl Tryz.call62 (NG HT HB HS  )<|?_;rintro v25 gy ⟨Ed,AY,n25,c25,Be,m25,d25,rfl,HS⟩;refine JL.call rfl rfl avn (D7 HT HB HS (HS.at_ 1 rfl) (HS.at_ 0 rfl) af)<|?_;rintro v26 iJ ⟨rfl,HS⟩;refine Lz (.bool false) (fun a ha=>gG (ha.ev rfl) (ha.ev rfl) ((Ro _ _).trans (congrArg (! ·) (decide_eq_true ho))))<|Jn<|JC.bG rfl<|Jk<|JC.seq<|JC.seq<|JC.draw HS [] ah (fun kN HS => ?_);refine Da (.agg #[.bool s1,.slice A1 n1 c1,.slice B1 m1 d1]) 0 2 rfl HS.b0 rfl rfl atD atz<|bV 1 rfl rfl rfl Tryz.call58 (Xa HT HB HS  ai ai)<|?_;rintro akB ak2 ⟨aiR,Zk,afT,abl,amf,an6,amZ,rfl,HS⟩;refine ⟨HS.b0,?_⟩;refine bV 2 rfl rfl rfl avn (D7 HT HB HS (HS.at_ 4 rfl) (HS.at_ 0 rfl) af)<|?_;rintro akC ak3 ⟨rfl,HS⟩;refine ⟨HS.b0,?_⟩;refine Dv (.bool (decide (q1=((-1):Rat)))) 3 rfl HS.b0 (fun a ha w=>dh (ha.ev rfl) (ha.ev rfl) (BL _ _))<|JR.next ah (fun _ _ h=>h)<|?_
 cases xP:((decide (q1=((-1):Rat))))
 ·skip
  refine JC.bG rfl<|Jk<|JC.seq<|JC.draw HS [6] ah (fun nS HS => ?_);refine Da (.agg #[.bool s2,.slice A2 n2 c2,.slice B2 m2 d2]) 0 1 rfl HS.b0 rfl rfl atD atz<|Da (.agg #[.bool s1,.slice A1 n1 c1,.slice B1 m1 d1]) 2 2 rfl HS.b0 rfl rfl atD atz<|bV 1 rfl rfl rfl Tryz.call62 (NG HT HB HS  )<|?_;rintro aqP asl ⟨apZ,al2,aov,amL,amg,an7,am0,rfl,HS⟩;refine ⟨HS.b0,?_⟩;refine bV 3 rfl rfl rfl Tryz.call63 (WX HT HB HS (HS.at_ 0 rfl) (HS.at_ 5 rfl) af)<|?_;rintro aqR asn ⟨ap0,al3,aow,amM,amh,an8,am1,rfl,HS⟩;refine ⟨HS.b0,?_⟩;refine bV 4 rfl rfl rfl Tryz.call60 (Xl HT HB HS (HS.at_ 5 rfl) (HS.at_ 0 rfl) af (by have h9:=of_decide_eq_false (p:=q1=((-1:Int):Rat)) (by assumption);intro e;exact h9 (by show q1 = -1;grind)))<|?_;rintro aqS aso ⟨XQ,OZ,VT,QS,PK,Vt,Rz,rfl,HS⟩;refine ⟨HS.b0,?_⟩;refine Dv (.agg #[.bool XQ,.slice OZ VT QS,.slice PK Vt Rz,.bool false]) 5 rfl HS.b0 (fun a ha w=>bF.run_build (ha.bW rfl) atI atG jb rfl)<|iZ 6 [.bool XQ,.slice OZ VT QS,.slice PK Vt Rz,.bool false] HS 0 rfl rfl rfl rfl atA (fun _ HS=>⟨(gZ (s:=6) rfl rfl),?_⟩);refine Ds 7 rfl (gZ (s:=6) rfl rfl) rfl<|JR.next ah (fun _ _ h=>h)<|Jb Tryz.results29 (.agg rfl atC atA (HS.box _ ak) rfl rfl) (.tmp rfl)<|?_;exact ⟨_,_,_,_,_,_,_,rfl,HS.oh 3 8 0 rfl (fun _ h=>h.as (by have h9:=of_decide_eq_false (p:=q1=((-1:Int):Rat)) (by assumption);exact (if_neg h9).symm) af)⟩
 ·skip
  refine JC.bK rfl<|Js<|Lz (.agg #[.bool false,.slice none 0 0,.slice none 0 0,.bool true]) (fun a ha=>bF.run_build (ha.bW rfl) atI atG jb rfl)<|JL.store HS rfl rfl (i:=0) rfl atA rfl rfl rfl (vs':=[.bool false,.slice none 0 0,.slice none 0 0,.bool true]) rfl rfl (fun w32 HS => ?_);refine La rfl<|Jn<|Jb Tryz.results29 (.agg rfl atC atA (HS.box _ ak) rfl rfl) (.tmp rfl)<|?_;exact ⟨_,_,_,_,_,_,_,rfl,(HS.add (FV.stable _ _ _ _) (FV.zero 0 _)).out 3 6 0 rfl rfl rfl (fun _ h=>h.as (by have h9:=of_decide_eq_true (p:=q1=((-1:Int):Rat)) (by assumption);exact (if_pos h9).symm) af)⟩
set_option maxRecDepth 100000 in
set_option maxHeartbeats 400000 in
theorem Xj(HT:Tz W0)(HB:Tab W0){s1:Bool}{A1:Option Addr}{n1 c1:Nat}{B1:Option Addr}{m1 d1:Nat}{q1:Rat}{k1:Nat}{b1:Bool}{s2:Bool}{A2:Option Addr}{n2 c2:Nat}{B2:Option Addr}{m2 d2:Nat}{q2:Rat}{k2:Nat}{b2:Bool}(HS:St W0 U Ps w)(f1:FV (.agg #[.bool s1,.slice A1 n1 c1,.slice B1 m1 d1]) q1 k1 b1 w)(f2:FV (.agg #[.bool s2,.slice A2 n2 c2,.slice B2 m2 d2]) q2 k2 b2 w)(hk:k1+k2<=60)(ho:¬ q1*q1+q2*q2=1):bC Tryz.prog 29 [.agg #[.bool s1,.slice A1 n1 c1,.slice B1 m1 d1],.agg #[.bool s2,.slice A2 n2 c2,.slice B2 m2 d2]] w (di W0 U Ps (.tuple #[.agg #[.bool false,.slice none 0 0,.slice none 0 0,.bool false],.int .i64 2])):=by
 have HS:=HS.add (FV.stable _ _ _ _) f1;have HS:=HS.add (FV.stable _ _ _ _) f2;clear f1 f2;refine cO Tryz.func29 rfl Tryz.ntmps29 rfl<|Js<|JL.box (vs:=[.bool s1,.slice A1 n1 c1,.slice B1 m1 d1]) HS rfl rfl rfl rfl (fun g21 dN HS => ?_);refine JL.box (vs:=[.bool s2,.slice A2 n2 c2,.slice B2 m2 d2]) HS rfl rfl rfl rfl (fun g22 dO HS => ?_);refine JL.alloc (vs:=[.bool false,.slice none 0 0,.slice none 0 0,.bool false]) HS rfl atG rfl rfl (fun g23 fH HS => ?_);refine La rfl<|Jn<|JC.seq<|Js<|JL.load (.agg #[.bool s1,.slice A1 n1 c1,.slice B1 m1 d1]) HS 2 rfl rfl rfl atD atz rfl rfl<|JL.load (.agg #[.bool s2,.slice A2 n2 c2,.slice B2 m2 d2]) HS 1 rfl rfl rfl atD atz rfl rfl<|JL.call rfl rfl avI (H7 HT HB HS (HS.at_ 1 rfl) (HS.at_ 0 rfl) af)<|?_;rintro v24 gu ⟨s24,AX,n24,c24,Bd,m24,d24,rfl,HS⟩;refine JL.call rfl rfl Tryz.call62 (NG HT HB HS  )<|?_;rintro v25 gy ⟨Ed,AY,n25,c25,Be,m25,d25,rfl,HS⟩;refine JL.call rfl rfl avn (D7 HT HB HS (HS.at_ 1 rfl) (HS.at_ 0 rfl) af)<|?_;rintro v26 iJ ⟨rfl,HS⟩;refine Lz (.bool true) (fun a ha=>gG (ha.ev rfl) (ha.ev rfl) ((Ro _ _).trans (congrArg (! ·) (decide_eq_false ho))))<|Jn<|JC.bK rfl<|Js<|Lz (.agg #[.bool false,.slice none 0 0,.slice none 0 0,.bool false]) (fun a ha=>bF.run_build (ha.bW rfl) atI atG jb rfl)<|JL.store HS rfl rfl (i:=0) rfl atA rfl rfl rfl (vs':=[.bool false,.slice none 0 0,.slice none 0 0,.bool false]) rfl rfl (fun kN HS => ?_);refine La rfl<|Jn<|Jb Tryz.results29 (.agg rfl atC atA (HS.box _ ak) rfl rfl) (.tmp rfl)<|?_;exact ⟨rfl,HS.o0 3 4⟩
set_option maxRecDepth 100000 in
set_option maxHeartbeats 400000 in
theorem Xn(HT:Tz W0)(HB:Tab W0){eG:Bool}{ed:Option Addr}{eF c1a:Nat}{iK:Option Addr}{iM iL:Nat}{fC:Rat}{gV:Nat}{qY:Bool}{eY:Bool}{eH:Option Addr}{n1b eU:Nat}{iP:Option Addr}{iT iQ:Nat}{fZ:Rat}{gW:Nat}{qZ:Bool}(HS:St W0 U Ps w)(f1a:FV (.agg #[.bool eG,.slice ed eF c1a,.slice iK iM iL]) fC gV qY w)(jl:FV (.agg #[.bool eY,.slice eH n1b eU,.slice iP iT iQ]) fZ gW qZ w)(hk:gV+gW<=60)(ho:¬ fC*fC+fZ*fZ=0):bC Tryz.prog 30 [.agg #[.bool eG,.slice ed eF c1a,.slice iK iM iL,.bool eY,.slice eH n1b eU,.slice iP iT iQ]] w (mD W0 U Ps (fZ*fC⁻¹) (decide (fC=0)) (2*gV+2*gW+100) (.int .i64 0)):=by
 have HS:=HS.add (FV.stable _ _ _ _) f1a;have HS:=HS.add (FV.stable _ _ _ _) jl;clear f1a jl;refine cO Tryz.func30 rfl Tryz.ntmps30 rfl<|Js<|JL.box (vs:=[.bool eG,.slice ed eF c1a,.slice iK iM iL,.bool eY,.slice eH n1b eU,.slice iP iT iQ]) HS rfl rfl rfl rfl (fun g21 dN HS => ?_);refine JL.alloc (vs:=[.bool false,.slice none 0 0,.slice none 0 0,.bool false]) HS rfl atG rfl rfl (fun g22 dO HS => ?_);refine La rfl<|Jn<|JC.seq<|Js<|dS 0 rfl atW rfl atz<|JL.load (.agg #[.bool eG,.slice ed eF c1a,.slice iK iM iL]) HS 1 rfl rfl rfl atD atz rfl rfl<|dS 3 rfl atW rfl atz<|JL.load (.agg #[.bool eY,.slice eH n1b eU,.slice iP iT iQ]) HS 1 rfl rfl rfl atD atz rfl rfl<|JL.call rfl rfl avI (H7 HT HB HS (HS.at_ 1 rfl) (HS.at_ 0 rfl) af)<|?_;rintro v23 fH ⟨s23,yK,n23,c23,Zu,m23,d23,rfl,HS⟩;refine JL.call rfl rfl avm (D8 HT HB HS (HS.at_ 0 rfl) af)<|?_;rintro v24 gu ⟨rfl,HS⟩;refine Lz (.bool false) (fun a ha=>dh (ha.ev rfl) (ha.ev rfl) ((Ij _).trans (decide_eq_false ho)))<|Jn<|JC.bG rfl<|Jk<|JC.seq<|Js<|dS 0 rfl atW rfl atz<|JL.load (.agg #[.bool eG,.slice ed eF c1a,.slice iK iM iL]) HS 1 rfl rfl rfl atD atz rfl rfl<|JL.call rfl rfl avm (D8 HT HB HS (HS.at_ 2 rfl) af)<|?_;rintro v25 gy ⟨rfl,HS⟩;refine Lz (.bool (decide (fC=0))) (fun a ha=>dh (ha.ev rfl) (ha.ev rfl) (Ij _))<|Jn<|?_
 cases F8:((decide (fC=0)))
 ·skip
  refine JC.bG rfl<|Jk<|Js<|dS 3 rfl atW rfl atz<|JL.load (.agg #[.bool eY,.slice eH n1b eU,.slice iP iT iQ]) HS 1 rfl rfl rfl atD atz rfl rfl<|dS 0 rfl atW rfl atz<|JL.load (.agg #[.bool eG,.slice ed eF c1a,.slice iK iM iL]) HS 1 rfl rfl rfl atD atz rfl rfl<|JL.call rfl rfl Tryz.call60 (Xl HT HB HS (HS.at_ 1 rfl) (HS.at_ 2 rfl) af (of_decide_eq_false (by assumption)))<|?_;rintro v27 kN ⟨XL,OU,n27,QK,PI,m27,d27,rfl,HS⟩;refine Lz (.agg #[.bool XL,.slice OU n27 QK,.slice PI m27 d27,.bool false]) (fun a ha=>bF.run_build (ha.bW rfl) atI atG jb rfl)<|JL.store HS rfl rfl (i:=0) rfl atA rfl rfl rfl (vs':=[.bool XL,.slice OU n27 QK,.slice PI m27 d27,.bool false]) rfl rfl (fun lI HS => ?_);refine La rfl<|Jn<|Jb Tryz.results30 (.agg rfl atC atA (HS.box _ ak) rfl rfl) (.tmp rfl)<|?_;exact ⟨_,_,_,_,_,_,_,rfl,HS.oh 2 4 0 rfl (fun _ h=>h.as (by simp_all [Rat.inv_zero]) af)⟩
 ·skip
  refine JC.bK rfl<|Js<|Lz (.agg #[.bool false,.slice none 0 0,.slice none 0 0,.bool true]) (fun a ha=>bF.run_build (ha.bW rfl) atI atG jb rfl)<|JL.store HS rfl rfl (i:=0) rfl atA rfl rfl rfl (vs':=[.bool false,.slice none 0 0,.slice none 0 0,.bool true]) rfl rfl (fun kW HS => ?_);refine La rfl<|Jn<|Jb Tryz.results30 (.agg rfl atC atA (HS.box _ ak) rfl rfl) (.tmp rfl)<|?_;exact ⟨_,_,_,_,_,_,_,rfl,(HS.add (FV.stable _ _ _ _) (FV.zero 0 _)).out 2 4 0 rfl rfl rfl (fun _ h=>h.as (by simp_all [Rat.inv_zero]) af)⟩
set_option maxRecDepth 100000 in
set_option maxHeartbeats 400000 in
theorem Xm(HT:Tz W0)(HB:Tab W0){eG:Bool}{ed:Option Addr}{eF c1a:Nat}{iK:Option Addr}{iM iL:Nat}{fC:Rat}{gV:Nat}{qY:Bool}{eY:Bool}{eH:Option Addr}{n1b eU:Nat}{iP:Option Addr}{iT iQ:Nat}{fZ:Rat}{gW:Nat}{qZ:Bool}(HS:St W0 U Ps w)(f1a:FV (.agg #[.bool eG,.slice ed eF c1a,.slice iK iM iL]) fC gV qY w)(jl:FV (.agg #[.bool eY,.slice eH n1b eU,.slice iP iT iQ]) fZ gW qZ w)(hk:gV+gW<=60)(ho:fC*fC+fZ*fZ=0):bC Tryz.prog 30 [.agg #[.bool eG,.slice ed eF c1a,.slice iK iM iL,.bool eY,.slice eH n1b eU,.slice iP iT iQ]] w (di W0 U Ps (.tuple #[.agg #[.bool false,.slice none 0 0,.slice none 0 0,.bool false],.int .i64 8])):=by
 have HS:=HS.add (FV.stable _ _ _ _) f1a;have HS:=HS.add (FV.stable _ _ _ _) jl;clear f1a jl;refine cO Tryz.func30 rfl Tryz.ntmps30 rfl<|Js<|JL.box (vs:=[.bool eG,.slice ed eF c1a,.slice iK iM iL,.bool eY,.slice eH n1b eU,.slice iP iT iQ]) HS rfl rfl rfl rfl (fun g21 dN HS => ?_);refine JL.alloc (vs:=[.bool false,.slice none 0 0,.slice none 0 0,.bool false]) HS rfl atG rfl rfl (fun g22 dO HS => ?_);refine La rfl<|Jn<|JC.seq<|Js<|dS 0 rfl atW rfl atz<|JL.load (.agg #[.bool eG,.slice ed eF c1a,.slice iK iM iL]) HS 1 rfl rfl rfl atD atz rfl rfl<|dS 3 rfl atW rfl atz<|JL.load (.agg #[.bool eY,.slice eH n1b eU,.slice iP iT iQ]) HS 1 rfl rfl rfl atD atz rfl rfl<|JL.call rfl rfl avI (H7 HT HB HS (HS.at_ 1 rfl) (HS.at_ 0 rfl) af)<|?_;rintro v23 fH ⟨s23,yK,n23,c23,Zu,m23,d23,rfl,HS⟩;refine JL.call rfl rfl avm (D8 HT HB HS (HS.at_ 0 rfl) af)<|?_;rintro v24 gu ⟨rfl,HS⟩;refine Lz (.bool true) (fun a ha=>dh (ha.ev rfl) (ha.ev rfl) ((Ij _).trans (decide_eq_true ho)))<|Jn<|JC.bK rfl<|Js<|Lz (.agg #[.bool false,.slice none 0 0,.slice none 0 0,.bool false]) (fun a ha=>bF.run_build (ha.bW rfl) atI atG jb rfl)<|JL.store HS rfl rfl (i:=0) rfl atA rfl rfl rfl (vs':=[.bool false,.slice none 0 0,.slice none 0 0,.bool false]) rfl rfl (fun gy HS => ?_);refine La rfl<|Jn<|Jb Tryz.results30 (.agg rfl atC atA (HS.box _ ak) rfl rfl) (.tmp rfl)<|?_;exact ⟨rfl,HS.o0 2 3⟩
set_option maxRecDepth 100000 in
set_option maxHeartbeats 400000 in
theorem nP(HT:Tz W0)(HB:Tab W0){s1:Bool}{A1:Option Addr}{n1 c1:Nat}{B1:Option Addr}{m1 d1:Nat}{q1:Rat}{k1:Nat}{b1:Bool}{u1:Bool}{s2:Bool}{A2:Option Addr}{n2 c2:Nat}{B2:Option Addr}{m2 d2:Nat}{q2:Rat}{k2:Nat}{b2:Bool}{u2:Bool}(HS:St W0 U Ps w)(f1:FV (.agg #[.bool s1,.slice A1 n1 c1,.slice B1 m1 d1]) q1 k1 b1 w)(f2:FV (.agg #[.bool s2,.slice A2 n2 c2,.slice B2 m2 d2]) q2 k2 b2 w)(hk:k1+k2<=800)(hu:u1=u2)(hq:q1=q2):bC Tryz.prog 23 [.agg #[.bool s1,.slice A1 n1 c1,.slice B1 m1 d1,.bool u1],.agg #[.bool s2,.slice A2 n2 c2,.slice B2 m2 d2,.bool u2]] w (di W0 U Ps (.bool true)):=by
 have HS:=HS.add (FV.stable _ _ _ _) f1;have HS:=HS.add (FV.stable _ _ _ _) f2;clear f1 f2;refine cO Tryz.func23 rfl Tryz.ntmps23 rfl<|Js<|JL.box (vs:=[.bool s1,.slice A1 n1 c1,.slice B1 m1 d1,.bool u1]) HS rfl rfl rfl rfl (fun g21 dN HS => ?_);refine JL.box (vs:=[.bool s2,.slice A2 n2 c2,.slice B2 m2 d2,.bool u2]) HS rfl rfl rfl rfl (fun g22 dO HS => ?_);refine La rfl<|Jn<|Js<|dS 3 rfl atI rfl atT<|JL.iR (.bool u1) HS 1 rfl rfl rfl atQ rfl<|dS 3 rfl atI rfl atT<|JL.iR (.bool u2) HS 0 rfl rfl rfl atQ rfl<|Lz (.bool true) (fun a ha=>Xp (ha.ev rfl) (ha.ev rfl) auS (by rw [hu];simp))<|Lm rfl<|bz (.pointer (some ⟨g21,0,none⟩)) (fun a ha=>je (ha.ev rfl) atI rfl atz rfl rfl)<|bz (.agg #[.bool s1,.slice A1 n1 c1,.slice B1 m1 d1]) (fun a ha=>dJ (ha.ev rfl) atD atz (HS.box _ au) rfl rfl)<|bz (.pointer (some ⟨g22,0,none⟩)) (fun a ha=>je (ha.ev rfl) atI rfl atz rfl rfl)<|bz (.agg #[.bool s2,.slice A2 n2 c2,.slice B2 m2 d2]) (fun a ha=>dJ (ha.ev rfl) atD atz (HS.box _ ak) rfl rfl)<|JL.dD rfl rfl rfl rfl rfl rfl avn (D7 HT HB HS (HS.at_ 1 rfl) (HS.at_ 0 rfl) af)<|?_;rintro v23 fH ⟨rfl,HS⟩;refine bz (.bool (decide (q1=q2))) (fun a ha=>dh (ha.ev rfl) (ha.ev rfl) (BL _ _))<|Lt rfl rfl<|La rfl<|Jn<|Ja Tryz.results23 (.tmp rfl)<|?_;exact ⟨(congrArg Value.bool (decide_eq_true hq)),HS.o0 2 2⟩
end
end Go.Proofs.BGQ
namespace Lw
theorem Tv(a b:Rat):(a.num*(b.den:Int)*(a.num*(b.den:Int))+b.num*(a.den:Int)*(b.num*(a.den:Int))=(a.den:Int)*(b.den:Int)*((a.den:Int)*(b.den:Int)))↔a*a+b*b=1:=by
 rw [<- Rat.intCast_inj];simp only [aw6,awt];rw [vS a,vS b];have h:=iD (iD (uV a) (uV b)) (iD (uV a) (uV b));generalize ((a.den:Int):Rat)=e at *;generalize ((b.den:Int):Rat)=f at *;refine ⟨fun g=>VB h ?_,fun g => ?_⟩
 ·grind
 ·have:e*f*(e*f)*(a*a+b*b)=e*f*(e*f)*1:=by rw [g]
  grind
theorem TC(a b:Rat):gU (a.num*(b.den:Int)+(a.den:Int)*(b.den:Int))=decide (a = -1):=by
 unfold gU;apply decide_eq_decide.2;rw [<- Rat.intCast_inj];simp only [aw6,awt];rw [vS a];have h:=iD (uV a) (uV b);generalize ((a.den:Int):Rat)=e at *;generalize ((b.den:Int):Rat)=f at *;refine ⟨fun g => ?_,fun g=>by rw [g];have:=Rat.intCast_zero;grind⟩;have g':a*e*f+e*f=0:=g;have:e*f*(a+1)=0:=by grind
 rcases axr.1 this with h' | h'
 ·exact absurd h' h
 ·grind
theorem adB(a b:Rat):gQ (a.num*(b.den:Int)+(a.den:Int)*(b.den:Int)) (b.num*(a.den:Int))=if a = -1 then 0 else b*(1+a)⁻¹:=by
 have h:=TC a b;unfold gU at h;unfold gQ
 by_cases ha:a = -1
 ·rw [if_pos ha,if_pos (of_decide_eq_true (h.trans (decide_eq_true ha)))]
 ·have h0:¬ (a.num*(b.den:Int)+(a.den:Int)*(b.den:Int)=0):=of_decide_eq_false (h.trans (decide_eq_false ha))
  rw [if_neg ha,if_neg h0];refine dv (yU.2 h0) ?_;simp only [aw6,awt];rw [vS a,vS b];have i:=qo (show (1:Rat)+a≠0 by intro e;exact ha (by grind));grind
theorem nd0(a b:Rat):a.num*(b.den:Int)=0↔a=0:=by
 rw [<- awo (q:=a)];have:=b.den_nz;constructor
 ·intro h;rcases Int.mul_eq_zero.1 h with h | h
  ·exact h
  ·omega
 ·intro h;rw [h,Int.zero_mul]
theorem TJ(a b:Rat):gU (a.num*(b.den:Int))=decide (a=0):=decide_eq_decide.2 (nd0 a b)
theorem TI(a b:Rat):gQ (a.num*(b.den:Int)) (b.num*(a.den:Int))=b*a⁻¹:=by
 unfold gQ
 by_cases ha:a=0
 ·rw [if_pos ((nd0 a b).2 ha),ha];simp
 ·have h0:=mt (nd0 a b).1 ha
  rw [if_neg h0];refine dv (yU.2 h0) ?_;simp only [awt];rw [vS a,vS b];have i:=qo ha;grind
theorem NR{a b:Rat} : a*a+b*b=0↔a=0/\b=0:=by
 constructor
 ·intro h
  have h1:=uG a;have h2:=uG b;have h3:a*a=0:=by grind
  have h4:b*b=0:=by grind
  exact ⟨(axr.1 h3).elim id id,(axr.1 h4).elim id id⟩
 ·rintro ⟨h1,h2⟩
  rw [h1,h2];decide +kernel
end Lw
namespace Go.Proofs.BGQ
open Go Go.RowKit Lw bF
section
variable {W0 w:World} {U:List Box} {Ps:List (World->Prop)}
set_option maxRecDepth 100000 in
set_option maxHeartbeats 400000 in
theorem IC(HT:Tz W0)(HB:Tab W0){eG:Bool}{ed:Option Addr}{eF c1a:Nat}{iK:Option Addr}{iM iL:Nat}{fC:Rat}{gV:Nat}{qY:Bool}{eY:Bool}{eH:Option Addr}{n1b eU:Nat}{iP:Option Addr}{iT iQ:Nat}{fZ:Rat}{gW:Nat}{qZ:Bool}(HS:St W0 U Ps w)(f1a:FV (.agg #[.bool eG,.slice ed eF c1a,.slice iK iM iL]) fC gV qY w)(jl:FV (.agg #[.bool eY,.slice eH n1b eU,.slice iP iT iQ]) fZ gW qZ w)(hk:gV+gW<=8000):bC Tryz.prog 66 [.agg #[.bool eG,.slice ed eF c1a,.slice iK iM iL,.bool eY,.slice eH n1b eU,.slice iP iT iQ]] w (Pv W0 U Ps (fC.num*(fZ.den:Int)) (fZ.num*(fC.den:Int)) ((fC.den:Int)*(fZ.den:Int)) (gV+gW+4)):=by
 have HS:=HS.add (FV.stable _ _ _ _) f1a;have HS:=HS.add (FV.stable _ _ _ _) jl;clear f1a jl;refine cO Tryz.func66 rfl Tryz.ntmps66 rfl<|Js<|JL.box (vs:=[.bool eG,.slice ed eF c1a,.slice iK iM iL,.bool eY,.slice eH n1b eU,.slice iP iT iQ]) HS rfl rfl rfl rfl (fun g21 dN HS => ?_);refine JL.alloc (vs:=[.bool false,.slice none 0 0,.bool false,.slice none 0 0]) HS rfl at1 rfl rfl (fun g22 dO HS => ?_);refine JL.alloc (vs:=[.bool false,.slice none 0 0]) HS rfl atM rfl rfl (fun g23 fH HS => ?_);refine Jn<|Js<|dS 0 rfl atW rfl atz<|JL.load (.agg #[.bool eG,.slice ed eF c1a,.slice iK iM iL]) HS 2 rfl rfl rfl atD atz rfl rfl<|JL.call rfl rfl Tryz.call110 (KN HT HB HS (HS.at_ 1 rfl) af)<|?_;rintro v24 gu ⟨jZ,jQ,jW,jT,jK,jr,jF,jA,rfl,HS⟩;refine Lm rfl<|Lx rfl rfl<|Lx rfl rfl<|JL.alloc (vs:=[.bool false,.slice none 0 0]) HS rfl atM rfl rfl (fun lV gy HS => ?_);refine JL.alloc (vs:=[.bool false,.slice none 0 0]) HS rfl atM rfl rfl (fun zk iJ HS => ?_);refine JL.store HS rfl rfl (i:=1) rfl atB rfl rfl rfl (vs':=[.bool jZ,.slice jQ jW jT]) rfl rfl (fun kN HS => ?_);refine JL.store HS rfl rfl (i:=0) rfl atB rfl rfl rfl (vs':=[.bool jK,.slice jr jF jA]) rfl rfl (fun lI HS => ?_);refine Jn<|Js<|dS 3 rfl atW rfl atz<|JL.load (.agg #[.bool eY,.slice eH n1b eU,.slice iP iT iQ]) HS 4 rfl rfl rfl atD atz rfl rfl<|JL.call rfl rfl Tryz.call110 (KN HT HB HS (HS.at_ 2 rfl) af)<|?_;rintro v29 kW ⟨NK,I7,MO,Kt,Ii,EF,GG,Fe,rfl,HS⟩;refine Lm rfl<|Lx rfl rfl<|Lx rfl rfl<|JL.alloc (vs:=[.bool false,.slice none 0 0]) HS rfl atM rfl rfl (fun Td nS HS => ?_);refine JL.alloc (vs:=[.bool false,.slice none 0 0]) HS rfl atM rfl rfl (fun Tf nT HS => ?_);refine JL.store HS rfl rfl (i:=1) rfl atB rfl rfl rfl (vs':=[.bool NK,.slice I7 MO Kt]) rfl rfl (fun w32 HS => ?_);refine JL.store HS rfl rfl (i:=0) rfl atB rfl rfl rfl (vs':=[.bool Ii,.slice EF GG Fe]) rfl rfl (fun yH HS => ?_);refine Jn<|JC.Rw (HS.tg.u.u.u.u.u.u) (ι:=Bool×Option Addr×Nat×Nat×Bool×Option Addr×Nat×Nat×Bool×Option Addr×Nat×Nat) (fun ⟨pq,nZ,o6,oH,wF,uP,vK,uU,yB,wV,x9,xq⟩=>[(2,.pointer (some ⟨g22,0,none⟩)),(3,.pointer (some ⟨g23,0,none⟩))]) (fun ⟨pq,nZ,o6,oH,wF,uP,vK,uU,yB,wV,x9,xq⟩ w Ua Pa=>St W0 (⟨Tf,79,[.bool Ii,.slice EF GG Fe]⟩::⟨Td,79,[.bool NK,.slice I7 MO Kt]⟩::⟨zk,79,[.bool jK,.slice jr jF jA]⟩::⟨lV,79,[.bool jZ,.slice jQ jW jT]⟩::⟨g23,79,[.bool yB,.slice wV x9 xq]⟩::⟨g22,81,[.bool pq,.slice nZ o6 oH,.bool wF,.slice uP vK uU]⟩::Ua) (FI (.agg #[.bool yB,.slice wV x9 xq]) ((fC.den:Int)*(fZ.den:Int)) ((gV+2)+(gW+2))::FI (.agg #[.bool wF,.slice uP vK uU]) (fZ.num*(fC.den:Int)) ((gW+2)+(gV+2))::FI (.agg #[.bool pq,.slice nZ o6 oH]) (fC.num*(fZ.den:Int)) ((gV+2)+(gW+2))::Pa) w) ?_ ?_
 ·skip
  refine JC.draw HS [10,11] ah (fun Ot HS => ?_);refine Da (.agg #[.bool jZ,.slice jQ jW jT]) 0 3 rfl HS.fb rfl rfl atH atB<|Da (.agg #[.bool Ii,.slice EF GG Fe]) 1 0 rfl HS.fb rfl rfl atH atB<|Da (.agg #[.bool NK,.slice I7 MO Kt]) 3 1 rfl HS.fb rfl rfl atH atB<|Da (.agg #[.bool jK,.slice jr jF jA]) 4 2 rfl HS.fb rfl rfl atH atB<|JR.any [2,7,8] ah rfl<|?_
  repeat' first
   | refine JR.any [5,7,8] (by decide +kernel) rfl ?_
   | refine JR.any [7,8] (by decide +kernel) rfl ?_
   | refine J1 8 (by decide +kernel) ?_
   | refine J1 9 (by decide +kernel) ?_
   | refine J1 7 (by decide +kernel) ?_
   | refine JR.any [5,8] (by decide +kernel) rfl ?_
   | refine J1 5 (by decide +kernel) ?_
   | refine JR.any [5,7] (by decide +kernel) rfl ?_
   | refine JR.any [2,8] (by decide +kernel) rfl ?_
   | refine J1 2 (by decide +kernel) ?_
   | refine JR.any [2,7] (by decide +kernel) rfl ?_
   |
    refine bZ.is 2<|bZ.call rfl rfl rfl aui (oV HT HB HS (HS.at_ 2 rfl) (HS.at_ 1 rfl) af) rfl (fun akF ak6 Z5 => ?_) ?_;obtain ⟨pq,nZ,o6,oH,rfl,HS⟩:=Z5;refine ⟨HS.fb,?_⟩
   |
    refine bZ.is 5<|bZ.call rfl rfl rfl aui (oV HT HB HS (HS.at_ 1 rfl) (HS.at_ 4 rfl) af) rfl (fun aqY asw Z7 => ?_) ?_;obtain ⟨wF,uP,vK,uU,rfl,HS⟩:=Z7;refine ⟨HS.fb,?_⟩;refine Dv (.agg #[.bool pq,.slice nZ o6 oH,.bool wF,.slice uP vK uU]) 6 rfl HS.fb (fun a ha w=>bF.run_build (ha.bW rfl) atN at1 GR rfl)<|?_
   |
    refine bZ.is 7<|bZ.load (.agg #[.bool jK,.slice jr jF jA]) HS 2 rfl rfl rfl rfl atH atB rfl rfl rfl ?_ ?_;refine ⟨HS.fb,?_⟩
   |
    refine bZ.is 8<|bZ.load (.agg #[.bool Ii,.slice EF GG Fe]) HS 0 rfl rfl rfl rfl atH atB rfl rfl rfl ?_ ?_;refine ⟨HS.fb,?_⟩
   |
    refine bZ.is 9<|bZ.call rfl rfl rfl aui (oV HT HB HS (HS.at_ 5 rfl) (HS.at_ 3 rfl) af) rfl (fun aqZ asx Z8 => ?_) ?_;obtain ⟨yB,wV,x9,xq,rfl,HS⟩:=Z8;refine ⟨HS.fb,?_⟩;refine J1 10 ah<|?_
   |
    refine bZ.is 10<|bZ.store HS rfl rfl rfl 5 rfl atO rfl rfl rfl (vs':=[.bool pq,.slice nZ o6 oH,.bool wF,.slice uP vK uU]) rfl rfl rfl (fun asy HS => ?_) ?_;refine ⟨(gZ (s:=10) rfl rfl),?_⟩;refine J1 11 ah<|?_
   |
    refine bZ.is 11<|bZ.store HS rfl rfl rfl 4 rfl atB rfl rfl rfl (vs':=[.bool yB,.slice wV x9 xq]) rfl rfl rfl (fun asz HS => ?_) ?_;refine ⟨(gZ (s:=10) rfl rfl),?_⟩;exact JR.mt (pq,nZ,o6,oH,wF,uP,vK,uU,yB,wV,x9,xq) HS
   | exact bZ.nil
 ·skip
  rintro ⟨pq,nZ,o6,oH,wF,uP,vK,uU,yB,wV,x9,xq⟩ atw HS
  try dsimp only at HS ⊢
  refine Jb Tryz.results66 (.agg rfl aua atO (HS.box _ aB) rfl rfl) (.agg rfl atH atB (HS.box _ aA) rfl rfl)<|?_;exact ⟨_,_,_,_,_,_,_,_,_,_,_,_,rfl,HS.V9 7 9 2 1 0 rfl rfl rfl (fun _ h=>h.as rfl af) rfl (fun _ h=>h.as rfl af) rfl (fun _ h=>h.as rfl af)⟩
set_option maxRecDepth 100000 in
set_option maxHeartbeats 400000 in
theorem YK(HT:Tz W0)(HB:Tab W0){s1:Bool}{A1:Option Addr}{n1 c1:Nat}{B1:Option Addr}{m1 d1:Nat}{q1:Rat}{k1:Nat}{b1:Bool}{s2:Bool}{A2:Option Addr}{n2 c2:Nat}{B2:Option Addr}{m2 d2:Nat}{q2:Rat}{k2:Nat}{b2:Bool}(HS:St W0 U Ps w)(f1:FV (.agg #[.bool s1,.slice A1 n1 c1,.slice B1 m1 d1]) q1 k1 b1 w)(f2:FV (.agg #[.bool s2,.slice A2 n2 c2,.slice B2 m2 d2]) q2 k2 b2 w)(hk:k1+k2<=400)(ho:q1*q1+q2*q2=1):bC Tryz.prog 26 [.agg #[.bool s1,.slice A1 n1 c1,.slice B1 m1 d1],.agg #[.bool s2,.slice A2 n2 c2,.slice B2 m2 d2]] w (mD W0 U Ps (if q1 = -1 then 0 else q2*(1+q1)⁻¹) (decide (q1 = -1)) (2*k1+2*k2+100) (.nilIface)):=by
 have HS:=HS.add (FV.stable _ _ _ _) f1;have HS:=HS.add (FV.stable _ _ _ _) f2;clear f1 f2;refine cO Tryz.func26 rfl Tryz.ntmps26 rfl<|Js<|JL.box (vs:=[.bool s1,.slice A1 n1 c1,.slice B1 m1 d1]) HS rfl rfl rfl rfl (fun g21 dN HS => ?_);refine JL.box (vs:=[.bool s2,.slice A2 n2 c2,.slice B2 m2 d2]) HS rfl rfl rfl rfl (fun g22 dO HS => ?_);refine JL.alloc (vs:=[.bool false,.slice none 0 0,.slice none 0 0,.bool false]) HS rfl atG rfl rfl (fun g23 fH HS => ?_);refine La rfl<|Jn<|Js<|JL.load (.agg #[.bool s1,.slice A1 n1 c1,.slice B1 m1 d1]) HS 2 rfl rfl rfl atD atz rfl rfl<|JL.load (.agg #[.bool s2,.slice A2 n2 c2,.slice B2 m2 d2]) HS 1 rfl rfl rfl atD atz rfl rfl<|Lz (.agg #[.bool s1,.slice A1 n1 c1,.slice B1 m1 d1,.bool s2,.slice A2 n2 c2,.slice B2 m2 d2]) (fun a ha=>bF.run_build (ha.bW rfl) atW aun qA rfl)<|JL.call rfl rfl avJ (IC HT HB HS (HS.at_ 1 rfl) (HS.at_ 0 rfl) af)<|?_;rintro v24 gu ⟨jZ,jQ,jW,jT,jK,jr,jF,jA,wE,uO,vJ,uT,rfl,HS⟩;refine Lm rfl<|Lx rfl rfl<|Lx rfl rfl<|JL.alloc (vs:=[.bool false,.slice none 0 0,.bool false,.slice none 0 0]) HS rfl at1 rfl rfl (fun lV gy HS => ?_);refine JL.alloc (vs:=[.bool false,.slice none 0 0]) HS rfl atM rfl rfl (fun zk iJ HS => ?_);refine JL.store HS rfl rfl (i:=1) rfl atO rfl rfl rfl (vs':=[.bool jZ,.slice jQ jW jT,.bool jK,.slice jr jF jA]) rfl rfl (fun kN HS => ?_);refine JL.store HS rfl rfl (i:=0) rfl atB rfl rfl rfl (vs':=[.bool wE,.slice uO vJ uT]) rfl rfl (fun lI HS => ?_);refine Jn<|JC.seq<|JC.seq<|JC.draw HS [] ah (fun kW HS => ?_);refine Da (.agg #[.bool jZ,.slice jQ jW jT,.bool jK,.slice jr jF jA]) 0 1 rfl HS.b0 rfl rfl aua atO<|Da (.agg #[.bool wE,.slice uO vJ uT]) 2 0 rfl HS.b0 rfl rfl atH atB<|Da (.agg #[.bool wE,.slice uO vJ uT]) 3 0 rfl HS.b0 rfl rfl atH atB<|bV 1 rfl rfl rfl Tryz.call68 (Oi HT HB HS (HS.at_ 0 rfl) (HS.at_ 1 rfl) af)<|?_;rintro YS Y0 ⟨XO,OX,VR,QN,rfl,HS⟩;refine ⟨HS.b0,?_⟩;refine bV 4 rfl rfl rfl aui (oV HT HB HS (HS.at_ 3 rfl) (HS.at_ 3 rfl) af)<|?_;rintro akD ak4 ⟨aiT,Zm,afU,abm,rfl,HS⟩;refine ⟨HS.b0,?_⟩
 refine bV 5 rfl rfl rfl avp (Dc HT HB HS (HS.at_ 1 rfl) (HS.at_ 0 rfl) af)<|?_;rintro akE ak5 ⟨rfl,HS⟩;refine ⟨HS.b0,?_⟩;refine Dv (.bool false) 6 rfl HS.b0 (fun a ha w=>gG (ha.ev rfl) (ha.ev rfl) ((Ky _ _).trans (congrArg (! ·) (decide_eq_true (by have h9:=Tv q1 q2;first | exact h9.2 ho | exact mt h9.1 ho)))))<|JR.next ah (fun _ _ h=>h)<|JC.bG rfl<|Jk<|Js<|dS 0 rfl atN rfl atB<|JL.load (.agg #[.bool jZ,.slice jQ jW jT]) HS 1 rfl rfl rfl atH atB rfl rfl<|JL.load (.agg #[.bool wE,.slice uO vJ uT]) HS 0 rfl rfl rfl atH atB rfl rfl<|JL.call rfl rfl Tryz.call70 (Md HT HB HS (HS.at_ 2 rfl) (HS.at_ 4 rfl) af)<|?_;rintro v31 nT ⟨yA,wU,n31,c31,rfl,HS⟩;refine dS 0 rfl atN rfl atB<|JL.store HS rfl rfl (i:=1) rfl atB rfl rfl rfl (vs':=[.bool yA,.slice wU n31 c31,.bool jK,.slice jr jF jA]) rfl rfl (fun w32 HS => ?_);refine Jn<|Js<|JL.load (.agg #[.bool yA,.slice wU n31 c31,.bool jK,.slice jr jF jA]) HS 1 rfl rfl rfl aua atO rfl rfl<|JL.call rfl rfl avC (II HT HB HS (HS.at_ 0 rfl) (HS.at_ 4 rfl) af)<|?_;rintro v33 yH ⟨NL,I8,n33,Ff,Je,m33,d33,rfl,HS⟩;refine JL.store HS rfl rfl (i:=2) rfl atA rfl rfl rfl (vs':=[.bool NL,.slice I8 n33 Ff,.slice Je m33 d33,.bool (gU ((q1.num*(q2.den:Int))+((q1.den:Int)*(q2.den:Int))))]) rfl rfl (fun Et HS => ?_);refine La rfl<|Jn<|Jb Tryz.results26 (.agg rfl atC atA (HS.box _ ay) rfl rfl) (.tmp rfl)<|?_;exact ⟨_,_,_,_,_,_,_,(Iy (TC q1 q2)),HS.oh 5 9 0 rfl (fun _ h=>h.as (adB q1 q2) af)⟩
set_option maxRecDepth 100000 in
set_option maxHeartbeats 400000 in
theorem YJ(HT:Tz W0)(HB:Tab W0){s1:Bool}{A1:Option Addr}{n1 c1:Nat}{B1:Option Addr}{m1 d1:Nat}{q1:Rat}{k1:Nat}{b1:Bool}{s2:Bool}{A2:Option Addr}{n2 c2:Nat}{B2:Option Addr}{m2 d2:Nat}{q2:Rat}{k2:Nat}{b2:Bool}(HS:St W0 U Ps w)(f1:FV (.agg #[.bool s1,.slice A1 n1 c1,.slice B1 m1 d1]) q1 k1 b1 w)(f2:FV (.agg #[.bool s2,.slice A2 n2 c2,.slice B2 m2 d2]) q2 k2 b2 w)(hk:k1+k2<=400)(ho:¬ q1*q1+q2*q2=1):bC Tryz.prog 26 [.agg #[.bool s1,.slice A1 n1 c1,.slice B1 m1 d1],.agg #[.bool s2,.slice A2 n2 c2,.slice B2 m2 d2]] w (di W0 U Ps (.tuple #[.agg #[.bool false,.slice none 0 0,.slice none 0 0,.bool false],.iface 88 (.int .i64 2)])):=by
 have HS:=HS.add (FV.stable _ _ _ _) f1;have HS:=HS.add (FV.stable _ _ _ _) f2;clear f1 f2;refine cO Tryz.func26 rfl Tryz.ntmps26 rfl<|Js<|JL.box (vs:=[.bool s1,.slice A1 n1 c1,.slice B1 m1 d1]) HS rfl rfl rfl rfl (fun g21 dN HS => ?_);refine JL.box (vs:=[.bool s2,.slice A2 n2 c2,.slice B2 m2 d2]) HS rfl rfl rfl rfl (fun g22 dO HS => ?_);refine JL.alloc (vs:=[.bool false,.slice none 0 0,.slice none 0 0,.bool false]) HS rfl atG rfl rfl (fun g23 fH HS => ?_);refine La rfl<|Jn<|Js<|JL.load (.agg #[.bool s1,.slice A1 n1 c1,.slice B1 m1 d1]) HS 2 rfl rfl rfl atD atz rfl rfl<|JL.load (.agg #[.bool s2,.slice A2 n2 c2,.slice B2 m2 d2]) HS 1 rfl rfl rfl atD atz rfl rfl<|Lz (.agg #[.bool s1,.slice A1 n1 c1,.slice B1 m1 d1,.bool s2,.slice A2 n2 c2,.slice B2 m2 d2]) (fun a ha=>bF.run_build (ha.bW rfl) atW aun qA rfl)<|JL.call rfl rfl avJ (IC HT HB HS (HS.at_ 1 rfl) (HS.at_ 0 rfl) af)<|?_;rintro v24 gu ⟨jZ,jQ,jW,jT,jK,jr,jF,jA,wE,uO,vJ,uT,rfl,HS⟩;refine Lm rfl<|Lx rfl rfl<|Lx rfl rfl<|JL.alloc (vs:=[.bool false,.slice none 0 0,.bool false,.slice none 0 0]) HS rfl at1 rfl rfl (fun lV gy HS => ?_);refine JL.alloc (vs:=[.bool false,.slice none 0 0]) HS rfl atM rfl rfl (fun zk iJ HS => ?_);refine JL.store HS rfl rfl (i:=1) rfl atO rfl rfl rfl (vs':=[.bool jZ,.slice jQ jW jT,.bool jK,.slice jr jF jA]) rfl rfl (fun kN HS => ?_);refine JL.store HS rfl rfl (i:=0) rfl atB rfl rfl rfl (vs':=[.bool wE,.slice uO vJ uT]) rfl rfl (fun lI HS => ?_);refine Jn<|JC.seq<|JC.seq<|JC.draw HS [] ah (fun kW HS => ?_);refine Da (.agg #[.bool jZ,.slice jQ jW jT,.bool jK,.slice jr jF jA]) 0 1 rfl HS.b0 rfl rfl aua atO<|Da (.agg #[.bool wE,.slice uO vJ uT]) 2 0 rfl HS.b0 rfl rfl atH atB<|Da (.agg #[.bool wE,.slice uO vJ uT]) 3 0 rfl HS.b0 rfl rfl atH atB<|bV 1 rfl rfl rfl Tryz.call68 (Oi HT HB HS (HS.at_ 0 rfl) (HS.at_ 1 rfl) af)<|?_;rintro YS Y0 ⟨XO,OX,VR,QN,rfl,HS⟩;refine ⟨HS.b0,?_⟩;refine bV 4 rfl rfl rfl aui (oV HT HB HS (HS.at_ 3 rfl) (HS.at_ 3 rfl) af)<|?_;rintro akD ak4 ⟨aiT,Zm,afU,abm,rfl,HS⟩;refine ⟨HS.b0,?_⟩
 refine bV 5 rfl rfl rfl avp (Dc HT HB HS (HS.at_ 1 rfl) (HS.at_ 0 rfl) af)<|?_;rintro akE ak5 ⟨rfl,HS⟩;refine ⟨HS.b0,?_⟩;refine Dv (.bool true) 6 rfl HS.b0 (fun a ha w=>gG (ha.ev rfl) (ha.ev rfl) ((Ky _ _).trans (congrArg (! ·) (decide_eq_false (by have h9:=Tv q1 q2;first | exact h9.2 ho | exact mt h9.1 ho)))))<|JR.next ah (fun _ _ h=>h)<|JC.bK rfl<|Js<|Lz (.agg #[.bool false,.slice none 0 0,.slice none 0 0,.bool false]) (fun a ha=>bF.run_build (ha.bW rfl) atI atG jb rfl)<|Lz (.iface 88 (.int .i64 2)) (fun a ha=>lX (ha.ev rfl) ah)<|JL.store HS rfl rfl (i:=2) rfl atA rfl rfl rfl (vs':=[.bool false,.slice none 0 0,.slice none 0 0,.bool false]) rfl rfl (fun nT HS => ?_);refine La rfl<|Jn<|Jb Tryz.results26 (.agg rfl atC atA (HS.box _ ay) rfl rfl) (.tmp rfl)<|?_;exact ⟨rfl,HS.o0 5 7⟩
set_option maxRecDepth 100000 in
set_option maxHeartbeats 400000 in
theorem YO(HT:Tz W0)(HB:Tab W0){eG:Bool}{ed:Option Addr}{eF c1a:Nat}{iK:Option Addr}{iM iL:Nat}{fC:Rat}{gV:Nat}{qY:Bool}{eY:Bool}{eH:Option Addr}{n1b eU:Nat}{iP:Option Addr}{iT iQ:Nat}{fZ:Rat}{gW:Nat}{qZ:Bool}(HS:St W0 U Ps w)(f1a:FV (.agg #[.bool eG,.slice ed eF c1a,.slice iK iM iL]) fC gV qY w)(jl:FV (.agg #[.bool eY,.slice eH n1b eU,.slice iP iT iQ]) fZ gW qZ w)(hk:gV+gW<=400)(ho:¬ fC*fC+fZ*fZ=0):bC Tryz.prog 27 [.agg #[.bool eG,.slice ed eF c1a,.slice iK iM iL,.bool eY,.slice eH n1b eU,.slice iP iT iQ]] w (mD W0 U Ps (fZ*fC⁻¹) (decide (fC=0)) (2*gV+2*gW+100) (.nilIface)):=by
 have HS:=HS.add (FV.stable _ _ _ _) f1a;have HS:=HS.add (FV.stable _ _ _ _) jl;clear f1a jl;refine cO Tryz.func27 rfl Tryz.ntmps27 rfl<|Js<|JL.box (vs:=[.bool eG,.slice ed eF c1a,.slice iK iM iL,.bool eY,.slice eH n1b eU,.slice iP iT iQ]) HS rfl rfl rfl rfl (fun g21 dN HS => ?_);refine JL.alloc (vs:=[.bool false,.slice none 0 0,.slice none 0 0,.bool false]) HS rfl atG rfl rfl (fun g22 dO HS => ?_);refine La rfl<|Jn<|Js<|JL.load (.agg #[.bool eG,.slice ed eF c1a,.slice iK iM iL,.bool eY,.slice eH n1b eU,.slice iP iT iQ]) HS 1 rfl rfl rfl Tryz.isAgg50 Tryz.sizeOf50 rfl rfl<|JL.call rfl rfl avJ (IC HT HB HS (HS.at_ 1 rfl) (HS.at_ 0 rfl) af)<|?_;rintro v23 fH ⟨yx,wR,xZ,xm,yz,wS,x8,xn,NJ,I5,MN,Kr,rfl,HS⟩;refine Lm rfl<|Lx rfl rfl<|Lx rfl rfl<|JL.alloc (vs:=[.bool false,.slice none 0 0,.bool false,.slice none 0 0]) HS rfl at1 rfl rfl (fun g24 gu HS => ?_);refine JL.alloc (vs:=[.bool false,.slice none 0 0]) HS rfl atM rfl rfl (fun lV gy HS => ?_);refine JL.store HS rfl rfl (i:=1) rfl atO rfl rfl rfl (vs':=[.bool yx,.slice wR xZ xm,.bool yz,.slice wS x8 xn]) rfl rfl (fun iJ HS => ?_);refine JL.store HS rfl rfl (i:=0) rfl atB rfl rfl rfl (vs':=[.bool NJ,.slice I5 MN Kr]) rfl rfl (fun kN HS => ?_);refine Jn<|JC.seq<|Js<|dS 0 rfl atN rfl atB<|JL.load (.agg #[.bool yx,.slice wR xZ xm]) HS 1 rfl rfl rfl atH atB rfl rfl<|JL.call rfl rfl avK (Gi HT HB HS (HS.at_ 0 rfl) af)<|?_;rintro v28 lI ⟨rfl,HS⟩;refine Lz (.bool (decide ((fC.num*(fZ.den:Int))=0))) (fun a ha=>dh (ha.ev rfl) (ha.ev rfl) (Io _))<|?_
 cases xP:((decide ((fC.num*(fZ.den:Int))=0)))
 ·skip
  refine Lm rfl<|Lq<|Lq<|Lq<|Lq<|Lf rfl rfl<|Jn<|JC.bG rfl<|Jk<|Js<|JL.load (.agg #[.bool yx,.slice wR xZ xm,.bool yz,.slice wS x8 xn]) HS 1 rfl rfl rfl aua atO rfl rfl<|JL.call rfl rfl avC (II HT HB HS (HS.at_ 0 rfl) (HS.at_ 1 rfl) af)<|?_;rintro v30 nS ⟨mQ,l9,n30,mJ,pU,m30,d30,rfl,HS⟩;refine JL.store HS rfl rfl (i:=2) rfl atA rfl rfl rfl (vs':=[.bool mQ,.slice l9 n30 mJ,.slice pU m30 d30,.bool (gU (fC.num*(fZ.den:Int)))]) rfl rfl (fun nT HS => ?_);refine La rfl<|Jn<|Jb Tryz.results27 (.agg rfl atC atA (HS.box _ ay) rfl rfl) (.tmp rfl)<|?_;exact ⟨_,_,_,_,_,_,_,(Iy (TJ fC fZ)),HS.oh 4 6 0 rfl (fun _ h=>h.as (TI fC fZ) af)⟩
 ·skip
  refine Lm rfl<|bz (.pointer (some ⟨g24,2,none⟩)) (fun a ha=>je (ha.ev rfl) atN rfl atB rfl rfl)<|bz (.agg #[.bool yz,.slice wS x8 xn]) (fun a ha=>dJ (ha.ev rfl) atH atB (HS.box _ au) rfl rfl)<|JL.dD rfl rfl rfl rfl rfl rfl avK (Gi HT HB HS (HS.at_ 1 rfl) af)<|?_;rintro v32 w32 ⟨rfl,HS⟩;refine bz (.bool false) (fun a ha=>dh (ha.ev rfl) (ha.ev rfl) ((Io _).trans (decide_eq_false (fun e=>ho (NR.2 ⟨(nd0 fC fZ).1 (of_decide_eq_true xP),(nd0 fZ fC).1 e⟩)))))<|Lt rfl rfl<|Jn<|JC.bG rfl<|Jk<|Js<|JL.load (.agg #[.bool yx,.slice wR xZ xm,.bool yz,.slice wS x8 xn]) HS 1 rfl rfl rfl aua atO rfl rfl<|JL.call rfl rfl avC (II HT HB HS (HS.at_ 0 rfl) (HS.at_ 1 rfl) af)<|?_;rintro v33 yH ⟨NL,I8,n33,Ff,Je,m33,d33,rfl,HS⟩;refine JL.store HS rfl rfl (i:=2) rfl atA rfl rfl rfl (vs':=[.bool NL,.slice I8 n33 Ff,.slice Je m33 d33,.bool (gU (fC.num*(fZ.den:Int)))]) rfl rfl (fun Et HS => ?_);refine La rfl<|Jn<|Jb Tryz.results27 (.agg rfl atC atA (HS.box _ ay) rfl rfl) (.tmp rfl)<|?_;exact ⟨_,_,_,_,_,_,_,(Iy (TJ fC fZ)),HS.oh 4 6 0 rfl (fun _ h=>h.as (TI fC fZ) af)⟩
set_option maxRecDepth 100000 in
set_option maxHeartbeats 400000 in
theorem YN(HT:Tz W0)(HB:Tab W0){eG:Bool}{ed:Option Addr}{eF c1a:Nat}{iK:Option Addr}{iM iL:Nat}{fC:Rat}{gV:Nat}{qY:Bool}{eY:Bool}{eH:Option Addr}{n1b eU:Nat}{iP:Option Addr}{iT iQ:Nat}{fZ:Rat}{gW:Nat}{qZ:Bool}(HS:St W0 U Ps w)(f1a:FV (.agg #[.bool eG,.slice ed eF c1a,.slice iK iM iL]) fC gV qY w)(jl:FV (.agg #[.bool eY,.slice eH n1b eU,.slice iP iT iQ]) fZ gW qZ w)(hk:gV+gW<=400)(ho:fC*fC+fZ*fZ=0):bC Tryz.prog 27 [.agg #[.bool eG,.slice ed eF c1a,.slice iK iM iL,.bool eY,.slice eH n1b eU,.slice iP iT iQ]] w (di W0 U Ps (.tuple #[.agg #[.bool false,.slice none 0 0,.slice none 0 0,.bool false],.iface 88 (.int .i64 8)])):=by
 have HS:=HS.add (FV.stable _ _ _ _) f1a;have HS:=HS.add (FV.stable _ _ _ _) jl;clear f1a jl;refine cO Tryz.func27 rfl Tryz.ntmps27 rfl<|Js<|JL.box (vs:=[.bool eG,.slice ed eF c1a,.slice iK iM iL,.bool eY,.slice eH n1b eU,.slice iP iT iQ]) HS rfl rfl rfl rfl (fun g21 dN HS => ?_);refine JL.alloc (vs:=[.bool false,.slice none 0 0,.slice none 0 0,.bool false]) HS rfl atG rfl rfl (fun g22 dO HS => ?_);refine La rfl<|Jn<|Js<|JL.load (.agg #[.bool eG,.slice ed eF c1a,.slice iK iM iL,.bool eY,.slice eH n1b eU,.slice iP iT iQ]) HS 1 rfl rfl rfl Tryz.isAgg50 Tryz.sizeOf50 rfl rfl<|JL.call rfl rfl avJ (IC HT HB HS (HS.at_ 1 rfl) (HS.at_ 0 rfl) af)<|?_;rintro v23 fH ⟨yx,wR,xZ,xm,yz,wS,x8,xn,NJ,I5,MN,Kr,rfl,HS⟩;refine Lm rfl<|Lx rfl rfl<|Lx rfl rfl<|JL.alloc (vs:=[.bool false,.slice none 0 0,.bool false,.slice none 0 0]) HS rfl at1 rfl rfl (fun g24 gu HS => ?_);refine JL.alloc (vs:=[.bool false,.slice none 0 0]) HS rfl atM rfl rfl (fun lV gy HS => ?_);refine JL.store HS rfl rfl (i:=1) rfl atO rfl rfl rfl (vs':=[.bool yx,.slice wR xZ xm,.bool yz,.slice wS x8 xn]) rfl rfl (fun iJ HS => ?_);refine JL.store HS rfl rfl (i:=0) rfl atB rfl rfl rfl (vs':=[.bool NJ,.slice I5 MN Kr]) rfl rfl (fun kN HS => ?_);refine Jn<|JC.seq<|Js<|dS 0 rfl atN rfl atB<|JL.load (.agg #[.bool yx,.slice wR xZ xm]) HS 1 rfl rfl rfl atH atB rfl rfl<|JL.call rfl rfl avK (Gi HT HB HS (HS.at_ 0 rfl) af)<|?_;rintro v28 lI ⟨rfl,HS⟩;refine Lz (.bool true) (fun a ha=>dh (ha.ev rfl) (ha.ev rfl) ((Io _).trans (decide_eq_true ((nd0 fC fZ).2 (NR.1 ho).1))))<|Lm rfl<|bz (.pointer (some ⟨g24,2,none⟩)) (fun a ha=>je (ha.ev rfl) atN rfl atB rfl rfl)<|bz (.agg #[.bool yz,.slice wS x8 xn]) (fun a ha=>dJ (ha.ev rfl) atH atB (HS.box _ au) rfl rfl)<|JL.dD rfl rfl rfl rfl rfl rfl avK (Gi HT HB HS (HS.at_ 1 rfl) af)<|?_;rintro v29 kW ⟨rfl,HS⟩;refine bz (.bool true) (fun a ha=>dh (ha.ev rfl) (ha.ev rfl) ((Io _).trans (decide_eq_true ((nd0 fZ fC).2 (NR.1 ho).2))))<|Lt rfl rfl<|Jn<|JC.bK rfl<|Js<|Lz (.agg #[.bool false,.slice none 0 0,.slice none 0 0,.bool false]) (fun a ha=>bF.run_build (ha.bW rfl) atI atG jb rfl)<|Lz (.iface 88 (.int .i64 8)) (fun a ha=>lX (ha.ev rfl) ah)<|JL.store HS rfl rfl (i:=2) rfl atA rfl rfl rfl (vs':=[.bool false,.slice none 0 0,.slice none 0 0,.bool false]) rfl rfl (fun nS HS => ?_)
 refine La rfl<|Jn<|Jb Tryz.results27 (.agg rfl atC atA (HS.box _ ay) rfl rfl) (.tmp rfl)<|?_;exact ⟨rfl,HS.o0 4 5⟩
end
section
variable {W0 w:World} {U:List Box} {Ps:List (World->Prop)}
set_option maxRecDepth 100000 in
set_option maxHeartbeats 400000 in
theorem akg(_HT:Tz W0)(_HB:Tab W0){g:Nat}{s1:Bool}{A1:Option Addr}{n1 c1:Nat}{B1:Option Addr}{m1 d1:Nat}{s2:Bool}{A2:Option Addr}{n2 c2:Nat}{B2:Option Addr}{m2 d2:Nat}(HS:St W0 (⟨g,24,[.bool s1,.slice A1 n1 c1,.slice B1 m1 d1,.bool s2,.slice A2 n2 c2,.slice B2 m2 d2]⟩::U) Ps w)   : bC Tryz.prog 12 [.slice (some ⟨g,0,none⟩) 2 2] w (di W0 (⟨g,24,[.bool s1,.slice A1 n1 c1,.slice B1 m1 d1,.bool s2,.slice A2 n2 c2,.slice B2 m2 d2]⟩::U) Ps (.bool (decide (n1<=6/\m1<=6/\n2<=6/\m2<=6)))):=by
 refine cO Tryz.func12 rfl Tryz.ntmps12 rfl<|Js<|La rfl<|Jn<|JC.seq<|Js<|Lm rfl<|Ll rfl auo<|Lm rfl<|Jn<|JC.block<|JC.yF 40<|Js<|Lz (.bool true) (fun a ha=>dU (ha.ev rfl) (ha.ev rfl) ai)<|Jn<|JC.seq<|JC.bK rfl<|Jk<|JC.seq<|JC.block<|Js<|Lz (.pointer (some ⟨g,0,none⟩)) (fun a ha=>kT (ha.ev rfl) (ha.ev rfl) auo atz (j:=0) rfl ai rfl)<|JL.load (.agg #[.bool s1,.slice A1 n1 c1,.slice B1 m1 d1]) HS 0 rfl rfl rfl atD atz rfl rfl<|JL.alloc (vs:=[.bool false,.slice none 0 0,.slice none 0 0]) HS rfl atF rfl rfl (fun g21 dN HS => ?_);refine JL.store HS rfl rfl (i:=0) rfl atz rfl rfl rfl (vs':=[.bool s1,.slice A1 n1 c1,.slice B1 m1 d1]) rfl rfl (fun dO HS => ?_);refine Jn<|Js<|dS 1 rfl atL rfl atY<|JL.iR (.slice A1 n1 c1) HS 0 rfl rfl rfl atZ rfl<|Ll rfl auh<|Lz (.bool (decide ((n1:Int) > 6))) (fun a ha=>dH (ha.ev rfl) (ha.ev rfl) rfl)<|?_
 cases xO:(decide ((n1:Int) > 6))
 ·skip
  have Lp:=of_decide_eq_false xO;refine Lm rfl<|bz (.pointer (some ⟨g21,2,none⟩)) (fun a ha=>je (ha.ev rfl) atL rfl atY rfl rfl)<|bz (.slice B1 m1 d1) (fun a ha=>lY (ha.ev rfl) atZ (HS.box _ ak) rfl)<|bz (aj m1) (fun a ha=>yw (ha.ev rfl) auh)<|bz (.bool (decide ((m1:Int) > 6))) (fun a ha=>dH (ha.ev rfl) (ha.ev rfl) rfl)<|Lf rfl rfl<|Jn<|?_
  cases rQ:(decide ((m1:Int) > 6))
  ·skip
   have hd24:=of_decide_eq_false rQ;refine JC.bG rfl<|JC.kF (fun _ _ h=>h)<|JC.region<|Lz (.int .i64 1) (fun a ha=>iw (ha.ev rfl) (ha.ev rfl) ai)<|Lm rfl<|JL.again 39 (fun _ _ h=>h)<|Js<|Lz (.bool true) (fun a ha=>dU (ha.ev rfl) (ha.ev rfl) ai)<|Jn<|JC.seq<|JC.bK rfl<|Jk<|JC.seq<|JC.block<|Js<|Lz (.pointer (some ⟨g,3,none⟩)) (fun a ha=>kT (ha.ev rfl) (ha.ev rfl) auo atz (j:=1) rfl ai rfl)<|JL.load (.agg #[.bool s2,.slice A2 n2 c2,.slice B2 m2 d2]) HS 1 rfl rfl rfl atD atz rfl rfl<|JL.alloc (vs:=[.bool false,.slice none 0 0,.slice none 0 0]) HS rfl atF rfl rfl (fun lV gy HS => ?_);refine JL.store HS rfl rfl (i:=0) rfl atz rfl rfl rfl (vs':=[.bool s2,.slice A2 n2 c2,.slice B2 m2 d2]) rfl rfl (fun iJ HS => ?_);refine Jn<|Js<|dS 1 rfl atL rfl atY<|JL.iR (.slice A2 n2 c2) HS 0 rfl rfl rfl atZ rfl<|Ll rfl auh<|Lz (.bool (decide ((n2:Int) > 6))) (fun a ha=>dH (ha.ev rfl) (ha.ev rfl) rfl)<|?_
   cases rU:(decide ((n2:Int) > 6))
   ·skip
    have hd27:=of_decide_eq_false rU;refine Lm rfl<|bz (.pointer (some ⟨lV,2,none⟩)) (fun a ha=>je (ha.ev rfl) atL rfl atY rfl rfl)<|bz (.slice B2 m2 d2) (fun a ha=>lY (ha.ev rfl) atZ (HS.box _ ak) rfl)<|bz (aj m2) (fun a ha=>yw (ha.ev rfl) auh)<|bz (.bool (decide ((m2:Int) > 6))) (fun a ha=>dH (ha.ev rfl) (ha.ev rfl) rfl)<|Lf rfl rfl<|Jn<|?_
    cases rV:(decide ((m2:Int) > 6))
    ·skip
     have hd28:=of_decide_eq_false rV;refine JC.bG rfl<|JC.kF (fun _ _ h=>h)<|JC.region<|Lz (.int .i64 2) (fun a ha=>iw (ha.ev rfl) (ha.ev rfl) ai)<|Lm rfl<|JL.again 38 (fun _ _ h=>h)<|Js<|Lz (.bool false) (fun a ha=>dU (ha.ev rfl) (ha.ev rfl) ai)<|Jn<|JC.seq<|JC.bG rfl<|JC.exit (fun _ _ h=>h) (fun _ _ h=>h)<|Js<|La rfl<|Jn<|Ja Tryz.results12 (.tmp rfl)<|?_;exact ⟨(congrArg Value.bool (decide_eq_true af).symm),HS.o0 2 0⟩
    ·skip
     have hd28:=of_decide_eq_true rV;refine JC.bK rfl<|Js<|La rfl<|Jn<|Ja Tryz.results12 (.tmp rfl)<|?_;exact ⟨(congrArg Value.bool (decide_eq_false af).symm),HS.o0 2 0⟩
   ·skip
    have hd27:=of_decide_eq_true rU;refine Lm rfl<|Lq<|Lq<|Lq<|Lq<|Lt rfl rfl<|Jn<|JC.bK rfl<|Js<|La rfl<|Jn<|Ja Tryz.results12 (.tmp rfl)<|?_;exact ⟨(congrArg Value.bool (decide_eq_false af).symm),HS.o0 2 0⟩
  ·skip
   have hd24:=of_decide_eq_true rQ;refine JC.bK rfl<|Js<|La rfl<|Jn<|Ja Tryz.results12 (.tmp rfl)<|?_;exact ⟨(congrArg Value.bool (decide_eq_false af).symm),HS.o0 1 0⟩
 ·skip
  have Lp:=of_decide_eq_true xO;refine Lm rfl<|Lq<|Lq<|Lq<|Lq<|Lt rfl rfl<|Jn<|JC.bK rfl<|Js<|La rfl<|Jn<|Ja Tryz.results12 (.tmp rfl)<|?_;exact ⟨(congrArg Value.bool (decide_eq_false af).symm),HS.o0 1 0⟩
end
end Go.Proofs.BGQ
namespace bF
open Go Go.RowKit
theorem bytes_at(l:List UInt8)(j:Nat):(⟨l.toArray⟩:ByteArray)[j]? = l[j]? := by
 have hs:(⟨l.toArray⟩:ByteArray).size=l.length:=by simp [ByteArray.size]
 by_cases h:j<l.length
 ·rw [getElem?_pos (⟨l.toArray⟩:ByteArray) j (by rw [hs];exact h),getElem?_pos l j h];rfl
 ·rw [getElem?_neg (⟨l.toArray⟩:ByteArray) j (by rw [hs];exact h),getElem?_neg l j h]
theorem QA(l:List UInt8)(i j:Nat):(⟨l.toArray⟩:ByteArray).extract i j=⟨((l.take j).drop i).toArray⟩:=by
 apply ByteArray.ext;rw [ByteArray.data_extract];simp [List.extract_toArray,List.drop_take]
section
variable {P:Program} {ρ:Operand->Value} {w:World} {dst:Option Tmp} {ty:TypeId} {pos:String} {bD:Array Edge} {gd:Option (Nat×Bool)}
theorem dQ{x:Operand}{t:TypeId}{l:List UInt8}{n:Int}(hx:ρ x = .string ⟨l.toArray⟩)(hu : ∀ w,(underlying t).run P w = .ok .string w)(hn:(l.length:Int)=n) :
  (execOp ρ ⟨dst,.call ⟨.builtin .len,#[x],#[t]⟩,ty,pos,bD,gd⟩).run P w = .ok (.value (.int .i64 n)) w:=by
 subst hn;rw [aiF hx hu];simp [ByteArray.size]
theorem fE{t:TypeId}{x y:Operand}{l:List UInt8}{k:IntKind}{i:Int}{j:Nat}{b:UInt8}{c:Int}(hx:ρ x = .string ⟨l.toArray⟩)(hy:ρ y = .int k i)(hu : ∀ w,(underlying t).run P w = .ok .string w)(hi:i=(j:Int))(hb:l[j]? = some b)(hc:(b.toNat:Int)=c) :
  (execOp ρ ⟨dst,.index t x y,ty,pos,bD,gd⟩).run P w = .ok (.value (.int .u8 c)) w:=by
 subst hi hc;simp [execOp,hx,hy,Instr.index,asIntOf,hu,bytes_at,hb]
theorem NH{t:TypeId}{x y:Operand}{l m:List UInt8}{k:IntKind}{i:Int}{j:Nat}(hx:ρ x = .string ⟨l.toArray⟩)(hy:ρ y = .int k i)(hu : ∀ w,(underlying t).run P w = .ok .string w)(hi:i=(j:Int))(hj:j<=l.length)(hm:l.take j=m) :
  (execOp ρ ⟨dst,.slice t x none (some y) none,ty,pos,bD,gd⟩).run P w = .ok (.value (.string ⟨m.toArray⟩)) w:=by
 subst hi hm;have hs:(⟨l.toArray⟩:ByteArray).size=l.length:=by simp [ByteArray.size]
 simp [execOp,hx,hy,Instr.sliceAt,Instr.slice,Instr.sliceBounds,Instr.sliceBound,asIntOf,hu,hs,QA,hj]
theorem zV{t:TypeId}{x y:Operand}{l m:List UInt8}{k:IntKind}{i:Int}{j:Nat}(hx:ρ x = .string ⟨l.toArray⟩)(hy:ρ y = .int k i)(hu : ∀ w,(underlying t).run P w = .ok .string w)(hi:i=(j:Int))(hj:j<=l.length)(hm:l.drop j=m) :
  (execOp ρ ⟨dst,.slice t x (some y) none none,ty,pos,bD,gd⟩).run P w = .ok (.value (.string ⟨m.toArray⟩)) w:=by
 subst hi hm;have hs:(⟨l.toArray⟩:ByteArray).size=l.length:=by simp [ByteArray.size]
 simp [execOp,hx,hy,Instr.sliceAt,Instr.slice,Instr.sliceBounds,Instr.sliceBound,asIntOf,hu,hs,QA,hj]
theorem Ib{t t':TypeId}{x y:Operand}{a b:List UInt8}{c:Bool}(hx:ρ x = .string ⟨a.toArray⟩)(hy:ρ y = .string ⟨b.toArray⟩)(h:(a != b)=c) :
  (execOp ρ ⟨dst,.binOp .neq t x y t',ty,pos,bD,gd⟩).run P w = .ok (.value (.bool c)) w:=by
 subst h;simp [execOp,hx,hy,eqGuard,binOp,Op.stringOp,ByteArray.toList_eq,bne]
end
section
variable {P:Program} {ops:Array Oper} {Q:Exit->Act->World->Prop} {N:Nat} {T:List (Nat×Value)} {w:World}
theorem JC.Ip{id id':Nat}{c:Code}{T':List (Nat×Value)}(hT : ∀ t v,bY T' t=some v->bY T t=some v)(h:JC P c Q N T' w):JC P .skip (Exit.inBlock id (Exit.inBlock id' (Exit.then (c.wp P Q) Q))) N T w:=JC.skip fun a ha=>h a (ha.sub hT)
end
end bF
namespace Go.Proofs.BGQ
open Go Go.RowKit Lw bF
section
variable {W0 w:World} {U:List Box} {Ps:List (World->Prop)}
end
end Go.Proofs.BGQ
namespace Lw
open Go
def DT(n:Nat):List UInt8:=if n=0 then [] else Lib.decDigits n
theorem ZC{n:Nat}(h:n≠0):DT n=Lib.decDigits n:=if_neg h
theorem ZE{M:Nat}(h:M≠0):DT M=DT (M/10)++[UInt8.ofNat (48+M%10)]:=by
 unfold DT;rw [if_neg h]
 by_cases h1:M<10
 ·rw [if_pos af,Lib.decDigits,dif_pos h1,axa h1];rfl
 ·rw [if_neg af,Lib.decDigits,dif_neg h1]
def Tk(N k r:Nat)(S:List UInt8)(Z:Nat):Prop:=DT (N*10^(9-k)+r)++S=DT Z/\r<10^(9-k)
theorem ajF{N:Nat}{S:List UInt8}{Z:Nat}(h:DT N++S=DT Z):Tk (N/1000000000) 0 (N%1000000000) S Z:=by
 refine ⟨?_,?_⟩
 ·rw [show N/1000000000*10^(9-0)+N%1000000000=N by simp only [Nat.sub_zero,Nat.reducePow];omega];exact h
 ·simp only [Nat.sub_zero,Nat.reducePow];omega
theorem ajG{N k r:Nat}{S:List UInt8}{Z:Nat}(h:Tk N k r S Z)(hk:k<9)(h0:r≠0\/N≠0):Tk N (k+1) (r/10) (UInt8.ofNat (48+r%10)::S) Z:=by
 have hp:10^(9-k)=10^(9-(k+1))*10:=by rw [<- awi];congr 1;omega
 have h1:0<10^(9-(k+1)):=awk af;obtain ⟨h2,h3⟩:=h;unfold Tk;rw [hp] at h3 h2;generalize 10^(9-(k+1))=P at *;have hN:N*(P*10)=N*P*10:=(awd _ _ _).symm;rw [hN] at h2
 have hne:N*P*10+r≠0:=by
  rcases h0 with h0 | h0
  ·omega
  ·have:0<N*P:=Nat.mul_pos af h1
   omega
 rw [ZE hne,show (N*P*10+r)/10=N*P+r/10 from af,show (N*P*10+r)%10=r%10 from af,List.append_assoc,aw7] at h2;refine ⟨h2,?_⟩;omega
theorem YC{N k r:Nat}{S:List UInt8}{Z:Nat}(h:Tk N k r S Z)(hk:k<=9)(h0:k=9\/(r=0/\N=0)):DT N++S=DT Z:=by
 obtain ⟨h2,h3⟩:=h;rcases h0 with rfl | ⟨rfl,rfl⟩
 ·have:r=0:=by simpa using h3
  subst this
  simpa using h2
 ·simpa using h2
theorem YA{d:Nat}(h:d<10):(ByteArray.mk #[48,49,50,51,52,53,54,55,56,57]).extract d (d+1)=⟨[UInt8.ofNat (48+d)].toArray⟩:=by
 have:d=0\/d=1\/d=2\/d=3\/d=4\/d=5\/d=6\/d=7\/d=8\/d=9:=af;rcases this with h | h | h | h | h | h | h | h | h | h <;> subst h <;> rfl
theorem acD(n z:Nat)(h:z<pw n):(DT z).length<=10*n+1:=by
 unfold DT
 split
 ·simp
 ·have h1:pw n<=10^(10*n):=by
   rw [awY];exact axK ai n
  refine RG (10*n) z (av1 h (avX h1 (awv af af)))
theorem Ko(b:UInt8)(S:List UInt8):(ByteArray.mk [b].toArray++ByteArray.mk S.toArray)=⟨(b::S).toArray⟩:=by
 apply ByteArray.ext;rw [ByteArray.data_append];simp
end Lw
namespace Go.Proofs.BGQ
open Go Go.RowKit Lw
set_option maxRecDepth 100000 in
set_option maxHeartbeats 6400000 in
theorem ahO(s:Bool)(A:Option Addr)(ns:List Nat)(n c B:Nat)(w:World)(h:Rd w B A ns)(hB:B<=w.heap.size)(hn:ns.length=n)(hl:n<=10000)(hc:n<=c) :
  Calls Tryz.prog 109 #[.agg #[.bool s,.slice A n c]] w fun e w'=>e = .returned (.string ⟨(Lib.itoa (zv s ns)).toArray⟩)/\Below w.heap.size w w':=by
 have hlz:=kX (s:=s) h.bU;rw [hn] at hlz;have hk:=fun W hR hB'=>MJ s A ns n c B W hR hB' hn af hc;have hk':=fun W hR hB'=>NC s A ns n c B W hR hB' hn af;generalize zv s ns=z at *;have Hk:=Lib.hid hk;have JQ:=Lib.hid hk';have HL:Hid ((DT z.natAbs).length<=10*n+1):=Lib.hid (acD n _ (rZ hlz));clear hk hk' hn
 go_enter Tryz.func109,Tryz.ntmps109
 go_wp2_with fail
 refine (Hk.out _ (h.alloc hB _) (by simp;omega)).mono ?_;rintro e w1 ⟨A1,c1,rfl,hc1,hr1,hb1⟩;obtain ⟨t1,hs1,hb2⟩:=box1 hb1;obtain ⟨c10,c11,f10,f11⟩:=t1.facts;obtain ⟨n1,hn1⟩ : ∃ n1,n1=(mg z).length:=⟨_,rfl⟩;rw [<- hn1] at hlz hc1 ⊢;have JS:=Lib.hid hn1;clear hn1;have hs1':=hs1
 by_cases h0:n1=0
 ·have HZ:Hid (Lib.itoa z=[48]):=Lib.hid (by
   have e:=nH.1 (by rw [<- JS.out];exact h0);rw [e,kZ rfl];rw [show (0:Int).natAbs=0 from rfl,Lib.decDigits,dif_pos af];rfl)
  subst h0
  go_wp2_with fail
  go_ret
  rw [HZ.out];exact ⟨rfl,hb2⟩
 ·have hbq:((n1:Int)==0)=false:=by rw [beq_eq_false_iff_ne];omega
  go_wp2_with fail
  go_loopg [3,4] z.natAbs (fun M mv sv wr => ∃ (A':Option Addr) (n' c':Nat) (S:List UInt8) (T:ByteArray),mv = .slice A' n' c'/\n'<=c'/\n'<=n/\Hid ((bn M).length=n')/\Rd wr wr.heap.size A' (bn M)/\sv = .string T/\Hid (T=⟨S.toArray⟩)/\T.size<=100001/\Hid (DT M++S=DT z.natAbs)/\Below w1.heap.size w1 wr)
  case atStart=>exact ⟨A1,n1,c1,[],ByteArray.empty,rfl,hc1,hlz,Lib.hid JS.out.symm,hr1.more af,rfl,Lib.hid rfl,by simp,Lib.hid (List.append_nil _),Below.refl _ _⟩
  case round =>
   obtain ⟨A',n',c',S,T,rfl,hc',hnn,hlen,hr,rfl,KZ,hTl,hv,ve⟩:=hrel;have hbw:=bP hb2 ve af;have LX:=hbw.size
   by_cases hn0:n'=0
   ·have hz0:Hid (z.natAbs≠0):=Lib.hid (fun e=>h0 (by rw [JS.out];unfold mg;rw [e];rfl))
    have HT:Hid (T=⟨(Lib.decDigits z.natAbs).toArray⟩):=Lib.hid (by
     have e0:gk=0:=jM.1 (awc (by rw [hlen.out];exact hn0));have e1:=hv.out;rw [e0,ZC hz0.out] at e1;rw [KZ.out,<- e1];rfl)
    subst hn0;clear hlen hr KZ hv;obtain ⟨c10,c11,f10,f11⟩:=(t1.next ve).facts
    go_wp2_with fail
    refine (JQ.out _ (h.below (hbw.mono hB)) af).mono ?_;rintro e w2 ⟨rfl,hb3⟩;have hb4:=bP hbw hb3 (avW _)
    cases hsg:sg z
    ·have HI:=Lib.hid (kZ hsg)
     go_wp2_with fail
     go_ret
     exact ⟨by rw [HT.out,HI.out,awj];rfl,hb4⟩
    ·have HI:=Lib.hid (itoa_neg hsg)
     go_wp2_with fail
     go_ret
     exact ⟨by rw [HT.out,HI.out];exact congrArg (fun b=>Ending.returned (Value.string b)) (Ko 45 (Lib.decDigits z.natAbs)),hb4⟩
   ·have hQn:(bn (gk/1000000000)).length<=n:=by
     have h1:=rZ (Nat.le_of_eq hlen.out);have h2:=iy (n:=gk/1000000000) (k:=n') (awh (awl _ _) h1);omega
    have hM0:gk≠0:=fun e=>hn0 (by rw [<- hlen.out,e];rfl);have KX:Hid (gk/1000000000<gk):=Lib.hid af;clear hM0
    go_wp2_with (at_make;refine nV _ rfl _ _ _ rfl 113 atV kJ _ _ _ _ n' rfl rfl af af af ?_;intro w3 hblk hbel hsz)
    go_loopw [5,7] (fun rv iv wi => ∃ (i':Int) (r:Nat) (ds:List Nat),-1<=i'/\i'<n'/\r<=999999999/\iv = .int .i64 i'/\rv = .int .u64 r/\bH wi wr.heap.size 113 ds/\Hid (ds.length=n')/\bM ds/\Hid (val (ds.drop (i'+1).toNat)=val ((bn gk).drop (i'+1).toNat)/1000000000/\r=val ((bn gk).drop (i'+1).toNat)%1000000000)/\Below wr.heap.size wr wi) (fun _ i _=>(intOf i+1).toNat)
    case atStart=>exact ⟨(n':Int)-1,0,_,af,af,af,rfl,rfl,hblk,Lib.hid (by simp),nU _,Lib.hid (by rw [show ((n':Int)-1+1).toNat=n' from af,axi (by simp),axi (by rw [hlen.out];exact avW _)];simp [val]),hbel⟩
    case round =>
     obtain ⟨i',r,ds,hi,hin,hrx,rfl,rfl,hb5,hdl,hdw,hvv,hbi⟩:=hrel;clear hblk hbel hsz;have UF:=hbi.size;have Ut:=hr.below hbi
     by_cases hi0:i'<0
     ·have HV:Hid (val ds=gk/1000000000/\r=gk%1000000000):=Lib.hid (by have:=hvv.out;rwa [show (i'+1).toNat=0 from af,awS,awS,bQ] at this)
      have HK:Hid (Tk (gk/1000000000) 0 r S z.natAbs):=Lib.hid (by rw [HV.out.2];exact ajF hv.out);clear hvv Ut hv
      go_wp2_with fail
      refine (zN _ ds n' n' _ _ (hb5.rd hdw) (avW _) hdl.out af).mono ?_;rintro e w4 ⟨g4,c4,rfl,hc4,hg4,rG,hb6⟩;rw [HV.out.1] at hc4 rG ⊢;have xG:=bP (bP ve hbi af) hb6 af;have hr4:=rG.rd (dY _);obtain ⟨Q,hQ⟩ : ∃ Q,Q=gk/1000000000:=⟨_,rfl⟩;rw [<- hQ] at hc4 hr4 HK hQn KX ⊢;obtain ⟨n4,hn4⟩ : ∃ n4,n4=(bn Q).length:=⟨_,rfl⟩;rw [<- hn4] at hc4 hQn ⊢;have EU:=Lib.hid hn4;have HQ:=Lib.hid hQ;clear hQ hn4 rG hb5 hr hb6
      go_wp2_with fail
      go_loopw [4,5,8] (fun sv rv kv wi2 => ∃ (k2 r2:Nat) (S2:List UInt8) (T2:ByteArray),k2<=9/\r2<=999999999/\kv = .int .i64 k2/\rv = .int .u64 r2/\sv = .string T2/\Hid (T2=⟨S2.toArray⟩)/\Hid (Tk Q k2 r2 S2 z.natAbs)/\wi2=w4) (fun _ _ k _=>9-(intOf k).toNat)
      case atStart=>exact ⟨0,r,S,T,af,hrx,rfl,rfl,rfl,KZ,HK,rfl⟩
      case round =>
       obtain ⟨k2,r2,S2,T2,hk2,hr2,rfl,rfl,rfl,hT2,hK2,rfl⟩:=hrel
       have TR:T2.size<=100001:=by
        have h1:=congrArg List.length hK2.out.1;rw [awO] at h1;have h2:=HL.out;rw [hT2.out];simp only [ByteArray.size,List.size_toArray];omega
       obtain ⟨d,hd⟩ : ∃ d,d=r2%10:=⟨_,rfl⟩;have hd10:d<10:=af;have hdi:(r2:Int)%10=(d:Int):=af;have HD:=Lib.hid hd;clear hd
       by_cases hk9:k2<9
       ·by_cases hq0:r2=0/\n4=0
        ·have HE:Hid (DT Q++S2=DT z.natAbs):=Lib.hid (YC hK2.out hk2 (.inr ⟨hq0.1,jM.1 (awc (by rw [<- EU.out];exact hq0.2))⟩))
         obtain ⟨e1,e2⟩:=hq0
         go_wp2_with fail
         go_roundg Q
         case measure=>exact KX.out
         case rel=>exact ⟨_,0,c4,S2,T2,rfl,af,af,Lib.hid (by rw [<- EU.out];exact e2),hr4,rfl,hT2,TR,HE,xG⟩
        ·have HN:Hid (Tk Q (k2+1) (r2/10) (UInt8.ofNat (48+d)::S2) z.natAbs):=Lib.hid (by
          rw [HD.out];refine ajG hK2.out hk9 ?_;rcases Classical.em (r2=0) with e | e
          ·right
           intro e2;exact hq0 ⟨e,by rw [EU.out,e2];rfl⟩
          ·exact .inl e)
         by_cases hr0:r2=0
         ·have anL:0<n4:=af
          clear hq0;obtain rfl:=hr0;obtain rfl:d=0:=af;have HT2:Hid ((ByteArray.mk #[48,49,50,51,52,53,54,55,56,57]).extract 0 1++T2=⟨(UInt8.ofNat (48+0)::S2).toArray⟩):=Lib.hid (by rw [show (1:Nat)=0+1 from rfl,YA hd10,hT2.out];exact Ko _ _)
          go_wp2_with fail
          go_roundw
          case rel=>exact ⟨k2+1,0,_,_,af,af,by go_num,by go_num,rfl,HT2,HN,trivial⟩
          case measure=>simp [intOf];omega
         ·have hr1:0<r2:=af
          clear hq0;have HT2:Hid ((ByteArray.mk #[48,49,50,51,52,53,54,55,56,57]).extract d (d+1)++T2=⟨(UInt8.ofNat (48+d)::S2).toArray⟩):=Lib.hid (by rw [YA hd10,hT2.out];exact Ko _ _)
          go_wp2_with fail
          go_roundw
          case rel=>exact ⟨k2+1,r2/10,_,_,af,af,by go_num,by go_num,rfl,HT2,HN,trivial⟩
          case measure=>simp [intOf];omega
       ·have HE:Hid (DT Q++S2=DT z.natAbs):=Lib.hid (YC hK2.out hk2 (.inl af))
        go_wp2_with fail
        go_roundg Q
        case measure=>exact KX.out
        case rel=>exact ⟨_,n4,c4,S2,T2,rfl,hc4,hQn,Lib.hid EU.out.symm,hr4,rfl,hT2,TR,HE,xG⟩
     ·obtain ⟨j,rfl⟩:=awK (show 0<=i' from af)
      obtain ⟨b,off,rfl,hb',hcell,hlt⟩:=Ut.at_ (k:=j) (by rw [hlen.out];omega);have hcc:=hb5.cell (i:=j) (by rw [hdl.out];omega);have hfr:=hb5.frozen j;have qU:=Lib.hid (fun v=>hb5.qK (i:=j) v (by rw [hdl.out];omega));have hst:=Su (x:=1000000000) (r:=r) (d:=dg (bn gk) j) (H:=val ((bn gk).drop (j+1))) af (by have:=hvv.out.2;rwa [show ((j:Int)+1).toNat=j+1 by omega] at this) hlt;have EN:=Lib.hid (AL (bn gk) (k:=j) (by rw [hlen.out];omega));obtain ⟨d,hd⟩ : ∃ d,d=dg (bn gk) j:=⟨_,rfl⟩;rw [<- hd] at hcell hlt hst EN;obtain ⟨D,hD⟩ : ∃ D,D=d+4294967296*r:=⟨_,rfl⟩;rw [<- hD] at hst;have hO:bits .or .u64 ((r:Int)*4294967296) (d:Int)=(D:Int):=by rw [hD];exact yf af hlt
      obtain ⟨q,hq⟩ : ∃ q,q=D/1000000000:=⟨_,rfl⟩;obtain ⟨r',hr'⟩ : ∃ r',r'=D%1000000000:=⟨_,rfl⟩;rw [<- hq,<- hr'] at hst;have jV:q<4294967296:=hst.1;have hDl:D<=18446744073709551615:=af;have hqi:(D:Int)/1000000000=(q:Int):=af;have anT:(D:Int)%1000000000=(r':Int):=af;have aeA:r'<=999999999:=af;have HST:=Lib.hid hst.2;clear hst hd hD hq hr'
      go_wp2_with fail
      go_roundw
      case rel =>
       refine ⟨(j:Int)-1,r',ds.set j q,af,af,aeA,by go_num,by go_num,qU.out q,Lib.hid (by rw [av4];exact hdl.out),jk hdw _ jV,Lib.hid ?_,hbi.setCell (avW _) _⟩;have hv1:=hvv.out;rw [show ((j:Int)+1).toNat=j+1 by omega] at hv1;rw [show ((j:Int)-1+1).toNat=j from af,AL (ds.set j q) (k:=j) (by rw [av4,hdl.out];omega),kC (l:=ds) (k:=j) _ (by rw [hdl.out];omega),if_pos rfl,KE _ af,hv1.1,EN.out];exact HST.out
      case measure=>simp [intOf]
end Go.Proofs.BGQ
