/- Part of a proof, said shortly. -/
import Derived.Test.YtkcpphebkmnonaaGreatDoorAlz
import Derived.Test.YtkcpphebkmnonaaGreatDoorC15
import Derived.Test.YtkcpphebkmnonaaGreatDoorC11
import Derived.Test.YtkcpphebkmnonaaGreatDoorC12
import Derived.Test.YtkcpphebkmnonaaGreatDoorC10
import Derived.Test.YtkcpphebkmnonaaGreatDoorC9
import Derived.Test.YtkcpphebkmnonaaGreatDoorC8
import Derived.Test.YtkcpphebkmnonaaGreatDoorC5
import Derived.Test.YtkcpphebkmnonaaGreatDoorC2
import Derived.Test.YtkcpphebkmnonaaGreatDoorC1
import Derived.Test.YtkcpphebkmnonaaGreatDoorC4
import Derived.Test.YtkcpphebkmnonaaGreatDoorC3
import Derived.Test.YtkcpphebkmnonaaGreatDoorC7
import Derived.Test.YtkcpphebkmnonaaGreatDoorC6
import Derived.Test.YtkcpphebkmnonaaGreatDoorC14
import Derived.Test.YtkcpphebkmnonaaGreatDoorC13
set_option linter.unusedVariables false
set_option linter.unusedSimpArgs false
namespace Go.Proofs.BGQ
open Go Go.RowKit Lw bG
section
variable {W0 w:World} {U:List Box} {Ps:List (World->Prop)}
variable {vs:List Value} {k:Nat} {q:Rat} {er:Value}
theorem St.same(HS:St W0 U Ps w){f:FuncId}{u:Value}(h:Calls Tryz.prog f vs.toArray w (fun e w'=>e = .returned u/\w=w')):bF Tryz.prog f vs w (dI W0 U Ps u) :=
 h.mono fun e w' hh=>by
  obtain ⟨rfl,rfl⟩:=hh;exact ⟨_,rfl,rfl,HS⟩
theorem ahY(HS:St W0 U Ps w):bF Tryz.prog 18 [.nilIface] w (dI W0 U Ps (.int .i64 0)):=St.same HS (ahX w)
theorem mP.more{f:FuncId}{r:Rat}{K:Nat}(h:bF Tryz.prog f vs w (mP W0 U Ps q k er))(hq:q=r)(hk:k<=K):bF Tryz.prog f vs w (mP W0 U Ps r K er) :=
 Calls.mono h fun e w' hh=>by
  subst hq;obtain ⟨u,rfl,s,A,n,c,B,m,d,rfl,hs⟩:=hh;exact ⟨_,rfl,_,_,_,_,_,_,_,rfl,hs.out 0 1 0 rfl rfl rfl (fun _ h=>h.weak hk)⟩
theorem mP.of{f:FuncId}(HS:St W0 U Ps w){L:List En}{M:List Qn}(h:Calls Tryz.prog f vs.toArray w (fun e w' => ∃ (s:Bool) (A:Option Addr) (n c:Nat) (A':Option Addr) (n' c':Nat),e = .returned (.tuple #[(aup s A n c A' n' c'),er])/\bu w w' [] L [] (⟨(aup s A n c A' n' c'),q,k,true⟩::M))):bF Tryz.prog f vs w (mP W0 U Ps q k er):=Aw HS h
end
def Both(P:Program)(f f':FuncId)(q:Rat)(k:Nat)(b:Bool)(z:Int)(r:Rat)(K:Nat)(er er':Value):Prop :=
 ∀ (W0 w:World) (U:List Box) (Ps:List (World->Prop)) (s:Bool) (A:Option Addr) (n c:Nat) (B:Option Addr) (m d:Nat),Tz W0->Tab W0->St W0 U Ps w->FV (aup s A n c B m d) q k b w ->
  bF P f [(aup s A n c B m d),.int .i64 z] w (mP W0 U Ps r K er)/\bF P f' [(aup s A n c B m d),.int .i64 z] w (mP W0 U Ps r K er')
def RU(er:Value)(code:Int):Prop := ∀ (W0 w:World) (U:List Box) (Ps:List (World->Prop)),St W0 U Ps w->bF Tryz.prog 18 [er] w (dI W0 U Ps (.int .i64 code))
theorem RU.nil_:RU .nilIface 0:=fun _ _ _ _ HS=>ahY HS
end Go.Proofs.BGQ
namespace bG
open Go Go.RowKit
theorem St.Xt{W0 w:World}{U U':List Box}{Ps Ps':List (World->Prop)}{P:World->Prop}(HS:St W0 U' (P::Ps') w)(n m:Nat)(hU:U'.drop n=U)(hP:Ps'.drop m=Ps):St W0 U (P::Ps) w:=HS.out n (m+1) 0 hU (by simpa using hP) rfl (fun _ h=>h)
end bG
namespace Lw
open Go Go.RowKit bG
def FW(v:Value)(ns:List Nat)(w:World):Prop := ∃ (A:Option Addr) (n c:Nat),v = .slice A n c/\Rd w w.heap.size A ns/\ns.length=n/\n<=c
theorem FW.stable(v:Value)(ns:List Nat):Stable (FW v ns):=fun gs w w' ha h=>by
 obtain ⟨A,n,c,h1,h2,h3⟩:=h;exact ⟨A,n,c,h1,h2.keeps ha,h3⟩
theorem FW.rd{A:Option Addr}{n c:Nat}{ns:List Nat}{w:World}(h:FW (.slice A n c) ns w):Rd w w.heap.size A ns/\ns.length=n/\n<=c:=by
 obtain ⟨A',n',c',h1,h2⟩:=h
 injection h1 with e1 e2 e3;subst e1 e2 e3;exact h2
section
variable {s:Bool} {A B:Option Addr} {n c m d k:Nat} {q:Rat} {w:World}
theorem FV.neg(h:FV (aup s A n c B m d) q k true w):s=rs q:=(bV.own h).1
theorem FV.nz(h:FV (aup s A n c B m d) q k true w):n=0↔q=0:=qC (bV.own h).2.1
theorem FV.num(h:FV (aup s A n c B m d) q k true w):FW (.slice A n c) (rn q) w:=by
 obtain ⟨_,h2,_,h4,_,_,_,h8,_⟩:=bV.own h;exact ⟨A,n,c,rfl,h4,h2.symm,h8⟩
theorem FV.den(h:FV (aup s A n c B m d) q k true w):FW (.slice B m d) (rd q) w:=by
 obtain ⟨_,_,h3,_,h5,_,_,_,h9⟩:=bV.own h;exact ⟨B,m,d,rfl,h5,h3.symm,h9⟩
theorem FV.mk(hs:s=rs q)(h1:FW (.slice A n c) (rn q) w)(h2:FW (.slice B m d) (rd q) w)(hn:n<=k)(hm:m<=k):FV (aup s A n c B m d) q k true w:=by
 obtain ⟨a1,a2,a3⟩:=h1.rd;obtain ⟨b1,b2,b3⟩:=h2.rd;subst hs a2 b2;exact Go.Proofs.BGQ.I8 a1 b1 hn hm a3 b3
end
theorem TR(q r:Rat):decide (eU q r > 0)=decide (r<q):=by
 rw [decide_eq_decide];unfold eU
 split
 ·constructor <;> intro h <;> grind
 ·split <;> constructor <;> intro h <;> grind
theorem TS(q r:Rat):decide (eU q r<0)=decide (q<r):=by
 rw [decide_eq_decide];unfold eU
 split
 ·constructor <;> intro h <;> grind
 ·split <;> constructor <;> intro h <;> grind
theorem yz(q r:Rat):(eU q r==0)=decide (q=r):=by
 have h1:=TR q r;have h2:=TS q r;rw [decide_eq_decide] at h1 h2;rw [Bool.eq_iff_iff,beq_iff_eq,decide_eq_true_iff];constructor <;> intro h <;> grind
theorem OM(q:Rat):iO q=eU q 0:=by unfold iO eU;rfl
theorem OO(q:Rat):(iO q==0)=decide (q=0):=by rw [OM];exact yz q 0
section
variable {P:Program} {ops:Array Oper} {Q:Exit->Act->World->Prop} {N d:Nat} {T:List (Nat×Value)} {W0 w:World} {U:List Box} {Ps:List (World->Prop)} {rest:List Oper}
theorem JL.words{t e:TypeId}{len:Nat}{l:List (Nat×Operand)}{ps:List (Nat×Value)}{z:Value}{ns:List Nat}{ty:TypeId}{pos:String}{bD:Array Edge}(HS:St W0 U Ps w)(hN:Nat.ble (d+1) N=true)(hl : ∀ a,Kn a N T->l.map (fun p=>(p.1,a.eval p.2))=ps)(hu : ∀ w,(underlying t).run P w = .ok (.slice e) w)(hs : ∀ w,(Go.sizeOf e).run P w = .ok 1 w)(hz : ∀ w,(zeroValue e).run P w = .ok z w)(hb:Nat.ble (len*1) (2^24)=true)(h0:(len*1==0)=false)(hf:Instr.fill (fun i=>some (i*1,1)) ((Array.range (len*1)).map (z.cells[· % z.cells.size]!)) ps=some (arr ns).toArray)(hw:bK ns)(hn:ns.length=len)(h : ∀ g w',St W0 U (FW (.slice (some ⟨g,0,none⟩) len len) ns::Ps) w'->JL P ops Q rest N ((d,.slice (some ⟨g,0,none⟩) len len)::T) w'):JL P ops Q (⟨some d,.buildSlice t len l.toArray,ty,pos,bD,none⟩::rest) N T w :=
 JL.val rfl rfl hN (fun a ha=>run_buildSlice (hl a ha) hu hs hz hb h0 hf) (h _ _ ((HS.next ((Below.refl _ w).alloc (aut _) _)).add (FW.stable _ _) ⟨_,_,_,rfl,(bM.new w e ns).rd hw,hn,aut _⟩))
end
end Lw
namespace bG
open Go Go.RowKit
theorem St.Xu{W0 w:World}{U U':List Box}{Ps Ps':List (World->Prop)}{P Q P' Q' Si Q'':World->Prop}(HS:St W0 U' Ps' w)(n m i j l:Nat)(hU:U'.drop n=U)(hP:Ps'.drop m=Ps)(hi:Ps'[i]? = some P)(hq : ∀ w,P w->Q w)(hj:Ps'[j]? = some P')(hq' : ∀ w,P' w->Q' w)(hl:Ps'[l]? = some Si)(agv : ∀ w,Si w->Q'' w):St W0 U (Q::Q'::Q''::Ps) w:=by
 subst hU hP;have h1:=((HS.map (auF hl) agv).map (.tail _ (auF hj)) hq').map (.tail _ (.tail _ (auF hi))) hq;have h2:=h1.Xr (U:=U'.drop n) (Ps:=Q::Q'::Q''::Ps') n 0 rfl rfl
 exact h2.facts fun P hP=>by
  simp only [List.mem_cons] at hP ⊢;rcases hP with h | h | h | h
  ·exact .inl h
  ·exact .inr (.inl h)
  ·exact .inr (.inr (.inl h))
  ·exact .inr (.inr (.inr (au2 h)))
end bG
namespace Lw
open Go Go.RowKit bG
section
variable (W0:World) (U:List Box) (Ps:List (World->Prop))
def tJ(q:Rat)(u:Bool)(k:Nat)(v:Value)(w:World):Prop := ∃ (s:Bool) (A:Option Addr) (n c:Nat) (B:Option Addr) (m d:Nat),v = .agg #[.bool s,.slice A n c,.slice B m d,.bool u]/\St W0 U (FV (.agg #[.bool s,.slice A n c,.slice B m d]) q k true::Ps) w
def Gz(q:Rat)(u:Bool)(k:Nat)(er:Value)(v:Value)(w:World):Prop := ∃ (s:Bool) (A:Option Addr) (n c:Nat) (B:Option Addr) (m d:Nat),v = .tuple #[.agg #[.bool s,.slice A n c,.slice B m d,.bool u],er]/\St W0 U (FV (.agg #[.bool s,.slice A n c,.slice B m d]) q k true::Ps) w
def QI(xa:Int)(xb:Int)(k:Nat)(v:Value)(w:World):Prop := ∃ (sa:Bool) (Aa:Option Addr) (na ca:Nat) (sb:Bool) (Ab:Option Addr) (nb cb:Nat),v = .agg #[.bool sa,.slice Aa na ca,.bool sb,.slice Ab nb cb]/\St W0 U (FI (.agg #[.bool sa,.slice Aa na ca]) xa k::FI (.agg #[.bool sb,.slice Ab nb cb]) xb k::Ps) w
def QJ(xa:Int)(xb:Int)(xc:Int)(k:Nat)(v:Value)(w:World):Prop := ∃ (sa:Bool) (Aa:Option Addr) (na ca:Nat) (sb:Bool) (Ab:Option Addr) (nb cb:Nat) (sc:Bool) (Ac:Option Addr) (nc cc:Nat),v = .tuple #[.agg #[.bool sa,.slice Aa na ca,.bool sb,.slice Ab nb cb],.agg #[.bool sc,.slice Ac nc cc]]/\St W0 U (FI (.agg #[.bool sa,.slice Aa na ca]) xa k::FI (.agg #[.bool sb,.slice Ab nb cb]) xb k::FI (.agg #[.bool sc,.slice Ac nc cc]) xc k::Ps) w
end
theorem lY{a b c:Value}{x y:Bool}(h:x=y):Value.agg #[a,b,c,.bool x] = .agg #[a,b,c,.bool y]:=h ▸ rfl
theorem Zw(q:Rat):(iO q != 0)=(!(decide (q=0))):=by rw [<- OO];rfl
def bT(b u:Bool)(q:Rat):Prop:=b=true/\(u=true->q=0)
def fC(u:Bool)(q:Rat):Rat:=if u then -1 else (1-q*q)*(1+q*q)⁻¹
def fZ(u:Bool)(q:Rat):Rat:=if u then 0 else (q+q)*(1+q*q)⁻¹
def cO(u1:Bool)(q1:Rat)(u2:Bool)(q2:Rat):Bool:=if u1 then !u2&&decide (q2=0) else if u2 then decide (q1=0) else decide (1-q1*q2=0)
def dL(u1:Bool)(q1:Rat)(u2:Bool)(q2:Rat):Rat:=if u1 then (if u2 then 0 else -q2⁻¹) else if u2 then -q1⁻¹ else (q1+q2)*(1-q1*q2)⁻¹
theorem zH(q:Rat):0<=q*q:=by
 rcases Rat.le_total (a:=0) (b:=q) with h | h
 ·exact Rat.mul_nonneg h h
 ·have:=Rat.mul_nonneg (a := -q) (b := -q) (by grind) (by grind);grind
theorem FZ(q:Rat):1+q*q≠0:=by have:=zH q;grind
end Lw
namespace Go.Proofs.BGQ
open Go Go.RowKit Lw bG
section
variable {W0 w:World} {U:List Box} {Ps:List (World->Prop)}
theorem jJ(w:World):Sem.run Tryz.prog (Array.mapM (fun (f:Go.Field)=>Prod.mk f.offset <$> Go.sizeOf f.type) #[{ name:= "T",type:=24,offset:=0,embedded:=false,tag:= "",pkgPath:= "",byteOffset:=0 },{ name:= "Half",type:=4,offset:=3,embedded:=false,tag:= "",pkgPath:= "",byteOffset:=56 }]) w = .ok #[(0,3),(3,1)] w:=ah
set_option maxRecDepth 100000 in
set_option maxHeartbeats 400000 in
theorem kR(HT:Tz W0)(HB:Tab W0){s1:Bool}{A1:Option Addr}{n1 c1:Nat}{B1:Option Addr}{m1 d1:Nat}{q1:Rat}{k1:Nat}{b1:Bool}{u1:Bool}(HS:St W0 U Ps w)(f1:FV (.agg #[.bool s1,.slice A1 n1 c1,.slice B1 m1 d1]) q1 k1 b1 w)(hk:k1<=900)(hg:bT b1 u1 q1):bF Tryz.prog 17 [.agg #[.bool s1,.slice A1 n1 c1,.slice B1 m1 d1,.bool u1]] w (dI W0 U Ps (.int .i64 0)):=by
 have HS:=HS.add (FV.stable _ _ _ _) f1;clear f1;refine df Tryz.func17 rfl Tryz.ntmps17 rfl<|Js<|JL.box (vs:=[.bool s1,.slice A1 n1 c1,.slice B1 m1 d1,.bool u1]) HS rfl rfl rfl rfl (fun g21 di HS => ?_);refine La rfl<|Jn<|JC.seq<|Js<|dH 0 rfl asV rfl asR<|JL.load (.agg #[.bool s1,.slice A1 n1 c1,.slice B1 m1 d1]) HS 0 rfl rfl rfl asT asR rfl rfl<|JL.call rfl rfl Tryz.call54 (YH HT HB HS (HS.at_ 0 rfl) af)<|?_;rintro v22 dw ⟨rfl,HS⟩;refine Lz (.bool (!b1)) (fun a ha=>jK (ha.ev rfl))<|?_
 cases b1
 ·skip
  refine Lm rfl<|Lq<|Lq<|Lq<|kV<|kV<|kV<|kV<|Lq<|Lt rfl rfl<|Jn<|JC.bH rfl<|Js<|La rfl<|Jn<|Ja Tryz.results17 (.tmp rfl)<|?_;exact ⟨(absurd hg (by simp_all [bT])),HS.o0 1 1⟩
 ·skip
  refine Lm rfl<|bz (.pointer (some ⟨g21,3,none⟩)) (fun a ha=>dF (ha.ev rfl) asV rfl as4 rfl rfl)<|bz (.bool u1) (fun a ha=>ji (ha.ev rfl) as3 (HS.box _ ak) rfl)<|fD rfl<|?_
  cases u1
  ·skip
   refine Lq<|Lq<|Lq<|Lq<|bz (.bool false) (fun a ha=>FD (ha.ev rfl) (ha.ev rfl))<|Lf rfl rfl<|Jn<|JC.bJ rfl<|Jk<|Js<|La rfl<|Jn<|Ja Tryz.results17 (.tmp rfl)<|?_;exact ⟨rfl,HS.o0 1 1⟩
  ·skip
   refine bz (.pointer (some ⟨g21,0,none⟩)) (fun a ha=>dF (ha.ev rfl) asV rfl asR rfl rfl)<|bz (.agg #[.bool s1,.slice A1 n1 c1,.slice B1 m1 d1]) (fun a ha=>eG (ha.ev rfl) asT asR (HS.box _ ak) rfl rfl)<|JL.dN rfl rfl rfl rfl rfl rfl atC (BB HT HB HS (HS.at_ 0 rfl) af)<|?_;rintro v25 dV ⟨rfl,HS⟩;refine bz (.bool (!(decide (q1=0)))) (fun a ha=>eH (ha.ev rfl) (ha.ev rfl) (Zw _))<|bz (.bool (!(decide (q1=0)))) (fun a ha=>ku (ha.ev rfl) (ha.ev rfl))<|Lf rfl rfl<|Jn<|?_
   cases IA:((decide (q1=0)))
   ·skip
    refine JC.bH rfl<|Js<|La rfl<|Jn<|Ja Tryz.results17 (.tmp rfl)<|?_;exact ⟨(absurd hg (by simp_all [bT])),HS.o0 1 1⟩
   ·skip
    refine JC.bJ rfl<|Jk<|Js<|La rfl<|Jn<|Ja Tryz.results17 (.tmp rfl)<|?_;exact ⟨rfl,HS.o0 1 1⟩
set_option maxRecDepth 100000 in
set_option maxHeartbeats 400000 in
theorem sU(HT:Tz W0)(HB:Tab W0){s1:Bool}{A1:Option Addr}{n1 c1:Nat}{B1:Option Addr}{m1 d1:Nat}{q1:Rat}{k1:Nat}{b1:Bool}{u1:Bool}(HS:St W0 U Ps w)(f1:FV (.agg #[.bool s1,.slice A1 n1 c1,.slice B1 m1 d1]) q1 k1 b1 w)(hk:k1<=900)(hg:¬ bT b1 u1 q1):bF Tryz.prog 17 [.agg #[.bool s1,.slice A1 n1 c1,.slice B1 m1 d1,.bool u1]] w (dI W0 U Ps (.int .i64 2)):=by
 have HS:=HS.add (FV.stable _ _ _ _) f1;clear f1;refine df Tryz.func17 rfl Tryz.ntmps17 rfl<|Js<|JL.box (vs:=[.bool s1,.slice A1 n1 c1,.slice B1 m1 d1,.bool u1]) HS rfl rfl rfl rfl (fun g21 di HS => ?_);refine La rfl<|Jn<|JC.seq<|Js<|dH 0 rfl asV rfl asR<|JL.load (.agg #[.bool s1,.slice A1 n1 c1,.slice B1 m1 d1]) HS 0 rfl rfl rfl asT asR rfl rfl<|JL.call rfl rfl Tryz.call54 (YH HT HB HS (HS.at_ 0 rfl) af)<|?_;rintro v22 dw ⟨rfl,HS⟩;refine Lz (.bool (!b1)) (fun a ha=>jK (ha.ev rfl))<|?_
 cases b1
 ·skip
  refine Lm rfl<|Lq<|Lq<|Lq<|kV<|kV<|kV<|kV<|Lq<|Lt rfl rfl<|Jn<|JC.bH rfl<|Js<|La rfl<|Jn<|Ja Tryz.results17 (.tmp rfl)<|?_;exact ⟨rfl,HS.o0 1 1⟩
 ·skip
  refine Lm rfl<|bz (.pointer (some ⟨g21,3,none⟩)) (fun a ha=>dF (ha.ev rfl) asV rfl as4 rfl rfl)<|bz (.bool u1) (fun a ha=>ji (ha.ev rfl) as3 (HS.box _ ak) rfl)<|fD rfl<|?_
  cases u1
  ·skip
   refine Lq<|Lq<|Lq<|Lq<|bz (.bool false) (fun a ha=>FD (ha.ev rfl) (ha.ev rfl))<|Lf rfl rfl<|Jn<|JC.bJ rfl<|Jk<|Js<|La rfl<|Jn<|Ja Tryz.results17 (.tmp rfl)<|?_;exact ⟨(absurd (by simp_all [bT]) hg),HS.o0 1 1⟩
  ·skip
   refine bz (.pointer (some ⟨g21,0,none⟩)) (fun a ha=>dF (ha.ev rfl) asV rfl asR rfl rfl)<|bz (.agg #[.bool s1,.slice A1 n1 c1,.slice B1 m1 d1]) (fun a ha=>eG (ha.ev rfl) asT asR (HS.box _ ak) rfl rfl)<|JL.dN rfl rfl rfl rfl rfl rfl atC (BB HT HB HS (HS.at_ 0 rfl) af)<|?_;rintro v25 dV ⟨rfl,HS⟩;refine bz (.bool (!(decide (q1=0)))) (fun a ha=>eH (ha.ev rfl) (ha.ev rfl) (Zw _))<|bz (.bool (!(decide (q1=0)))) (fun a ha=>ku (ha.ev rfl) (ha.ev rfl))<|Lf rfl rfl<|Jn<|?_
   cases IA:((decide (q1=0)))
   ·skip
    refine JC.bH rfl<|Js<|La rfl<|Jn<|Ja Tryz.results17 (.tmp rfl)<|?_;exact ⟨rfl,HS.o0 1 1⟩
   ·skip
    refine JC.bJ rfl<|Jk<|Js<|La rfl<|Jn<|Ja Tryz.results17 (.tmp rfl)<|?_;exact ⟨(absurd (by simp_all [bT]) hg),HS.o0 1 1⟩
end
end Go.Proofs.BGQ
namespace Lw
abbrev Tn:=Bool×Rat
def tA(a b:Tn):Tn:=(cO a.1 a.2 b.1 b.2,dL a.1 a.2 b.1 b.2)
def tN(a:Tn):Tn:=(a.1,-a.2)
def Rp(a:Tn)(x y:Rat):Prop:=(a.1=true/\a.2=0/\x=0/\y≠0)\/(a.1=false/\x≠0/\a.2*x=y)
theorem fQ{a b:Rat}(ha:a≠0)(hb:b≠0):a*b≠0:=fun e=>(Rat.mul_eq_zero.1 e).elim ha hb
theorem AX{a b c:Rat}(hc:c≠0)(h:c*a=c*b):a=b:=by
 have h2:c*(a-b)=0:=by grind
 rcases Rat.mul_eq_zero.1 h2 with h3 | h3
 ·exact absurd h3 hc
 ·grind
theorem qm{a:Rat}(h:a≠0):a*a⁻¹=1:=Rat.mul_inv_cancel a h
theorem Rp.ok{a:Tn}{x y:Rat}(h:Rp a x y):a.1=true->a.2=0:=fun e=>by
 rcases h with ⟨_,h,_⟩ | ⟨h,_⟩
 ·exact h
 ·rw [h] at e;cases e
theorem Rp.uniq{a b:Tn}{x y x' y':Rat}(h:Rp a x y)(h':Rp b x' y')(e:x*y'=x'*y):a=b:=by
 obtain ⟨u,q⟩:=a;obtain ⟨u',q'⟩:=b;rcases h with ⟨h1,h2,h3,h4⟩ | ⟨h1,h2,h3⟩ <;> rcases h' with ⟨g1,g2,g3,g4⟩ | ⟨g1,g2,g3⟩ <;> simp only at h1 h2 h3 g1 g2 g3 <;> subst h1 g1
 ·rw [h2,g2]
 ·exact absurd (show x'*y=0 by grind) (fQ g2 h4)
 ·exact absurd (show x*y'=0 by grind) (fQ h2 g4)
 ·have:x*x'*q=x*x'*q':=by grind
  rw [AX (fQ h2 g2) this]
theorem Rp.add{a b:Tn}{x y x' y':Rat}(h:Rp a x y)(h':Rp b x' y'):Rp (tA a b) (x*x'-y*y') (x*y'+x'*y):=by
 obtain ⟨u,q⟩:=a;obtain ⟨u',q'⟩:=b;rcases h with ⟨h1,h2,h3,h4⟩ | ⟨h1,h2,h3⟩ <;> rcases h' with ⟨g1,g2,g3,g4⟩ | ⟨g1,g2,g3⟩ <;> simp only at h1 h2 h3 g1 g2 g3 <;> subst h1 g1
 ·refine .inr ⟨by simp [tA,cO],?_,?_⟩
  ·have:=fQ h4 g4;grind
  ·simp [tA,dL];grind
 ·by_cases hz:q'=0
  ·refine .inl ⟨by simp [tA,cO,hz],by simp [tA,dL,hz],by grind,?_⟩
   have:=fQ g2 h4;grind
  ·refine .inr ⟨by simp [tA,cO,hz],?_,?_⟩
   ·have:=fQ (fQ hz g2) h4;grind
   ·have:=qm hz
    simp only [tA,dL];simp;grind
 ·by_cases hz:q=0
  ·refine .inl ⟨by simp [tA,cO,hz],by simp [tA,dL,hz],by grind,?_⟩
   have:=fQ h2 g4;grind
  ·refine .inr ⟨by simp [tA,cO,hz],?_,?_⟩
   ·have:=fQ (fQ hz h2) g4;grind
   ·have:=qm hz
    simp only [tA,dL];simp;grind
 ·by_cases hz:1-q*q'=0
  ·refine .inl ⟨by simp [tA,cO,hz],by simp [tA,dL,hz],by grind,?_⟩
   intro e;have e1:x*x'*(q+q')=0:=by grind
   rcases Rat.mul_eq_zero.1 e1 with e2 | e2
   ·exact fQ h2 g2 e2
   ·have e3:q' = -q:=by grind
    subst e3;have:=zH q;grind
  ·refine .inr ⟨by simp [tA,cO,hz],?_,?_⟩
   ·have:=fQ (fQ h2 g2) hz;grind
   ·have:=qm hz
    simp only [tA,dL];simp;grind
theorem Rp.neg{a:Tn}{x y:Rat}(h:Rp a x y):Rp (tN a) x (-y):=by
 rcases h with ⟨h1,h2,h3,h4⟩ | ⟨h1,h2,h3⟩
 ·exact .inl ⟨h1,by simp [tN,h2],h3,by grind⟩
 ·exact .inr ⟨h1,h2,by simp only [tN];grind⟩
theorem Rp.norm{a:Tn}{x y:Rat}(h:Rp a x y):x*x+y*y≠0:=by
 have h1:=zH x;have h2:=zH y;rcases h with ⟨_,_,_,h4⟩ | ⟨_,h4,_⟩ <;> have:=fQ h4 h4 <;> grind
def tok(a:Tn):Prop:=a.1=true->a.2=0
theorem Rp.one:Rp (false,0) 1 0 := .inr ⟨rfl,ai,by simp⟩
def tC(a:Tn):Rat:=fC a.1 a.2
def tS(a:Tn):Rat:=fZ a.1 a.2
theorem Rp.cos{a:Tn}{x y:Rat}(h:Rp a x y):(x*x+y*y)*tC a=x*x-y*y:=by
 obtain ⟨u,q⟩:=a;rcases h with ⟨h1,h2,h3,h4⟩ | ⟨h1,h2,h3⟩ <;> simp only at h1 h2 h3 <;> subst h1
 ·simp only [tC,fC,if_true];grind
 ·have:=qm (FZ q)
  simp only [tC,fC];simp;grind
theorem Rp.sin{a:Tn}{x y:Rat}(h:Rp a x y):(x*x+y*y)*tS a=2*(x*y):=by
 obtain ⟨u,q⟩:=a;rcases h with ⟨h1,h2,h3,h4⟩ | ⟨h1,h2,h3⟩ <;> simp only at h1 h2 h3 <;> subst h1
 ·simp only [tS,fZ,if_true];grind
 ·have:=qm (FZ q)
  simp only [tS,fZ];simp;grind
end Lw
namespace Lw
def hx(u:Bool)(q:Rat):Int:=if u then 0 else (q.den:Int)
def hy(u:Bool)(q:Rat):Int:=if u then 1 else q.num
def gU(x:Int):Bool:=decide (x=0)
def gQ(x y:Int):Rat:=if x=0 then 0 else Rat.divInt y x
theorem rP(q:Rat):((q.den:Int):Rat)≠0:=fun e=>q.den_nz (by have:=Rat.intCast_inj.1 (e.trans (Rat.intCast_zero).symm);omega)
theorem sD(q:Rat):((q.num:Int):Rat)=q*((q.den:Int):Rat):=by
 have h:=ava q;rw [Rat.divInt_eq_div,Rat.div_def] at h;have i:=qm (rP q);generalize ((q.den:Int):Rat)=d at *;generalize ((q.num:Int):Rat)=n at *;rw [<- h];grind
theorem dv{x y:Int}{r:Rat}(h:(y:Rat)≠0)(e:(x:Rat)=r*(y:Rat)):Rat.divInt x y=r:=by
 rw [Rat.divInt_eq_div,Rat.div_def,e];have i:=qm h;grind
theorem uf{x:Int} : (x:Rat)≠0↔x≠0:=not_congr ⟨fun e=>Rat.intCast_inj.1 (e.trans Rat.intCast_zero.symm),fun e=>by rw [e];rfl⟩
theorem Rp.half{a:Tn}(h:tok a):Rp a ((hx a.1 a.2:Int):Rat) ((hy a.1 a.2:Int):Rat):=by
 obtain ⟨u,q⟩:=a
 cases u
 ·exact .inr ⟨rfl,rP q,(sD q).symm⟩
 ·exact .inl ⟨rfl,h rfl,rfl,show ((1:Int):Rat)≠0 from ai⟩
theorem Rp.gauss{x y:Int}(h:(x:Rat)≠0\/(y:Rat)≠0):Rp (gU x,gQ x y) x y:=by
 unfold gU gQ
 by_cases hx:x=0
 ·subst hx
  refine .inl ⟨by simp,by simp,rfl,h.resolve_left (fun e=>e rfl)⟩
 ·have h2:=uf.2 hx
  refine .inr ⟨by simp [hx],h2,?_⟩;simp only [hx,if_false];rw [Rat.divInt_eq_div,Rat.div_def];have i:=qm h2;grind
theorem Rp.any{a:Tn}{x y:Rat}(h:Rp a x y):x≠0\/y≠0:=h.elim (fun h => .inr h.2.2.2) (fun h => .inl h.2.1)
theorem Rp.of{a:Tn}{x y:Int}(h:Rp a x y):(gU x,gQ x y)=a:=(Rp.gauss h.any).uniq h (by grind)
theorem ZH{a b:Tn}(ha:tok a)(hb:tok b) :
  (gU (hx a.1 a.2*hx b.1 b.2-hy a.1 a.2*hy b.1 b.2),gQ (hx a.1 a.2*hx b.1 b.2-hy a.1 a.2*hy b.1 b.2) (hx a.1 a.2*hy b.1 b.2+hy a.1 a.2*hx b.1 b.2))=tA a b:=by
 refine Rp.of ?_;have h:=Rp.add (Rp.half ha) (Rp.half hb);rw [Rat.mul_comm ((hx b.1 b.2:Int):Rat)] at h
 simpa only [Rat.intCast_sub,au6,auN] using h
theorem Eo{u:Bool}{q:Rat}(h:u=true->q=0):hx u q*hx u q+hy u q*hy u q≠0:=by
 have:=Rp.norm (Rp.half (a:=(u,q)) h);rw [<- uf,au6,auN,auN];exact this
theorem afF{u:Bool}{q:Rat}(h:u=true->q=0):Rat.divInt (hx u q*hx u q-hy u q*hy u q) (hx u q*hx u q+hy u q*hy u q)=fC u q:=by
 have e:=Rp.cos (Rp.half (a:=(u,q)) h);refine dv (uf.2 (Eo h)) ?_;rw [Rat.intCast_sub,au6,auN,auN,<- e];exact Rat.mul_comm _ _
theorem afL{u:Bool}{q:Rat}(h:u=true->q=0):Rat.divInt (hx u q*hy u q+hy u q*hx u q) (hx u q*hx u q+hy u q*hy u q)=fZ u q:=by
 have e:=Rp.sin (Rp.half (a:=(u,q)) h);refine dv (uf.2 (Eo h)) ?_;rw [au6,au6,auN,auN,auN,auN];dsimp only [tS] at e;grind
theorem Rp.sub{a x:Tn}{x1 y1 x2 y2:Rat}(ha:Rp a x1 y1)(hx:Rp x x2 y2):Rp (tA x (tN a)) (x2*x1+y2*y1) (y2*x1-x2*y1):=by
 have h:=Rp.add hx (Rp.neg ha)
 rwa [show x2*x1-y2 * -y1=x2*x1+y2*y1 by grind,show x2 * -y1+x1*y2=y2*x1-x2*y1 by grind] at h
end Lw
namespace Go.Proofs.BGQ
open Go Go.RowKit Lw bG
section
variable {W0 w:World} {U:List Box} {Ps:List (World->Prop)}
theorem F5(HT:Tz W0)(HB:Tab W0)(HS:St W0 U Ps w){s1:Bool}{A1:Option Addr}{n1 c1:Nat}{x1:Int}{k1:Nat}{s2:Bool}{A2:Option Addr}{n2 c2:Nat}{x2:Int}{k2:Nat}(f1:FI (.agg #[.bool s1,.slice A1 n1 c1]) x1 k1 w)(f2:FI (.agg #[.bool s2,.slice A2 n2 c2]) x2 k2 w)(hk:k1+k2<=40000)(hy:x2≠0) :
  bF Tryz.prog 51 [.agg #[.bool s1,.slice A1 n1 c1],.agg #[.bool s2,.slice A2 n2 c2]] w (mP W0 U Ps (Rat.divInt x1 x2) (k1+1+(k2+1)) .nilIface):=by
 rcases avT hy with h | h
 ·exact Aw HS (afj (((St.start HS HT HB).push f2).push f1) ak au hk h)
 ·exact Aw HS (afk (((St.start HS HT HB).push f2).push f1) ak au hk h)
theorem agW{w:World}{bs:List Bx}{L:List En}{ts:List Bt}{M:List Qn}{v v':Value}{x y:Int}{k k':Nat}{b b':Bool}(HE:bu W0 w bs L ts M)(h:⟨v,x,k,b⟩∈L)(h':⟨v',y,k',b'⟩∈L)(hk:k+k'<=100000) :
  Calls Tryz.prog 128 #[v,v'] w (gV W0 bs L ts M (x-y) (k+k'+1)):=(ak1 HE.env.here h h' hk).mono fun _ _ hh=>HE.wO hh
theorem agV(HT:Tz W0)(HB:Tab W0)(HS:St W0 U Ps w){s1:Bool}{A1:Option Addr}{n1 c1:Nat}{x1:Int}{k1:Nat}{s2:Bool}{A2:Option Addr}{n2 c2:Nat}{x2:Int}{k2:Nat}(f1:FI (.agg #[.bool s1,.slice A1 n1 c1]) x1 k1 w)(f2:FI (.agg #[.bool s2,.slice A2 n2 c2]) x2 k2 w)(hk:k1+k2<=100000):bF Tryz.prog 128 [.agg #[.bool s1,.slice A1 n1 c1],.agg #[.bool s2,.slice A2 n2 c2]] w (nK W0 U Ps (x1-x2) (k1+k2+1)) :=
 Ik HS (agW (((St.start HS HT HB).push f2).push f1) ak au hk)
theorem AP{v:Value}{x:Int}{k:Nat}{w:World}(h:FI v x k w):x.natAbs<pw k:=dJ.lt h
theorem alg{v:Value}{x:Int}{k K:Nat}{w:World}(h:FI v x k w)(hx:x.natAbs<pw K):FI v x K w:=dJ.tight h hx
theorem aa7{x:Int}{k K:Nat}{u:Value}(h:nK W0 U Ps x k u w)(hx:x.natAbs<pw K):nK W0 U Ps x K u w:=by
 obtain ⟨s,A,n,c,e,HS⟩:=h;exact ⟨s,A,n,c,e,(HS.lC 0 rfl (fun _ h=>alg h hx)).Xt 0 1 rfl rfl⟩
theorem Ku{f:FuncId}{vs:List Value}{x:Int}{k K:Nat}(h:bF Tryz.prog f vs w (nK W0 U Ps x k))(hx:x.natAbs<pw K):bF Tryz.prog f vs w (nK W0 U Ps x K) :=
 Calls.mono h fun _ _ hh=>by obtain ⟨v,e,hv⟩:=hh;exact ⟨v,e,aa7 hv hx⟩
theorem XB{a b j k:Nat}(ha:a<pw j)(hb:b<pw k):a+b<pw (max j k+1):=by
 have h1:pw j<=pw (max j k):=fJ (Nat.le_max_left _ _);have h2:pw k<=pw (max j k):=fJ (Nat.le_max_right _ _);have h3:=fK (max j k);omega
theorem aic{a b j k:Nat}(ha:a<pw j)(hb:b<pw k):a*b<pw (j+k):=by
 rw [sG];exact avD ha hb
theorem Nq(HT:Tz W0)(HB:Tab W0)(HS:St W0 U Ps w){s1:Bool}{A1:Option Addr}{n1 c1:Nat}{x1:Int}{k1:Nat}{s2:Bool}{A2:Option Addr}{n2 c2:Nat}{x2:Int}{k2:Nat}(f1:FI (.agg #[.bool s1,.slice A1 n1 c1]) x1 k1 w)(f2:FI (.agg #[.bool s2,.slice A2 n2 c2]) x2 k2 w)(hk:k1+k2<=40000):bF Tryz.prog 70 [.agg #[.bool s1,.slice A1 n1 c1],.agg #[.bool s2,.slice A2 n2 c2]] w (nK W0 U Ps (x1+x2) (max k1 k2+1)) :=
 Ku (agL HT HB HS f1 f2 af) (auM (Int.natAbs_add_le _ _) (XB (AP f1) (AP f2)))
theorem agX(HT:Tz W0)(HB:Tab W0)(HS:St W0 U Ps w){s1:Bool}{A1:Option Addr}{n1 c1:Nat}{x1:Int}{k1:Nat}{s2:Bool}{A2:Option Addr}{n2 c2:Nat}{x2:Int}{k2:Nat}(f1:FI (.agg #[.bool s1,.slice A1 n1 c1]) x1 k1 w)(f2:FI (.agg #[.bool s2,.slice A2 n2 c2]) x2 k2 w)(hk:k1+k2<=40000):bF Tryz.prog 128 [.agg #[.bool s1,.slice A1 n1 c1],.agg #[.bool s2,.slice A2 n2 c2]] w (nK W0 U Ps (x1-x2) (max k1 k2+1)) :=
 Ku (agV HT HB HS f1 f2 af) (auM (Int.natAbs_sub_le _ _) (XB (AP f1) (AP f2)))
theorem qo(HT:Tz W0)(HB:Tab W0)(HS:St W0 U Ps w){s1:Bool}{A1:Option Addr}{n1 c1:Nat}{x1:Int}{k1:Nat}{s2:Bool}{A2:Option Addr}{n2 c2:Nat}{x2:Int}{k2:Nat}(f1:FI (.agg #[.bool s1,.slice A1 n1 c1]) x1 k1 w)(f2:FI (.agg #[.bool s2,.slice A2 n2 c2]) x2 k2 w)(hk:k1+k2<=40000):bF Tryz.prog 69 [.agg #[.bool s1,.slice A1 n1 c1],.agg #[.bool s2,.slice A2 n2 c2]] w (nK W0 U Ps (x1*x2) (k1+k2)) :=
 Ku (agP HT HB HS f1 f2 af) (by rw [au1];exact aic (AP f1) (AP f2))
end
end Go.Proofs.BGQ
