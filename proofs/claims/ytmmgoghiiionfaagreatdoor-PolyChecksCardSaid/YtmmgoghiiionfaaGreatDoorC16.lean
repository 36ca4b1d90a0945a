/- Part of a proof, said shortly. -/
import Derived.Deep.RegionWith
import Derived.WalkKit
import Derived.Test.YtmmgoghiiionfaaGreatDoorAlz
import Derived.Test.YtmmgoghiiionfaaGreatDoorC15
import Derived.Test.YtmmgoghiiionfaaGreatDoorC9
import Derived.Test.YtmmgoghiiionfaaGreatDoorC11
import Derived.Test.YtmmgoghiiionfaaGreatDoorC8
import Derived.Test.YtmmgoghiiionfaaGreatDoorC7
import Derived.Test.YtmmgoghiiionfaaGreatDoorC4
import Derived.Test.YtmmgoghiiionfaaGreatDoorC2
import Derived.Test.YtmmgoghiiionfaaGreatDoorC1
import Derived.Test.YtmmgoghiiionfaaGreatDoorC3
import Derived.Test.YtmmgoghiiionfaaGreatDoorC6
import Derived.Test.YtmmgoghiiionfaaGreatDoorC5
import Derived.Test.YtmmgoghiiionfaaGreatDoorC14
import Derived.Test.YtmmgoghiiionfaaGreatDoorC12
import Derived.Test.YtmmgoghiiionfaaGreatDoorC13
import Derived.Test.YtmmgoghiiionfaaGreatDoorC10
set_option maxRecDepth 100000
set_option maxHeartbeats 8000000
set_option linter.unusedVariables false
set_option linter.unusedSimpArgs false
namespace bJ
open Go Go.RowKit
variable {ds:List Deferred} {r:Option Nat}
theorem St.Qa{W0 w:World}{U U':List Box}{Ps Ps':List (World->Prop)}{P:World->Prop}(HS:St W0 U' (P::Ps') w)(n m:Nat)(hU:U'.drop n=U)(hP:Ps'.drop m=Ps):St W0 U (P::Ps) w:=HS.out n (m+1) 0 hU (by simpa using hP) rfl (fun _ h=>h)
end bJ
namespace Lw
open Go Go.RowKit bJ
variable {ds:List Deferred} {r:Option Nat}
def FW(v:Value)(ns:List Nat)(w:World):Prop := ∃ (A:Option Addr) (n c:Nat),v = .slice A n c/\Rd w w.heap.size A ns/\ns.length=n/\n<=c
theorem FW.stable(v:Value)(ns:List Nat):Stable (FW v ns):=fun gs w w' ha h=>by
 obtain ⟨A,n,c,h1,h2,h3⟩:=h;exact ⟨A,n,c,h1,h2.keeps ha,h3⟩
theorem FW.rd{A:Option Addr}{n c:Nat}{ns:List Nat}{w:World}(h:FW (.slice A n c) ns w):Rd w w.heap.size A ns/\ns.length=n/\n<=c:=by
 obtain ⟨A',n',c',h1,h2⟩:=h
 injection h1 with e1 e2 e3;subst e1 e2 e3;exact h2
section
variable {s:Bool} {A B:Option Addr} {n c m d k:Nat} {q:Rat} {w:World}
theorem FV.neg(h:FV (ahf s A n c B m d) q k true w):s=rs q:=(dn.own h).1
theorem FV.nz(h:FV (ahf s A n c B m d) q k true w):n=0↔q=0:=AA (dn.own h).2.1
theorem FV.num(h:FV (ahf s A n c B m d) q k true w):FW (.slice A n c) (rn q) w:=by
 obtain ⟨_,h2,_,h4,_,_,_,h8,_⟩:=dn.own h;exact ⟨A,n,c,rfl,h4,h2.symm,h8⟩
theorem FV.den(h:FV (ahf s A n c B m d) q k true w):FW (.slice B m d) (rd q) w:=by
 obtain ⟨_,_,h3,_,h5,_,_,_,h9⟩:=dn.own h;exact ⟨B,m,d,rfl,h5,h3.symm,h9⟩
theorem FV.lens(h:FV (ahf s A n c B m d) q k true w):n<=k/\m<=k:=by
 obtain ⟨_,_,_,_,_,h6,h7,_⟩:=dn.own h;exact ⟨h6,h7⟩
theorem FV.mk(hs:s=rs q)(h1:FW (.slice A n c) (rn q) w)(h2:FW (.slice B m d) (rd q) w)(hn:n<=k)(hm:m<=k):FV (ahf s A n c B m d) q k true w:=by
 obtain ⟨a1,a2,a3⟩:=h1.rd;obtain ⟨b1,b2,b3⟩:=h2.rd;subst hs a2 b2;exact Go.Proofs.AZQ.aaC a1 b1 hn hm a3 b3
theorem FV.copy{A' B':Option Addr}{n' c' m' d':Nat}(h:FV (ahf s A n c B m d) q k true w)(h1:FW (.slice A' n' c') (rn q) w)(h2:FW (.slice B' m' d') (rd q) w):FV (ahf s A' n' c' B' m' d') q k true w:=by
 obtain ⟨e1,e2,e3,_,_,e6,e7,_⟩:=dn.own h;obtain ⟨a1,a2,a3⟩:=h1.rd;obtain ⟨b1,b2,b3⟩:=h2.rd;exact FV.mk e1 h1 h2 af af
theorem FV.bad{b:Bool}(h:FV (ahf s A n c B m d) q k b w)(hb:b=false):q=0:=by
 obtain ⟨s',A1,n1,c1,A2,n2,c2,ns,ms,h1,h2,h3,h4,h5,h6,h7,h8,h9,h10,h11⟩:=h;dsimp only at h10 h11;subst hb;unfold qv at h10;rw [h11] at h10
 simpa using h10.symm
theorem FV.ZU{b:Bool}(h:FV (ahf s A n c B m d) q k b w):n<=k/\m<=k:=by
 obtain ⟨s',A1,n1,c1,A2,n2,c2,ns,ms,h1,h2,h3,h4,h5,h6,h7,_⟩:=h;dsimp only at h1 h6 h7
 injection h1 with h1
 injection h1 with h1;simp only [List.cons.injEq,Value.bool.injEq,Value.slice.injEq,and_true] at h1;obtain ⟨rfl,⟨rfl,rfl,rfl⟩,rfl,rfl,rfl⟩:=h1;exact ⟨h6,h7⟩
end
section
variable (W0:World) (U:List Box) (Ps:List (World->Prop))
def AnW(ns:List Nat)(u:Value)(w:World):Prop := ∃ (A:Option Addr) (n c:Nat),u = .slice A n c/\St W0 U (FW (.slice A n c) ns::Ps) w
end
theorem WI(q r:Rat):decide (qO q r > 0)=decide (r<q):=by
 rw [decide_eq_decide];unfold qO
 split
 ·constructor <;> intro h <;> grind
 ·split <;> constructor <;> intro h <;> grind
theorem WJ(q r:Rat):decide (qO q r<0)=decide (q<r):=by
 rw [decide_eq_decide];unfold qO
 split
 ·constructor <;> intro h <;> grind
 ·split <;> constructor <;> intro h <;> grind
theorem WH(q r:Rat):(qO q r==0)=decide (q=r):=by
 have h1:=WI q r;have h2:=WJ q r;rw [decide_eq_decide] at h1 h2;rw [Bool.eq_iff_iff,beq_iff_eq,decide_eq_true_iff];constructor <;> intro h <;> grind
theorem adu(q:Rat):jl q=qO q 0:=by unfold jl qO;rfl
theorem IW(q:Rat):(jl q==0)=decide (q=0):=by rw [adu];exact WH q 0
theorem WG(x y:Int):(kT x y==0)=decide (x=y):=by
 rw [Bool.eq_iff_iff,beq_iff_eq,decide_eq_true_iff];unfold kT
 split
 ·constructor <;> intro <;> omega
 ·split <;> constructor <;> intro <;> omega
section
variable {P:Program} {ops:Array Oper} {Q:Exit->Act->World->Prop} {N d:Nat} {T:List (Nat×Value)} {W0 w:World} {U:List Box} {Ps:List (World->Prop)} {rest:List Oper}
theorem JL.words{t e:TypeId}{len:Nat}{l:List (Nat×Operand)}{ps:List (Nat×Value)}{z:Value}{ns:List Nat}{ty:TypeId}{pos:String}{bn:Array Edge}(HS:St W0 U Ps w)(hN:Nat.ble (d+1) N=true)(hl : ∀ a,Kn ds a N T->l.map (fun p=>(p.1,a.eval p.2))=ps)(hu : ∀ w,(underlying t).run P w = .ok (.slice e) w)(hs : ∀ w,(Go.sizeOf e).run P w = .ok 1 w)(hz : ∀ w,(zeroValue e).run P w = .ok z w)(hb:Nat.ble (len*1) (2^24)=true)(h0:(len*1==0)=false)(hf:Instr.fill (fun i=>some (i*1,1)) ((Array.range (len*1)).map (z.cells[· % z.cells.size]!)) ps=some (arr ns).toArray)(hw:bF ns)(hn:ns.length=len)(h : ∀ g w',St W0 U (FW (.slice (some ⟨g,0,none⟩) len len) ns::Ps) w'->JL ds P ops Q rest N ((d,.slice (some ⟨g,0,none⟩) len len)::T) w'):JL ds P ops Q (⟨some d,.buildSlice t len l.toArray,ty,pos,bn,none⟩::rest) N T w :=
 JL.val rfl rfl hN (fun a ha=>run_buildSlice (hl a ha) hu hs hz hb h0 hf) (h _ _ ((HS.next ((Below.refl _ w).alloc (ahj _) _)).add (FW.stable _ _) ⟨_,_,_,rfl,(bD.new w e ns).rd hw,hn,ahj _⟩))
end
theorem fP{v:Value}{q:Rat}{k:Nat}{w:World}(h:FV v q k true w):(bW q).length<=20*k+20:=by
 have h0:=dn.lt h;have l1:=xA h0.1;have l2:=xA (z:=(q.den:Int)) (k:=k+1) (by rw [ahx];exact h0.2);unfold bW
 split
 ·omega
 ·simp only [List.length_append,List.length_cons,List.length_nil];omega
end Lw
namespace Lw
open Go Go.RowKit bJ
def el{α:Type}[Inhabited α](xs:List α)(j:Nat):α:=xs.getD j default
theorem nR{α:Type}[Inhabited α]{xs:List α}{j:Nat}(hj:j<xs.length):xs[j]? = some (el xs j):=by
 unfold el;rw [ahW,ahR hj];rfl
def dL(k:Nat)(x:Rat×Bool)(cs:List Value)(w:World):Prop := ∃ (s:Bool) (A:Option Addr) (n c:Nat) (B:Option Addr) (m d:Nat),cs=[.bool s,.slice A n c,.slice B m d]/\FV (.agg #[.bool s,.slice A n c,.slice B m d]) x.1 k x.2 w
def eG(k:Nat)(x:Rat)(cs:List Value)(w:World):Prop := ∃ (s:Bool) (A:Option Addr) (n c:Nat) (B:Option Addr) (m d:Nat),cs=[.bool s,.slice A n c,.slice B m d]/\FV (.agg #[.bool s,.slice A n c,.slice B m d]) x k true w
def nK(k:Nat)(x:Int)(cs:List Value)(w:World):Prop := ∃ (s:Bool) (A:Option Addr) (n c:Nat),cs=[.bool s,.slice A n c]/\FI (.agg #[.bool s,.slice A n c]) x k w
theorem dL.stable(k:Nat)(x:Rat×Bool)(cs:List Value):Stable (dL k x cs):=fun gs w w' ha h=>by
 obtain ⟨s,A,n,c,B,m,d,e,h⟩:=h;exact ⟨s,A,n,c,B,m,d,e,FV.stable _ _ _ _ gs w w' ha h⟩
theorem eG.stable(k:Nat)(x:Rat)(cs:List Value):Stable (eG k x cs):=fun gs w w' ha h=>by
 obtain ⟨s,A,n,c,B,m,d,e,h⟩:=h;exact ⟨s,A,n,c,B,m,d,e,FV.stable _ _ _ _ gs w w' ha h⟩
theorem nK.stable(k:Nat)(x:Int)(cs:List Value):Stable (nK k x cs):=fun gs w w' ha h=>by
 obtain ⟨s,A,n,c,e,h⟩:=h;exact ⟨s,A,n,c,e,FI.stable _ _ _ gs w w' ha h⟩
theorem eG.weak{k K:Nat}{x:Rat}{cs:List Value}{w:World}(h:eG k x cs w)(hk:k<=K):eG K x cs w:=by
 obtain ⟨s,A,n,c,B,m,d,e,h⟩:=h;exact ⟨s,A,n,c,B,m,d,e,h.weak hk⟩
theorem nK.weak{k K:Nat}{x:Int}{cs:List Value}{w:World}(h:nK k x cs w)(hk:k<=K):nK K x cs w:=by
 obtain ⟨s,A,n,c,e,h⟩:=h;exact ⟨s,A,n,c,e,h.weak hk⟩
theorem eG.zero(k:Nat)(w:World):eG k 0 [.bool false,.slice none 0 0,.slice none 0 0] w:=⟨_,_,_,_,_,_,_,rfl,FV.zero k w⟩
theorem nK.zero(k:Nat)(w:World):nK k 0 [.bool false,.slice none 0 0] w:=⟨_,_,_,_,rfl,(FI.zero w).weak (ahl _)⟩
def Fill{α:Type}(ys:List α)(F:Nat->α)(i n:Nat):Prop:=ys.length=n /\ ∀ j,j<i->ys[j]? = some (F j)
section
variable {α:Type} {ys:List α} {F:Nat->α} {i n:Nat}
theorem Fill.start(h:ys.length=n):Fill ys F 0 n:=⟨h,fun _ h=>absurd h (ah2 _)⟩
theorem Fill.step{x:α}(h:Fill ys F i n)(hi:i<n)(hx:x=F i):Fill (ys.set i x) F (i+1) n:=by
 refine ⟨by rw [ahv];exact h.1,fun j hj => ?_⟩
 by_cases e:i=j
 ·subst e hx;rw [aiR (by rw [h.1];exact hi)]
 ·rw [ai2 e];exact h.2 j af
theorem Fill.done'(h:Fill ys F i n)(e:i=n):ys=(List.range n).map F:=by
 subst e;apply aiw;intro j;rw [aiv]
 by_cases hj:j<i
 ·rw [h.2 j hj,List.getElem?_range hj];rfl
 ·rw [ahX (by rw [h.1];omega),ahX (by simp;omega)];rfl
theorem Fill.keep(h:Fill ys F i n)(hi:i<n)(_hx:ys[i]? = some (F i)):Fill ys F (i+1) n:=by
 refine ⟨h.1,fun j hj => ?_⟩
 by_cases e:i=j
 ·grind
 ·exact h.2 j af
theorem Fill.done(h:Fill ys F n n):ys=(List.range n).map F:=by
 apply aiw;intro j;rw [aiv]
 by_cases hj:j<n
 ·rw [h.2 j hj,List.getElem?_range hj];rfl
 ·rw [ahX (by rw [h.1];omega),ahX (by simp;omega)];rfl
end
section
variable {s:Bool} {A B:Option Addr} {n c m d k:Nat} {w:World}
theorem FV.EZ{q r:Rat}{K:Nat}(h:FV (.agg #[.bool s,.slice A n c,.slice B m d]) q k true w)(hq:q=r)(hk:k<=K):eG K r [.bool s,.slice A n c,.slice B m d] w:=⟨s,A,n,c,B,m,d,rfl,h.as hq hk⟩
theorem FI.EZ{x y:Int}{K:Nat}(h:FI (.agg #[.bool s,.slice A n c]) x k w)(hq:x=y)(hk:k<=K):nK K y [.bool s,.slice A n c] w:=⟨s,A,n,c,rfl,h.as hq hk⟩
end
end Lw
namespace bJ
open Go Go.RowKit Lw
section
variable {W0 w:World} {U:List Box} {Ps:List (World->Prop)} {vs:List Value} {k:Nat}
theorem St.zn{xs:List Rat}(HS:St W0 U Ps w)(p:Nat)(hp:Ps[p]? = some (EL (eG k) 3 vs xs))(j:Nat)(hj:j<xs.length) : ∃ (s:Bool) (A:Option Addr) (n c:Nat) (B:Option Addr) (m d:Nat),(vs.drop (j*3)).take 3=[.bool s,.slice A n c,.slice B m d]/\St W0 U (FV (.agg #[.bool s,.slice A n c,.slice B m d]) (el xs j) k true::Ps) w:=by
 obtain ⟨s,A,n,c,B,m,d,e,_⟩:=(HS.at_ p hp).2 j _ (nR hj);refine ⟨s,A,n,c,B,m,d,e,HS.jq fun w' ha => ?_⟩;obtain ⟨s',A',n',c',B',m',d',e',h'⟩:=(HS.dJ p hp w' ha).2 j _ (nR hj);grind
theorem St.kV{xs:List (Rat×Bool)}(HS:St W0 U Ps w)(p:Nat)(hp:Ps[p]? = some (EL (dL k) 3 vs xs))(j:Nat)(hj:j<xs.length) : ∃ (s:Bool) (A:Option Addr) (n c:Nat) (B:Option Addr) (m d:Nat),(vs.drop (j*3)).take 3=[.bool s,.slice A n c,.slice B m d]/\St W0 U (FV (.agg #[.bool s,.slice A n c,.slice B m d]) (el xs j).1 k (el xs j).2::Ps) w:=by
 obtain ⟨s,A,n,c,B,m,d,e,_⟩:=(HS.at_ p hp).2 j _ (nR hj);refine ⟨s,A,n,c,B,m,d,e,HS.jq fun w' ha => ?_⟩;obtain ⟨s',A',n',c',B',m',d',e',h'⟩:=(HS.dJ p hp w' ha).2 j _ (nR hj);grind
theorem St.Xz{α:Type}{R:α->List Value->World->Prop}{sz:Nat}{xs:List (List Value×List α)}(HS:St W0 U Ps w)(p:Nat)(hp:Ps[p]? = some (EL (RL R sz) 1 vs xs))(j:Nat)(hj:j<xs.length) : ∃ (A:Option Addr) (n c:Nat),(vs.drop (j*1)).take 1=[.slice A n c]/\St W0 U (FL R sz (.slice A n c) (el xs j).1 (el xs j).2::Ps) w:=by
 obtain ⟨A,n,c,e,_⟩:=(HS.at_ p hp).2 j _ (nR hj);refine ⟨A,n,c,e,HS.jq fun w' ha => ?_⟩;obtain ⟨A',n',c',e',h'⟩:=(HS.dJ p hp w' ha).2 j _ (nR hj);grind
end
end bJ
namespace Lw
open Go Go.RowKit bJ
theorem abB{α:Type}(F:Nat->α)(i:Nat){x:α}(hx:x=F i):(List.range i).map F++[x]=(List.range (i+1)).map F:=by
 rw [List.range_succ,List.map_append,hx];rfl
theorem ELQ.cells{k:Nat}{vs:List Value}{xs:List Rat}{w:World}(h:EL (eG k) 3 vs xs w):vs.all Value.oneCell'=true/\vs.all dO=true:=by
 have key : ∀ v∈vs,Value.oneCell' v=true/\dO v=true:=fun v hv=>by
  obtain ⟨i,hi⟩:=aiE hv;have hil:=(ahy.1 hi).1;rw [h.1] at hil;have hj:i/3<xs.length:=af;obtain ⟨s,A,n,c,B,m,d,e,_⟩:=h.2 (i/3) _ (ahR hj)
  have h2:((vs.drop (i/3*3)).take 3)[i%3]? = some v:=by
   grind
  rw [e] at h2;have h3:i%3<3:=af
  match i%3,h3,h2 with
  | 0,_,h2=>cases h2;exact ⟨rfl,rfl⟩
  | 1,_,h2=>cases h2;exact ⟨rfl,rfl⟩
  | 2,_,h2=>cases h2;exact ⟨rfl,rfl⟩
 grind
theorem ELI.cells{k:Nat}{vs:List Value}{xs:List Int}{w:World}(h:EL (nK k) 2 vs xs w):vs.all Value.oneCell'=true/\vs.all dO=true:=by
 have key : ∀ v∈vs,Value.oneCell' v=true/\dO v=true:=fun v hv=>by
  obtain ⟨i,hi⟩:=aiE hv;have hil:=(ahy.1 hi).1;rw [h.1] at hil;have hj:i/2<xs.length:=af;obtain ⟨s,A,n,c,e,_⟩:=h.2 (i/2) _ (ahR hj)
  have h2:((vs.drop (i/2*2)).take 2)[i%2]? = some v:=by
   grind
  rw [e] at h2;have h3:i%2<2:=af
  match i%2,h3,h2 with
  | 0,_,h2=>cases h2;exact ⟨rfl,rfl⟩
  | 1,_,h2=>cases h2;exact ⟨rfl,rfl⟩
 grind
section
variable (W0:World) (U:List Box) (Ps:List (World->Prop)) {α:Type} (R:α->List Value->World->Prop) (sz:Nat)
def DU(xs:List α)(u:Value)(w:World):Prop := ∃ (A:Option Addr) (n c:Nat) (vs:List Value),u = .slice A n c/\St W0 U (EL R sz vs xs::FL R sz (.slice A n c) vs xs::Ps) w
end
end Lw
namespace EF
open Lean.Grind
class SG(A:Type) extends CommRing A where
 sg:A->Int
class SR(A:Type) extends SG A where
 eP : ∀ a:A,sg (-a) = - sg a
 gZ : ∀ a b:A,sg (a*b)=sg a*sg b
 rU : ∀ a b:A,0<=sg a->0<=sg b->0<=sg (a+b)
 jR : ∀ a b:A,sg a=0->sg (a+b)=sg b
 CU:sg (1:A)=1
 dZ : ∀ a:A,sg a = -1\/sg a=0\/sg a=1
section
variable {A:Type} [SR A]
open SG (sg)
theorem IQ:sg (0:A)=0:=by
 have h:=SR.eP (0:A);rw [show -(0:A)=0 by grind] at h;omega
theorem IU{a b:A}(h:sg b=0):sg (a+b)=sg a:=by
 rw [show a+b=b+a by grind];exact SR.jR b a h
theorem mZ{a b:A}(ha:sg a=1)(hb:0<=sg b):sg (a+b)=1:=by
 have h:=SR.rU a b af hb;rcases SR.dZ (a+b) with h1 | h1 | h1
 ·omega
 ·have h2:=SR.jR (a+b) (-a) h1
  rw [show a+b + -a=b by grind,SR.eP] at h2;omega
 ·exact h1
theorem adr{a b:A}(ha:0<=sg a)(hb:sg b=1):sg (a+b)=1:=by
 rw [show a+b=b+a by grind];exact mZ hb ha
theorem uV{a b:A}(h:sg (a-b)=0):sg a=sg b:=by
 have:=SR.jR (a-b) b h
 rwa [show a-b+b=a by grind] at this
theorem CV{a b:A}(h:sg a=sg b):sg (a+b)=sg a:=by
 rcases SR.dZ a with ha | ha | ha
 ·have:=mZ (a := -a) (b := -b) (by rw [SR.eP,ha];rfl) (by rw [SR.eP,<- h,ha];decide)
  rw [show -a + -b = -(a+b) by grind,SR.eP] at this;omega
 ·rw [SR.jR a b ha,h]
 ·rw [mZ ha af,ha]
theorem uT(a:A):0<=sg (a*a):=by
 rw [SR.gZ];rcases SR.dZ a with h | h | h <;> rw [h] <;> decide
theorem uU{a:A}(h:sg a≠0):sg (a*a)=1:=by
 rw [SR.gZ];rcases SR.dZ a with h' | h' | h'
 ·rw [h'];rfl
 ·exact absurd h' h
 ·rw [h'];rfl
theorem qm{a b:A}(h:sg a=0):sg (a*b)=0:=by rw [SR.gZ,h,aiS]
theorem CW{a b:A}(h:sg b=0):sg (a*b)=0:=by rw [SR.gZ,h,aiT]
theorem rV{a b:A}(h:sg a=1):sg (a*b)=sg b:=by rw [SR.gZ,h,aiO]
theorem jy{a b:A}(h:sg b=1):sg (a*b)=sg a:=by rw [SR.gZ,h,Int.mul_one]
theorem IV{p q:A}(h:sg (p*p-q*q)=1):sg (p+q)=sg p/\sg p≠0:=by
 rw [show p*p-q*q=(p-q)*(p+q) by grind,SR.gZ] at h
 have h1:sg (p-q)=sg (p+q)/\sg (p+q)≠0:=by
  rcases SR.dZ (p-q) with a | a | a <;> rcases SR.dZ (p+q) with b | b | b <;> rw [a,b] at h <;> simp_all
 have h2:=CV h1.1;rw [show p-q+(p+q)=p+p by grind,CV (a:=p) rfl] at h2;exact ⟨af,af⟩
end
section
open SG (sg)
def nrm{A:Type}[CommRing A](d x y:A):A:=x*x-y*y*d
def es{A:Type}[SG A](d x y:A):Int :=
 if sg x=sg y*sg d\/sg y*sg d=0 then sg x else if sg x=0 then sg y*sg d else sg x*sg (nrm d x y)
variable {A:Type} [SR A] {d:A}
theorem XL(hd:sg d=0)(x y:A):es d x y=sg x:=by
 unfold es;rw [hd,if_pos (.inr (aiT _))]
theorem qU(hd:sg d=1)(x y:A):es d x y=if sg x=sg y\/sg y=0 then sg x else if sg x=0 then sg y else sg x*sg (nrm d x y):=by
 unfold es;rw [hd,Int.mul_one]
theorem o7{a b:A}(hd:0<=sg d)(ha:0<=sg a)(hb:sg b=1)(h:sg (a*a-b*b*d)=0)(x y:A):es d x y=sg (x*b+y*a):=by
 have hbb:sg (b*b)=1:=uU af;rcases SR.dZ d with h0 | h0 | h0
 ·omega
 ·have h1:sg (a*a)=0:=by
   have:=uV h;rw [this];exact CW h0
  have h2:sg a=0:=by
   rcases SR.dZ a with e | e | e
   ·omega
   ·exact e
   ·rw [uU af] at h1;omega
  rw [XL h0,IU (CW h2),jy hb]
 ·have h1:sg a=1:=by
   rcases SR.dZ a with e | e | e
   ·omega
   ·have:=uV h
    rw [qm e,rV hbb,h0] at this;omega
   ·exact e
  have hx:sg (x*b)=sg x:=jy hb;have hy:sg (y*a)=sg y:=jy h1;rw [qU h0]
  by_cases e1:sg x=sg y
  ·rw [if_pos (.inl e1),CV (by rw [hx,hy,e1]),hx]
  ·by_cases e2:sg y=0
   ·rw [if_pos (.inr e2),IU (by rw [hy,e2]),hx]
   ·rw [if_neg af]
    by_cases e3:sg x=0
    ·rw [if_pos e3,SR.jR _ _ (by rw [hx,e3]),hy]
    ·rw [if_neg e3]
     have e4:sg y = - sg x:=by rcases SR.dZ x with u | u | u <;> rcases SR.dZ y with v | v | v <;> omega
     have k1:sg (b*b*nrm d x y)=sg (nrm d x y):=rV hbb
     have k2:sg (b*b*nrm d x y)=sg ((x*b-y*a)*(x*b+y*a)):=by
      apply uV;rw [show b*b*nrm d x y-(x*b-y*a)*(x*b+y*a)=y*y*(a*a-b*b*d) by unfold nrm;grind];exact CW h
     have k3:sg (x*b-y*a)=sg x:=by
      rw [show x*b-y*a=x*b+(-y)*a by grind,CV (by rw [hx,jy h1,SR.eP];omega),hx]
     rw [<- k1,k2,SR.gZ,k3,<- Int.mul_assoc];rcases SR.dZ x with u | u | u
     ·rw [u];simp
     ·exact absurd u e3
     ·rw [u];simp
def wz(d:A):Prop:=sg d=1 /\ ∀ x y:A,sg (nrm d x y)=0->sg x=0/\sg y=0
theorem yx(hd:0<=sg d):(∃ a b:A,0<=sg a/\sg b=1/\sg (a*a-b*b*d)=0)\/wz d:=by
 by_cases h : ∃ a b:A,0<=sg a/\sg b=1/\sg (a*a-b*b*d)=0
 ·exact .inl h
 ·refine .inr ⟨?_,fun x y hn => ?_⟩
  ·rcases SR.dZ d with e | e | e
   ·omega
   ·refine absurd ⟨0,1,by rw [IQ];decide,SR.CU,?_⟩ h
    rw [show (0:A)*0-1*1*d = -d by grind,SR.eP,e];rfl
   ·exact e
  ·by_cases hy:sg y=0
   ·refine ⟨?_,hy⟩
    have h1:=uV hn;rw [qm (qm hy)] at h1
    by_cases hx:sg x=0
    ·exact hx
    ·rw [uU hx] at h1;omega
   ·exfalso
    have key : ∀ a b:A,a*a=x*x->b*b=y*y->0<=sg a->sg b=1->False:=fun a b ea eb h1 h2=>h ⟨a,b,h1,h2,by rw [ea,eb];exact hn⟩
    by_cases hx:0<=sg x <;> rcases SR.dZ y with u | u | u
    ·exact key x (-y) rfl (by grind) hx (by rw [SR.eP,u];rfl)
    ·exact hy u
    ·exact key x y rfl rfl hx u
    ·exact key (-x) (-y) (by grind) (by grind) (by rw [SR.eP];omega) (by rw [SR.eP,u];rfl)
    ·exact hy u
    ·exact key (-x) y (by grind) rfl (by rw [SR.eP];omega) u
theorem o5(hd:sg d=1){x y:A}(h:sg (nrm d x y)=1):es d x y=sg x/\sg x≠0:=by
 have hx:sg x≠0:=fun e=>by
  have h1:sg (nrm d x y)=sg (-(y*y*d)):=by
   unfold nrm;rw [show x*x-y*y*d=x*x + -(y*y*d) by grind];exact SR.jR _ _ (qm e)
  have h2:=uT y;rw [h,SR.eP,jy hd] at h1;omega
 refine ⟨?_,hx⟩;rw [qU hd]
 by_cases e1:sg x=sg y\/sg y=0
 ·rw [if_pos e1]
 ·rw [if_neg e1,if_neg hx,h,Int.mul_one]
theorem o6(hd:sg d=1){x y:A}(h:sg (nrm d x y) = -1):es d x y=sg y/\sg y≠0:=by
 have hy:sg y≠0:=fun e=>by
  have h1:sg (nrm d x y)=sg (x*x):=by
   unfold nrm;rw [show x*x-y*y*d=x*x + -(y*y*d) by grind];exact IU (by rw [SR.eP,qm (qm e)];rfl)
  have h2:=uT x;omega
 refine ⟨?_,hy⟩;rw [qU hd]
 by_cases e1:sg x=sg y
 ·rw [if_pos (.inl e1),e1]
 ·rw [if_neg af]
  by_cases e3:sg x=0
  ·rw [if_pos e3]
  ·rw [if_neg e3,h]
   rcases SR.dZ x with u | u | u <;> rcases SR.dZ y with v | v | v <;> omega
theorem lW(hd:wz d){x y:A}(h:sg (nrm d x y)=0):es d x y=0/\sg x=0/\sg y=0:=by
 obtain ⟨h1,h2⟩:=hd.2 x y h;refine ⟨?_,h1,h2⟩;rw [qU hd.1,if_pos (.inr h2),h1]
theorem XK(hd:wz d)(x y:A):es d x y=0->sg x=0/\sg y=0:=fun h=>by
 rcases SR.dZ (nrm d x y) with e | e | e
 ·have:=o6 hd.1 e;omega
 ·exact (lW hd e).2
 ·have:=o5 hd.1 e;omega
theorem Fa(hd:0<=sg d)(x y:A):es d x y = -1\/es d x y=0\/es d x y=1:=by
 rcases yx hd with ⟨a,b,h1,h2,h3⟩ | hn
 ·rw [o7 hd h1 h2 h3];exact SR.dZ _
 ·rcases SR.dZ (nrm d x y) with e | e | e
  ·rw [(o6 hn.1 e).1];exact SR.dZ _
  ·exact .inr (.inl (lW hn e).1)
  ·rw [(o5 hn.1 e).1];exact SR.dZ _
theorem E8(x y:A):es d (-x) (-y) = - es d x y:=by
 have hn:nrm d (-x) (-y)=nrm d x y:=by unfold nrm;grind
 unfold es;rw [hn,SR.eP,SR.eP]
 by_cases e1:sg x=sg y*sg d\/sg y*sg d=0
 ·rw [if_pos (by rw [ait];omega),if_pos e1]
 ·rw [if_neg (by rw [ait];omega),if_neg e1]
  by_cases e3:sg x=0
  ·rw [if_pos af,if_pos e3,ait]
  ·rw [if_neg af,if_neg e3,ait]
theorem AL(x y u v:A):nrm d (x*u+y*v*d) (x*v+y*u)=nrm d x y*nrm d u v:=by unfold nrm;grind
theorem XI(x y u v:A):es d (x*u+y*v*d) (x*v+y*u)=es d (u*x+v*y*d) (u*y+v*x):=by
 rw [show x*u+y*v*d=u*x+v*y*d by grind,show x*v+y*u=u*y+v*x by grind]
theorem MK(hd:wz d){x y u v:A}(h:sg (nrm d x y)=1):es d (x*u+y*v*d) (x*v+y*u)=es d x y*es d u v:=by
 have hN:=AL (d:=d) x y u v;have hx:=o5 hd.1 h;have hxx:=uU hx.2;rcases SR.dZ (nrm d u v) with e | e | e
 ·have hv:=o6 hd.1 e
  have h1:sg (nrm d (x*u+y*v*d) (x*v+y*u)) = -1:=by rw [hN,SR.gZ,h,e];rfl
  rw [(o6 hd.1 h1).1,hx.1,hv.1,<- SR.gZ];refine (IV ?_).1
  have h2:sg (d*(x*v*(x*v)-y*u*(y*u)))=1:=by
   rw [show d*(x*v*(x*v)-y*u*(y*u))=x*x * -(nrm d u v)+u*u*nrm d x y by unfold nrm;grind];refine mZ ?_ ?_
   ·rw [rV hxx,SR.eP,e];rfl
   ·rw [jy h];exact uT u
  rwa [rV hd.1] at h2
 ·obtain ⟨h1,h2,h3⟩:=lW hd e
  rw [h1,aiT];refine (lW hd ?_).1;rw [hN,SR.gZ,e,aiT]
 ·have hu:=o5 hd.1 e
  have h1:sg (nrm d (x*u+y*v*d) (x*v+y*u))=1:=by rw [hN,SR.gZ,h,e];rfl
  rw [(o5 hd.1 h1).1,hx.1,hu.1,<- SR.gZ];refine (IV ?_).1;rw [show x*u*(x*u)-y*v*d*(y*v*d)=u*u*nrm d x y+y*y*d*nrm d u v by unfold nrm;grind];refine mZ ?_ ?_
  ·rw [jy h];exact uU hu.2
  ·rw [jy e,jy hd.1];exact uT y
theorem XJ(hd:wz d){x y u v:A}(h:sg (nrm d x y) = -1)(e:sg (nrm d u v) = -1):es d (x*u+y*v*d) (x*v+y*u)=es d x y*es d u v:=by
 have hN:=AL (d:=d) x y u v;have hy:=o6 hd.1 h;have hv:=o6 hd.1 e;have h1:sg (nrm d (x*u+y*v*d) (x*v+y*u))=1:=by rw [hN,SR.gZ,h,e];rfl
 rw [(o5 hd.1 h1).1,hy.1,hv.1,<- SR.gZ,show x*u+y*v*d=y*v*d+x*u by grind]
 have h2:sg (y*v*d*(y*v*d)-x*u*(x*u))=1:=by
  rw [show y*v*d*(y*v*d)-x*u*(x*u) = -(nrm d x y)*(v*v*d)+x*x * -(nrm d u v) by unfold nrm;grind];refine mZ ?_ ?_
  ·rw [jy (by rw [jy hd.1];exact uU hv.2),SR.eP,h];rfl
  ·rw [jy (by rw [SR.eP,e];rfl)];exact uT x
 rw [(IV h2).1,jy hd.1]
theorem zu(hd:0<=sg d)(x y u v:A):es d (x*u+y*v*d) (x*v+y*u)=es d x y*es d u v:=by
 rcases yx hd with ⟨a,b,h1,h2,h3⟩ | hn
 ·rw [o7 hd h1 h2 h3,o7 hd h1 h2 h3,o7 hd h1 h2 h3,<- SR.gZ,<- rV (b:=(x*u+y*v*d)*b+(x*v+y*u)*a) h2]
  apply uV;rw [show b*((x*u+y*v*d)*b+(x*v+y*u)*a)-(x*b+y*a)*(u*b+v*a)=y*v * -(a*a-b*b*d) by grind];exact CW (by rw [SR.eP,h3];rfl)
 ·rcases SR.dZ (nrm d x y) with e | e | e
  ·rcases SR.dZ (nrm d u v) with f | f | f
   ·exact XJ hn e f
   ·rw [(lW hn f).1,aiT]
    refine (lW hn ?_).1;rw [AL,SR.gZ,f,aiT]
   ·rw [XI,MK hn f,Int.mul_comm]
  ·rw [(lW hn e).1,aiS]
   refine (lW hn ?_).1;rw [AL,SR.gZ,e,aiS]
  ·exact MK hn e
theorem ML(hd:0<=sg d){x y:A}(u v:A)(h:es d x y=0):es d (x+u) (y+v)=es d u v:=by
 rcases yx hd with ⟨a,b,h1,h2,h3⟩ | hn
 ·rw [o7 hd h1 h2 h3] at h ⊢
  rw [o7 hd h1 h2 h3,show (x+u)*b+(y+v)*a=x*b+y*a+(u*b+v*a) by grind,SR.jR _ _ h]
 ·obtain ⟨hx,hy⟩:=XK hn x y h
  have hn2:sg (nrm d (x+u) (y+v))=sg (nrm d u v):=by
   apply uV;rw [show nrm d (x+u) (y+v)-nrm d u v=x*(x+u+u)+y * -((y+v+v)*d) by unfold nrm;grind];rw [SR.jR _ _ (qm hx),qm hy]
  unfold es;rw [hn2,SR.jR _ _ hx,SR.jR _ _ hy]
theorem MJ(hd:0<=sg d){x y c:A}(h:0<=es d x y)(hc:sg c=1):es d (x+c) y=1:=by
 rcases yx hd with ⟨a,b,h1,h2,h3⟩ | hn
 ·rw [o7 hd h1 h2 h3] at h ⊢
  rw [show (x+c)*b+y*a=x*b+y*a+c*b by grind];exact adr h (by rw [jy h2,hc])
 ·have h1:=hn.1
  rcases SR.dZ (nrm d x y) with e | e | e
  ·obtain ⟨k1,k2⟩:=o6 h1 e
   have hy:sg y=1:=by rcases SR.dZ y with t | t | t <;> omega
   rcases SR.dZ (x+c) with f | f | f
   ·have hn2:sg (nrm d (x+c) y) = -1:=by
     have:sg (-(nrm d (x+c) y))=1:=by
      rw [show -(nrm d (x+c) y) = -(nrm d x y)+c*(-(x+c) + -x) by unfold nrm;grind];refine mZ (by rw [SR.eP,e];rfl) ?_;rw [rV hc];refine SR.rU _ _ (by rw [SR.eP,f];decide) ?_;have:sg (-(x+c)+c)=1:=mZ (by rw [SR.eP,f];rfl) af;rw [show -(x+c)+c = -x by grind] at this;omega
     rw [SR.eP] at this;omega
    rw [(o6 h1 hn2).1,hy]
   ·rw [qU h1,if_neg af,if_pos f,hy]
   ·rw [qU h1,if_pos (.inl af),f]
  ·obtain ⟨-,k1,k2⟩:=lW hn e
   rw [qU h1,if_pos (.inr k2),SR.jR _ _ k1,hc]
  ·obtain ⟨k1,k2⟩:=o5 h1 e
   have hx:sg x=1:=by rcases SR.dZ x with t | t | t <;> omega
   have hn2:sg (nrm d (x+c) y)=1:=by
    rw [show nrm d (x+c) y=nrm d x y+(x*c+x*c+c*c) by unfold nrm;grind];refine mZ e (SR.rU _ _ (SR.rU _ _ ?_ ?_) (uT c)) <;> (rw [rV hx];omega)
   rw [(o5 h1 hn2).1,mZ hx af]
theorem XH(hd:0<=sg d){x y u v:A}(h:0<=es d x y)(h':0<=es d u v):0<=es d (x+u) (y+v):=by
 by_cases e0:es d u v=0
 ·rw [show x+u=u+x by grind,show y+v=v+y by grind,ML hd x y e0];exact h
 rcases yx hd with ⟨a,b,h1,h2,h3⟩ | hn
 ·rw [o7 hd h1 h2 h3] at h h' ⊢
  rw [show (x+u)*b+(y+v)*a=x*b+y*a+(u*b+v*a) by grind];exact SR.rU _ _ h h'
 ·have e1:es d u v=1:=by rcases Fa hd u v with t | t | t <;> omega
  have hN:nrm d u v=u*u+v * -v*d:=by unfold nrm;grind
  have m1:=zu hd (x+u) (y+v) u (-v);have m2:=zu hd x y u (-v);have m3:=zu hd u v u (-v);rw [show u * -v+v*u=(0:A) by grind,<- hN] at m3
  have z3:es d (nrm d u v) 0=sg (nrm d u v):=by
   unfold es;rw [if_pos (.inr (by rw [IQ,aiS]))]
  rw [z3,e1,aiO] at m3;rw [show (x+u)*u+(y+v) * -v*d=x*u+y * -v*d+nrm d u v by unfold nrm;grind,show (x+u) * -v+(y+v)*u=x * -v+y*u by grind] at m1
  have f0:es d u (-v)≠0:=fun e=>by
   rw [e] at m3;have:=(lW hn m3).1;omega
  rcases Fa hd u (-v) with f | f | f
  ·have k:=MJ hd (x := -(x*u+y * -v*d)) (y := -(x * -v+y*u)) (c := -(nrm d u v)) (by rw [E8,m2,f];omega) (by rw [SR.eP,m3,f];rfl)
   rw [show -(x*u+y * -v*d) + -(nrm d u v) = -(x*u+y * -v*d+nrm d u v) by grind,E8,m1,f] at k;omega
  ·exact absurd f f0
  ·have k:=MJ hd (x:=x*u+y * -v*d) (y:=x * -v+y*u) (c:=nrm d u v) (by rw [m2,f];omega) (by rw [m3,f])
   rw [m1,f] at k;omega
end
@[ext] structure Ex (A:Type) where
 re:A
 im:A
section
variable {A:Type}
@[reducible] def nc [CommRing A] (n:Nat):A:=(Semiring.natCast (α:=A)).natCast n
@[reducible] def ic [CommRing A] (n:Int):A:=(Ring.intCast (α:=A)).intCast n
def wM[CommRing A](d:A)(a:Ex A):Nat->Ex A
 | 0=>⟨1,0⟩
 | n+1=>⟨(wM d a n).re*a.re+(wM d a n).im*a.im*d,(wM d a n).re*a.im+(wM d a n).im*a.re⟩
@[reducible] def XM [CommRing A] (d:A):CommRing (Ex A) where
 add a b:=⟨a.re+b.re,a.im+b.im⟩
 mul a b:=⟨a.re*b.re+a.im*b.im*d,a.re*b.im+a.im*b.re⟩
 neg a:=⟨-a.re,-a.im⟩
 sub a b:=⟨a.re-b.re,a.im-b.im⟩
 natCast:=⟨fun n=>⟨nc n,0⟩⟩
 ofNat n:=⟨⟨OfNat.ofNat n,0⟩⟩
 nsmul:=⟨fun n a=>⟨nc n*a.re,nc n*a.im⟩⟩
 npow:=⟨fun a n=>wM d a n⟩
 intCast:=⟨fun n=>⟨ic n,0⟩⟩
 zsmul:=⟨fun n a=>⟨ic n*a.re,ic n*a.im⟩⟩
 add_zero a:=Ex.ext (Semiring.add_zero a.re) (Semiring.add_zero a.im)
 add_comm a b:=Ex.ext (Semiring.add_comm a.re b.re) (Semiring.add_comm a.im b.im)
 add_assoc a b c:=Ex.ext (Semiring.add_assoc a.re b.re c.re) (Semiring.add_assoc a.im b.im c.im)
 mul_assoc a b c:=Ex.ext
  (show (a.re*b.re+a.im*b.im*d)*c.re+(a.re*b.im+a.im*b.re)*c.im*d=a.re*(b.re*c.re+b.im*c.im*d)+a.im*(b.re*c.im+b.im*c.re)*d by grind)
  (show (a.re*b.re+a.im*b.im*d)*c.im+(a.re*b.im+a.im*b.re)*c.re=a.re*(b.re*c.im+b.im*c.re)+a.im*(b.re*c.re+b.im*c.im*d) by grind)
 mul_one a:=Ex.ext (show a.re*1+a.im*0*d=a.re by grind) (show a.re*0+a.im*1=a.im by grind)
 one_mul a:=Ex.ext (show 1*a.re+0*a.im*d=a.re by grind) (show 1*a.im+0*a.re=a.im by grind)
 left_distrib a b c:=Ex.ext (show a.re*(b.re+c.re)+a.im*(b.im+c.im)*d=a.re*b.re+a.im*b.im*d+(a.re*c.re+a.im*c.im*d) by grind)
  (show a.re*(b.im+c.im)+a.im*(b.re+c.re)=a.re*b.im+a.im*b.re+(a.re*c.im+a.im*c.re) by grind)
 right_distrib a b c:=Ex.ext (show (a.re+b.re)*c.re+(a.im+b.im)*c.im*d=a.re*c.re+a.im*c.im*d+(b.re*c.re+b.im*c.im*d) by grind)
  (show (a.re+b.re)*c.im+(a.im+b.im)*c.re=a.re*c.im+a.im*c.re+(b.re*c.im+b.im*c.re) by grind)
 zero_mul a:=Ex.ext (show 0*a.re+0*a.im*d=0 by grind) (show 0*a.im+0*a.re=(0:A) by grind)
 mul_zero a:=Ex.ext (show a.re*0+a.im*0*d=0 by grind) (show a.re*0+a.im*0=(0:A) by grind)
 pow_zero _:=rfl
 pow_succ _ _:=rfl
 ofNat_succ n:=Ex.ext (Semiring.ofNat_succ (α:=A) n) (show (0:A)=0+0 by grind)
 ofNat_eq_natCast n:=Ex.ext (Semiring.ofNat_eq_natCast (α:=A) n) rfl
 nsmul_eq_natCast_mul n a:=Ex.ext (show nc n*a.re=nc n*a.re+0*a.im*d by grind) (show nc n*a.im=nc n*a.im+0*a.re by grind)
 neg_add_cancel a:=Ex.ext (Ring.neg_add_cancel a.re) (Ring.neg_add_cancel a.im)
 sub_eq_add_neg a b:=Ex.ext (Ring.sub_eq_add_neg a.re b.re) (Ring.sub_eq_add_neg a.im b.im)
 neg_zsmul n a:=Ex.ext (show ic (-n)*a.re = -(ic n*a.re) by rw [show (ic (-n):A) = -(ic n) from Ring.intCast_neg n];grind) (show ic (-n)*a.im = -(ic n*a.im) by rw [show (ic (-n):A) = -(ic n) from Ring.intCast_neg n];grind)
 zsmul_natCast_eq_nsmul n a:=Ex.ext (show ic ((n:Nat):Int)*a.re=nc n*a.re by rw [show (ic (n:Int):A)=nc n from Ring.intCast_natCast n]) (show ic ((n:Nat):Int)*a.im=nc n*a.im by rw [show (ic (n:Int):A)=nc n from Ring.intCast_natCast n])
 intCast_ofNat n:=Ex.ext (Ring.intCast_ofNat (α:=A) n) rfl
 intCast_neg n:=Ex.ext (Ring.intCast_neg (α:=A) n) (show (0:A) = -0 by grind)
 mul_comm a b:=Ex.ext (show a.re*b.re+a.im*b.im*d=b.re*a.re+b.im*a.im*d by grind) (show a.re*b.im+a.im*b.re=b.re*a.im+b.im*a.re by grind)
@[reducible] def MQ [SG A] (d:A):SG (Ex A) := { XM d with sg:=fun z=>es d z.re z.im }
@[reducible] def aeS [SR A] (d:A) (hd:0<=SG.sg d):SR (Ex A) :=
 { MQ d with
  eP:=fun a=>E8 a.re a.im
  gZ:=fun a b=>zu hd a.re a.im b.re b.im
  rU:=fun a b ha hb=>XH hd (x:=a.re) (y:=a.im) (u:=b.re) (v:=b.im) ha hb
  jR:=fun a b ha=>ML hd (x:=a.re) (y:=a.im) b.re b.im ha
  CU:=show es d 1 0=1 by unfold es;rw [if_pos (.inr (by rw [IQ,aiS]))];exact SR.CU
  dZ:=fun a=>Fa hd a.re a.im }
end
def gJ(q:Rat):Int:=if q<0 then -1 else if q=0 then 0 else 1
theorem QO(a b:Rat):a<b\/a=b\/b<a:=by grind
theorem abr(a b:Rat):gJ (a*b)=gJ a*gJ b:=by
 unfold gJ;rcases QO a 0 with ha | ha | ha <;> rcases QO b 0 with hb | hb | hb
 ·have:=Rat.mul_pos (a := -a) (b := -b) (by grind) (by grind)
  rw [if_neg (by grind),if_neg (by grind),if_pos ha,if_pos hb];rfl
 ·subst hb;simp
 ·have:=Rat.mul_pos (a := -a) (b:=b) (by grind) hb
  rw [if_pos (by grind),if_pos ha,if_neg (by grind),if_neg (by grind)];rfl
 ·subst ha;simp
 ·subst ha;simp
 ·subst ha;simp
 ·have:=Rat.mul_pos (a:=a) (b := -b) ha (by grind)
  rw [if_pos (by grind),if_neg (by grind),if_neg (by grind),if_pos hb];rfl
 ·subst hb;simp
 ·have:=Rat.mul_pos ha hb
  rw [if_neg (by grind),if_neg (by grind),if_neg (by grind),if_neg (by grind),if_neg (by grind),if_neg (by grind)];rfl
@[reducible] def QN:SG Rat := { (inferInstance:CommRing Rat) with sg:=gJ }
@[reducible] def afK:SR Rat :=
 { QN with
  eP:=fun a=>by show gJ (-a) = - gJ a;unfold gJ;grind
  gZ:=abr
  rU:=fun a b=>by show 0<=gJ a->0<=gJ b->0<=gJ (a+b);unfold gJ;grind
  jR:=fun a b=>by show gJ a=0->gJ (a+b)=gJ b;unfold gJ;grind
  CU:=by show gJ 1=1;decide +kernel
  dZ:=fun a=>by show gJ a = -1\/gJ a=0\/gJ a=1;unfold gJ;grind }
def Tw:Nat->Type
 | 0=>Rat
 | k+1=>Ex (Tw k)
@[reducible] def tw (D:(k:Nat)->Tw k):(k:Nat)->SG (Tw k)
 | 0=>QN
 | k+1=>@MQ (Tw k) (tw D k) (D k)
end EF
namespace EF
open Lean.Grind
section
variable (D:(k:Nat)->Tw k)
def G9:(k:Nat)->(Nat->Rat)->Tw k
 | 0,f=>f 0
 | k+1,f=>(⟨G9 k f,G9 k (fun i=>f (i+2^k))⟩:Ex (Tw k))
end
section
variable {α:Type} [OfNat α 0] [DecidableEq α]
def zeros(l:List α):Bool:=l.all (fun q=>decide (q=0))
end
def num(K:Nat)(l:List Rat):Tw K:=G9 K (fun i=>l.getD i 0)
end EF
namespace Go.Proofs.AZQ
open Go Go.RowKit Lw bJ
section
variable {W0 w:World} {U:List Box} {Ps:List (World->Prop)}
theorem vg{p:Nat->Prop}{i:Nat}(h : ∀ j,j<i->p j)(hi:p i) : ∀ j,j<i+1->p j:=fun j hj=>by
 rcases Nat.lt_or_eq_of_le (Nat.le_of_lt_succ hj) with e | e
 ·exact h j e
 ·rw [e];exact hi
theorem Sz(HS:St W0 U Ps w){A1:Option Addr}{n1 c1:Nat}{l1:List Nat}(f1:FW (.slice A1 n1 c1) l1 w)(hk:n1<=100000):bP Tryz.prog 140 [.slice A1 n1 c1] w (AnW W0 U Ps l1):=by
 obtain ⟨h1,h2,_⟩:=f1.rd;refine Calls.mono (clone_any A1 l1 n1 c1 _ w h1 (ahj _) h2 af) fun e w' hh => ?_;obtain ⟨A,c,rfl,hc,-,hr,hb⟩:=hh;exact ⟨_,rfl,A,n1,c,rfl,(HS.next hb).add (FW.stable _ _) ⟨A,n1,c,rfl,hr,h2,hc⟩⟩
theorem yZ{n:Nat}{x:Int}(h:n=0↔x=0):((n:Int)==0)=decide (x=0):=by
 grind
theorem AY(w:World):Sem.run Tryz.prog (Array.mapM (fun (f:Go.Field)=>Prod.mk f.offset <$> Go.sizeOf f.type) #[{ name:= "Neg",type:=4,offset:=0,embedded:=false,tag:= "",pkgPath:= "",byteOffset:=0 },{ name:= "Num",type:=38,offset:=1,embedded:=false,tag:= "",pkgPath:= "",byteOffset:=8 },{ name:= "Den",type:=38,offset:=2,embedded:=false,tag:= "",pkgPath:= "",byteOffset:=32 }]) w = .ok #[(0,1),(1,1),(2,1)] w:=ah
end
end Go.Proofs.AZQ
