/- Part of a proof, said shortly. -/
import Derived.WalkKit
import Derived.WalkSpells
import Derived.WalkLawsBesides
import Derived.Lib.Hide
import Derived.Deep.Draws
import Derived.Deep.QuietTactic
import Derived.BigQuiet
import Derived.Laws.Rows
import Derived.Laws.MakeOwn
import Derived.Handy
import Derived.Laws.BitsAllLaws
import Derived.Test.YtkcpphebkmnonaaGreatDoorChecked
import Derived.OwnWalk
import Derived.Test.YtkcpphebkmnonaaGreatDoorAlzc
namespace Lw
def val:List Nat->Nat
 | []=>0
 | x::l=>x+4294967296*val l
def bJ(l:List Nat):Prop := ∀ x∈l,x<4294967296
def dR(l:List Nat):Prop := ∀ x,l.getLast? = some x->x≠0
def dg(l:List Nat)(j:Nat):Nat:=l.getD j 0
def pw(k:Nat):Nat:=4294967296^k
def lo(l:List Nat)(k:Nat):Nat:=val (l.take k)
theorem kY:pw 0=1:=rfl
theorem dV(k:Nat):pw (k+1)=4294967296*pw k:=by unfold pw;rw [aoY];omega
theorem nK(a b:Nat):pw (a+b)=pw a*pw b:=by unfold pw;rw [apb]
theorem jf(k:Nat):0<pw k:=ao2 af
theorem dU{a b:Nat}(h:a<=b):pw a<=pw b:=ao8 af h
theorem Em:val []=0:=rfl
theorem kR(x:Nat)(l:List Nat):val (x::l)=x+4294967296*val l:=rfl
theorem val_append(a b:List Nat):val (a++b)=val a+pw a.length*val b:=by
 induction a with
 | nil=>simp [val,pw]
 | cons x l ih =>
  simp only [List.cons_append,kR,ih,ao5,dV];grind
theorem gV:bJ []:=fun _ h=>by cases h
theorem iH{x:Nat}{l:List Nat} : bJ (x::l)↔x<4294967296/\bJ l:=by simp [bJ]
theorem JV{a b:List Nat} : bJ (a++b)↔bJ a/\bJ b:=by
 simp only [bJ,ao6];grind
theorem xZ{l:List Nat}(h:bJ l)(k:Nat):bJ (l.take k):=fun x hx=>h x (List.mem_of_mem_take hx)
theorem JW{l:List Nat}(h:bJ l)(k:Nat):bJ (l.drop k):=fun x hx=>h x (aph hx)
theorem lq(n:Nat):bJ (List.replicate n 0):=fun x hx=>by have:=List.eq_of_mem_replicate hx;omega
theorem gB{l:List Nat}(h:bJ l)(k:Nat){v:Nat}(hv:v<4294967296):bJ (l.set k v):=fun x hx=>by
 rcases List.mem_or_eq_of_mem_set hx with h1 | h1
 ·exact h x h1
 ·omega
theorem fA{l:List Nat}(h:bJ l)(j:Nat):dg l j<4294967296:=by
 unfold dg;rw [apo];rcases aoM j l.length with hj | hj
 ·rw [aoX hj];exact h _ (ao9 hj)
 ·grind
theorem oP{l:List Nat}{j:Nat}(h:l.length<=j):dg l j=0:=by
 unfold dg;rw [apo,List.getElem?_eq_none h];rfl
theorem mX{l:List Nat}{j:Nat}(h:j<l.length):dg l j=l[j]:=by
 unfold dg;rw [apo,aoX h];rfl
theorem sG{l:List Nat}{j:Nat}(h:j<l.length):l[j]? = some (dg l j):=by rw [aoX h,mX h]
theorem Ce{l:List Nat}{j k:Nat}(h:j<k):dg (l.take k) j=dg l j:=by
 unfold dg;rw [apo,apo,apZ,if_pos h]
theorem yT(l:List Nat)(j k:Nat):dg (l.drop k) j=dg l (k+j):=by
 unfold dg;rw [apo,apo,aqj]
theorem iR{l:List Nat}{k:Nat}(v:Nat)(h:k<l.length)(j:Nat):dg (l.set k v) j=if j=k then v else dg l j:=by
 unfold dg;grind
theorem yU(n j:Nat):dg (List.replicate n 0) j=0:=by
 unfold dg;rw [apo,List.getElem?_replicate];split <;> rfl
theorem ae'(l:List Nat)(k:Nat)(h:k<l.length):l.take (k+1)=l.take k++[dg l k]:=by
 rw [aqk h,mX h]
theorem fH(l:List Nat):lo l 0=0:=by simp [lo,val]
theorem di{l:List Nat}{k:Nat}(h:l.length<=k):lo l k=val l:=by unfold lo;rw [apj h]
theorem dh(l:List Nat)(k:Nat):lo l (k+1)=lo l k+pw k*dg l k:=by
 rcases aoM k l.length with h | h
 ·unfold lo
  rw [ae' l k h,val_append,apc,apk (aoZ h)];simp [val]
 ·rw [di (Nat.le_succ_of_le h),di h,oP h];simp
theorem PG(l:List Nat){k j:Nat}(v:Nat)(h:j<=k):lo (l.set k v) j=lo l j:=by
 unfold lo;rw [List.take_set_of_le h]
theorem eu{l:List Nat}(h:bJ l):val l<pw l.length:=by
 induction l with
 | nil=>simp [val,pw]
 | cons x l ih =>
  rw [iH] at h;have:=ih h.2;simp only [kR,ao5,dV];omega
theorem iY{l:List Nat}(h:bJ l)(k:Nat):lo l k<pw k:=by
 have h1:=eu (xZ h k);have h2:pw (l.take k).length<=pw k:=dU (by rw [apc];omega);unfold lo;omega
theorem uw(l:List Nat)(k:Nat):val l=lo l k+pw (min k l.length)*val (l.drop k):=by
 unfold lo;have:=val_append (l.take k) (l.drop k)
 simp_all
theorem JO(n:Nat):val (List.replicate n 0)=0:=by
 induction n with
 | zero=>rfl
 | succ n ih=>rw [List.replicate_succ,kR,ih]
theorem JP(l:List Nat)(x:Nat):val (l++[x])=val l+pw l.length*x:=by rw [val_append];simp [val]
theorem xP:dR []:=fun x h=>by cases h
theorem JH{x:Nat}{l:List Nat}(h:dR (x::l)):dR l:=by
 intro y hy;refine h y ?_;grind
theorem Ed{l:List Nat}(h:dR l)(hn:l≠[]):0<val l:=by
 induction l with
 | nil=>exact absurd rfl hn
 | cons x l ih =>
  rw [kR]
  cases l with
  | nil =>
   have:=h x rfl;omega
  | cons y l =>
   have:=ih (JH h) (by simp);omega
theorem Yp{a b:List Nat}(ha:bJ a)(ta:dR a)(hb:bJ b)(tb:dR b)(h:val a=val b):a=b:=by
 induction a generalizing b with
 | nil =>
  cases b with
  | nil=>rfl
  | cons y b=>have:=Ed tb (by simp);rw [Em] at h;omega
 | cons x a ih =>
  cases b with
  | nil=>have:=Ed ta (by simp);rw [Em] at h;omega
  | cons y b =>
   rw [iH] at ha hb;rw [kR,kR] at h;have h1:x=y:=af;have h2:val a=val b:=af;rw [h1,ih ha.2 (JH ta) hb.2 (JH tb) h2]
def sH:Nat->Nat->List Nat
 | 0,_=>[]
 | f+1,n=>if n=0 then [] else n%4294967296::sH f (n/4294967296)
def bn(n:Nat):List Nat:=sH n n
theorem Gh(f n:Nat)(h:n<=f):val (sH f n)=n/\bJ (sH f n)/\dR (sH f n):=by
 induction f generalizing n with
 | zero =>
      obtain rfl:n=0:=af;exact ⟨rfl,gV,xP⟩
 | succ f ih =>
  unfold sH
  by_cases h0:n=0
  ·rw [if_pos h0];exact ⟨h0.symm,gV,xP⟩
  ·rw [if_neg h0]
   have hd:n/4294967296<=f:=af;obtain ⟨h1,h2,h3⟩:=ih _ hd;refine ⟨?_,?_,?_⟩
   ·rw [kR,h1];omega
   ·rw [iH];exact ⟨aoN _ af,h2⟩
   ·intro x hx
    cases hc:sH f (n/4294967296) with
    | nil =>
     rw [hc] at hx h1;rw [Em] at h1;grind
    | cons y l =>
     rw [hc] at hx h3;exact h3 x hx
theorem bM(n:Nat):val (bn n)=n:=(Gh n n (aoG _)).1
theorem dK(n:Nat):bJ (bn n):=(Gh n n (aoG _)).2.1
theorem fG(n:Nat):dR (bn n):=(Gh n n (aoG _)).2.2
theorem uS{l:List Nat}(h:bJ l)(t:dR l):bn (val l)=l:=Yp (dK _) (fG _) h t (bM _)
theorem iL{n:Nat} : bn n=[]↔n=0:=⟨fun h=>by have:=bM n;rw [h] at this;exact this.symm,fun h=>by rw [h];rfl⟩
theorem JI{l:List Nat}(h:dg l (l.length-1)≠0):dR l:=by
 intro x hx;unfold dg at h;grind
theorem MX{l:List Nat}(hw:bJ l)(h:dg l (l.length-1)≠0):bn (val l)=l:=uS hw (JI h)
theorem TR{l:List Nat}(hn:0<l.length)(h:dg l (l.length-1)=0):val (l.take (l.length-1))=val l:=by
 have h1:=dh l (l.length-1);rw [h,Nat.sub_add_cancel af,di (aoG _)] at h1;unfold lo at h1;omega
theorem nH{n k:Nat}(h:(bn n).length<=k):n<pw k:=by
 have:=eu (dK n);rw [bM] at this;exact aoK this (dU h)
theorem vY{l:List Nat}(t:dR l)(h:l≠[]):pw (l.length-1)<=val l:=by
 have hl:0<l.length:=by grind
 have h1:=dh l (l.length-1);rw [Nat.sub_add_cancel hl,di (aoG _)] at h1
 have h2:dg l (l.length-1)≠0:=by
  refine t _ ?_;rw [ap0,sG af]
 have h3:pw (l.length-1)*1<=pw (l.length-1)*dg l (l.length-1):=aoS _ af;omega
theorem fD{n k:Nat}(h:n<pw k):(bn n).length<=k:=by
 rcases aoM k (bn n).length with h1 | h1
 ·exfalso
  have h2:=vY (fG n) (by intro e;rw [e] at h1;simp at h1);rw [bM] at h2;have h3:pw k<=pw ((bn n).length-1):=dU af;omega
 ·exact h1
theorem zV{a b:List Nat}(ha:bJ a)(tb:dR b)(h:a.length<b.length):val a<val b:=by
 have h1:=eu ha;have h2:=vY tb (by intro e;rw [e] at h;simp at h);have h3:pw a.length<=pw (b.length-1):=dU af;omega
end Lw
namespace Lw
open Go Go.RowKit
def Rd(w:World)(B:Nat)(A:Option Addr)(ns:List Nat):Prop :=
 bJ ns/\(0<ns.length -> ∃ b off,A=some ⟨b,off,none⟩/\b<B /\ ∀ j,j<ns.length->w.cell? ⟨b,off+j,none⟩=some (.int .u32 (dg ns j:Int)))
section
variable {w w':World} {B B':Nat} {A:Option Addr} {ns:List Nat}
theorem Rd.bQ(h:Rd w B A ns):bJ ns:=h.1
theorem Rd.at_(h:Rd w B A ns){k:Nat}(hk:k<ns.length) :
  ∃ b off,A=some ⟨b,off,none⟩/\b<B/\w.cell? ⟨b,off+k,none⟩=some (.int .u32 (dg ns k:Int))/\dg ns k<4294967296:=by
 obtain ⟨b,off,hA,hb,hc⟩:=h.2 af;exact ⟨b,off,hA,hb,hc k hk,fA h.1 k⟩
theorem Rd.nil_(w:World)(B:Nat)(A:Option Addr):Rd w B A []:=⟨gV,fun h=>absurd h (by simp)⟩
theorem Rd.keep(h:Rd w B A ns)(hk : ∀ p:Addr,p.block<B->w'.cell? p=w.cell? p):Rd w' B A ns :=
 ⟨h.1,fun hn=>by
  obtain ⟨b,off,hA,hb,hc⟩:=h.2 hn;exact ⟨b,off,hA,hb,fun j hj=>(hk _ (by exact hb)).trans (hc j hj)⟩⟩
theorem Rd.more(h:Rd w B A ns)(hB:B<=B'):Rd w B' A ns :=
 ⟨h.1,fun hn=>by
  obtain ⟨b,off,hA,hb,hc⟩:=h.2 hn;exact ⟨b,off,hA,af,hc⟩⟩
theorem Rd.below(h:Rd w B A ns)(hb:Below B w w'):Rd w' B A ns:=h.keep fun _ hp=>hb.cell hp
theorem Rd.drew(h:Rd w B A ns):Rd w.drew B A ns:=h
theorem Rd.drewN(h:Rd w B A ns)(k:Nat):Rd (w.drewN k) B A ns:=h
theorem Rd.alloc(h:Rd w B A ns)(hB:B<=w.heap.size)(o:Obj):Rd (w.alloc o) B A ns:=h.keep fun p hp=>World.cell?_alloc_lt w o p af
theorem Rd.setCell(h:Rd w B A ns){p:Addr}(hB:B<=p.block)(u:Value):Rd (w.setCell p u) B A ns :=
 h.keep fun q hq=>World.cell?_setCell_other w p q u (fun e=>by subst e;omega)
theorem Rd.take(h:Rd w B A ns)(k:Nat):Rd w B A (ns.take k) :=
 ⟨xZ h.1 k,fun hn=>by
  rw [apc] at hn;obtain ⟨b,off,hA,hb,hc⟩:=h.2 af;refine ⟨b,off,hA,hb,fun j hj => ?_⟩;rw [apc] at hj;rw [Ce af];exact hc j af⟩
theorem Rd.drop(h:Rd w B A ns){k:Nat}{b off:Nat}(hA:A=some ⟨b,off,none⟩):Rd w B (some ⟨b,off+k,none⟩) (ns.drop k) :=
 ⟨JW h.1 k,fun hn=>by
  rw [apu] at hn;obtain ⟨b',off',hA',hb,hc⟩:=h.2 af;rw [hA] at hA'
  injection hA' with e
  injection e with e1 e2;subst e1 e2;refine ⟨b,off+k,rfl,hb,fun j hj => ?_⟩;rw [apu] at hj;rw [yT,Nat.add_assoc];exact hc (k+j) af⟩
theorem MZ{l:List Nat}(h:bJ l):bn (val l)=l.take (bn (val l)).length:=by
 have hlen:(bn (val l)).length<=l.length:=fD (eu h);generalize hm:(bn (val l)).length=m at *;have h1:=uw l m;rw [apk hlen] at h1
 have hlt:val l<pw m:=by
  have:=eu (dK (val l));rw [bM,hm] at this;omega
 have h0:val (l.drop m)=0:=by
  rcases aoT (val (l.drop m)) with h0 | h0
  ·exact h0
  ·have:=aoS (pw m) h0
   omega
 rw [h0,Nat.mul_zero,apv] at h1
 have ht:dR (l.take m):=by
  intro x hx hx0
  have hm0:0<m:=by
   grind
  have e1:(l.take m).length=m:=by grind
  have e2:dg (l.take m) (m-1)=0:=by
   unfold dg;grind
  have e3:=TR (l:=l.take m) af (by rw [e1];exact e2);rw [e1,ap',apk af] at e3;have e4:=eu (xZ h (m-1));have e5:(l.take (m-1)).length=m-1:=by grind
  rw [e5,e3] at e4;have e6:=fD (n:=val l) (k:=m-1) (by rw [h1];exact e4);omega
 rw [h1];exact uS (xZ h m) ht
theorem Rd.bn(h:Rd w B A ns):Rd w B A (bn (val ns)):=by
 rw [MZ h.1];exact h.take _
def arr(ns:List Nat):List Value:=ns.map fun n:Nat=>Value.int .u32 (n:Int)
theorem jS(ns:List Nat):(arr ns).length=ns.length:=by simp [arr]
theorem BN(ns:List Nat)(j:Nat)(h:j<ns.length):(arr ns)[j]? = some (.int .u32 (dg ns j:Int)):=by
 simp [arr,sG h]
theorem LJ(ns:List Nat)(j v:Nat):(arr ns).set j (.int .u32 (v:Int))=arr (ns.set j v):=by
 simp [arr,List.map_set]
def bF(w:World)(g:Nat)(t:TypeId)(ns:List Nat):Prop := ∃ rest:List Value,w.heap[g]? = some (.cells (arr ns++rest).toArray t (0,0))
variable {g:Nat} {t:TypeId}
theorem bF.lt(h:bF w g t ns):g<w.heap.size:=by
 rcases aoM g w.heap.size with hlt | hge
 ·exact hlt
 ·obtain ⟨rest,h⟩:=h;rw [aqa hge] at h;cases h
theorem bF.cell(h:bF w g t ns){i:Nat}(hi:i<ns.length):w.cell? ⟨g,i,none⟩=some (.int .u32 (dg ns i:Int)):=by
 obtain ⟨rest,h⟩:=h;rw [cell_of_row w g i _ t (0,0) h];simp only [List.getElem?_toArray];rw [List.getElem?_append_left (by rw [jS];exact hi),BN ns i hi]
theorem bF.frozen(h:bF w g t ns)(i:Nat):w.frozen? ⟨g,i,none⟩=false:=by
 obtain ⟨rest,h⟩:=h;simp [World.frozen?,h]
theorem bF.drew(h:bF w g t ns):bF w.drew g t ns:=h
theorem bF.drewN(h:bF w g t ns)(n:Nat):bF (w.drewN n) g t ns:=h
theorem bF.of_same(h:bF w g t ns)(e:w'.heap[g]? = w.heap[g]?):bF w' g t ns:=by obtain ⟨rest,h⟩:=h;exact ⟨rest,e.trans h⟩
theorem bF.alloc(h:bF w g t ns)(o:Obj):bF (w.alloc o) g t ns:=h.of_same (Below.heap_alloc w o g h.lt)
theorem bF.nT(h:bF w g t ns){i:Nat}(v:Nat)(hi:i<ns.length):bF (w.setCell ⟨g,i,none⟩ (.int .u32 (v:Int))) g t (ns.set i v):=by
 obtain ⟨rest,h⟩:=h;refine ⟨rest,?_⟩;rw [<- LJ,<- List.set_append_left _ _ (by rw [jS];exact hi)];simp [World.setCell,apE,h]
theorem bF.far(h:bF w g t ns){p:Addr}(hp:g≠p.block)(u:Value):bF (w.setCell p u) g t ns:=h.of_same (Below.heap_setCell w p u g hp)
theorem bF.below{B:Nat}(h:bF w g t ns)(hb:Below B w w')(hg:g<B):bF w' g t ns:=h.of_same (hb.block g hg)
theorem bF.rd(h:bF w g t ns)(hw:bJ ns):Rd w w.heap.size (some ⟨g,0,none⟩) ns :=
 ⟨hw,fun _=>⟨g,0,rfl,h.lt,fun j hj=>by rw [apw];exact h.cell hj⟩⟩
theorem bF.ac0(h:bF w g t ns)(hw:bJ ns)(k m:Nat)(hm:k+m<=ns.length):Rd w w.heap.size (some ⟨g,k,none⟩) ((ns.drop k).take m) :=
 ⟨xZ (JW hw k) m,fun _=>⟨g,k,rfl,h.lt,fun j hj=>by
  rw [apc,apu] at hj;rw [Ce af,yT];exact h.cell af⟩⟩
end
end Lw
namespace Lw
open Go
theorem DD{i a b:Nat}(h:b<2^i):a*2^i ||| b=a*2^i+b:=by
 rw [aoR];exact (Nat.two_pow_add_eq_or_of_lt h a).symm
theorem IG{i:Nat}{a b:Nat}(h:b<2^i)(h2:a*2^i<18446744073709551616)(hi:2^i<18446744073709551616) :
  bits .or .u64 ((a:Int)*(2^i:Nat)) (b:Int)=((a*2^i+b:Nat):Int):=by
 have:=u64_or_nat (a*2^i) b h2 af;rw [DD h] at this;rw [<- this,apd]
theorem tY{x y:Nat}(_hx:x<4294967296)(hy:y<4294967296):bits .or .u64 ((x:Int)*4294967296) (y:Int)=((y+4294967296*x:Nat):Int):=by
 have:=IG (i:=32) (a:=x) (b:=y) (by simpa using hy) (by simp;omega) (by simp);grind
theorem V9(a:Nat):a &&& 4294967295=a%4294967296:=by
 have:=Nat.and_two_pow_sub_one_eq_mod a 32
 simpa using this
theorem FY{a:Nat}(h:a<18446744073709551616):bits .and .u64 (a:Int) 4294967295=((a%4294967296:Nat):Int):=by
 have:=u64_and_nat a 4294967295 h af;rw [V9] at this;exact this
end Lw
namespace Lw
open Go Go.RowKit
def Two(w:World)(g:Nat)(t:TypeId)(x y:Value):Prop:=w.heap[g]? = some (.cells #[x,y] t (0,0))
section
variable {w w':World} {g:Nat} {t:TypeId} {x y:Value}
theorem Two.lt(h:Two w g t x y):g<w.heap.size:=by
 rcases aoM g w.heap.size with hlt | hge
 ·exact hlt
 ·unfold Two at h;rw [aqa hge] at h;cases h
theorem Two.new(w:World)(t:TypeId)(x y:Value):Two (w.alloc (.cells #[x,y] t)) w.heap.size t x y:=heap_alloc_new w _
theorem Two.alloc(h:Two w g t x y)(o:Obj):Two (w.alloc o) g t x y:=(Below.heap_alloc w o g h.lt).trans h
theorem Two.drew(h:Two w g t x y):Two w.drew g t x y:=h
theorem Two.drewN(h:Two w g t x y)(n:Nat):Two (w.drewN n) g t x y:=h
theorem Two.below{B:Nat}(h:Two w g t x y)(hb:Below B w w')(hg:g<B):Two w' g t x y:=(hb.block g hg).trans h
theorem Two.far(h:Two w g t x y){p:Addr}(hp:g≠p.block)(u:Value):Two (w.setCell p u) g t x y:=(Below.heap_setCell w p u g hp).trans h
theorem Two.facts(h:Two w g t x y):w.cell? ⟨g,0,none⟩=some x/\w.cell? ⟨g,1,none⟩=some y/\w.frozen? ⟨g,0,none⟩=false/\w.frozen? ⟨g,1,none⟩=false:=by
 unfold Two at h;exact ⟨by rw [cell_of_row w g 0 _ t (0,0) h];rfl,by rw [cell_of_row w g 1 _ t (0,0) h];rfl,by simp [World.frozen?,h],by simp [World.frozen?,h]⟩
theorem Two.put(h:Two w g t x y)(x' y':Value):Two ((w.setCell ⟨g,0,none⟩ x').setCell ⟨g,1,none⟩ y') g t x' y':=by
 have h1:Two (w.setCell ⟨g,0,none⟩ x') g t x' y:=by
  unfold Two at h ⊢;simp [World.setCell,apE,h]
 unfold Two at h1 ⊢;generalize w.setCell ⟨g,0,none⟩ x'=v at *;simp [World.setCell,apE,h1]
end
section
variable {w w1:World} {t t' t'':TypeId} {x y x' y' x'' mP:Value}
theorem box1(hb:Below (w.alloc (.cells #[x,y] t)).heap.size (w.alloc (.cells #[x,y] t)) w1) :
  Two w1 w.heap.size t x y/\w.heap.size+1<=w1.heap.size/\Below w.heap.size w w1 :=
 ⟨(Two.new w t x y).below hb (by simp),by have:=hb.size;simpa using this,((Below.refl _ _).alloc (aoG _) _).trans (hb.mono (by simp))⟩
theorem bV(hb:Below ((w.alloc (.cells #[x,y] t)).alloc (.cells #[x',y'] t')).heap.size ((w.alloc (.cells #[x,y] t)).alloc (.cells #[x',y'] t')) w1) :
  Two w1 w.heap.size t x y/\Two w1 (w.heap.size+1) t' x' y'/\w.heap.size+2<=w1.heap.size/\Below w.heap.size w w1:=by
 refine ⟨((Two.new w t x y).alloc _).below hb (by simp;omega),?_,by have:=hb.size;simpa using this,?_⟩
 ·have h2:=(Two.new (w.alloc (.cells #[x,y] t)) t' x' y').below hb (by simp)
  simpa using h2
 ·exact (((Below.refl _ _).alloc (aoG _) _).alloc (by simp) _).trans (hb.mono (by simp;omega))
theorem dF(hb:Below (((w.alloc (.cells #[x,y] t)).alloc (.cells #[x',y'] t')).alloc (.cells #[x'',mP] t'')).heap.size (((w.alloc (.cells #[x,y] t)).alloc (.cells #[x',y'] t')).alloc (.cells #[x'',mP] t'')) w1) :
  Two w1 w.heap.size t x y/\Two w1 (w.heap.size+1) t' x' y'/\Two w1 (w.heap.size+2) t'' x'' mP/\w.heap.size+3<=w1.heap.size/\Below w.heap.size w w1:=by
 refine ⟨(((Two.new w t x y).alloc _).alloc _).below hb (by simp;omega),?_,?_,by have:=hb.size;simpa using this,?_⟩
 ·have h2:=((Two.new (w.alloc (.cells #[x,y] t)) t' x' y').alloc (.cells #[x'',mP] t'')).below hb (by simp)
  simpa using h2
 ·have h2:=(Two.new ((w.alloc (.cells #[x,y] t)).alloc (.cells #[x',y'] t')) t'' x'' mP).below hb (by simp)
  simpa using h2
 ·exact ((((Below.refl _ _).alloc (aoG _) _).alloc (by simp) _).alloc (by simp;omega) _).trans (hb.mono (by simp;omega))
end
theorem Rd.vT{w:World}{B g n c:Nat}{t:TypeId}{s:Bool}{A A':Option Addr}{ns:List Nat}(h:Rd w B A ns)(h2:Two w g t (.bool s) (.slice A' n c)){b off:Nat}(hn:0<ns.length)(hA:A=some ⟨b,off,none⟩):b≠g:=by
 rintro rfl;obtain ⟨b',off',hA',hb,hc⟩:=h.2 hn;rw [hA] at hA'
 injection hA' with e
 injection e with e1 e2;subst e1 e2;have h0:=hc 0 hn;unfold Two at h2;rw [cell_of_row w b _ _ t (0,0) h2] at h0;grind
theorem Rd.Jy{w:World}{B g n c i:Nat}{t:TypeId}{s:Bool}{A A':Option Addr}{ns:List Nat}(h:Rd w B A ns)(h2:Two w g t (.bool s) (.slice A' n c))(u:Value):Rd (w.setCell ⟨g,i,none⟩ u) B A ns :=
 ⟨h.1,fun hn=>by
  obtain ⟨b,off,hA,hb,hc⟩:=h.2 hn;have hne:=h.vT h2 hn hA;refine ⟨b,off,hA,hb,fun j hj => ?_⟩;rw [<- hc j hj];exact World.cell?_setCell_other w _ _ u (fun e=>hne (by injection e with e1;first | exact e1 | exact e1.symm))⟩
theorem Rd.gG{w:World}{B g n c:Nat}{t:TypeId}{s:Bool}{A A':Option Addr}{ns:List Nat}(h:Rd w B A ns)(h2:Two w g t (.bool s) (.slice A' n c))(s':Bool)(v:Value) :
  Rd ((w.setCell ⟨g,0,none⟩ (.bool s')).setCell ⟨g,1,none⟩ v) B A ns:=by
 have h3:Two (w.setCell ⟨g,0,none⟩ (.bool s')) g t (.bool s') (.slice A' n c):=by
  unfold Two at h2 ⊢;simp [World.setCell,apE,h2]
 exact (h.Jy h2 _).Jy h3 _
theorem bK{B:Nat}{a b c:World}(h:Below B a b)(h':Below b.heap.size b c)(hB:B<=a.heap.size):Below B a c:=h.trans (h'.mono (aoH hB h.size))
theorem tV{W w1:World}(h:Below W.drew.heap.size W.drew w1):Below W.heap.size W w1:=bK (Below.refl _ W).drew h (aoG _)
theorem tX{W w1 w2:World}(h:Below W.heap.size W w1)(h':Below w1.heap.size w1 w2):Below W.heap.size W w2:=bK h h' (aoG _)
theorem Two.next{W W':World}{g:Nat}{t:TypeId}{x y:Value}(h:Two W g t x y)(hb:Below W.heap.size W W'):Two W' g t x y:=h.below hb h.lt
theorem Rd.next{W W':World}{B:Nat}{A:Option Addr}{ns:List Nat}(h:Rd W B A ns)(hb:Below W.heap.size W W')(hB:B<=W.heap.size):Rd W' B A ns:=h.below (hb.mono hB)
theorem pK{w W:World}{H g g' B B' n n' c c':Nat}{t:TypeId}{a a':Bool}{X X' A A':Option Addr}{l l':List Nat}(s s':Bool)(v v':Value)(h1:Two W g t (.bool a) (.slice X n c))(h2:Two W g' t (.bool a') (.slice X' n' c'))(hne:g≠g')(r:Rd W B A l)(r':Rd W B' A' l')(hb:Below H w W)(hg:H<=g)(hg':H<=g') :
  Two ((((W.setCell ⟨g,0,none⟩ (.bool s)).setCell ⟨g,1,none⟩ v).setCell ⟨g',0,none⟩ (.bool s')).setCell ⟨g',1,none⟩ v') g t (.bool s) v /\
  Two ((((W.setCell ⟨g,0,none⟩ (.bool s)).setCell ⟨g,1,none⟩ v).setCell ⟨g',0,none⟩ (.bool s')).setCell ⟨g',1,none⟩ v') g' t (.bool s') v' /\
  Rd ((((W.setCell ⟨g,0,none⟩ (.bool s)).setCell ⟨g,1,none⟩ v).setCell ⟨g',0,none⟩ (.bool s')).setCell ⟨g',1,none⟩ v') B A l /\
  Rd ((((W.setCell ⟨g,0,none⟩ (.bool s)).setCell ⟨g,1,none⟩ v).setCell ⟨g',0,none⟩ (.bool s')).setCell ⟨g',1,none⟩ v') B' A' l' /\
  Below H w ((((W.setCell ⟨g,0,none⟩ (.bool s)).setCell ⟨g,1,none⟩ v).setCell ⟨g',0,none⟩ (.bool s')).setCell ⟨g',1,none⟩ v'):=by
 have k2:=(h2.far (p:=⟨g,0,none⟩) (Ne.symm hne) (.bool s)).far (p:=⟨g,1,none⟩) (Ne.symm hne) v
 exact ⟨((h1.put (.bool s) v).far (p:=⟨g',0,none⟩) hne _).far (p:=⟨g',1,none⟩) hne _,k2.put _ _,(r.gG h1 s v).gG k2 s' v',(r'.gG h1 s v).gG k2 s' v',
  (((hb.setCell hg _).setCell hg _).setCell hg' _).setCell hg' _⟩
theorem Two.lM{W:World}{g g1 g2:Nat}{t:TypeId}{x y:Value}(h:Two W g t x y)(h1:g≠g1)(h2:g≠g2)(u0 u1 u2 u3:Value) :
  Two ((((W.setCell ⟨g1,0,none⟩ u0).setCell ⟨g1,1,none⟩ u1).setCell ⟨g2,0,none⟩ u2).setCell ⟨g2,1,none⟩ u3) g t x y :=
 (((h.far (p:=⟨g1,0,none⟩) h1 _).far (p:=⟨g1,1,none⟩) h1 _).far (p:=⟨g2,0,none⟩) h2 _).far (p:=⟨g2,1,none⟩) h2 _
theorem WM{w w1:World}{t t' t'' t3:TypeId}{x y x' y' x'' mP x3 y3:Value}(hb:Below ((((w.alloc (.cells #[x,y] t)).alloc (.cells #[x',y'] t')).alloc (.cells #[x'',mP] t'')).alloc (.cells #[x3,y3] t3)).heap.size ((((w.alloc (.cells #[x,y] t)).alloc (.cells #[x',y'] t')).alloc (.cells #[x'',mP] t'')).alloc (.cells #[x3,y3] t3)) w1) :
  Two w1 w.heap.size t x y/\Two w1 (w.heap.size+1) t' x' y'/\Two w1 (w.heap.size+1+1) t'' x'' mP/\Two w1 (w.heap.size+1+1+1) t3 x3 y3/\w.heap.size+4<=w1.heap.size/\Below w.heap.size w w1:=by
 have hb':=((Below.refl _ (((w.alloc (.cells #[x,y] t)).alloc (.cells #[x',y'] t')).alloc (.cells #[x'',mP] t''))).alloc (aoG _) (.cells #[x3,y3] t3)).trans (hb.mono (by simp));obtain ⟨a1,a2,a3,_,a5⟩:=dF hb';refine ⟨a1,a2,a3,?_,by have:=hb.size;simpa using this,a5⟩;have h2:=(Two.new (((w.alloc (.cells #[x,y] t)).alloc (.cells #[x',y'] t')).alloc (.cells #[x'',mP] t'')) t3 x3 y3).below hb (by simp)
 simpa using h2
end Lw
namespace Lw
theorem xN{l:List Nat}(h:bJ l){k:Nat}(hk:k<=l.length)(hv:val (l.take k)=val l)(h0:k=0\/dg l (k-1)≠0):k=(bn (val l)).length:=by
 have hl:(l.take k).length=k:=by grind
 rcases h0 with h0 | h0
 ·subst h0
  rw [<- hv];rfl
 ·rw [<- hv]
  rcases aoT k with hk0 | hk0
  ·subst hk0
   rw [List.take_zero];rfl
  ·rw [MX (xZ h k) (by rw [hl,Ce af];exact h0),hl]
theorem JD{l:List Nat}{k:Nat}(hk:k<=l.length)(hk0:k≠0)(hv:val (l.take k)=val l)(h0:dg l (k-1)=0):val (l.take (k-1))=val l:=by
 have hl:(l.take k).length=k:=by grind
 have h1:=TR (l:=l.take k) af (by rw [hl,Ce af];exact h0);grind
theorem jP{l:List Nat}(h:bJ l):(bn (val l)).length<=l.length:=fD (eu h)
end Lw
namespace Go.Proofs.BGQ
open Go Go.RowKit Lw
def cnt:Value->Nat | .slice _ n _=>n | _=>0
theorem kz{A:Option Addr}{k m c:Nat}(h:k=m):Ending.returned (.slice A k c)=Ending.returned (.slice A m c):=by rw [h]
set_option maxHeartbeats 400000 in
theorem mJ(A:Option Addr)(ns:List Nat)(n c B:Nat)(w:World)(h:Rd w B A ns)(hn:ns.length=n)(hc:n<=c)(hl:n<=4294967296) :
  Calls Tryz.prog 155 #[.slice A n c] w fun e w'=>e = .returned (.slice A (bn (val ns)).length c)/\w=w':=by
 have Hn:=Lib.hid hn
 go_enter Tryz.func155,Tryz.ntmps155
 clear hn
 go_wp2
 go_loop [0] (fun v => ∃ k:Nat,k<=n/\v = .slice A k c/\Hid (val (ns.take k)=val ns)) (fun v=>cnt v)
 case atStart=>exact ⟨n,aoG _,rfl,Lib.hid (by rw [<- Hn.out,ao7])⟩
 case round =>
  obtain ⟨k,hk,rfl,hv⟩:=hrel
  by_cases hk0:k=0
  ·subst hk0
   go_wp2
   go_ret
   exact ⟨kz (xN h.bQ (aoI _) hv.out (.inl rfl)),rfl⟩
  ·obtain ⟨b,off,rfl,hb,hcell,hlt⟩:=h.at_ (k:=k-1) (by rw [Hn.out];omega)
   by_cases hd:dg ns (k-1)=0
   ·have HV:Hid (val (ns.take (k-1))=val ns):=Lib.hid (JD (by rw [Hn.out];exact hk) hk0 hv.out hd)
    go_wp2
    go_round
    case rel=>exact ⟨k-1,af,rfl,HV⟩
    case measure=>simp [cnt];omega
   ·go_wp2
    go_ret
    exact ⟨kz (xN h.bQ (by rw [Hn.out];exact hk) hv.out (.inr hd)),rfl⟩
end Go.Proofs.BGQ
namespace Lw
def wd(l:List Nat)(i:Int):Nat:=if i<0 then 0 else dg l i.toNat
theorem jA(l:List Nat)(k:Nat):wd l (k:Int)=dg l k:=by unfold wd;rw [if_neg af,apF]
theorem lg{l:List Nat}(h:bJ l)(i:Int):wd l i<4294967296:=by
 unfold wd;split
 ·omega
 ·exact fA h _
theorem Uc{l:List Nat}{i:Int}(h:i<0):wd l i=0:=by unfold wd;rw [if_pos h]
theorem aaV(l:List Nat):lo l 2=wd l 0+4294967296*wd l 1:=by
 have h0:=jA l 0;have h1:=jA l 1;have e1:=dh l 0;have e2:=dh l 1;rw [fH,kY] at e1;have p1:pw 1=4294967296:=rfl;grind
theorem agT{l:List Nat}{i:Int}(h:(l.length:Int)<=i):wd l i=0:=by unfold wd;rw [if_neg af];exact oP af
end Lw
namespace Go.Proofs.BGQ
open Go Go.RowKit Lw
theorem eP{k:IntKind}{a b:Int}(h:a=b):Ending.returned (.int k a)=Ending.returned (.int k b):=by rw [h]
set_option maxHeartbeats 400000 in
theorem lC(A:Option Addr)(ns:List Nat)(n c B:Nat)(i:Int)(w:World)(h:Rd w B A ns)(hn:ns.length=n)(_hl:n<=4294967296) :
  Calls Tryz.prog 176 #[.slice A n c,.int .i64 i] w fun e w'=>e = .returned (.int .u64 (wd ns i:Int))/\w=w':=by
 have Hn:=Lib.hid hn;clear hn
 by_cases h0:i<0
 ·go_enter Tryz.func176,Tryz.ntmps176
  go_wp2
  go_ret
  exact ⟨eP (by rw [Uc h0];rfl),rfl⟩
 ·by_cases h1:(n:Int)<=i
  ·go_enter Tryz.func176,Tryz.ntmps176
   go_wp2
   go_ret
   exact ⟨eP (by rw [agT (by rw [Hn.out];exact h1)];rfl),rfl⟩
  ·obtain ⟨k,rfl⟩:=apq (show 0<=i from af)
   obtain ⟨b,off,rfl,hb,hcell,hlt⟩:=h.at_ (k:=k) (by rw [Hn.out];omega)
   go_enter Tryz.func176,Tryz.ntmps176
   go_wp2
   go_ret
   exact ⟨eP (by rw [jA]),rfl⟩
set_option maxHeartbeats 400000 in
theorem Dq(A:Option Addr)(ns:List Nat)(n c B:Nat)(w:World)(h:Rd w B A ns)(hn:ns.length=n)(hl:n<=4294967296) :
  Calls Tryz.prog 192 #[.slice A n c] w fun e w'=>e = .returned (.int .u64 (lo ns 2:Int))/\w=w':=by
 have e0:=lg h.bQ 0;have e1:=lg h.bQ 1;have Hn:=Lib.hid hn;clear hn
 go_enter Tryz.func192,Tryz.ntmps192
 go_wp2_with (go_at_call 176;refine (lC _ ns _ _ _ _ _ h Hn.out hl).mono ?_;rintro e w' ⟨rfl,rfl⟩)
 go_ret
 exact ⟨eP (by rw [tY e1 e0,aaV]),rfl⟩
end Go.Proofs.BGQ
namespace Lw
def gZ(a b:Nat):Int:=if a<b then -1 else if a=b then 0 else 1
theorem uK{a b:Nat}(h:a<b):gZ a b = -1:=by unfold gZ;rw [if_pos h]
theorem yR{a b:Nat}(h:b<a):gZ a b=1:=by unfold gZ;rw [if_neg af,if_neg af]
theorem BX{a b:Nat}(h:a=b):gZ a b=0:=by unfold gZ;rw [if_neg af,if_pos h]
def Same(a b:List Nat)(k:Nat):Prop:=a.drop k=b.drop k
theorem aeF{a b:List Nat}{n:Nat}(ha:a.length=n)(hb:b.length=n):Same a b n:=by
 unfold Same;rw [apR af,apR af]
theorem aeG{a b:List Nat}{k:Nat}(ha:k<a.length)(hb:k<b.length)(h:Same a b (k+1))(hd:dg a k=dg b k):Same a b k:=by
 unfold Same at *;rw [aqb ha,aqb hb,h,<- mX ha,<- mX hb,hd]
theorem aeH{a b:List Nat}(h:Same a b 0):val a=val b:=by
 unfold Same at h;rw [apx,apx] at h;rw [h]
theorem Sz{a b:List Nat}{n k:Nat}(wa:bJ a)(ha:a.length=n)(hb:b.length=n)(h:Same a b (k+1))(hd:dg a k<dg b k):val a<val b:=by
 have h1:=uw a (k+1);have h2:=uw b (k+1);unfold Same at h;have h3:=iY wa k;rw [dh] at h1 h2;have h4:pw k*(dg a k+1)<=pw k*dg b k:=aoS _ hd;grind
end Lw
namespace Go.Proofs.BGQ
open Go Go.RowKit Lw
theorem below_drewN'(B:Nat)(w:World)(n:Nat):Below B w (w.drewN n):=⟨rfl,rfl,rfl,aoG _,fun _ _=>rfl⟩
set_option maxHeartbeats 400000 in
theorem mW(A A':Option Addr)(ns ms:List Nat)(n m c c' B B':Nat)(w:World)(h:Rd w B A ns)(h':Rd w B' A' ms)(t:dR ns)(t':dR ms)(hn:ns.length=n)(hm:ms.length=m)(hl:n<=4294967296)(hl':m<=4294967296) :
  Calls Tryz.prog 112 #[.slice A n c,.slice A' m c'] w fun e w'=>e = .returned (.int .i64 (gZ (val ns) (val ms))) /\ ∃ q,w'=w.drewN q:=by
 have Hn:=Lib.hid hn;have Hm:=Lib.hid hm;clear hn hm
 by_cases hnm:n=m
 ·subst hnm
  go_enter Tryz.func112,Tryz.ntmps112
  go_wp2
  go_loopw [5] (fun v wr => ∃ (i:Int) (q:Nat),-1<=i/\i<n/\v = .int .i64 i/\Hid (Same ns ms (i+1).toNat)/\wr=w.drewN q) (fun v _=>(intOf v+1).toNat)
  case atStart=>exact ⟨(n:Int)-1,0,af,af,rfl,Lib.hid (by rw [show ((n:Int)-1+1).toNat=n by omega];exact aeF Hn.out Hm.out),rfl⟩
  case round =>
   obtain ⟨i,q,hi,hin,rfl,hs,rfl⟩:=hrel
   by_cases h0:i<0
   ·have HV:Hid (val ns=val ms):=Lib.hid (aeH (by have:=hs.out;rwa [show (i+1).toNat=0 by omega] at this))
    go_wp2
    go_ret
    exact ⟨eP (by rw [BX HV.out]),q,rfl⟩
   ·obtain ⟨k,rfl⟩:=apq (show 0<=i from af)
    have hs1:Hid (Same ns ms (k+1)):=Lib.hid (by have:=hs.out;rwa [show ((k:Int)+1).toNat=k+1 by omega] at this);clear hs;obtain ⟨b,off,rfl,hb,hcell,hlt⟩:=h.at_ (k:=k) (by rw [Hn.out];omega);obtain ⟨b',off',rfl,hb',hcell',hlt'⟩:=h'.at_ (k:=k) (by rw [Hm.out];omega);rcases Nat.lt_trichotomy (dg ns k) (dg ms k) with hd | hd | hd
    ·have hb1:((dg ns k:Int) != (dg ms k:Int))=true:=by rw [bne_iff_ne];omega
     go_wp2
     go_quiet (fail)
     go_wp2
     go_quiet (fail)
     go_wp2
     go_ret
     exact ⟨eP (by rw [uK (Sz h.bQ Hn.out Hm.out hs1.out hd)]),_,by rw [World.drewN_drewN,World.drewN_drewN]⟩
    ·have hb1:((dg ns k:Int) != (dg ms k:Int))=false:=by rw [bne_eq_false_iff_eq];omega
     have HS:Hid (Same ns ms k):=Lib.hid (aeG (by rw [Hn.out];omega) (by rw [Hm.out];omega) hs1.out hd);have Hd:=Lib.hid hd;clear hd
     go_wp2
     go_quiet (fail)
     go_wp2
     go_roundw
     case rel=>exact ⟨(k:Int)-1,q+nq,af,af,rfl,by rw [show ((k:Int)-1+1).toNat=k by omega];exact HS,rfl⟩
     case measure=>simp [intOf]
    ·have hb1:((dg ns k:Int) != (dg ms k:Int))=true:=by rw [bne_iff_ne];omega
     go_wp2
     go_quiet (fail)
     go_wp2
     go_quiet (fail)
     go_wp2
     go_ret
     exact ⟨eP (by rw [yR (Sz h'.bQ Hm.out Hn.out (Eq.symm hs1.out) hd)]),_,by rw [World.drewN_drewN,World.drewN_drewN]⟩
 ·have hb1:((n:Int) != (m:Int))=true:=by rw [bne_iff_ne];omega
  rcases aoM n m with hlt | hge
  ·go_enter Tryz.func112,Tryz.ntmps112
   go_wp2
   go_ret
   exact ⟨eP (by rw [uK (zV h.bQ t' (by rw [Hn.out,Hm.out];exact hlt))]),0,rfl⟩
  ·have hlt:m<n:=af
   go_enter Tryz.func112,Tryz.ntmps112
   go_wp2
   go_ret
   exact ⟨eP (by rw [yR (zV h'.bQ t (by rw [Hn.out,Hm.out];exact hlt))]),0,rfl⟩
end Go.Proofs.BGQ
namespace Lw
open Go Go.RowKit
theorem aa6(n:Nat):madeCells #[Value.int .u32 0] n=(arr (List.replicate n 0)).toArray:=by
 apply Array.toList_inj.1;rw [toList_madeCells_one];simp [arr]
theorem bF.new(w:World)(t:TypeId)(ns:List Nat):bF (w.alloc (.cells (arr ns).toArray t)) w.heap.size t ns:=⟨[],by rw [aqc];exact heap_alloc_new w _⟩
theorem bF.kE{w:World}{g:Nat}{t:TypeId}{ns:List Nat}(h:bF w g t ns){i:Nat}(hi:i<ns.length){z:Int}{v:Nat}(hz:z=(v:Int)) :
  bF (w.setCell ⟨g,i,none⟩ (.int .u32 z)) g t (ns.set i v):=by subst hz;exact h.nT v hi
theorem aeZ{p s:Nat} : p*(s%4294967296)+4294967296*p*(s/4294967296)=p*s:=by
 have h:=Nat.mod_add_div s 4294967296;grind
theorem jG{cs:List Nat}{k:Nat}(v:Nat)(h:k<cs.length):lo (cs.set k v) (k+1)=lo cs k+pw k*v:=by
 rw [dh,PG _ _ (aoG _),iR v h,if_pos rfl]
theorem IQ{cs:List Nat}{k s c z t:Nat}(h:k<cs.length)(hv:lo cs k+pw k*c=z)(hs:s=c+t) :
  lo (cs.set k (s%4294967296)) (k+1)+pw (k+1)*(s/4294967296)=z+pw k*t:=by
 rw [jG _ h,dV,Nat.add_assoc,aeZ,hs,aoJ];omega
theorem lD{P:Program}(w:World){ops:Array Oper}{rest:List Oper}{o:Oper}{a:Act}{Q:Exit->Act->World->Prop}(hg:o.guard=none)(l c:Operand)(t:TypeId)(hop:o.op=Op.makeSlice t l c)(e:TypeId)(h1:P.underlying t=some (.slice e))(hinfo:(P.info? e).map (fun i=>(i.zero,i.size,i.bytes))=some (some (.int .u32 0),1,4))(kl kc:IntKind)(L C:Int)(n:Nat)(hl:a.eval l = .int kl L)(hc:a.eval c = .int kc C)(hL:L=(n:Int))(hC:C=(n:Int))(hn:n<=1099511627776)(hK : ∀ w',bF w' w.heap.size e (List.replicate n 0)->Below w.heap.size w w'->w'.heap.size=w.heap.size+1->wpList P ops Q rest (a.put o.dst (.slice (some ⟨w.heap.size,0,none⟩) n n)) w') :
  wpList P ops Q (o::rest) a w:=by
 obtain ⟨i,h2,h3,h4,h5⟩:=info_parts hinfo;refine wpList_plain hg fun K hK' => ?_;have hrun:=run_make (P:=P) w t e i _ h1 h2 h3 kl kc n n af (Int.le_refl _) (by rw [h5];omega) af;simp only [apF,h4,ao1] at hrun;rw [show (Value.int IntKind.u32 0).cells = #[Value.int .u32 0] from rfl,aa6] at hrun;subst hL;subst hC;unfold Oper.wp;simp [execOp,hop,hl,hc,hrun,Result.andThen];exact hK' _ _ (hK _ (bF.new _ _ _) ((Below.refl _ _).alloc (aoG _) _) (by simp))
end Lw
namespace Go.Proofs.BGQ
open Go Go.RowKit Lw
theorem iW:(Tryz.prog.info? 113).map (fun i=>(i.zero,i.size,i.bytes))=some (some (.int .u32 0),1,4):=ah
end Go.Proofs.BGQ
