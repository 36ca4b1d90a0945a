/- Part of a proof, said shortly. -/
import Derived.WalkKit
import Derived.WalkSpells
import Derived.WalkLawsBesides
import Derived.Lib.Hide
import Derived.Deep.Draws
import Derived.Deep.QuietTactic
import Derived.BigQuiet
import Derived.Laws.Rows
import Derived.Laws.MakeOwn
import Derived.Handy
import Derived.Laws.BitsAllLaws
import Derived.Test.YtmmgoghiiionfaaGreatDoorChecked
import Derived.OwnWalk
import Derived.Test.YtmmgoghiiionfaaGreatDoorAlz
namespace Lw
def val:List Nat->Nat
 | []=>0
 | x::l=>x+4294967296*val l
def bF(l:List Nat):Prop := ∀ x∈l,x<4294967296
def ed(l:List Nat):Prop := ∀ x,l.getLast? = some x->x≠0
def dg(l:List Nat)(j:Nat):Nat:=l.getD j 0
def pw(k:Nat):Nat:=4294967296^k
def lo(l:List Nat)(k:Nat):Nat:=val (l.take k)
theorem lG:pw 0=1:=rfl
theorem dS(k:Nat):pw (k+1)=4294967296*pw k:=by unfold pw;rw [ahL];omega
theorem pU(a b:Nat):pw (a+b)=pw a*pw b:=by unfold pw;rw [ahV]
theorem iV(k:Nat):0<pw k:=ahM af
theorem dY{a b:Nat}(h:a<=b):pw a<=pw b:=aiz af h
theorem Dj:val []=0:=rfl
theorem jT(x:Nat)(l:List Nat):val (x::l)=x+4294967296*val l:=rfl
theorem val_append(a b:List Nat):val (a++b)=val a+pw a.length*val b:=by
 induction a with
 | nil=>simp [val,pw]
 | cons x l ih =>
  simp only [List.cons_append,jT,ih,List.length_cons,dS];grind
theorem jV:bF []:=fun _ h=>by cases h
theorem kF{x:Nat}{l:List Nat} : bF (x::l)↔x<4294967296/\bF l:=by simp [bF]
theorem TK{a b:List Nat} : bF (a++b)↔bF a/\bF b:=by
 simp only [bF,aio];grind
theorem vz{l:List Nat}(h:bF l)(k:Nat):bF (l.take k):=fun x hx=>h x (List.mem_of_mem_take hx)
theorem Jw{l:List Nat}(h:bF l)(k:Nat):bF (l.drop k):=fun x hx=>h x (ah3 hx)
theorem qB(n:Nat):bF (List.replicate n 0):=fun x hx=>by have:=List.eq_of_mem_replicate hx;omega
theorem iO{l:List Nat}(h:bF l)(k:Nat){v:Nat}(hv:v<4294967296):bF (l.set k v):=fun x hx=>by
 rcases List.mem_or_eq_of_mem_set hx with h1 | h1
 ·exact h x h1
 ·omega
theorem dV{l:List Nat}(h:bF l)(j:Nat):dg l j<4294967296:=by
 unfold dg;rw [ahW];rcases ahs j l.length with hj | hj
 ·rw [ahR hj];exact h _ (List.getElem_mem hj)
 ·grind
theorem nP{l:List Nat}{j:Nat}(h:l.length<=j):dg l j=0:=by
 unfold dg;rw [ahW,ahX h];rfl
theorem lU{l:List Nat}{j:Nat}(h:j<l.length):dg l j=l[j]:=by
 unfold dg;rw [ahW,ahR h];rfl
theorem qP{l:List Nat}{j:Nat}(h:j<l.length):l[j]? = some (dg l j):=by rw [ahR h,lU h]
theorem y9{l:List Nat}{j k:Nat}(h:j<k):dg (l.take k) j=dg l j:=by
 unfold dg;rw [ahW,ahW,ahQ,if_pos h]
theorem wH(l:List Nat)(j k:Nat):dg (l.drop k) j=dg l (k+j):=by
 unfold dg;rw [ahW,ahW,aib]
theorem iJ{l:List Nat}{k:Nat}(v:Nat)(h:k<l.length)(j:Nat):dg (l.set k v) j=if j=k then v else dg l j:=by
 unfold dg;grind
theorem EW(n j:Nat):dg (List.replicate n 0) j=0:=by
 unfold dg;rw [ahW,List.getElem?_replicate];split <;> rfl
theorem adS(l:List Nat)(k:Nat)(h:k<l.length):l.take (k+1)=l.take k++[dg l k]:=by
 rw [List.take_succ_eq_append_getElem h,lU h]
theorem fM(l:List Nat):lo l 0=0:=by simp [lo,val]
theorem di{l:List Nat}{k:Nat}(h:l.length<=k):lo l k=val l:=by unfold lo;rw [List.take_of_length_le h]
theorem bV(l:List Nat)(k:Nat):lo l (k+1)=lo l k+pw k*dg l k:=by
 rcases ahs k l.length with h | h
 ·unfold lo
  rw [adS l k h,val_append,aic,ahS (ahN h)];simp [val]
 ·rw [di (Nat.le_succ_of_le h),di h,nP h];simp
theorem Pz(l:List Nat){k j:Nat}(v:Nat)(h:j<=k):lo (l.set k v) j=lo l j:=by
 unfold lo;rw [List.take_set_of_le h]
theorem dQ{l:List Nat}(h:bF l):val l<pw l.length:=by
 induction l with
 | nil=>simp [val,pw]
 | cons x l ih =>
  rw [kF] at h;have:=ih h.2;simp only [jT,List.length_cons,dS];omega
theorem iE{l:List Nat}(h:bF l)(k:Nat):lo l k<pw k:=by
 have h1:=dQ (vz h k);have h2:pw (l.take k).length<=pw k:=dY (by rw [aic];omega);unfold lo;omega
theorem vw(l:List Nat)(k:Nat):val l=lo l k+pw (min k l.length)*val (l.drop k):=by
 unfold lo;have:=val_append (l.take k) (l.drop k)
 simp_all
theorem Jh(n:Nat):val (List.replicate n 0)=0:=by
 induction n with
 | zero=>rfl
 | succ n ih=>rw [ai8,jT,ih]
theorem Tn(l:List Nat)(x:Nat):val (l++[x])=val l+pw l.length*x:=by rw [val_append];simp [val]
theorem Jd:ed []:=fun x h=>by cases h
theorem Jc{x:Nat}{l:List Nat}(h:ed (x::l)):ed l:=by
 intro y hy;refine h y ?_;grind
theorem C9{l:List Nat}(h:ed l)(hn:l≠[]):0<val l:=by
 induction l with
 | nil=>exact absurd rfl hn
 | cons x l ih =>
  rw [jT]
  cases l with
  | nil =>
   have:=h x rfl;omega
  | cons y l =>
   have:=ih (Jc h) (by simp);omega
theorem XF{a b:List Nat}(ha:bF a)(ta:ed a)(hb:bF b)(tb:ed b)(h:val a=val b):a=b:=by
 induction a generalizing b with
 | nil =>
  cases b with
  | nil=>rfl
  | cons y b=>have:=C9 tb (by simp);rw [Dj] at h;omega
 | cons x a ih =>
  cases b with
  | nil=>have:=C9 ta (by simp);rw [Dj] at h;omega
  | cons y b =>
   rw [kF] at ha hb;rw [jT,jT] at h;have h1:x=y:=af;have h2:val a=val b:=af;rw [h1,ih ha.2 (Jc ta) hb.2 (Jc tb) h2]
def qQ:Nat->Nat->List Nat
 | 0,_=>[]
 | f+1,n=>if n=0 then [] else n%4294967296::qQ f (n/4294967296)
def bg(n:Nat):List Nat:=qQ n n
theorem EX(f n:Nat)(h:n<=f):val (qQ f n)=n/\bF (qQ f n)/\ed (qQ f n):=by
 induction f generalizing n with
 | zero =>
      obtain rfl:n=0:=af;exact ⟨rfl,jV,Jd⟩
 | succ f ih =>
  unfold qQ
  by_cases h0:n=0
  ·rw [if_pos h0];exact ⟨h0.symm,jV,Jd⟩
  ·rw [if_neg h0]
   have hd:n/4294967296<=f:=af;obtain ⟨h1,h2,h3⟩:=ih _ hd;refine ⟨?_,?_,?_⟩
   ·rw [jT,h1];omega
   ·rw [kF];exact ⟨aht _ af,h2⟩
   ·intro x hx
    cases hc:qQ f (n/4294967296) with
    | nil =>
     rw [hc] at hx h1;rw [Dj] at h1;grind
    | cons y l =>
     rw [hc] at hx h3;exact h3 x hx
theorem bG(n:Nat):val (bg n)=n:=(EX n n (ahj _)).1
theorem dD(n:Nat):bF (bg n):=(EX n n (ahj _)).2.1
theorem fB(n:Nat):ed (bg n):=(EX n n (ahj _)).2.2
theorem wJ{l:List Nat}(h:bF l)(t:ed l):bg (val l)=l:=XF (dD _) (fB _) h t (bG _)
theorem ig{n:Nat} : bg n=[]↔n=0:=⟨fun h=>by have:=bG n;rw [h] at this;exact this.symm,fun h=>by rw [h];rfl⟩
theorem SQ{l:List Nat}(h:dg l (l.length-1)≠0):ed l:=by
 intro x hx;unfold dg at h;grind
theorem L8{l:List Nat}(hw:bF l)(h:dg l (l.length-1)≠0):bg (val l)=l:=wJ hw (SQ h)
theorem Tj{l:List Nat}(hn:0<l.length)(h:dg l (l.length-1)=0):val (l.take (l.length-1))=val l:=by
 have h1:=bV l (l.length-1);rw [h,Nat.sub_add_cancel af,di (ahj _)] at h1;unfold lo at h1;omega
theorem mG{n k:Nat}(h:(bg n).length<=k):n<pw k:=by
 have:=dQ (dD n);rw [bG] at this;exact ahr this (dY h)
theorem xP{l:List Nat}(t:ed l)(h:l≠[]):pw (l.length-1)<=val l:=by
 have hl:0<l.length:=by grind
 have h1:=bV l (l.length-1);rw [Nat.sub_add_cancel hl,di (ahj _)] at h1
 have h2:dg l (l.length-1)≠0:=by
  refine t _ ?_;rw [aiJ,qP af]
 have h3:pw (l.length-1)*1<=pw (l.length-1)*dg l (l.length-1):=ahz _ af;omega
theorem gQ{n k:Nat}(h:n<pw k):(bg n).length<=k:=by
 rcases ahs k (bg n).length with h1 | h1
 ·exfalso
  have h2:=xP (fB n) (by intro e;rw [e] at h1;simp at h1);rw [bG] at h2;have h3:pw k<=pw ((bg n).length-1):=dY af;omega
 ·exact h1
theorem xE{a b:List Nat}(ha:bF a)(tb:ed b)(h:a.length<b.length):val a<val b:=by
 have h1:=dQ ha;have h2:=xP tb (by intro e;rw [e] at h;simp at h);have h3:pw a.length<=pw (b.length-1):=dY af;omega
end Lw
namespace Lw
open Go Go.RowKit
def Rd(w:World)(B:Nat)(A:Option Addr)(ns:List Nat):Prop :=
 bF ns/\(0<ns.length -> ∃ b off,A=some ⟨b,off,none⟩/\b<B /\ ∀ j,j<ns.length->w.cell? ⟨b,off+j,none⟩=some (.int .u32 (dg ns j:Int)))
section
variable {w w':World} {B B':Nat} {A:Option Addr} {ns:List Nat}
theorem Rd.bI(h:Rd w B A ns):bF ns:=h.1
theorem Rd.at_(h:Rd w B A ns){k:Nat}(hk:k<ns.length) :
  ∃ b off,A=some ⟨b,off,none⟩/\b<B/\w.cell? ⟨b,off+k,none⟩=some (.int .u32 (dg ns k:Int))/\dg ns k<4294967296:=by
 obtain ⟨b,off,hA,hb,hc⟩:=h.2 af;exact ⟨b,off,hA,hb,hc k hk,dV h.1 k⟩
theorem Rd.nil_(w:World)(B:Nat)(A:Option Addr):Rd w B A []:=⟨jV,fun h=>absurd h (by simp)⟩
theorem Rd.keep(h:Rd w B A ns)(hk : ∀ p:Addr,p.block<B->w'.cell? p=w.cell? p):Rd w' B A ns :=
 ⟨h.1,fun hn=>by
  obtain ⟨b,off,hA,hb,hc⟩:=h.2 hn;exact ⟨b,off,hA,hb,fun j hj=>(hk _ (by exact hb)).trans (hc j hj)⟩⟩
theorem Rd.more(h:Rd w B A ns)(hB:B<=B'):Rd w B' A ns :=
 ⟨h.1,fun hn=>by
  obtain ⟨b,off,hA,hb,hc⟩:=h.2 hn;exact ⟨b,off,hA,af,hc⟩⟩
theorem Rd.below(h:Rd w B A ns)(hb:Below B w w'):Rd w' B A ns:=h.keep fun _ hp=>hb.cell hp
theorem Rd.drew(h:Rd w B A ns):Rd w.drew B A ns:=h
theorem Rd.drewN(h:Rd w B A ns)(k:Nat):Rd (w.drewN k) B A ns:=h
theorem Rd.alloc(h:Rd w B A ns)(hB:B<=w.heap.size)(o:Obj):Rd (w.alloc o) B A ns:=h.keep fun p hp=>World.cell?_alloc_lt w o p af
theorem Rd.setCell(h:Rd w B A ns){p:Addr}(hB:B<=p.block)(u:Value):Rd (w.setCell p u) B A ns :=
 h.keep fun q hq=>World.cell?_setCell_other w p q u (fun e=>by subst e;omega)
theorem Rd.take(h:Rd w B A ns)(k:Nat):Rd w B A (ns.take k) :=
 ⟨vz h.1 k,fun hn=>by
  rw [aic] at hn;obtain ⟨b,off,hA,hb,hc⟩:=h.2 af;refine ⟨b,off,hA,hb,fun j hj => ?_⟩;rw [aic] at hj;rw [y9 af];exact hc j af⟩
theorem Rd.drop(h:Rd w B A ns){k:Nat}{b off:Nat}(hA:A=some ⟨b,off,none⟩):Rd w B (some ⟨b,off+k,none⟩) (ns.drop k) :=
 ⟨Jw h.1 k,fun hn=>by
  rw [ahI] at hn;obtain ⟨b',off',hA',hb,hc⟩:=h.2 af;rw [hA] at hA'
  injection hA' with e
  injection e with e1 e2;subst e1 e2;refine ⟨b,off+k,rfl,hb,fun j hj => ?_⟩;rw [ahI] at hj;rw [wH,Nat.add_assoc];exact hc (k+j) af⟩
theorem L9{l:List Nat}(h:bF l):bg (val l)=l.take (bg (val l)).length:=by
 have hlen:(bg (val l)).length<=l.length:=gQ (dQ h);generalize hm:(bg (val l)).length=m at *;have h1:=vw l m;rw [ahS hlen] at h1
 have hlt:val l<pw m:=by
  have:=dQ (dD (val l));rw [bG,hm] at this;omega
 have h0:val (l.drop m)=0:=by
  rcases ahE (val (l.drop m)) with h0 | h0
  ·exact h0
  ·have:=ahz (pw m) h0
   omega
 rw [h0,Nat.mul_zero,ahF] at h1
 have ht:ed (l.take m):=by
  intro x hx hx0
  have hm0:0<m:=by
   grind
  have e1:(l.take m).length=m:=by grind
  have e2:dg (l.take m) (m-1)=0:=by
   unfold dg;grind
  have e3:=Tj (l:=l.take m) af (by rw [e1];exact e2);rw [e1,aiK,ahS af] at e3;have e4:=dQ (vz h (m-1));have e5:(l.take (m-1)).length=m-1:=by grind
  rw [e5,e3] at e4;have e6:=gQ (n:=val l) (k:=m-1) (by rw [h1];exact e4);omega
 rw [h1];exact wJ (vz h m) ht
theorem Rd.bg(h:Rd w B A ns):Rd w B A (bg (val ns)):=by
 rw [L9 h.1];exact h.take _
def arr(ns:List Nat):List Value:=ns.map fun n:Nat=>Value.int .u32 (n:Int)
theorem jJ(ns:List Nat):(arr ns).length=ns.length:=by simp [arr]
theorem yS(ns:List Nat)(j:Nat)(h:j<ns.length):(arr ns)[j]? = some (.int .u32 (dg ns j:Int)):=by
 simp [arr,qP h]
theorem Vy(ns:List Nat)(j v:Nat):(arr ns).set j (.int .u32 (v:Int))=arr (ns.set j v):=by
 simp [arr,List.map_set]
def bD(w:World)(g:Nat)(t:TypeId)(ns:List Nat):Prop := ∃ rest:List Value,w.heap[g]? = some (.cells (arr ns++rest).toArray t (0,0))
variable {g:Nat} {t:TypeId}
theorem bD.lt(h:bD w g t ns):g<w.heap.size:=by
 rcases ahs g w.heap.size with hlt | hge
 ·exact hlt
 ·obtain ⟨rest,h⟩:=h;rw [aiL hge] at h;cases h
theorem bD.cell(h:bD w g t ns){i:Nat}(hi:i<ns.length):w.cell? ⟨g,i,none⟩=some (.int .u32 (dg ns i:Int)):=by
 obtain ⟨rest,h⟩:=h;rw [cell_of_row w g i _ t (0,0) h];simp only [aik];rw [ah4 (by rw [jJ];exact hi),yS ns i hi]
theorem bD.frozen(h:bD w g t ns)(i:Nat):w.frozen? ⟨g,i,none⟩=false:=by
 obtain ⟨rest,h⟩:=h;simp [World.frozen?,h]
theorem bD.drew(h:bD w g t ns):bD w.drew g t ns:=h
theorem bD.drewN(h:bD w g t ns)(n:Nat):bD (w.drewN n) g t ns:=h
theorem bD.of_same(h:bD w g t ns)(e:w'.heap[g]? = w.heap[g]?):bD w' g t ns:=by obtain ⟨rest,h⟩:=h;exact ⟨rest,e.trans h⟩
theorem bD.alloc(h:bD w g t ns)(o:Obj):bD (w.alloc o) g t ns:=h.of_same (Below.heap_alloc w o g h.lt)
theorem bD.oN(h:bD w g t ns){i:Nat}(v:Nat)(hi:i<ns.length):bD (w.setCell ⟨g,i,none⟩ (.int .u32 (v:Int))) g t (ns.set i v):=by
 obtain ⟨rest,h⟩:=h;refine ⟨rest,?_⟩;rw [<- Vy,<- List.set_append_left _ _ (by rw [jJ];exact hi)];simp [World.setCell,aip,h]
theorem bD.far(h:bD w g t ns){p:Addr}(hp:g≠p.block)(u:Value):bD (w.setCell p u) g t ns:=h.of_same (Below.heap_setCell w p u g hp)
theorem bD.below{B:Nat}(h:bD w g t ns)(hb:Below B w w')(hg:g<B):bD w' g t ns:=h.of_same (hb.block g hg)
theorem bD.rd(h:bD w g t ns)(hw:bF ns):Rd w w.heap.size (some ⟨g,0,none⟩) ns :=
 ⟨hw,fun _=>⟨g,0,rfl,h.lt,fun j hj=>by rw [ahC];exact h.cell hj⟩⟩
theorem bD.abG(h:bD w g t ns)(hw:bF ns)(k m:Nat)(hm:k+m<=ns.length):Rd w w.heap.size (some ⟨g,k,none⟩) ((ns.drop k).take m) :=
 ⟨vz (Jw hw k) m,fun _=>⟨g,k,rfl,h.lt,fun j hj=>by
  rw [aic,ahI] at hj;rw [y9 af,wH];exact h.cell af⟩⟩
end
end Lw
namespace Lw
open Go
theorem AU{i a b:Nat}(h:b<2^i):a*2^i ||| b=a*2^i+b:=by
 rw [ahu];exact (Nat.two_pow_add_eq_or_of_lt h a).symm
theorem Hw{i:Nat}{a b:Nat}(h:b<2^i)(h2:a*2^i<18446744073709551616)(hi:2^i<18446744073709551616) :
  bits .or .u64 ((a:Int)*(2^i:Nat)) (b:Int)=((a*2^i+b:Nat):Int):=by
 have:=u64_or_nat (a*2^i) b h2 af;rw [AU h] at this;rw [<- this,aid]
theorem rF{x y:Nat}(_hx:x<4294967296)(hy:y<4294967296):bits .or .u64 ((x:Int)*4294967296) (y:Int)=((y+4294967296*x:Nat):Int):=by
 have:=Hw (i:=32) (a:=x) (b:=y) (by simpa using hy) (by simp;omega) (by simp);grind
theorem Vr(a:Nat):a &&& 4294967295=a%4294967296:=by
 have:=Nat.and_two_pow_sub_one_eq_mod a 32
 simpa using this
theorem EH{a:Nat}(h:a<18446744073709551616):bits .and .u64 (a:Int) 4294967295=((a%4294967296:Nat):Int):=by
 have:=u64_and_nat a 4294967295 h af;rw [Vr] at this;exact this
end Lw
namespace Lw
open Go Go.RowKit
def Two(w:World)(g:Nat)(t:TypeId)(x y:Value):Prop:=w.heap[g]? = some (.cells #[x,y] t (0,0))
section
variable {w w':World} {g:Nat} {t:TypeId} {x y:Value}
theorem Two.lt(h:Two w g t x y):g<w.heap.size:=by
 rcases ahs g w.heap.size with hlt | hge
 ·exact hlt
 ·unfold Two at h;rw [aiL hge] at h;cases h
theorem Two.new(w:World)(t:TypeId)(x y:Value):Two (w.alloc (.cells #[x,y] t)) w.heap.size t x y:=heap_alloc_new w _
theorem Two.alloc(h:Two w g t x y)(o:Obj):Two (w.alloc o) g t x y:=(Below.heap_alloc w o g h.lt).trans h
theorem Two.drew(h:Two w g t x y):Two w.drew g t x y:=h
theorem Two.drewN(h:Two w g t x y)(n:Nat):Two (w.drewN n) g t x y:=h
theorem Two.below{B:Nat}(h:Two w g t x y)(hb:Below B w w')(hg:g<B):Two w' g t x y:=(hb.block g hg).trans h
theorem Two.far(h:Two w g t x y){p:Addr}(hp:g≠p.block)(u:Value):Two (w.setCell p u) g t x y:=(Below.heap_setCell w p u g hp).trans h
theorem Two.facts(h:Two w g t x y):w.cell? ⟨g,0,none⟩=some x/\w.cell? ⟨g,1,none⟩=some y/\w.frozen? ⟨g,0,none⟩=false/\w.frozen? ⟨g,1,none⟩=false:=by
 unfold Two at h;exact ⟨by rw [cell_of_row w g 0 _ t (0,0) h];rfl,by rw [cell_of_row w g 1 _ t (0,0) h];rfl,by simp [World.frozen?,h],by simp [World.frozen?,h]⟩
theorem Two.put(h:Two w g t x y)(x' y':Value):Two ((w.setCell ⟨g,0,none⟩ x').setCell ⟨g,1,none⟩ y') g t x' y':=by
 have h1:Two (w.setCell ⟨g,0,none⟩ x') g t x' y:=by
  unfold Two at h ⊢;simp [World.setCell,aip,h]
 unfold Two at h1 ⊢;generalize w.setCell ⟨g,0,none⟩ x'=v at *;simp [World.setCell,aip,h1]
end
section
variable {w w1:World} {t t' t'':TypeId} {x y x' y' x'' vH:Value}
theorem box1(hb:Below (w.alloc (.cells #[x,y] t)).heap.size (w.alloc (.cells #[x,y] t)) w1) :
  Two w1 w.heap.size t x y/\w.heap.size+1<=w1.heap.size/\Below w.heap.size w w1 :=
 ⟨(Two.new w t x y).below hb (by simp),by have:=hb.size;simpa using this,((Below.refl _ _).alloc (ahj _) _).trans (hb.mono (by simp))⟩
theorem dR(hb:Below ((w.alloc (.cells #[x,y] t)).alloc (.cells #[x',y'] t')).heap.size ((w.alloc (.cells #[x,y] t)).alloc (.cells #[x',y'] t')) w1) :
  Two w1 w.heap.size t x y/\Two w1 (w.heap.size+1) t' x' y'/\w.heap.size+2<=w1.heap.size/\Below w.heap.size w w1:=by
 refine ⟨((Two.new w t x y).alloc _).below hb (by simp;omega),?_,by have:=hb.size;simpa using this,?_⟩
 ·have h2:=(Two.new (w.alloc (.cells #[x,y] t)) t' x' y').below hb (by simp)
  simpa using h2
 ·exact (((Below.refl _ _).alloc (ahj _) _).alloc (by simp) _).trans (hb.mono (by simp;omega))
theorem jc(hb:Below (((w.alloc (.cells #[x,y] t)).alloc (.cells #[x',y'] t')).alloc (.cells #[x'',vH] t'')).heap.size (((w.alloc (.cells #[x,y] t)).alloc (.cells #[x',y'] t')).alloc (.cells #[x'',vH] t'')) w1) :
  Two w1 w.heap.size t x y/\Two w1 (w.heap.size+1) t' x' y'/\Two w1 (w.heap.size+2) t'' x'' vH/\w.heap.size+3<=w1.heap.size/\Below w.heap.size w w1:=by
 refine ⟨(((Two.new w t x y).alloc _).alloc _).below hb (by simp;omega),?_,?_,by have:=hb.size;simpa using this,?_⟩
 ·have h2:=((Two.new (w.alloc (.cells #[x,y] t)) t' x' y').alloc (.cells #[x'',vH] t'')).below hb (by simp)
  simpa using h2
 ·have h2:=(Two.new ((w.alloc (.cells #[x,y] t)).alloc (.cells #[x',y'] t')) t'' x'' vH).below hb (by simp)
  simpa using h2
 ·exact ((((Below.refl _ _).alloc (ahj _) _).alloc (by simp) _).alloc (by simp;omega) _).trans (hb.mono (by simp;omega))
end
theorem Rd.uF{w:World}{B g n c:Nat}{t:TypeId}{s:Bool}{A A':Option Addr}{ns:List Nat}(h:Rd w B A ns)(h2:Two w g t (.bool s) (.slice A' n c)){b off:Nat}(hn:0<ns.length)(hA:A=some ⟨b,off,none⟩):b≠g:=by
 rintro rfl;obtain ⟨b',off',hA',hb,hc⟩:=h.2 hn;rw [hA] at hA'
 injection hA' with e
 injection e with e1 e2;subst e1 e2;have h0:=hc 0 hn;unfold Two at h2;rw [cell_of_row w b _ _ t (0,0) h2] at h0;grind
theorem Rd.IM{w:World}{B g n c i:Nat}{t:TypeId}{s:Bool}{A A':Option Addr}{ns:List Nat}(h:Rd w B A ns)(h2:Two w g t (.bool s) (.slice A' n c))(u:Value):Rd (w.setCell ⟨g,i,none⟩ u) B A ns :=
 ⟨h.1,fun hn=>by
  obtain ⟨b,off,hA,hb,hc⟩:=h.2 hn;have hne:=h.uF h2 hn hA;refine ⟨b,off,hA,hb,fun j hj => ?_⟩;rw [<- hc j hj];exact World.cell?_setCell_other w _ _ u (fun e=>hne (by injection e with e1;first | exact e1 | exact e1.symm))⟩
theorem Rd.lF{w:World}{B g n c:Nat}{t:TypeId}{s:Bool}{A A':Option Addr}{ns:List Nat}(h:Rd w B A ns)(h2:Two w g t (.bool s) (.slice A' n c))(s':Bool)(v:Value) :
  Rd ((w.setCell ⟨g,0,none⟩ (.bool s')).setCell ⟨g,1,none⟩ v) B A ns:=by
 have h3:Two (w.setCell ⟨g,0,none⟩ (.bool s')) g t (.bool s') (.slice A' n c):=by
  unfold Two at h2 ⊢;simp [World.setCell,aip,h2]
 exact (h.IM h2 _).IM h3 _
theorem bQ{B:Nat}{a b c:World}(h:Below B a b)(h':Below b.heap.size b c)(hB:B<=a.heap.size):Below B a c:=h.trans (h'.mono (ahk hB h.size))
theorem PU{W w1:World}(h:Below W.drew.heap.size W.drew w1):Below W.heap.size W w1:=bQ (Below.refl _ W).drew h (ahj _)
theorem PV{W w1 w2:World}(h:Below W.heap.size W w1)(h':Below w1.heap.size w1 w2):Below W.heap.size W w2:=bQ h h' (ahj _)
theorem Two.next{W W':World}{g:Nat}{t:TypeId}{x y:Value}(h:Two W g t x y)(hb:Below W.heap.size W W'):Two W' g t x y:=h.below hb h.lt
theorem Rd.next{W W':World}{B:Nat}{A:Option Addr}{ns:List Nat}(h:Rd W B A ns)(hb:Below W.heap.size W W')(hB:B<=W.heap.size):Rd W' B A ns:=h.below (hb.mono hB)
theorem xN{w W:World}{H g g' B B' n n' c c':Nat}{t:TypeId}{a a':Bool}{X X' A A':Option Addr}{l l':List Nat}(s s':Bool)(v v':Value)(h1:Two W g t (.bool a) (.slice X n c))(h2:Two W g' t (.bool a') (.slice X' n' c'))(hne:g≠g')(r:Rd W B A l)(r':Rd W B' A' l')(hb:Below H w W)(hg:H<=g)(hg':H<=g') :
  Two ((((W.setCell ⟨g,0,none⟩ (.bool s)).setCell ⟨g,1,none⟩ v).setCell ⟨g',0,none⟩ (.bool s')).setCell ⟨g',1,none⟩ v') g t (.bool s) v /\
  Two ((((W.setCell ⟨g,0,none⟩ (.bool s)).setCell ⟨g,1,none⟩ v).setCell ⟨g',0,none⟩ (.bool s')).setCell ⟨g',1,none⟩ v') g' t (.bool s') v' /\
  Rd ((((W.setCell ⟨g,0,none⟩ (.bool s)).setCell ⟨g,1,none⟩ v).setCell ⟨g',0,none⟩ (.bool s')).setCell ⟨g',1,none⟩ v') B A l /\
  Rd ((((W.setCell ⟨g,0,none⟩ (.bool s)).setCell ⟨g,1,none⟩ v).setCell ⟨g',0,none⟩ (.bool s')).setCell ⟨g',1,none⟩ v') B' A' l' /\
  Below H w ((((W.setCell ⟨g,0,none⟩ (.bool s)).setCell ⟨g,1,none⟩ v).setCell ⟨g',0,none⟩ (.bool s')).setCell ⟨g',1,none⟩ v'):=by
 have k2:=(h2.far (p:=⟨g,0,none⟩) (Ne.symm hne) (.bool s)).far (p:=⟨g,1,none⟩) (Ne.symm hne) v
 exact ⟨((h1.put (.bool s) v).far (p:=⟨g',0,none⟩) hne _).far (p:=⟨g',1,none⟩) hne _,k2.put _ _,(r.lF h1 s v).lF k2 s' v',(r'.lF h1 s v).lF k2 s' v',
  (((hb.setCell hg _).setCell hg _).setCell hg' _).setCell hg' _⟩
theorem Two.qV{W:World}{g g1 g2:Nat}{t:TypeId}{x y:Value}(h:Two W g t x y)(h1:g≠g1)(h2:g≠g2)(u0 u1 u2 u3:Value) :
  Two ((((W.setCell ⟨g1,0,none⟩ u0).setCell ⟨g1,1,none⟩ u1).setCell ⟨g2,0,none⟩ u2).setCell ⟨g2,1,none⟩ u3) g t x y :=
 (((h.far (p:=⟨g1,0,none⟩) h1 _).far (p:=⟨g1,1,none⟩) h1 _).far (p:=⟨g2,0,none⟩) h2 _).far (p:=⟨g2,1,none⟩) h2 _
end Lw
namespace Lw
theorem uZ{l:List Nat}(h:bF l){k:Nat}(hk:k<=l.length)(hv:val (l.take k)=val l)(h0:k=0\/dg l (k-1)≠0):k=(bg (val l)).length:=by
 have hl:(l.take k).length=k:=by grind
 rcases h0 with h0 | h0
 ·subst h0
  rw [<- hv];rfl
 ·rw [<- hv]
  rcases ahE k with hk0 | hk0
  ·subst hk0
   rw [List.take_zero];rfl
  ·rw [L8 (vz h k) (by rw [hl,y9 af];exact h0),hl]
theorem I4{l:List Nat}{k:Nat}(hk:k<=l.length)(hk0:k≠0)(hv:val (l.take k)=val l)(h0:dg l (k-1)=0):val (l.take (k-1))=val l:=by
 have hl:(l.take k).length=k:=by grind
 have h1:=Tj (l:=l.take k) af (by rw [hl,y9 af];exact h0);grind
theorem kU{l:List Nat}(h:bF l):(bg (val l)).length<=l.length:=gQ (dQ h)
end Lw
namespace Go.Proofs.AZQ
open Go Go.RowKit Lw
def cnt:Value->Nat | .slice _ n _=>n | _=>0
theorem mW{A:Option Addr}{k m c:Nat}(h:k=m):Ending.returned (.slice A k c)=Ending.returned (.slice A m c):=by rw [h]
set_option maxHeartbeats 400000 in
theorem rX(A:Option Addr)(ns:List Nat)(n c B:Nat)(w:World)(h:Rd w B A ns)(hn:ns.length=n)(hc:n<=c)(hl:n<=4294967296) :
  Calls Tryz.prog 215 #[.slice A n c] w fun e w'=>e = .returned (.slice A (bg (val ns)).length c)/\w=w':=by
 have Hn:=Lib.hid hn
 go_enter Tryz.func215,Tryz.ntmps215
 clear hn
 go_wp2
 go_loop [0] (fun v => ∃ k:Nat,k<=n/\v = .slice A k c/\Hid (val (ns.take k)=val ns)) (fun v=>cnt v)
 case atStart=>exact ⟨n,ahj _,rfl,Lib.hid (by rw [<- Hn.out,List.take_length])⟩
 case round =>
  obtain ⟨k,hk,rfl,hv⟩:=hrel
  by_cases hk0:k=0
  ·subst hk0
   go_wp2
   go_ret
   exact ⟨mW (uZ h.bI (ahl _) hv.out (.inl rfl)),rfl⟩
  ·obtain ⟨b,off,rfl,hb,hcell,hlt⟩:=h.at_ (k:=k-1) (by rw [Hn.out];omega)
   by_cases hd:dg ns (k-1)=0
   ·have HV:Hid (val (ns.take (k-1))=val ns):=Lib.hid (I4 (by rw [Hn.out];exact hk) hk0 hv.out hd)
    go_wp2
    go_round
    case rel=>exact ⟨k-1,af,rfl,HV⟩
    case measure=>simp [cnt];omega
   ·go_wp2
    go_ret
    exact ⟨mW (uZ h.bI (by rw [Hn.out];exact hk) hv.out (.inr hd)),rfl⟩
end Go.Proofs.AZQ
namespace Lw
def wd(l:List Nat)(i:Int):Nat:=if i<0 then 0 else dg l i.toNat
theorem jD(l:List Nat)(k:Nat):wd l (k:Int)=dg l k:=by unfold wd;rw [if_neg af,aie]
theorem oO{l:List Nat}(h:bF l)(i:Int):wd l i<4294967296:=by
 unfold wd;split
 ·omega
 ·exact dV h _
theorem TJ{l:List Nat}{i:Int}(h:i<0):wd l i=0:=by unfold wd;rw [if_pos h]
theorem ZX(l:List Nat):lo l 2=wd l 0+4294967296*wd l 1:=by
 have h0:=jD l 0;have h1:=jD l 1;have e1:=bV l 0;have e2:=bV l 1;rw [fM,lG] at e1;have p1:pw 1=4294967296:=rfl;grind
theorem aev{l:List Nat}{i:Int}(h:(l.length:Int)<=i):wd l i=0:=by unfold wd;rw [if_neg af];exact nP af
end Lw
namespace Go.Proofs.AZQ
open Go Go.RowKit Lw
theorem eF{k:IntKind}{a b:Int}(h:a=b):Ending.returned (.int k a)=Ending.returned (.int k b):=by rw [h]
set_option maxHeartbeats 400000 in
theorem oP(A:Option Addr)(ns:List Nat)(n c B:Nat)(i:Int)(w:World)(h:Rd w B A ns)(hn:ns.length=n)(_hl:n<=4294967296) :
  Calls Tryz.prog 240 #[.slice A n c,.int .i64 i] w fun e w'=>e = .returned (.int .u64 (wd ns i:Int))/\w=w':=by
 have Hn:=Lib.hid hn;clear hn
 by_cases h0:i<0
 ·go_enter Tryz.func240,Tryz.ntmps240
  go_wp2
  go_ret
  exact ⟨eF (by rw [TJ h0];rfl),rfl⟩
 ·by_cases h1:(n:Int)<=i
  ·go_enter Tryz.func240,Tryz.ntmps240
   go_wp2
   go_ret
   exact ⟨eF (by rw [aev (by rw [Hn.out];exact h1)];rfl),rfl⟩
  ·obtain ⟨k,rfl⟩:=aif (show 0<=i from af)
   obtain ⟨b,off,rfl,hb,hcell,hlt⟩:=h.at_ (k:=k) (by rw [Hn.out];omega)
   go_enter Tryz.func240,Tryz.ntmps240
   go_wp2
   go_ret
   exact ⟨eF (by rw [jD]),rfl⟩
set_option maxHeartbeats 400000 in
theorem Ak(A:Option Addr)(ns:List Nat)(n c B:Nat)(w:World)(h:Rd w B A ns)(hn:ns.length=n)(hl:n<=4294967296) :
  Calls Tryz.prog 255 #[.slice A n c] w fun e w'=>e = .returned (.int .u64 (lo ns 2:Int))/\w=w':=by
 have e0:=oO h.bI 0;have e1:=oO h.bI 1;have Hn:=Lib.hid hn;clear hn
 go_enter Tryz.func255,Tryz.ntmps255
 go_wp2_with (go_at_call 240;refine (oP _ ns _ _ _ _ _ h Hn.out hl).mono ?_;rintro e w' ⟨rfl,rfl⟩)
 go_ret
 exact ⟨eF (by rw [rF e1 e0,ZX]),rfl⟩
end Go.Proofs.AZQ
namespace Lw
def iQ(a b:Nat):Int:=if a<b then -1 else if a=b then 0 else 1
theorem tq{a b:Nat}(h:a<b):iQ a b = -1:=by unfold iQ;rw [if_pos h]
theorem wG{a b:Nat}(h:b<a):iQ a b=1:=by unfold iQ;rw [if_neg af,if_neg af]
theorem yY{a b:Nat}(h:a=b):iQ a b=0:=by unfold iQ;rw [if_neg af,if_pos h]
def Same(a b:List Nat)(k:Nat):Prop:=a.drop k=b.drop k
theorem adh{a b:List Nat}{n:Nat}(ha:a.length=n)(hb:b.length=n):Same a b n:=by
 unfold Same;rw [aiA af,aiA af]
theorem adi{a b:List Nat}{k:Nat}(ha:k<a.length)(hb:k<b.length)(h:Same a b (k+1))(hd:dg a k=dg b k):Same a b k:=by
 unfold Same at *;rw [aiq ha,aiq hb,h,<- lU ha,<- lU hb,hd]
theorem adl{a b:List Nat}(h:Same a b 0):val a=val b:=by
 unfold Same at h;rw [ah5,ah5] at h;rw [h]
theorem RP{a b:List Nat}{n k:Nat}(wa:bF a)(ha:a.length=n)(hb:b.length=n)(h:Same a b (k+1))(hd:dg a k<dg b k):val a<val b:=by
 have h1:=vw a (k+1);have h2:=vw b (k+1);unfold Same at h;have h3:=iE wa k;rw [bV] at h1 h2;have h4:pw k*(dg a k+1)<=pw k*dg b k:=ahz _ hd;grind
end Lw
namespace Go.Proofs.AZQ
open Go Go.RowKit Lw
theorem below_drewN'(B:Nat)(w:World)(n:Nat):Below B w (w.drewN n):=⟨rfl,rfl,rfl,ahj _,fun _ _=>rfl⟩
set_option maxHeartbeats 400000 in
theorem tC(A A':Option Addr)(ns ms:List Nat)(n m c c' B B':Nat)(w:World)(h:Rd w B A ns)(h':Rd w B' A' ms)(t:ed ns)(t':ed ms)(hn:ns.length=n)(hm:ms.length=m)(hl:n<=4294967296)(hl':m<=4294967296) :
  Calls Tryz.prog 223 #[.slice A n c,.slice A' m c'] w fun e w'=>e = .returned (.int .i64 (iQ (val ns) (val ms))) /\ ∃ q,w'=w.drewN q:=by
 have Hn:=Lib.hid hn;have Hm:=Lib.hid hm;clear hn hm
 by_cases hnm:n=m
 ·subst hnm
  go_enter Tryz.func223,Tryz.ntmps223
  go_wp2
  go_loopw [5] (fun v wr => ∃ (i:Int) (q:Nat),-1<=i/\i<n/\v = .int .i64 i/\Hid (Same ns ms (i+1).toNat)/\wr=w.drewN q) (fun v _=>(intOf v+1).toNat)
  case atStart=>exact ⟨(n:Int)-1,0,af,af,rfl,Lib.hid (by rw [show ((n:Int)-1+1).toNat=n by omega];exact adh Hn.out Hm.out),rfl⟩
  case round =>
   obtain ⟨i,q,hi,hin,rfl,hs,rfl⟩:=hrel
   by_cases h0:i<0
   ·have HV:Hid (val ns=val ms):=Lib.hid (adl (by have:=hs.out;rwa [show (i+1).toNat=0 by omega] at this))
    go_wp2
    go_ret
    exact ⟨eF (by rw [yY HV.out]),q,rfl⟩
   ·obtain ⟨k,rfl⟩:=aif (show 0<=i from af)
    have hs1:Hid (Same ns ms (k+1)):=Lib.hid (by have:=hs.out;rwa [show ((k:Int)+1).toNat=k+1 by omega] at this);clear hs;obtain ⟨b,off,rfl,hb,hcell,hlt⟩:=h.at_ (k:=k) (by rw [Hn.out];omega);obtain ⟨b',off',rfl,hb',hcell',hlt'⟩:=h'.at_ (k:=k) (by rw [Hm.out];omega);rcases aiV (dg ns k) (dg ms k) with hd | hd | hd
    ·have hb1:((dg ns k:Int) != (dg ms k:Int))=true:=by rw [bne_iff_ne];omega
     go_wp2
     go_quiet (fail)
     go_wp2
     go_quiet (fail)
     go_wp2
     go_ret
     exact ⟨eF (by rw [tq (RP h.bI Hn.out Hm.out hs1.out hd)]),_,by rw [World.drewN_drewN,World.drewN_drewN]⟩
    ·have hb1:((dg ns k:Int) != (dg ms k:Int))=false:=by rw [bne_eq_false_iff_eq];omega
     have HS:Hid (Same ns ms k):=Lib.hid (adi (by rw [Hn.out];omega) (by rw [Hm.out];omega) hs1.out hd);have Hd:=Lib.hid hd;clear hd
     go_wp2
     go_quiet (fail)
     go_wp2
     go_roundw
     case rel=>exact ⟨(k:Int)-1,q+nq,af,af,rfl,by rw [show ((k:Int)-1+1).toNat=k by omega];exact HS,rfl⟩
     case measure=>simp [intOf]
    ·have hb1:((dg ns k:Int) != (dg ms k:Int))=true:=by rw [bne_iff_ne];omega
     go_wp2
     go_quiet (fail)
     go_wp2
     go_quiet (fail)
     go_wp2
     go_ret
     exact ⟨eF (by rw [wG (RP h'.bI Hm.out Hn.out (Eq.symm hs1.out) hd)]),_,by rw [World.drewN_drewN,World.drewN_drewN]⟩
 ·have hb1:((n:Int) != (m:Int))=true:=by rw [bne_iff_ne];omega
  rcases ahs n m with hlt | hge
  ·go_enter Tryz.func223,Tryz.ntmps223
   go_wp2
   go_ret
   exact ⟨eF (by rw [tq (xE h.bI t' (by rw [Hn.out,Hm.out];exact hlt))]),0,rfl⟩
  ·have hlt:m<n:=af
   go_enter Tryz.func223,Tryz.ntmps223
   go_wp2
   go_ret
   exact ⟨eF (by rw [wG (xE h'.bI t (by rw [Hn.out,Hm.out];exact hlt))]),0,rfl⟩
end Go.Proofs.AZQ
namespace Lw
open Go Go.RowKit
theorem aad(n:Nat):madeCells #[Value.int .u32 0] n=(arr (List.replicate n 0)).toArray:=by
 apply Array.toList_inj.1;rw [toList_madeCells_one];simp [arr]
theorem bD.new(w:World)(t:TypeId)(ns:List Nat):bD (w.alloc (.cells (arr ns).toArray t)) w.heap.size t ns:=⟨[],by rw [aiW];exact heap_alloc_new w _⟩
theorem bD.oM{w:World}{g:Nat}{t:TypeId}{ns:List Nat}(h:bD w g t ns){i:Nat}(hi:i<ns.length){z:Int}{v:Nat}(hz:z=(v:Int)) :
  bD (w.setCell ⟨g,i,none⟩ (.int .u32 z)) g t (ns.set i v):=by subst hz;exact h.oN v hi
theorem adF{p s:Nat} : p*(s%4294967296)+4294967296*p*(s/4294967296)=p*s:=by
 have h:=Nat.mod_add_div s 4294967296;grind
theorem kC{cs:List Nat}{k:Nat}(v:Nat)(h:k<cs.length):lo (cs.set k v) (k+1)=lo cs k+pw k*v:=by
 rw [bV,Pz _ _ (ahj _),iJ v h,if_pos rfl]
theorem abj{cs:List Nat}{k s c z t:Nat}(h:k<cs.length)(hv:lo cs k+pw k*c=z)(hs:s=c+t) :
  lo (cs.set k (s%4294967296)) (k+1)+pw (k+1)*(s/4294967296)=z+pw k*t:=by
 rw [kC _ h,dS,Nat.add_assoc,adF,hs,ahn];omega
theorem qE{P:Program}(w:World){ops:Array Oper}{rest:List Oper}{o:Oper}{a:Act}{Q:Exit->Act->World->Prop}(hg:o.guard=none)(l c:Operand)(t:TypeId)(hop:o.op=Op.makeSlice t l c)(e:TypeId)(h1:P.underlying t=some (.slice e))(hinfo:(P.info? e).map (fun i=>(i.zero,i.size,i.bytes))=some (some (.int .u32 0),1,4))(kl kc:IntKind)(L C:Int)(n:Nat)(hl:a.eval l = .int kl L)(hc:a.eval c = .int kc C)(hL:L=(n:Int))(hC:C=(n:Int))(hn:n<=1099511627776)(hK : ∀ w',bD w' w.heap.size e (List.replicate n 0)->Below w.heap.size w w'->w'.heap.size=w.heap.size+1->wpList P ops Q rest (a.put o.dst (.slice (some ⟨w.heap.size,0,none⟩) n n)) w') :
  wpList P ops Q (o::rest) a w:=by
 obtain ⟨i,h2,h3,h4,h5⟩:=info_parts hinfo;refine wpList_plain hg fun K hK' => ?_;have hrun:=run_make (P:=P) w t e i _ h1 h2 h3 kl kc n n af (Int.le_refl _) (by rw [h5];omega) af;simp only [aie,h4,ahJ] at hrun;rw [show (Value.int IntKind.u32 0).cells = #[Value.int .u32 0] from rfl,aad] at hrun;subst hL;subst hC;unfold Oper.wp;simp [execOp,hop,hl,hc,hrun,Result.andThen];exact hK' _ _ (hK _ (bD.new _ _ _) ((Below.refl _ _).alloc (ahj _) _) (by simp))
end Lw
namespace Go.Proofs.AZQ
open Go Go.RowKit Lw
theorem jI:(Tryz.prog.info? 82).map (fun i=>(i.zero,i.size,i.bytes))=some (some (.int .u32 0),1,4):=ah
def sO(w:World)(N:Nat)(e:Ending)(w':World):Prop :=
 ∃ A c,e = .returned (.slice A (bg N).length c)/\(bg N).length<=c/\Rd w' w'.heap.size A (bg N)/\Below w.heap.size w w'
end Go.Proofs.AZQ
namespace Lw
open Go
def nM(x y D:Nat):Prop:=x<18446744073709551616->y<18446744073709551616->D=if y<=x then x-y else 18446744073709551616+x-y
theorem vF(x y:Nat) : ∃ D:Nat,IntKind.u64.wrap ((x:Int)-(y:Int))=(D:Int)/\D<=18446744073709551615/\nM x y D:=by
 refine ⟨(((x:Int)-(y:Int))%18446744073709551616).toNat,?_,af,fun h1 h2=>by split <;> omega⟩;rw [IntKind.wrap_u64];omega
theorem Sv{x y c D F:Nat}(_hx:x<4294967296)(hy:y<4294967296)(hc:c<=1)(hD:nM x y D)(hF:nM D c F)(hDl:D<=18446744073709551615) :
  F%4294967296+(y+c)=x+4294967296*(F/9223372036854775808)/\F/9223372036854775808<=1:=by
 have h1:=hD af af;have h2:=hF af af
 split at h1 <;> split at h2 <;> omega
end Lw
namespace Lw
open Go Go.RowKit
theorem xH{x y:Nat}(_hx:x<4294967296)(hy:y<4294967296):(0:Int)<=(x:Int)*(y:Int)/\(x:Int)*(y:Int)<=18446744065119617025:=by
 have h:x*y<=4294967295*4294967295:=ahY af af;omega
theorem KJ{cs:List Nat}{o k c lc lm x y d z z':Nat}(h:o+k<cs.length)(hv:lo cs (o+k)+pw (o+k)*c=lc+pw o*(lm*x))(hz:z=lc+pw (o+k)*d)(hz':z'=lm+pw k*y) :
  lo (cs.set (o+k) ((c+(x*y+d))%4294967296)) (o+k+1)+pw (o+k+1)*((c+(x*y+d))/4294967296)=z+pw o*(z'*x):=by
 rw [abj h hv rfl,hz,hz',pU];generalize pw o=a;generalize pw k=b;grind
theorem Aj{a b:List Nat}(k:Nat)(h : ∀ j,j<k->dg a j=dg b j):lo a k=lo b k:=by
 induction k with
 | zero=>rw [fM,fM]
 | succ k ih=>rw [bV,bV,ih (fun j hj=>h j af),h k af]
theorem lY{a w:World}{g:Nat}(h:a.grownBy w (some g))(i:Nat)(u:Value):a.grownBy (w.setCell ⟨g,i,none⟩ u) (some g) :=
 ⟨h.os,h.tape,h.output,by simpa [World.setCell] using h.size,fun j hj hne=>(Below.heap_setCell w ⟨g,i,none⟩ u j (by rintro rfl;exact hne rfl)).trans (h.block j hj hne)⟩
theorem Rd.grown{w w':World}{B g:Nat}{A:Option Addr}{ns:List Nat}(h:Rd w B A ns)(hg:w.grownBy w' (some g))(hB:B<=w.heap.size)(hne:0<ns.length -> ∀ a,A=some a->a.block≠g):Rd w' B A ns :=
 ⟨h.1,fun hn=>by
  obtain ⟨b,off,hA,hb,hc⟩:=h.2 hn;refine ⟨b,off,hA,hb,fun j hj => ?_⟩;rw [<- hc j hj];exact World.cell?_of_block (hg.block b af (fun e=>hne hn _ hA (by injection e)))⟩
end Lw
namespace Go.Proofs.AZQ
open Go Go.RowKit Lw
set_option maxHeartbeats 800000 in
theorem Vd(g o x:Nat)(A':Option Addr)(cs ms:List Nat)(m c c' B':Nat)(w:World)(hb:bD w g 82 cs)(hcw:bF cs)(h':Rd w B' A' ms)(hB':B'<=w.heap.size)(hne:0<m -> ∀ a,A'=some a->a.block≠g)(hm:ms.length=m)(hl:m<=16777216)(hl':cs.length<=1099511627776)(ho:o+m<=cs.length)(hx:x<4294967296) :
  Calls Tryz.prog 256 #[.slice (some ⟨g,o,none⟩) m c,.slice A' m c',.int .u32 x] w fun e w' => ∃ (carry:Nat) (ds:List Nat),e = .returned (.int .u32 carry)/\carry<4294967296/\bD w' g 82 ds /\
   ds.length=cs.length/\bF ds/\(∀ j,j<o\/o+m<=j->dg ds j=dg cs j)/\lo ds (o+m)+pw (o+m)*carry=lo cs (o+m)+pw o*(val ms*x)/\w.grownBy w' (some g)/\w'.heap.size=w.heap.size:=by
 have Hm:=Lib.hid hm;clear hm
 go_enter Tryz.func256,Tryz.ntmps256
 go_wp2
 go_loopw [7,12] (fun v i wr => ∃ (k carry:Nat) (ds:List Nat),k<=m/\carry<4294967296/\i = .int .i64 k/\v = .int .u64 carry/\bD wr g 82 ds/\Hid (ds.length=cs.length)/\bF ds /\
   Hid (∀ j,j<o\/o+k<=j->dg ds j=dg cs j)/\Hid (lo ds (o+k)+pw (o+k)*carry=lo cs (o+k)+pw o*(lo ms k*x))/\Hid (w.grownBy wr (some g)/\wr.heap.size=w.heap.size)) (fun _ i _=>m-(intOf i).toNat)
 case atStart=>exact ⟨0,0,cs,ahl _,af,rfl,rfl,hb,Lib.hid rfl,hcw,Lib.hid (fun _ _=>rfl),Lib.hid (by simp [fM]),Lib.hid ⟨World.grownBy.refl w _,rfl⟩⟩
 case round =>
  obtain ⟨k,carry,ds,hk,hcar,rfl,rfl,hb1,hdl,hdw,hsame,hv,hg⟩:=hrel;clear hb
  by_cases hkm:k<m
  ·have hr:=h'.grown hg.out.1 hB' (fun hp=>hne af)
   obtain ⟨b,off,rfl,hbb,hcell,hlt⟩:=hr.at_ (k:=k) (by rw [Hm.out];omega);have hcc:=hb1.cell (i:=o+k) (by rw [hdl.out];omega);have qZ:=dV hdw (o+k);have hfr:=hb1.frozen (o+k);have hxy:=xH hx hlt;obtain ⟨Gv,Gx⟩:=hxy;clear hne
   go_wp2
   have hN:x*dg ms k<=18446744065119617025:=by have:=aid x (dg ms k);omega
   have hd:dg ds (o+k)=dg cs (o+k):=hsame.out _ (.inr (ahj _))
   go_roundw
   case rel =>
    refine ⟨k+1,(carry+(x*dg ms k+dg ds (o+k)))/4294967296,ds.set (o+k) ((carry+(x*dg ms k+dg ds (o+k)))%4294967296),af,af,by go_num,?_,hb1.oM (by rw [hdl.out];omega) ?_,Lib.hid (by rw [ahv];exact hdl.out),iO hdw _ (aht _ af),Lib.hid ?_,Lib.hid ?_,Lib.hid ⟨lY hg.out.1 _ _,by simp [hg.out.2]⟩⟩
    ·rw [show ((carry:Int)+((x:Int)*(dg ms k:Int)+(dg ds (o+k):Int)))=((carry+(x*dg ms k+dg ds (o+k)):Nat):Int) by simp];rfl
    ·rw [show ((carry:Int)+((x:Int)*(dg ms k:Int)+(dg ds (o+k):Int)))=((carry+(x*dg ms k+dg ds (o+k)):Nat):Int) by simp];rfl
    ·intro j hj
     rw [iJ _ (by rw [hdl.out];omega),if_neg af];exact hsame.out j af
    ·rw [show o+(k+1)=o+k+1 from rfl]
     rw [KJ (z:=lo cs (o+k+1)) (z':=lo ms (k+1)) (by rw [hdl.out];omega) hv.out (by rw [hd];exact bV _ _) (bV _ _)]
   case measure=>simp [intOf];omega
  ·obtain rfl:k=m:=af
   go_wp2
   go_ret
   exact ⟨carry,ds,rfl,hcar,hb1,hdl.out,hdw,hsame.out,by rw [hv.out,di (l:=ms) (by rw [Hm.out];exact ahj _)],hg.out.1,hg.out.2⟩
end Go.Proofs.AZQ
namespace Lw
open Go Go.RowKit
theorem aam{cs ds:List Nat}{k m v x l l' r:Nat}(hm:k+m<ds.length)(hv:lo cs (k+m)=l*v)(hd:lo ds (k+m)+pw (k+m)*r=lo cs (k+m)+pw k*(v*x))(hl:l'=l+pw k*x) :
  lo (ds.set (k+m) r) (k+m+1)=l'*v:=by
 rw [kC _ hm,hd,hv,hl,ahw,ahA,ahu v x]
theorem below_of_grown{a w w':World}{B g:Nat}(h:Below B a w)(hg:w.grownBy w' (some g))(hB:B<=w.heap.size)(hgB:B<=g):Below B a w' :=
 h.grown hg hB (fun k hk=>by injection hk with e;omega)
end Lw
