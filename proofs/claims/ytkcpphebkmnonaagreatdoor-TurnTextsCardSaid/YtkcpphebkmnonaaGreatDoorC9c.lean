/- Part of a proof, said shortly. -/
import Derived.Deep.RegionHeld3
import Derived.Deep.RegionWith
import Derived.Test.YtkcpphebkmnonaaGreatDoorAlzc
import Derived.Test.YtkcpphebkmnonaaGreatDoorC8c
import Derived.Test.YtkcpphebkmnonaaGreatDoorC5c
import Derived.Test.YtkcpphebkmnonaaGreatDoorC2c
import Derived.Test.YtkcpphebkmnonaaGreatDoorC1c
import Derived.Test.YtkcpphebkmnonaaGreatDoorC4c
import Derived.Test.YtkcpphebkmnonaaGreatDoorC3c
import Derived.Test.YtkcpphebkmnonaaGreatDoorC7c
import Derived.Test.YtkcpphebkmnonaaGreatDoorC6c
namespace Lw
open Go Go.RowKit
def qv(s:Bool)(ns ms:List Nat):Rat:=if fV s ns ms then Rat.divInt (if s then -(val ns:Int) else (val ns:Int)) (val ms:Int) else 0
theorem Gn{s:Bool}{ns ms:List Nat}(h:fV s ns ms=true)(hw:bJ ns)(hw':bJ ms):rs (qv s ns ms)=s/\rn (qv s ns ms)=ns/\rd (qv s ns ms)=ms:=by
 have hq:qv s ns ms=Rat.divInt (if s then -(val ns:Int) else (val ns:Int)) (val ms:Int):=by unfold qv;rw [if_pos h]
 unfold fV at h
 split at h
 ·rename_i h0
  have h2:ns.length=ms.length/\s=false:=by grind
  have e1:ns=[]:=by grind
  have e2:ms=[]:=by grind
  obtain ⟨_,h2⟩:=h2;subst e1 e2 h2;rw [hq,show Rat.divInt (if false=true then -(val []:Int) else (val []:Int)) (val []:Int)=0 from Rat.zero_divInt _];exact f_zero
 ·rename_i h0
  have h4:vB false ns=true/\vB false ms=true/\cp ns ms=true:=by grind
  obtain ⟨h1,h2,h3⟩:=h4;have t1:=Ee h1;have t2:=Ee h2;have v1:val ns≠0:=AV t1 rfl af;have v2:val ms≠0:=AV t2 rfl af;have hg:Nat.gcd (val ns) (val ms)=1:=by unfold cp at h3;simpa using h3
  have hz:(if s then -(val ns:Int) else (val ns:Int)).natAbs=val ns:=af;have hf:=Nv (n:=if s then -(val ns:Int) else (val ns:Int)) (d:=(val ms:Int)) (by split <;> omega) af;rw [hz,aoL,hg,ap7,ap7,uS hw t1,uS hw' t2] at hf;grind
theorem Rj{q:Rat} : rn q=[]↔q=0:=by
 unfold rn;rw [iL,Int.natAbs_eq_zero,apK]
theorem ac1{q:Rat} : rd q=[]↔q=0:=by
 unfold rd
 split
 ·simp_all
 ·rename_i h
  rw [iL];constructor
  ·intro e;exact absurd e q.den_nz
  ·simp_all
theorem DI{q:Rat}(h:q≠0):rd q=bn q.den:=by
 unfold rd;rw [if_neg (fun e=>h (apK.1 e))]
theorem AU{N:Nat}(h:N≠0):vB false (bn N)=true:=by
 refine TQ (fG N) rfl ?_;rcases aoT (bn N).length with e | e
 ·exact absurd (iL.1 (aoU e)) h
 ·exact e
theorem zf(q:Rat):fV (rs q) (rn q) (rd q)=true:=by
 by_cases h:q=0
 ·subst h;rfl
 ·have h1:q.num.natAbs≠0:=fun e=>h (apK.1 (Int.natAbs_eq_zero.1 e))
  have l1:rn q≠[]:=fun e=>h (Rj.1 e);have l2:rd q≠[]:=fun e=>h (ac1.1 e);have l3:(rn q).length≠0:=by grind
  have l4:(rd q).length≠0:=by grind
  rw [Gm rfl rfl af af,DI h];unfold rn;rw [AU h1,AU q.den_nz];unfold cp;rw [bM,bM,show Nat.gcd q.num.natAbs q.den=1 from q.reduced]
  rfl
theorem aeN(q:Rat):(if rs q then -(val (rn q):Int) else (val (rn q):Int))=q.num:=by
 unfold rs rn;rw [bM];grind
theorem xx(q:Rat):qv (rs q) (rn q) (rd q)=q:=by
 unfold qv;rw [if_pos (zf q),aeN]
 by_cases h:q=0
 ·simp_all
 ·rw [DI h,bM]
  simp_all
theorem Qj(q:Rat):zv (rs q) (rn q)=q.num/\vB (rs q) (rn q)=true:=⟨og q.num,mO q.num⟩
theorem MQ{q:Rat}(h:q≠0):zv false (rd q)=(q.den:Int)/\vB false (rd q)=true:=by
 rw [DI h];have h1:=AU q.den_nz;refine ⟨?_,h1⟩;unfold zv;rw [h1,bM];rfl
structure Qn where
 v:Value
 q:Rat
 k:Nat
 b:Bool
def dA(w:World)(e:Qn):Prop := ∃ (s:Bool) (A:Option Addr) (n c:Nat) (A':Option Addr) (n' c':Nat) (ns ms:List Nat),e.v = .agg #[.bool s,.slice A n c,.slice A' n' c']/\Rd w w.heap.size A ns/\Rd w w.heap.size A' ms/\ns.length=n/\ms.length=n'/\n<=e.k/\n'<=e.k/\n<=c/\n'<=c'/\qv s ns ms=e.q/\fV s ns ms=e.b
theorem dA.next{w w':World}{e:Qn}(h:dA w e)(hb:Below w.heap.size w w'):dA w' e:=by
 obtain ⟨s,A,n,c,A',n',c',ns,ms,h1,h2,h3,h4⟩:=h;exact ⟨s,A,n,c,A',n',c',ns,ms,h1,(h2.next hb (aoG _)).more hb.size,(h3.next hb (aoG _)).more hb.size,h4⟩
theorem dA.own{w:World}{s:Bool}{A A':Option Addr}{n c n' c' k:Nat}{q:Rat}(h:dA w ⟨.agg #[.bool s,.slice A n c,.slice A' n' c'],q,k,true⟩) :
  s=rs q/\n=(rn q).length/\n'=(rd q).length/\Rd w w.heap.size A (rn q)/\Rd w w.heap.size A' (rd q)/\n<=k/\n'<=k/\n<=c/\n'<=c':=by
 obtain ⟨s',A1,n1,c1,A2,n2,c2,ns,ms,h1,h2,h3,h4,h5,h6,h7,h8,h9,h10,h11⟩:=h;dsimp only at h1 h6 h7 h10 h11
 injection h1 with h1
 injection h1 with h1;simp only [List.cons.injEq,Value.bool.injEq,Value.slice.injEq,and_true] at h1;obtain ⟨rfl,⟨rfl,rfl,rfl⟩,rfl,rfl,rfl⟩:=h1;have:=Gn h11 h2.bQ h3.bQ;rw [h10] at this;obtain ⟨g1,g2,g3⟩:=this;rw [g1,g2,g3];exact ⟨rfl,h4.symm,h5.symm,h2,h3,h6,h7,h8,h9⟩
theorem dA.lt{w:World}{v:Value}{k:Nat}{q:Rat}(h:dA w ⟨v,q,k,true⟩):q.num.natAbs<pw k/\q.den<pw (k+1):=by
 obtain ⟨s',A1,n1,c1,A2,n2,c2,ns,ms,h1,h2,h3,h4,h5,h6,h7,h8,h9,h10,h11⟩:=h;dsimp only at h6 h7 h10 h11;have:=Gn h11 h2.bQ h3.bQ;rw [h10] at this;obtain ⟨g1,g2,g3⟩:=this;constructor
 ·have e:=eu h2.bQ
  rw [<- g2] at e h4;unfold rn at e h4;rw [bM] at e;exact aoK e (dU af)
 ·by_cases hq:q=0
  ·subst hq
   show 1<pw (k+1);have:=jf k;rw [dV];omega
  ·have e:=eu h3.bQ
   rw [<- g3] at e h5;rw [DI hq] at e h5;rw [bM] at e;exact aoK e (dU af)
structure Bt where
 g:Nat
 x:Value
 y:Value
 z:Value
end Lw
namespace Go.Proofs.BGQ
open Go Go.RowKit Lw
structure bu(W0 w:World)(bs:List Bx)(L:List En)(ts:List Bt)(M:List Qn):Prop where
 env:Env 79 W0 w bs L
 fr : ∀ e∈M,dA w e
 tri : ∀ b∈ts,cO w b.g 24 b.x b.y b.z
 tz:Tz W0
 tab:Tab W0
 lo : ∀ b∈bs,W0.heap.size<=b.g
 lot : ∀ b∈ts,W0.heap.size<=b.g
section
variable {W0 w w':World} {bs:List Bx} {L:List En} {ts:List Bt} {M:List Qn}
theorem bu.next(h:bu W0 w bs L ts M)(hb:Below w.heap.size w w'):bu W0 w' bs L ts M :=
 ⟨h.env.next hb,fun e he=>(h.fr e he).next hb,fun b hb'=>(h.tri b hb').next hb,h.tz,h.tab,h.lo,h.lot⟩
theorem bu.drew(h:bu W0 w bs L ts M):bu W0 w.drew bs L ts M:=h.next (Below.refl _ w).drew
theorem bu.below(h:bu W0 w bs L ts M):Below W0.heap.size W0 w:=h.env.below
theorem bu.alloc(h:bu W0 w bs L ts M)(o:Obj):bu W0 (w.alloc o) bs L ts M:=h.next ((Below.refl _ w).alloc (aoG _) o)
theorem bu.here(h:bu W0 w bs L ts M):bu w w [] L [] M:=⟨⟨h.env.ops,fun _ hb=>by simp at hb,Below.refl _ _⟩,h.fr,fun _ hb=>by simp at hb,h.tz.next h.env.below,h.tab.next h.env.below,fun _ hb=>by simp at hb,fun _ hb=>by simp at hb⟩
theorem bu.back{L':List En}{M':List Qn}(h:bu W0 w bs L ts M)(h':bu w w' [] L' [] M'):bu W0 w' bs L' ts M' :=
 ⟨⟨h'.env.ops,(h.env.next h'.below).box,bK h.below h'.below (aoG _)⟩,h'.fr,(h.next h'.below).tri,h.tz,h.tab,h.lo,h.lot⟩
theorem bu.cons(h:bu W0 w bs L ts M){e:Qn}(he:dA w e):bu W0 w bs L ts (e::M) :=
 ⟨h.env,fun e' h'=>by
  rcases List.mem_cons.1 h' with rfl | h'
  ·exact he
  ·exact h.fr e' h',h.tri,h.tz,h.tab,h.lo,h.lot⟩
theorem bu.push(h:bu W0 w bs L ts M){e:En}(he:dB w e):bu W0 w bs (e::L) ts M:=⟨h.env.cons he,h.fr,h.tri,h.tz,h.tab,h.lo,h.lot⟩
theorem bu.pick{L':List En}{M':List Qn}(h:bu W0 w bs L ts M)(h1 : ∀ e∈L',e∈L)(h2 : ∀ e∈M',e∈M):bu W0 w bs L' ts M' :=
 ⟨⟨fun e he=>h.env.ops e (h1 e he),h.env.box,h.env.below⟩,fun e he=>h.fr e (h2 e he),h.tri,h.tz,h.tab,h.lo,h.lot⟩
variable {s s':Bool} {A A':Option Addr} {n c n' c' k k':Nat} {q:Rat} {v:Value}
theorem bu.parts(h:bu W0 w bs L ts M)(hm:⟨.agg #[.bool s,.slice A n c,.slice A' n' c'],q,k,true⟩∈M)(hq:q≠0) :
  bu W0 w bs (⟨.agg #[.bool s,.slice A n c],q.num,k,true⟩::⟨.agg #[.bool false,.slice A' n' c'],(q.den:Int),k,true⟩::L) ts M:=by
 obtain ⟨rfl,rfl,rfl,r1,r2,k1,k2,k3,k4⟩:=(h.fr _ hm).own;refine (h.push ⟨false,A',_,c',rd q,_,rfl,r2,aoG _,rfl,k2,k4,(MQ hq).1,(MQ hq).2⟩).push ⟨rs q,A,_,c,rn q,_,rfl,r1,aoG _,rfl,k1,k3,(Qj q).1,(Qj q).2⟩
theorem bu.one(h:bu W0 w bs L ts M):bu W0 w bs (⟨.agg #[.bool false,.slice none 0 0],0,0,true⟩::L) ts M:=⟨h.env.nil_,h.fr,h.tri,h.tz,h.tab,h.lo,h.lot⟩
theorem bu.zero(h:bu W0 w bs L ts M)(k:Nat):bu W0 w bs L ts (⟨.agg #[.bool false,.slice none 0 0,.slice none 0 0],0,k,true⟩::M) :=
 h.cons ⟨false,none,0,0,none,0,0,[],[],rfl,Rd.nil_ _ _ _,Rd.nil_ _ _ _,rfl,rfl,aoI _,aoI _,aoG _,aoG _,xx 0,zf 0⟩
theorem Qq{w:World}{q:Rat}{A A':Option Addr}{c c' k:Nat}(r:Rd w w.heap.size A (rn q))(r':Rd w w.heap.size A' (rd q))(hk:(rn q).length<=k)(hk':(rd q).length<=k)(hc:(rn q).length<=c)(hc':(rd q).length<=c') :
  dA w ⟨.agg #[.bool (rs q),.slice A (rn q).length c,.slice A' (rd q).length c'],q,k,true⟩ :=
 ⟨rs q,A,_,c,A',_,c',rn q,rd q,rfl,r,r',rfl,rfl,hk,hk',hc,hc',xx q,zf q⟩
theorem Pz{q:Rat}{k:Nat}(h:q.den<pw k):(rd q).length<=k:=by
 unfold rd;split
 ·exact aoI _
 ·exact fD h
theorem dA.tight{w:World}{v:Value}{q:Rat}{k K:Nat}(h:dA w ⟨v,q,k,true⟩)(h1:q.num.natAbs<pw K)(h2:q.den<pw K):dA w ⟨v,q,K,true⟩:=by
 obtain ⟨s,A,n,c,A',n',c',ns,ms,e1,r1,r2,e2,e3,e4,e5,e6,e7,e8,e9⟩:=h;have hf:=Gn e9 r1.bQ r2.bQ;rw [e8] at hf;obtain ⟨g1,g2,g3⟩:=hf;refine ⟨s,A,n,c,A',n',c',ns,ms,e1,r1,r2,e2,e3,?_,?_,e6,e7,e8,e9⟩
 ·rw [<- e2,<- g2];exact pq h1
 ·rw [<- e3,<- g3];exact Pz h2
theorem bu.Gu{x y:Int}(h:bu W0 w bs L ts M)(hm:⟨.agg #[.bool s,.slice A n c],x,k,true⟩∈L)(hm':⟨.agg #[.bool s',.slice A' n' c'],y,k',true⟩∈L)(hx:x≠0)(hy:0<y)(hg:Nat.gcd x.natAbs y.natAbs=1) :
  bu W0 w bs L ts (⟨.agg #[.bool s,.slice A n c,.slice A' n' c'],Rat.divInt x y,k+k',true⟩::M):=by
 have H1:=h.env.ops _ hm;have H2:=h.env.ops _ hm';obtain ⟨a,A1,n1,c1,ns,B,e1,h2,h3,h4,h5,h6,e7,h8⟩:=H1;obtain ⟨a',A2,n2,c2,ms,B',e1',h2',h3',h4',h5',h6',dZ,h8'⟩:=H2;dsimp only at e1 e7 e1' dZ h5 h5' h8 h8';obtain ⟨a1,a2,_⟩:=rD (z:=x) h8 (by rw [<- e7];unfold zv;rw [if_pos h8]) h2.bQ;obtain ⟨b1,b2,_⟩:=rD (z:=y) h8' (by rw [<- dZ];unfold zv;rw [if_pos h8']) h2'.bQ
 injection e1 with e1
 injection e1 with e1;simp only [List.cons.injEq,Value.bool.injEq,Value.slice.injEq,and_true] at e1
 injection e1' with e1'
 injection e1' with e1';simp only [List.cons.injEq,Value.bool.injEq,Value.slice.injEq,and_true] at e1';obtain ⟨rfl,rfl,rfl,rfl⟩:=e1;obtain ⟨rfl,rfl,rfl,rfl⟩:=e1';have hf:=Nv hx (show y≠0 from af);rw [hg,ap7,ap7] at hf;obtain ⟨f1,f2,f3⟩:=hf
 have g1:rs (Rat.divInt x y)=s:=by
  rw [f1,decide_eq_false (show ¬ y<0 from af),<- a1];unfold sg
  cases decide (x<0) <;> rfl
 have g2:rn (Rat.divInt x y)=ns:=by rw [f2];exact a2
 have g3:rd (Rat.divInt x y)=ms:=by rw [f3];exact b2
 refine h.cons ⟨s,A,n,c,A',n',c',ns,ms,rfl,h2.more h3,h2'.more h3',h4,h4',by dsimp only;omega,by dsimp only;omega,h6,h6',?_,?_⟩
 ·rw [<- g1,<- g2,<- g3];exact xx _
 ·rw [<- g1,<- g2,<- g3];exact zf _
end
end Go.Proofs.BGQ
namespace Lw
open Go Go.RowKit
theorem Env.here{t:TypeId}{W0 w:World}{bs:List Bx}{L:List En}(h:Env t W0 w bs L):Env t w w [] L:=⟨h.ops,fun _ hb=>by simp at hb,Below.refl _ _⟩
theorem Env.shape{t:TypeId}{W0 w:World}{bs:List Bx}{L:List En}{e:En}(h:Env t W0 w bs L)(he:e∈L) : ∃ (s:Bool) (A:Option Addr) (n c:Nat),e.v = .agg #[.bool s,.slice A n c]:=by
 obtain ⟨s,A,n,c,_,_,h1,_⟩:=h.ops e he;grind
section
variable {w:World}
theorem dB.uf{e:En}{g n c n' c' m d:Nat}{s:Bool}{t:TypeId}{X X' D:Option Addr}(h:dB w e)(h2:cO w g t (.bool s) (.slice X n c) (.slice X' n' c'))(s':Bool)(v:Value):dB (((w.setCell ⟨g,0,none⟩ (.bool s')).setCell ⟨g,1,none⟩ (.slice D m d)).setCell ⟨g,2,none⟩ v) e:=by
 obtain ⟨a,A,m,d,ns,B,e1,h3,h4,h5⟩:=h;exact ⟨a,A,m,d,ns,B,e1,h3.uf h2 s' v,by simpa using h4,h5⟩
theorem dA.uf{e:Qn}{g n c n' c' m d:Nat}{s:Bool}{t:TypeId}{X X' D:Option Addr}(h:dA w e)(h2:cO w g t (.bool s) (.slice X n c) (.slice X' n' c'))(s':Bool)(v:Value):dA (((w.setCell ⟨g,0,none⟩ (.bool s')).setCell ⟨g,1,none⟩ (.slice D m d)).setCell ⟨g,2,none⟩ v) e:=by
 obtain ⟨a,A,m,d,A',m',d',ns,ms,e1,r1,r2,e2⟩:=h;exact ⟨a,A,m,d,A',m',d',ns,ms,e1,(r1.uf h2 s' v).more (by simp),(r2.uf h2 s' v).more (by simp),e2⟩
theorem dA.gG{e:Qn}{g n c:Nat}{s:Bool}{t:TypeId}{X:Option Addr}(h:dA w e)(h2:Two w g t (.bool s) (.slice X n c))(s':Bool)(v:Value):dA ((w.setCell ⟨g,0,none⟩ (.bool s')).setCell ⟨g,1,none⟩ v) e:=by
 obtain ⟨a,A,m,d,A',m',d',ns,ms,e1,r1,r2,e2⟩:=h;exact ⟨a,A,m,d,A',m',d',ns,ms,e1,(r1.gG h2 s' v).more (by simp),(r2.gG h2 s' v).more (by simp),e2⟩
theorem cO.vT{g g':Nat}{t t':TypeId}{a b c x y:Value}(h:cO w g t a b c)(h':Two w g' t' x y):g≠g':=by
 rintro rfl;unfold cO at h;unfold Two at h';grind
theorem cO.far{g:Nat}{t:TypeId}{a b c:Value}(h:cO w g t a b c){p:Addr}(hp:g≠p.block)(u:Value):cO (w.setCell p u) g t a b c:=(Below.heap_setCell w p u g hp).trans h
end
end Lw
namespace Go.Proofs.BGQ
open Go Go.RowKit Lw
def fC(W0:World)(bs:List Bx)(L:List En)(ts:List Bt)(M:List Qn)(z:Int)(k:Nat)(e:Ending)(w':World):Prop :=
 ∃ (s:Bool) (A:Option Addr) (n c:Nat),e = .returned (.agg #[.bool s,.slice A n c])/\bu W0 w' bs (⟨.agg #[.bool s,.slice A n c],z,k,true⟩::L) ts M
def eF(W0:World)(bs:List Bx)(L:List En)(ts:List Bt)(M:List Qn)(q:Rat)(k:Nat)(e:Ending)(w':World):Prop :=
 ∃ (s:Bool) (A:Option Addr) (n c:Nat) (A':Option Addr) (n' c':Nat),e = .returned (.agg #[.bool s,.slice A n c,.slice A' n' c'])/\bu W0 w' bs L ts (⟨.agg #[.bool s,.slice A n c,.slice A' n' c'],q,k,true⟩::M)
section
variable {W0 w w':World} {bs:List Bx} {L L':List En} {ts:List Bt} {M M':List Qn}
theorem bu.step(h:bu W0 w bs L ts M)(he:Env 79 w w' [] L'):bu W0 w' bs L' ts M :=
 h.back ⟨he,(h.here.next he.below).fr,fun _ hb=>by simp at hb,h.here.tz,h.here.tab,fun _ hb=>by simp at hb,fun _ hb=>by simp at hb⟩
theorem bu.qH{z:Int}{k:Nat}{e:Ending}(h:bu W0 w bs L ts M)(hh : ∃ u,e = .returned u/\Env 79 w w' [] (⟨u,z,k,true⟩::L)):fC W0 bs L ts M z k e w':=by
 obtain ⟨u,rfl,he⟩:=hh;obtain ⟨s,A,n,c,e1⟩:=he.shape ak;subst e1;exact ⟨s,A,n,c,rfl,h.step he⟩
theorem bu.Za{z:Int}{k:Nat}{e:Ending}(h:bu W0 w bs L ts M)(hh : ∃ (s:Bool) (D:Option Addr) (m d:Nat),e = .returned (.agg #[.bool s,.slice D m d])/\Env 79 w w' [] (⟨.agg #[.bool s,.slice D m d],z,k,true⟩::L)):fC W0 bs L ts M z k e w':=by
 obtain ⟨s,D,m,d,rfl,he⟩:=hh;exact ⟨s,D,m,d,rfl,h.step he⟩
theorem fC.of{z:Int}{k:Nat}{e:Ending}(h:bu W0 w bs L ts M)(hh:fC w [] L [] M z k e w'):fC W0 bs L ts M z k e w':=by
 obtain ⟨s,A,n,c,rfl,he⟩:=hh;exact ⟨s,A,n,c,rfl,h.back he⟩
theorem eF.of{q:Rat}{k:Nat}{e:Ending}(h:bu W0 w bs L ts M)(hh:eF w [] L [] M q k e w'):eF W0 bs L ts M q k e w':=by
 obtain ⟨s,A,n,c,A',n',c',rfl,he⟩:=hh;exact ⟨s,A,n,c,A',n',c',rfl,h.back he⟩
theorem bu.bV(h:bu W0 w bs L ts M)(x y:Value):bu W0 (w.alloc (.cells #[x,y] 79)) (⟨w.heap.size,x,y⟩::bs) L ts M :=
 have h2:=h.alloc (.cells #[x,y] 79)
 ⟨h.env.BM x y,h2.fr,h2.tri,h2.tz,h2.tab,fun b hb=>by
  rcases List.mem_cons.1 hb with rfl | hb
  ·exact h.below.size
  ·exact h.lo b hb,h.lot⟩
theorem bu.dF(h:bu W0 w bs L ts M)(x y z:Value):bu W0 (w.alloc (.cells #[x,y,z] 24)) bs L (⟨w.heap.size,x,y,z⟩::ts) M :=
 have h2:=h.alloc (.cells #[x,y,z] 24)
 ⟨h2.env,h2.fr,fun b hb=>by
  rcases List.mem_cons.1 hb with rfl | hb
  ·exact cO.new w _ x y z
  ·exact h2.tri b hb,h2.tz,h2.tab,h.lo,fun b hb=>by
  rcases List.mem_cons.1 hb with rfl | hb
  ·exact h.below.size
  ·exact h.lot b hb⟩
theorem bu.iT{g n c n' c' m d:Nat}{s:Bool}{X X' D:Option Addr}(h:bu W0 w bs L ts M)(hm:⟨g,.bool s,.slice X n c,.slice X' n' c'⟩∈ts)(s':Bool)(v:Value) :
  bu W0 (((w.setCell ⟨g,0,none⟩ (.bool s')).setCell ⟨g,1,none⟩ (.slice D m d)).setCell ⟨g,2,none⟩ v) bs L [] M :=
 have h2:=h.tri _ hm;have hg:W0.heap.size<=g:=h.lot _ hm
 ⟨⟨fun e he=>(h.env.ops e he).uf h2 s' v,fun b hb =>
  have h3:=h.env.box b hb;have hne:b.g≠g:=fun e=>h2.vT h3 e.symm
  ((h3.far (p:=⟨g,0,none⟩) hne _).far (p:=⟨g,1,none⟩) hne _).far (p:=⟨g,2,none⟩) hne _,((h.below.setCell hg _).setCell hg _).setCell hg _⟩,fun e he=>(h.fr e he).uf h2 s' v,fun _ hb=>by simp at hb,h.tz,h.tab,h.lo,fun _ hb=>by simp at hb⟩
theorem bu.iF{g n c:Nat}{s:Bool}{X:Option Addr}(h:bu W0 w bs L ts M)(hm:⟨g,.bool s,.slice X n c⟩∈bs)(bs':List Bx)(hs : ∀ b∈bs',b∈bs/\b.g≠g)(s':Bool)(v:Value) :
  bu W0 ((w.setCell ⟨g,0,none⟩ (.bool s')).setCell ⟨g,1,none⟩ v) (⟨g,.bool s',v⟩::bs') L ts M :=
 have h2:=h.env.box _ hm;have hg:W0.heap.size<=g:=h.lo _ hm
 ⟨⟨fun e he=>(h.env.ops e he).put h2 s' v,fun b hb=>by
  rcases List.mem_cons.1 hb with rfl | hb
  ·exact h2.put _ _
  ·exact ((h.env.box b (hs b hb).1).far (p:=⟨g,0,none⟩) (hs b hb).2 _).far (p:=⟨g,1,none⟩) (hs b hb).2 _,(h.below.setCell hg _).setCell hg _⟩,
  fun e he=>(h.fr e he).gG h2 s' v,fun b hb=>((h.tri b hb).far (p:=⟨g,0,none⟩) ((h.tri b hb).vT h2) _).far (p:=⟨g,1,none⟩) ((h.tri b hb).vT h2) _,h.tz,h.tab,fun b hb=>by
  rcases List.mem_cons.1 hb with rfl | hb
  ·exact hg
  ·exact h.lo b (hs b hb).1,h.lot⟩
theorem bu.done2{g n c:Nat}{s:Bool}{X:Option Addr}(h:bu W0 w bs L ts M)(hm:⟨g,.bool s,.slice X n c⟩∈bs)(s':Bool)(v:Value) :
  bu W0 ((w.setCell ⟨g,0,none⟩ (.bool s')).setCell ⟨g,1,none⟩ v) [] L [] M :=
 have h2:=h.iF hm [] (fun _ hb=>by simp at hb) s' v
 ⟨⟨h2.env.ops,fun _ hb=>by simp at hb,h2.env.below⟩,h2.fr,fun _ hb=>by simp at hb,h2.tz,h2.tab,fun _ hb=>by simp at hb,fun _ hb=>by simp at hb⟩
theorem bu.c2{g:Nat}{x y:Value}(h:bu W0 w bs L ts M)(hm:⟨g,x,y⟩∈bs):w.cell? ⟨g,0,none⟩=some x/\w.cell? ⟨g,1,none⟩=some y/\w.frozen? ⟨g,0,none⟩=false/\w.frozen? ⟨g,1,none⟩=false:=(h.env.box _ hm).facts
theorem bu.c3{g:Nat}{x y z:Value}(h:bu W0 w bs L ts M)(hm:⟨g,x,y,z⟩∈ts):w.cell? ⟨g,0,none⟩=some x/\w.cell? ⟨g,1,none⟩=some y/\w.cell? ⟨g,2,none⟩=some z/\w.frozen? ⟨g,0,none⟩=false/\w.frozen? ⟨g,1,none⟩=false/\w.frozen? ⟨g,2,none⟩=false:=(h.tri _ hm).cells
theorem bu.tl{e:En}(h:bu W0 w bs (e::L) ts M):bu W0 w bs L ts M:=⟨h.env.tail,h.fr,h.tri,h.tz,h.tab,h.lo,h.lot⟩
theorem bu.t2{g1 g2:Nat}{x1 y1 z1 x2 y2 z2:Value}(h:bu W0 w bs L (⟨g2,x2,y2,z2⟩::⟨g1,x1,y1,z1⟩::ts) M) :
  w.cell? ⟨g1,0,none⟩=some x1/\w.cell? ⟨g1,1,none⟩=some y1/\w.cell? ⟨g1,2,none⟩=some z1/\w.cell? ⟨g2,0,none⟩=some x2/\w.cell? ⟨g2,1,none⟩=some y2/\w.cell? ⟨g2,2,none⟩=some z2 :=
 ⟨(h.c3 au).1,(h.c3 au).2.1,(h.c3 au).2.2.1,(h.c3 ak).1,(h.c3 ak).2.1,(h.c3 ak).2.2.1⟩
theorem bu.c4{g1 g2 g3 g4:Nat}{x1 y1 x2 y2 x3 y3 x4 y4:Value}(h:bu W0 w (⟨g4,x4,y4⟩::⟨g3,x3,y3⟩::⟨g2,x2,y2⟩::⟨g1,x1,y1⟩::bs) L ts M) :
  w.cell? ⟨g1,0,none⟩=some x1/\w.cell? ⟨g1,1,none⟩=some y1/\w.cell? ⟨g2,0,none⟩=some x2/\w.cell? ⟨g2,1,none⟩=some y2/\w.cell? ⟨g3,0,none⟩=some x3/\w.cell? ⟨g3,1,none⟩=some y3/\w.cell? ⟨g4,0,none⟩=some x4/\w.cell? ⟨g4,1,none⟩=some y4 :=
 ⟨(h.c2 az).1,(h.c2 az).2.1,(h.c2 ay).1,(h.c2 ay).2.1,(h.c2 au).1,(h.c2 au).2.1,(h.c2 ak).1,(h.c2 ak).2.1⟩
theorem bu.c5{g1 g2 g3 g4 g5:Nat}{x1 y1 x2 y2 x3 y3 x4 y4 x5 y5:Value}(h:bu W0 w (⟨g5,x5,y5⟩::⟨g4,x4,y4⟩::⟨g3,x3,y3⟩::⟨g2,x2,y2⟩::⟨g1,x1,y1⟩::bs) L ts M) :
  w.cell? ⟨g1,0,none⟩=some x1/\w.cell? ⟨g1,1,none⟩=some y1/\w.cell? ⟨g2,0,none⟩=some x2/\w.cell? ⟨g2,1,none⟩=some y2/\w.cell? ⟨g3,0,none⟩=some x3/\w.cell? ⟨g3,1,none⟩=some y3/\w.cell? ⟨g4,0,none⟩=some x4/\w.cell? ⟨g4,1,none⟩=some y4/\w.cell? ⟨g5,0,none⟩=some x5/\w.cell? ⟨g5,1,none⟩=some y5 :=
 ⟨(h.c2 aA).1,(h.c2 aA).2.1,(h.c2 az).1,(h.c2 az).2.1,(h.c2 ay).1,(h.c2 ay).2.1,(h.c2 au).1,(h.c2 au).2.1,(h.c2 ak).1,(h.c2 ak).2.1⟩
theorem bu.c6{g1 g2 g3 g4 g5 g6:Nat}{x1 y1 x2 y2 x3 y3 x4 y4 x5 y5 x6 y6:Value}(h:bu W0 w (⟨g6,x6,y6⟩::⟨g5,x5,y5⟩::⟨g4,x4,y4⟩::⟨g3,x3,y3⟩::⟨g2,x2,y2⟩::⟨g1,x1,y1⟩::bs) L ts M) :
  w.cell? ⟨g1,0,none⟩=some x1/\w.cell? ⟨g1,1,none⟩=some y1/\w.cell? ⟨g2,0,none⟩=some x2/\w.cell? ⟨g2,1,none⟩=some y2/\w.cell? ⟨g3,0,none⟩=some x3/\w.cell? ⟨g3,1,none⟩=some y3/\w.cell? ⟨g4,0,none⟩=some x4/\w.cell? ⟨g4,1,none⟩=some y4/\w.cell? ⟨g5,0,none⟩=some x5/\w.cell? ⟨g5,1,none⟩=some y5/\w.cell? ⟨g6,0,none⟩=some x6/\w.cell? ⟨g6,1,none⟩=some y6 :=
 ⟨(h.c2 aB).1,(h.c2 aB).2.1,(h.c2 aA).1,(h.c2 aA).2.1,(h.c2 az).1,(h.c2 az).2.1,(h.c2 ay).1,(h.c2 ay).2.1,(h.c2 au).1,(h.c2 au).2.1,(h.c2 ak).1,(h.c2 ak).2.1⟩
theorem bu.c7{g1 g2 g3 g4 g5 g6 g7:Nat}{x1 y1 x2 y2 x3 y3 x4 y4 x5 y5 x6 y6 x7 y7:Value}(h:bu W0 w (⟨g7,x7,y7⟩::⟨g6,x6,y6⟩::⟨g5,x5,y5⟩::⟨g4,x4,y4⟩::⟨g3,x3,y3⟩::⟨g2,x2,y2⟩::⟨g1,x1,y1⟩::bs) L ts M) :
  w.cell? ⟨g1,0,none⟩=some x1/\w.cell? ⟨g1,1,none⟩=some y1/\w.cell? ⟨g2,0,none⟩=some x2/\w.cell? ⟨g2,1,none⟩=some y2/\w.cell? ⟨g3,0,none⟩=some x3/\w.cell? ⟨g3,1,none⟩=some y3/\w.cell? ⟨g4,0,none⟩=some x4/\w.cell? ⟨g4,1,none⟩=some y4/\w.cell? ⟨g5,0,none⟩=some x5/\w.cell? ⟨g5,1,none⟩=some y5/\w.cell? ⟨g6,0,none⟩=some x6/\w.cell? ⟨g6,1,none⟩=some y6/\w.cell? ⟨g7,0,none⟩=some x7/\w.cell? ⟨g7,1,none⟩=some y7 :=
 ⟨(h.c2 aC).1,(h.c2 aC).2.1,(h.c2 aB).1,(h.c2 aB).2.1,(h.c2 aA).1,(h.c2 aA).2.1,(h.c2 az).1,(h.c2 az).2.1,(h.c2 ay).1,(h.c2 ay).2.1,(h.c2 au).1,(h.c2 au).2.1,(h.c2 ak).1,(h.c2 ak).2.1⟩
theorem bu.Ej{b:Bx}(h:bu W0 w (b::bs) L ts M):bu W0 w bs L ts M:=⟨h.env.afK,h.fr,h.tri,h.tz,h.tab,fun b hb=>h.lo b (.tail _ hb),h.lot⟩
theorem bu.hdi{v:Value}{z:Int}{k K:Nat}{b:Bool}(h:bu W0 w bs (⟨v,z,k,b⟩::L) ts M)(hk:dB w ⟨v,z,k,b⟩->dB w ⟨v,z,K,b⟩):bu W0 w bs (⟨v,z,K,b⟩::L) ts M:=h.tl.push (hk (h.env.ops _ ak))
theorem bu.b1(h:bu W0 w bs L ts M):bu W0 (w.alloc (.cells #[.bool false,.slice none 0 0] 79)) (⟨w.heap.size,.bool false,.slice none 0 0⟩::bs) L ts M:=h.bV _ _
theorem bu.b2(h:bu W0 w bs L ts M):bu W0 ((w.alloc (.cells #[.bool false,.slice none 0 0] 79)).alloc (.cells #[.bool false,.slice none 0 0] 79)) (⟨w.heap.size+1,.bool false,.slice none 0 0⟩::⟨w.heap.size,.bool false,.slice none 0 0⟩::bs) L ts M:=by
 have:=h.b1.b1
 simp_all
theorem bu.two{g:Nat}{x y:Value}(h:bu W0 w bs L ts M)(hm:⟨g,x,y⟩∈bs):Two w g 79 x y:=h.env.box _ hm
theorem bu.BL{g:Nat}{x y:Value}(h:bu W0 w bs L ts M)(h2:Two w g 79 x y)(hg:W0.heap.size<=g):bu W0 w (⟨g,x,y⟩::bs) L ts M :=
 ⟨⟨h.env.ops,fun b hb=>by
  rcases List.mem_cons.1 hb with rfl | hb
  ·exact h2
  ·exact h.env.box b hb,h.env.below⟩,h.fr,h.tri,h.tz,h.tab,fun b hb=>by
  rcases List.mem_cons.1 hb with rfl | hb
  ·exact hg
  ·exact h.lo b hb,h.lot⟩
theorem bu.Jy{g n c:Nat}{s:Bool}{X:Option Addr}(h:bu W0 w [] L ts M)(h2:Two w g 79 (.bool s) (.slice X n c))(hg:W0.heap.size<=g)(s':Bool)(v:Value) :
  bu W0 ((w.setCell ⟨g,0,none⟩ (.bool s')).setCell ⟨g,1,none⟩ v) [] L ts M :=
 ((h.BL h2 hg).iF ak [] (fun _ hb=>by simp at hb) s' v).Ej
theorem bu.bare(h:bu W0 w bs L ts M):bu W0 w [] L [] M:=⟨⟨h.env.ops,fun _ hb=>by simp at hb,h.env.below⟩,h.fr,fun _ hb=>by simp at hb,h.tz,h.tab,fun _ hb=>by simp at hb,fun _ hb=>by simp at hb⟩
end
section
variable {W0 w:World} {bs:List Bx} {L:List En} {ts:List Bt} {M:List Qn} {v v':Value} {x y:Int} {k k':Nat} {b b':Bool}
theorem tJ{z:Int}(HE:bu W0 w bs L ts M)(h1 : -9223372036854775808<=z)(h2:z<=9223372036854775807) :
  Calls Tryz.prog 121 #[.int .i64 z] w (fC W0 bs L ts M z 2):=(ab1 HE.env.here h1 h2).mono fun _ _ hh=>HE.qH hh
theorem O0(HE:bu W0 w bs L ts M)(h:⟨v,x,k,b⟩∈L)(h':⟨v',y,k',b'⟩∈L)(hk:k+k'<=100000) :
  Calls Tryz.prog 70 #[v,v'] w (fC W0 bs L ts M (x+y) (k+k'+1)):=(VW HE.env.here h h' hk).mono fun _ _ hh=>HE.qH hh
theorem Di(HE:bu W0 w bs L ts M)(h:⟨v,x,k,b⟩∈L)(h':⟨v',y,k',b'⟩∈L)(hk:k+k'<=100000) :
  Calls Tryz.prog 69 #[v,v'] w (fC W0 bs L ts M (x*y) (k+k'+1)):=(abb HE.env.here h h' hk).mono fun _ _ hh=>HE.qH hh
theorem Ij(HE:bu W0 w bs L ts M)(h:⟨v,x,k,b⟩∈L)(hk:k<=100000) :
  Calls Tryz.prog 72 #[v] w fun e w'=>e = .returned (.int .i64 (dD x))/\bu W0 w' bs L ts M:=(aeW HE.env.here h hk).mono fun _ _ hh=>⟨hh.1,HE.step hh.2⟩
theorem O6(HE:bu W0 w bs L ts M)(h:⟨v,x,k,b⟩∈L)(hk:k<=100000) :
  Calls Tryz.prog 89 #[v] w (fC W0 bs L ts M (-x) k):=(abK HE.env.here h hk).mono fun _ _ hh=>HE.qH hh
theorem aaF(HE:bu W0 w bs L ts M)(h:⟨v,x,k,b⟩∈L)(h':⟨v',y,k',b'⟩∈L)(hk:k+k'<=100000) :
  Calls Tryz.prog 137 #[v,v'] w (fC W0 bs L ts M ((Nat.gcd x.natAbs y.natAbs:Nat):Int) (k+k')):=(Y2 HE.env.here h h' hk).mono fun _ _ hh=>HE.Za hh
theorem aaE(HE:bu W0 w bs L ts M)(h:⟨v,x,k,b⟩∈L)(h':⟨v',y,k',b'⟩∈L)(hk:k+k'<=100000)(hy:y≠0) :
  Calls Tryz.prog 173 #[v,v'] w fun e w' => ∃ (s s':Bool) (D D':Option Addr) (m d m' d':Nat),e = .returned (.tuple #[.agg #[.bool s,.slice D m d],.agg #[.bool s',.slice D' m' d'],.nilIface])/\bu W0 w' bs (⟨.agg #[.bool s,.slice D m d],x/y,k+1,true⟩::⟨.agg #[.bool s',.slice D' m' d'],x%y,k',true⟩::L) ts M :=
 (XZ HE.env.here h h' hk hy).mono fun _ _ ⟨s,s',D,D',m,d,m',d',e1,he⟩=>⟨s,s',D,D',m,d,m',d',e1,HE.step he⟩
theorem Pg(HE:bu W0 w bs L ts M)(h:⟨v,x,k,b⟩∈L)(hk:k<=100000) :
  Calls Tryz.prog 94 #[v] w fun e w'=>e = .returned (.string ⟨(Lib.itoa x).toArray⟩)/\bu W0 w' bs L ts M:=by
 obtain ⟨s,A,n,c,ns,B,e1,h2,h3,h4,h5,h6,e7,h8⟩:=HE.env.ops _ h;dsimp only at e1 e7 h5;subst e1 e7;exact (afd s A ns n c B w h2 h3 h4 af h6 (HE.tab.next HE.below)).mono fun e w' hh=>⟨hh.1,HE.next hh.2⟩
end
end Go.Proofs.BGQ
namespace Lw
open Go Go.RowKit
theorem dB.weak{w:World}{v:Value}{z:Int}{k k':Nat}{b:Bool}(h:dB w ⟨v,z,k,b⟩)(hk:k<=k'):dB w ⟨v,z,k',b⟩:=by
 obtain ⟨s,A,n,c,ns,B,h1,h2,h3,h4,h5,h6⟩:=h;exact ⟨s,A,n,c,ns,B,h1,h2,h3,h4,aoH h5 hk,h6⟩
theorem dB.len{w:World}{s:Bool}{A:Option Addr}{n c k:Nat}{z:Int}(h:dB w ⟨.agg #[.bool s,.slice A n c],z,k,true⟩) :
  s=sg z/\n=(mg z).length/\Rd w w.heap.size A (mg z)/\n<=k/\n<=c:=by
 obtain ⟨s',A1,n1,c1,ns,B,e1,h2,h3,h4,h5,h6,e7,h8⟩:=h;dsimp only at e1 e7 h5 h8;obtain ⟨a1,a2,_⟩:=rD (z:=z) h8 (by rw [<- e7];unfold zv;rw [if_pos h8]) h2.bQ
 injection e1 with e1
 injection e1 with e1;simp only [List.cons.injEq,Value.bool.injEq,Value.slice.injEq,and_true] at e1;obtain ⟨rfl,rfl,rfl,rfl⟩:=e1;rw [a1,a2];exact ⟨rfl,h4.symm,h2.more h3,h5,h6⟩
theorem vS{q:Rat}{n:Nat}(h:n=(rn q).length):n=0↔q=0:=by
 rw [<- Rj,<- aql,h]
theorem aa9{z:Int}{n:Nat}(h:n=(mg z).length):n=0↔z=0:=by rw [<- kW,h]
end Lw
namespace Go.Proofs.BGQ
open Go Go.RowKit Lw
section
variable {W0 w:World} {bs:List Bx} {L:List En} {ts:List Bt} {M:List Qn} {s s':Bool} {A A':Option Addr} {n c n' c' k k':Nat} {q:Rat} {x y:Int}
theorem bu.r3{g1 g2 g3:Nat}{x1 y1 x2 y2 x3 y3:Value}(h:bu W0 w (⟨g3,x3,y3⟩::⟨g2,x2,y2⟩::⟨g1,x1,y1⟩::bs) L ts M) :
  w.cell? ⟨g1,0,none⟩=some x1/\w.cell? ⟨g1,1,none⟩=some y1/\w.cell? ⟨g2,0,none⟩=some x2/\w.cell? ⟨g2,1,none⟩=some y2/\w.cell? ⟨g3,0,none⟩=some x3/\w.cell? ⟨g3,1,none⟩=some y3 :=
 ⟨(h.c2 ay).1,(h.c2 ay).2.1,(h.c2 au).1,(h.c2 au).2.1,(h.c2 ak).1,(h.c2 ak).2.1⟩
def kG(W0:World)(bs:List Bx)(L:List En)(ts:List Bt)(M:List Qn)(x y:Int)(k:Nat)(e:Ending)(w':World):Prop :=
 ∃ (s:Bool) (A:Option Addr) (n c:Nat) (s':Bool) (A':Option Addr) (n' c':Nat),e = .returned (.tuple #[.agg #[.bool s,.slice A n c],.agg #[.bool s',.slice A' n' c']])/\bu W0 w' bs (⟨.agg #[.bool s,.slice A n c],x,k,true⟩::⟨.agg #[.bool s',.slice A' n' c'],y,k,true⟩::L) ts M
theorem kG.of{w':World}{e:Ending}(h:bu W0 w bs L ts M)(hh:kG w [] L [] M x y k e w'):kG W0 bs L ts M x y k e w':=by
 obtain ⟨s,A,n,c,s',A',n',c',rfl,he⟩:=hh;exact ⟨s,A,n,c,s',A',n',c',rfl,h.back he⟩
set_option maxRecDepth 100000 in
set_option maxHeartbeats 1600000 in
theorem IJ(HE:bu W0 w bs L ts M)(h:⟨.agg #[.bool s,.slice A n c,.slice A' n' c'],q,k,true⟩∈M) :
  Calls Tryz.prog 92 #[.agg #[.bool s,.slice A n c,.slice A' n' c']] w (kG W0 bs L ts M q.num (q.den:Int) (k+2)):=by
 suffices hs:Calls Tryz.prog 92 #[.agg #[.bool s,.slice A n c,.slice A' n' c']] w (kG w [] L [] M q.num (q.den:Int) (k+2)) from hs.mono fun _ _ hh=>kG.of HE hh
 have hn:=vS (HE.fr _ h).own.2.1;have H1:=((HE.here.dF (.bool s) (.slice A n c) (.slice A' n' c')).bV (.bool false) (.slice none 0 0)).bV (.bool false) (.slice none 0 0);simp only [World.size_alloc] at H1
 by_cases hq:q=0
 ·obtain rfl:=hn.2 hq
  have HQ:=Lib.hid hq;obtain ⟨e0,e1,e2,e3,e4,e5⟩:=H1.c3 ak;clear hn hq
  go_enter Tryz.func92,Tryz.ntmps92
  go_wp2_with fail
  refine (tJ H1 af af).mono ?_;rintro e w1 ⟨s1,A1,n1,c1,rfl,H2⟩;obtain ⟨a0,a1,a2,a3⟩:=H2.c2 ak;obtain ⟨b0,b1,b2,b3⟩:=H2.c2 au;clear e0 e1 e2 e3 e4 e5
  go_wp2_with fail
  refine bodyPost_ret (v := .tuple #[.agg #[.bool false,.slice none 0 0],.agg #[.bool s1,.slice A1 n1 c1]]) (by simp [results,Tryz.results92,go_sem,a0,a1,b0,b1]) rfl ?_;have H3:=(H2.iF au [⟨w.heap.size+1+1,.bool false,.slice none 0 0⟩] (fun b hb=>by simp only [List.mem_cons,List.not_mem_nil,or_false] at hb;subst hb;exact ⟨ak,by dsimp only;omega⟩) false (.slice none 0 0)).done2 au s1 (.slice A1 n1 c1);have hq:=HQ.out;subst hq;have h1:=H3.env.ops _ ak;exact ⟨_,_,_,_,_,_,_,_,rfl,(H3.tl.push (h1.weak af)).push ⟨false,none,0,0,[],0,rfl,Rd.nil_ _ _ _,aoI _,rfl,aoI _,aoG _,rfl,rfl⟩⟩
 ·have hn0:((n:Int)==0)=false:=by rw [beq_eq_false_iff_ne];have:=mt hn.1 hq;omega
  have HQ:=Lib.hid hq;clear hn hq;obtain ⟨e0,e1,e2,e3,e4,e5⟩:=H1.c3 ak
  go_enter Tryz.func92,Tryz.ntmps92
  go_wp2_with fail
  go_region
  go_wp2_with fail
  have H2:=(((HE.here.dF (.bool s) (.slice A n c) (.slice A' n' c')).bV (.bool s) (.slice A n c)).bV (.bool false) (.slice A' n' c')).drew;simp only [World.size_alloc] at H2;obtain ⟨a0,a1,a2,a3⟩:=H2.c2 ak;obtain ⟨b0,b1,b2,b3⟩:=H2.c2 au;refine bodyPost_ret (v := .tuple #[.agg #[.bool s,.slice A n c],.agg #[.bool false,.slice A' n' c']]) (by simp [results,Tryz.results92,go_sem]) rfl ?_;have H3:=H2.bare.parts h HQ.out;exact ⟨_,_,_,_,_,_,_,_,rfl,(H3.tl.tl.push ((H3.env.ops _ au).weak af)).push ((H3.env.ops _ ak).weak af)⟩
set_option maxRecDepth 100000 in
set_option maxHeartbeats 1600000 in
theorem Iu(HE:bu W0 w bs L ts M)(h:⟨.agg #[.bool s,.slice A n c],x,k,true⟩∈L)(h':⟨.agg #[.bool s',.slice A' n' c'],y,k',true⟩∈L)(hx:q.num=x)(hy:(q.den:Int)=y) :
  Calls Tryz.prog 120 #[.agg #[.bool s,.slice A n c],.agg #[.bool s',.slice A' n' c']] w (eF W0 bs L ts M q (k+k')):=by
 suffices hs:Calls Tryz.prog 120 #[.agg #[.bool s,.slice A n c],.agg #[.bool s',.slice A' n' c']] w (eF w [] L [] M q (k+k')) from hs.mono fun _ _ hh=>eF.of HE hh
 have hn:=aa9 (HE.env.ops _ h).len.2.1;have H1:=((HE.here.bV (.bool s) (.slice A n c)).bV (.bool s') (.slice A' n' c')).dF (.bool false) (.slice none 0 0) (.slice none 0 0);simp only [World.size_alloc] at H1;obtain ⟨a0,a1,a2,a3⟩:=H1.c2 au;obtain ⟨b0,b1,b2,b3⟩:=H1.c2 ak
 by_cases hq:x=0
 ·obtain rfl:=hn.2 hq
  have HQ:=Lib.hid (show q=0 from apK.1 (by rw [hx,hq]));clear hn hq hx hy
  go_enter Tryz.func120,Tryz.ntmps120
  go_wp2_with fail
  have H2:=((HE.here.bV (.bool s) (.slice A 0 c)).bV (.bool s') (.slice A' n' c')).dF (.bool false) (.slice none 0 0) (.slice none 0 0);refine bodyPost_ret (v := .agg #[.bool false,.slice none 0 0,.slice none 0 0]) (by simp [results,Tryz.results120,go_sem]) rfl ?_;rw [HQ.out];exact ⟨_,_,_,_,_,_,_,rfl,H2.bare.zero _⟩
 ·have hn0:((n:Int)==0)=false:=by rw [beq_eq_false_iff_ne];have:=mt hn.1 hq;omega
  have hg:Nat.gcd x.natAbs y.natAbs=1:=by rw [<- hx,<- hy,aoL];exact q.reduced
  have hy0:0<y:=by rw [<- hy];exact den_pos q
  have HQ:=Lib.hid (show Rat.divInt x y=q by rw [<- hx,<- hy];exact aps q);have HX:=Lib.hid (show x≠0/\0<y/\Nat.gcd x.natAbs y.natAbs=1 from ⟨hq,hy0,hg⟩);clear hn hq hx hy hg hy0
  go_enter Tryz.func120,Tryz.ntmps120
  go_wp2_with fail
  have H2:=((HE.here.bV (.bool s) (.slice A n c)).bV (.bool s') (.slice A' n' c')).dF (.bool s) (.slice A n c) (.slice A' n' c');refine bodyPost_ret (v := .agg #[.bool s,.slice A n c,.slice A' n' c']) (by simp [results,Tryz.results120,go_sem]) rfl ?_;have H3:=H2.bare.Gu h h' HX.out.1 HX.out.2.1 HX.out.2.2;rw [HQ.out] at H3;exact ⟨_,_,_,_,_,_,_,rfl,H3⟩
set_option maxRecDepth 100000 in
set_option maxHeartbeats 1600000 in
theorem Yz{b b':Bool}(HE:bu W0 w bs L ts M)(h:⟨.agg #[.bool s,.slice A n c],x,k,b⟩∈L)(h':⟨.agg #[.bool s',.slice A' n' c'],y,k',b'⟩∈L)(hk:k+k'<=100000)(hy:y≠0) :
  Calls Tryz.prog 138 #[.agg #[.bool s,.slice A n c],.agg #[.bool s',.slice A' n' c']] w (fC W0 bs L ts M (x/y) (k+1)):=by
 suffices hs:Calls Tryz.prog 138 #[.agg #[.bool s,.slice A n c],.agg #[.bool s',.slice A' n' c']] w (fC w [] L [] M (x/y) (k+1)) from hs.mono fun _ _ hh=>fC.of HE hh
 have H1:=((HE.here.bV (.bool s) (.slice A n c)).bV (.bool s') (.slice A' n' c')).bV (.bool false) (.slice none 0 0);simp only [World.size_alloc] at H1;obtain ⟨a0,a1,a2,a3⟩:=H1.c2 ay;obtain ⟨b0,b1,b2,b3⟩:=H1.c2 au;have HY:=Lib.hid hy;clear hy
 go_enter Tryz.func138,Tryz.ntmps138
 go_wp2_with fail
 refine (aaE H1 h h' hk HY.out).mono ?_;rintro e w1 ⟨s1,s2,D1,D2,m1,d1,m2,d2,rfl,H2⟩;have H3:=(H2.bV (.bool s1) (.slice D1 m1 d1)).bV (.bool s2) (.slice D2 m2 d2);simp only [World.size_alloc] at H3;clear a0 a1 a2 a3 b0 b1 b2 b3;obtain ⟨a0,a1,a2,a3⟩:=H3.c2 ay;obtain ⟨b0,b1,b2,b3⟩:=H3.c2 au
 go_wp2_with fail
 obtain ⟨f0,f1,f2,f3⟩:=H3.c2 ay;refine bodyPost_ret (v := .agg #[.bool s1,.slice D1 m1 d1]) (by simp [results,Tryz.results138,go_sem,f0,f1]) rfl ?_;exact ⟨_,_,_,_,rfl,((H3.done2 ay s1 (.slice D1 m1 d1)).pick (fun e he=>by rcases List.mem_cons.1 he with rfl | he;exact ak;exact .tail _ (.tail _ he)) (fun _ he=>he))⟩
set_option maxRecDepth 100000 in
set_option maxHeartbeats 1600000 in
theorem I8{b b':Bool}(HE:bu W0 w bs L ts M)(h:⟨.agg #[.bool s,.slice A n c],x,k,b⟩∈L)(h':⟨.agg #[.bool s',.slice A' n' c'],y,k',b'⟩∈L)(hk:k+k'<=40000)(hy:0<y) :
  Calls Tryz.prog 90 #[.agg #[.bool s,.slice A n c],.agg #[.bool s',.slice A' n' c']] w (eF W0 bs L ts M (Rat.divInt x y) (k+1+(k'+1))):=by
 suffices hs:Calls Tryz.prog 90 #[.agg #[.bool s,.slice A n c],.agg #[.bool s',.slice A' n' c']] w (eF w [] L [] M (Rat.divInt x y) (k+1+(k'+1))) from hs.mono fun _ _ hh=>eF.of HE hh
 have H1:=((HE.here.bV (.bool s) (.slice A n c)).bV (.bool s') (.slice A' n' c')).dF (.bool false) (.slice none 0 0) (.slice none 0 0);simp only [World.size_alloc] at H1;obtain ⟨a0,a1,a2,a3⟩:=H1.c2 au;obtain ⟨b0,b1,b2,b3⟩:=H1.c2 ak;obtain ⟨g,hg⟩ : ∃ g:Int,g=(Nat.gcd x.natAbs y.natAbs:Nat):=⟨_,rfl⟩;have HR:=Lib.hid (I7 hy hg);have HG:=Lib.hid hg;clear hy hg;generalize Rat.divInt x y=q at *
 go_enter Tryz.func90,Tryz.ntmps90
 go_wp2_with fail
 refine (aaF H1 h h' af).mono ?_;rintro e w1 ⟨s1,D1,m1,d1,rfl,H2⟩;rw [<- HG.out] at H2;have HE:=H2.bV (.bool s1) (.slice D1 m1 d1);clear a0 a1 a2 a3 b0 b1 b2 b3;obtain ⟨a0,a1,a2,a3⟩:=HE.c2 ay;obtain ⟨b0,b1,b2,b3⟩:=HE.c2 au;obtain ⟨f0,f1,f2,f3⟩:=HE.c2 ak;clear H1 H2
 go_wp2_with fail
 go_region_held3 (fun w'=>w'.cell? ⟨w.heap.size,0,none⟩=some (.bool s)/\w'.cell? ⟨w.heap.size,1,none⟩=some (.slice A n c)/\w'.cell? ⟨w.heap.size+1,0,none⟩=some (.bool s')/\w'.cell? ⟨w.heap.size+1,1,none⟩=some (.slice A' n' c')/\w'.cell? ⟨w1.heap.size,0,none⟩=some (.bool s1)/\w'.cell? ⟨w1.heap.size,1,none⟩=some (.slice D1 m1 d1)) (with_reducible first | exact bu.r3 HE | exact bu.r3 HE.drew | exact bu.r3 HK)
  (first
   | (go_at_call 138;refine (Yz (by with_reducible first | exact HE | exact HE.drew) (by repeat (first | exact aZ | assumption | refine .tail _ ?_)) (by repeat (first | exact aZ | assumption | refine .tail _ ?_)) af HR.out.2.2).mono ?_;rintro e wn ⟨sx,Ax,nx,cx,rfl,HE⟩)
   | (go_at_call 120;refine (Iu (by with_reducible first | exact HE | exact HE.drew) (by repeat (first | exact aZ | assumption | refine .tail _ ?_)) (by repeat (first | exact aZ | assumption | refine .tail _ ?_)) HR.out.1 HR.out.2.1).mono ?_;rintro e wn ⟨sx,Ax,nx,cx,Ay,ny,cy,rfl,HE⟩;obtain ⟨g0,g1,g2,g3,g4,g5⟩:=HE.c3 ak;have HK:=HE.iT (D:=Ax) (m:=nx) (d:=cx) ak sx (.slice Ay ny cy)))
 go_wp2_with fail
 refine bodyPost_ret (v := .agg #[.bool sx,.slice Ax nx cx,.slice Ay ny cy]) (by simp [results,Tryz.results90,go_sem,g0,g1,g2]) rfl ?_;have H5:=HK.bare;exact ⟨_,_,_,_,_,_,_,rfl,H5.pick (fun e he => .tail _ (.tail _ (.tail _ he))) (fun _ he=>he)⟩
end
end Go.Proofs.BGQ
namespace Lw
open Go Go.RowKit
theorem aa8{x:Int} : mg x=[1]↔x.natAbs=1:=by unfold mg;exact MV
end Lw
namespace Go.Proofs.BGQ
open Go Go.RowKit Lw
section
variable {W0 w:World} {bs:List Bx} {L:List En} {ts:List Bt} {M:List Qn} {s s':Bool} {A A':Option Addr} {n c n' c' k k':Nat} {q:Rat} {x y:Int}
theorem O8(HE:bu W0 w bs L ts M)(h:⟨.agg #[.bool s,.slice A n c],x,k,true⟩∈L)(hk:k<=100000) :
  Calls Tryz.prog 93 #[.slice A n c] w fun e w'=>e = .returned (.bool (decide (x.natAbs=1)))/\bu W0 w' bs L ts M:=by
 obtain ⟨_,hn,hr,h1,h2⟩:=(HE.env.ops _ h).len;refine (vz A (mg x) n c _ w hr hn.symm af).mono fun e w' ⟨h3,h4⟩=>⟨?_,HE.next h4⟩;rw [h3]
 congr 2
 rw [decide_eq_decide];exact aa8
end
end Go.Proofs.BGQ
namespace Lw
open Go
theorem VZ{q r:Rat}{k k':Nat}(h1:q.num.natAbs<pw k/\q.den<pw (k+1))(h2:r.num.natAbs<pw k'/\r.den<pw (k'+1)):(q+r).num.natAbs<pw (k+k'+2)/\(q+r).den<pw (k+k'+2):=by
 have hb:=VV q r;have e1:=ap8 h1.1 h2.2;have e2:=ap8 h2.1 h1.2;have e3:=ap8 h1.2 h2.2;rw [<- nK] at e1 e2 e3;rw [show k+(k'+1)=k+k'+1 by omega] at e1;rw [show k'+(k+1)=k+k'+1 by omega] at e2;rw [show k+1+(k'+1)=k+k'+2 by omega] at e3;have e4:pw (k+k'+2)=pw (k+k'+1)*4294967296:=by unfold pw;rw [aoY]
 omega
theorem dA.weak{w:World}{v:Value}{q:Rat}{k K:Nat}{b:Bool}(h:dA w ⟨v,q,k,b⟩)(hk:k<=K):dA w ⟨v,q,K,b⟩:=by
 obtain ⟨s,A,n,c,A',n',c',ns,ms,e1,r1,r2,e2,e3,e4,e5,e6⟩:=h;exact ⟨s,A,n,c,A',n',c',ns,ms,e1,r1,r2,e2,e3,aoH e4 hk,aoH e5 hk,e6⟩
end Lw
namespace Go.Proofs.BGQ
open Go Go.RowKit Lw
section
variable {W0 w:World} {bs:List Bx} {L:List En} {ts:List Bt} {M:List Qn} {s s':Bool} {A A' B B':Option Addr} {n c n' c' m d m' d' k k':Nat} {q r:Rat} {x y:Int}
theorem bu.JF{e:Qn}(h:bu W0 w bs L ts (e::M)):bu W0 w bs L ts M:=⟨h.env,fun e' he=>h.fr e' (.tail _ he),h.tri,h.tz,h.tab,h.lo,h.lot⟩
theorem bu.hd{v:Value}{q:Rat}{k K:Nat}{b:Bool}(h:bu W0 w bs L ts (⟨v,q,k,b⟩::M))(hk:dA w ⟨v,q,k,b⟩->dA w ⟨v,q,K,b⟩):bu W0 w bs L ts (⟨v,q,K,b⟩::M):=h.JF.cons (hk (h.fr _ ak))
end
end Go.Proofs.BGQ
namespace Lw
open Go Go.RowKit
theorem acV{s:Bool}{ns ms:List Nat}(h:(ns.length != 0&&fV s ns ms)=false):qv s ns ms=0:=by
 unfold qv
 split
 ·rename_i hf
  have h0:ns.length=0:=by grind
  have e:ns=[]:=by grind
  subst e
  cases s <;> exact Rat.zero_divInt _
 ·rfl
theorem abL{q:Rat}{n:Nat}(hn:n=(rn q).length):rs (-q)=(decide (0<n) && !(rs q))/\rn (-q)=rn q/\rd (-q)=rd q:=by
 obtain ⟨h1,h2⟩:=ug q;refine ⟨?_,?_,?_⟩
 ·unfold rs
  rw [h1]
  by_cases h0:q=0
  ·rw [decide_eq_false (show ¬ 0<n by have:=(vS hn).2 h0;omega)]
   grind
  ·have hz:q.num≠0:=fun e=>h0 (apK.1 e)
   rw [decide_eq_true (show 0<n by have:=mt (vS hn).1 h0;omega),Bool.true_and];grind
 ·unfold rn;rw [h1,aqg]
 ·unfold rd;rw [h1,h2]
  grind
theorem cO.c3{w:World}{g:Nat}{t:TypeId}{a b c:Value}(h:cO w g t a b c):w.cell? ⟨g,0,none⟩=some a/\w.cell? ⟨g,1,none⟩=some b/\w.cell? ⟨g,2,none⟩=some c:=⟨h.cells.1,h.cells.2.1,h.cells.2.2.1⟩
theorem cO.Nw{w:World}{g g':Nat}{t:TypeId}{a b c:Value}(h:cO w g t a b c)(hg:g≠g')(u v z:Value):cO (((w.setCell ⟨g',0,none⟩ u).setCell ⟨g',1,none⟩ v).setCell ⟨g',2,none⟩ z) g t a b c:=((h.far (p:=⟨g',0,none⟩) hg u).far (p:=⟨g',1,none⟩) hg v).far (p:=⟨g',2,none⟩) hg z
theorem cO.cc{w:World}{g g':Nat}{t:TypeId}{a b c a' b' c':Value}(h:cO w g t a b c)(h':cO w g' t a' b' c'):w.cell? ⟨g,0,none⟩=some a/\w.cell? ⟨g,1,none⟩=some b/\w.cell? ⟨g,2,none⟩=some c/\w.cell? ⟨g',0,none⟩=some a'/\w.cell? ⟨g',1,none⟩=some b'/\w.cell? ⟨g',2,none⟩=some c':=⟨h.cells.1,h.cells.2.1,h.cells.2.2.1,h'.cells.1,h'.cells.2.1,h'.cells.2.2.1⟩
theorem cO.put{w:World}{g:Nat}{t:TypeId}{a b c:Value}(h:cO w g t a b c)(u v z:Value):cO (((w.setCell ⟨g,0,none⟩ u).setCell ⟨g,1,none⟩ v).setCell ⟨g,2,none⟩ z) g t u v z:=by
 have h3:=(h.set0 u).set1 v;unfold cO at h3 ⊢;generalize (w.setCell ⟨g,0,none⟩ u).setCell ⟨g,1,none⟩ v=W at *;simp [World.setCell,apE,h3]
end Lw
namespace Go.Proofs.BGQ
open Go Go.RowKit Lw
section
variable {W0 w:World} {bs:List Bx} {L:List En} {ts:List Bt} {M:List Qn} {s s':Bool} {A A':Option Addr} {n c n' c' k k':Nat} {q:Rat} {v:Value} {b:Bool}
theorem bu.nV{g:Nat}{x y z:Value}{w:World}(h:bu W0 w bs L ts M)(hm:⟨g,x,y,z⟩∈ts):cO w g 24 x y z:=h.tri _ hm
theorem bu.acE{g n c n' c' m d:Nat}{s s':Bool}{X X' D:Option Addr}{w:World}{v:Value}(h:bu W0 w bs L ts M)(hm:⟨g,.bool s,.slice X n c,.slice X' n' c'⟩∈ts)(ts':List Bt)(hs : ∀ b∈ts',b∈ts/\b.g≠g) :
  bu W0 (((w.setCell ⟨g,0,none⟩ (.bool s')).setCell ⟨g,1,none⟩ (.slice D m d)).setCell ⟨g,2,none⟩ v) bs L (⟨g,.bool s',.slice D m d,v⟩::ts') M :=
 have h2:=h.iT (D:=D) (m:=m) (d:=d) hm s' v;have hg:W0.heap.size<=g:=h.lot _ hm
 ⟨h2.env,h2.fr,fun b hb=>by
  rcases List.mem_cons.1 hb with rfl | hb
  ·exact (h.tri _ hm).put _ _ _
  ·exact (h.tri b (hs b hb).1).Nw (hs b hb).2 _ _ _,h2.tz,h2.tab,h2.lo,fun b hb=>by
  rcases List.mem_cons.1 hb with rfl | hb
  ·exact hg
  ·exact h.lot b (hs b hb).1⟩
theorem Dp(HE:bu W0 w bs L ts M)(h:⟨v,q,k,b⟩∈M)(hk:k<=100000) :
  Calls Tryz.prog 83 #[v] w (eF W0 bs L ts M q k):=by
 obtain ⟨s,A,n,c,A',n',c',ns,ms,e1,r1,r2,e2,e3,e4,e5,e6,e7,e8,e9⟩:=HE.fr _ h;dsimp only at e1 e4 e5 e8 e9;subst e1;refine (Yy s A A' ns ms n n' c c' _ _ w r1 r2 (aoG _) (aoG _) e2 e3 af af e6 e7 (HE.tz.next HE.below)).mono fun e w' ⟨h1,h2⟩ => ?_;have HF:=HE.next h2
 cases hb:(n != 0&&fV s ns ms)
 ·rw [hb] at h1
  have h0:q=0:=by rw [<- e8];exact acV (by rw [e2];exact hb)
  rw [h0];exact ⟨_,_,_,_,_,_,_,h1,HF.zero k⟩
 ·rw [hb] at h1
  have hv:fV s ns ms=true:=by
   cases hf:fV s ns ms
   ·rw [hf,Bool.and_false] at hb;cases hb
   ·rfl
  have hb2:b=true:=by rw [<- e9,hv]
  subst hb2;exact ⟨_,_,_,_,_,_,_,h1,HF.cons (HF.fr _ h)⟩
theorem Qh(HE:bu W0 w bs L ts M)(h:⟨.agg #[.bool s,.slice A n c,.slice A' n' c'],q,k,true⟩∈M)(hk:k<=100000) :
  Calls Tryz.prog 139 #[.agg #[.bool s,.slice A n c,.slice A' n' c']] w (eF W0 bs L ts M (-q) k):=by
 obtain ⟨h1,h2,h3,h4,h5,h6,h7,h8,h9⟩:=(HE.fr _ h).own;refine (YC s A A' n n' c c' w af).mono fun e w' ⟨g1,g2⟩ => ?_;have HF:=HE.next g2;obtain ⟨-,-,-,r4,r5,-⟩:=(HF.fr _ h).own;obtain ⟨f1,f2,f3⟩:=abL h2;rw [h1] at g1;rw [<- f2] at r4;rw [<- f3] at r5;refine ⟨_,_,_,_,_,_,_,g1,HF.cons ⟨rs (-q),A,n,c,A',n',c',rn (-q),rd (-q),by rw [f1],r4,r5,by rw [f2,h2],by rw [f3,h3],h6,h7,h8,h9,xx _,zf _⟩⟩
set_option maxRecDepth 100000 in
set_option maxHeartbeats 1600000 in
theorem MF(HE:bu W0 w bs L ts M)(h:⟨.agg #[.bool s,.slice A n c,.slice A' n' c'],q,k,true⟩∈M)(hk:k<=100000) :
  Calls Tryz.prog 140 #[.agg #[.bool s,.slice A n c,.slice A' n' c']] w (eF W0 bs L ts M q k):=by
 have HR:=(HE.here.dF (.bool s) (.slice A n c) (.slice A' n' c')).dF (.bool false) (.slice none 0 0) (.slice none 0 0);simp only [World.size_alloc] at HR;obtain ⟨e0,e1,e2,e3,e4,e5⟩:=HR.c3 au;obtain ⟨g1,g2,g3,-,-,g6,g7,-⟩:=(HE.fr _ h).own;have H2:=Lib.hid g2;have H3:=Lib.hid g3;have H1:=Lib.hid g1;clear g1 g2 g3;refine Calls.mono (R:=eF w [] L [] M q k) ?_ fun _ _ hh=>eF.of HE hh
 go_enter Tryz.func140,Tryz.ntmps140
 go_wp2_with fail
 have TA:=HR.nV au
 go_region_held3 (fun w'=>w'.cell? ⟨w.heap.size,0,none⟩=some (.bool s)/\w'.cell? ⟨w.heap.size,1,none⟩=some (.slice A n c)/\w'.cell? ⟨w.heap.size,2,none⟩=some (.slice A' n' c')) (with_reducible first | exact cO.c3 TA | exact cO.c3 TA.drew | exact cO.c3 HK)
  (first
   | (go_at_call 136;have _:=HC;refine (clone_any A' (rd q) n' c' _ _ ((HR.fr _ h).own).2.2.2.2.1 (aoG _) H3.out.symm af).mono ?_;rintro e w2 ⟨A2,c2,rfl,hc2,-,hr2,hb2⟩;have HR:=HR.next hb2;have TA:=HR.nV au;have HK:=TA.Nw (g':=w.heap.size+1) (by simp) (.bool s) (.slice A1 n c1) (.slice A2 n' c2);obtain ⟨z0,z1,z2,z3,z4,z5⟩:=HR.c3 ak)
   | (go_at_call 136;refine (clone_any A (rn q) n c _ _ ((HR.drew.fr _ h).own).2.2.2.1 (aoG _) H2.out.symm af).mono ?_;rintro e w1 ⟨A1,c1,rfl,hc1,-,hr1,hb1⟩;have HR:=HR.drew.next hb1;have TA:=HR.nV au;have HC:=hr1))
 go_wp2_with fail
 refine bodyPost_ret (v := .agg #[.bool s,.slice A1 n c1,.slice A2 n' c2]) (by simp [results,Tryz.results140,go_sem,z0,z1,z2]) rfl ?_;obtain rfl:=H1.out;obtain rfl:=H2.out;obtain rfl:=H3.out;have HF:=HR.cons (Qq ((hr1.next hb2 (aoG _)).more hb2.size) hr2 g6 g7 hc1 hc2);exact ⟨_,_,_,_,_,_,_,rfl,(HF.iT (D:=A1) (m:=(rn q).length) (d:=c1) ak (rs q) (.slice A2 (rd q).length c2)).bare⟩
end
section
variable {W0 w:World} {bs:List Bx} {L:List En} {ts:List Bt} {M:List Qn} {s s':Bool} {A A' B B':Option Addr} {n c n' c' m d m' d' k k':Nat} {q r:Rat} {x y:Int} {b b':Bool}
def ja(W0:World)(bs:List Bx)(L:List En)(ts:List Bt)(M:List Qn)(q:Rat)(k:Nat)(e:Ending)(w':World):Prop :=
 ∃ (s:Bool) (A:Option Addr) (n c:Nat) (A':Option Addr) (n' c':Nat),e = .returned (.tuple #[.agg #[.bool s,.slice A n c,.slice A' n' c'],.nilIface])/\bu W0 w' bs L ts (⟨.agg #[.bool s,.slice A n c,.slice A' n' c'],q,k,true⟩::M)
theorem ja.of{w':World}{e:Ending}(h:bu W0 w bs L ts M)(hh:ja w [] L [] M q k e w'):ja W0 bs L ts M q k e w':=by
 obtain ⟨s,A,n,c,A',n',c',rfl,he⟩:=hh;exact ⟨s,A,n,c,A',n',c',rfl,h.back he⟩
def yY(z:Int):Value := .tuple #[.agg #[.bool false,.slice none 0 0,.slice none 0 0],.iface 88 (.int .i64 z)]
end
end Go.Proofs.BGQ
namespace Lw
def Sq(x:Int):Prop:=0<=x/\((rt x.natAbs:Nat):Int)*((rt x.natAbs:Nat):Int)=x
end Lw
namespace Lw
open Go Go.RowKit
theorem dB.nS{w:World}{e:En}{g n c n' c' i:Nat}{s:Bool}{t:TypeId}{X X':Option Addr}(h:dB w e)(h2:cO w g t (.bool s) (.slice X n c) (.slice X' n' c'))(u:Value):dB (w.setCell ⟨g,i,none⟩ u) e:=by
 obtain ⟨a,A,m,d,ns,B,e1,h3,h4,h5⟩:=h;exact ⟨a,A,m,d,ns,B,e1,h3.nS h2 u,by simpa using h4,h5⟩
theorem dA.nS{w:World}{e:Qn}{g n c n' c' i:Nat}{s:Bool}{t:TypeId}{X X':Option Addr}(h:dA w e)(h2:cO w g t (.bool s) (.slice X n c) (.slice X' n' c'))(u:Value):dA (w.setCell ⟨g,i,none⟩ u) e:=by
 obtain ⟨a,A,m,d,A',m',d',ns,ms,e1,r1,r2,e2⟩:=h;exact ⟨a,A,m,d,A',m',d',ns,ms,e1,(r1.nS h2 u).more (by simp),(r2.nS h2 u).more (by simp),e2⟩
end Lw
namespace Go.Proofs.BGQ
open Go Go.RowKit Lw
section
variable {W0 w:World} {bs:List Bx} {L:List En} {ts:List Bt} {M:List Qn} {s s':Bool} {A A' B B':Option Addr} {n c n' c' m d m' d' k k':Nat} {q r:Rat} {b b':Bool}
theorem bu.set0{g:Nat}{X X':Option Addr}(h:bu W0 w bs L ts M)(hm:⟨g,.bool s,.slice X n c,.slice X' n' c'⟩∈ts)(ts':List Bt)(hs : ∀ b∈ts',b∈ts/\b.g≠g)(s':Bool) :
  bu W0 (w.setCell ⟨g,0,none⟩ (.bool s')) bs L (⟨g,.bool s',.slice X n c,.slice X' n' c'⟩::ts') M :=
 have h2:=h.tri _ hm;have hg:W0.heap.size<=g:=h.lot _ hm
 ⟨⟨fun e he=>(h.env.ops e he).nS h2 _,fun b hb =>
  (h.env.box b hb).far (p:=⟨g,0,none⟩) (fun e=>h2.vT (h.env.box b hb) e.symm) _,h.below.setCell hg _⟩,fun e he=>(h.fr e he).nS h2 _,fun b hb=>by
  rcases List.mem_cons.1 hb with rfl | hb
  ·exact h2.set0 _
  ·exact (h.tri b (hs b hb).1).far (p:=⟨g,0,none⟩) (hs b hb).2 _,h.tz,h.tab,h.lo,fun b hb=>by
  rcases List.mem_cons.1 hb with rfl | hb
  ·exact hg
  ·exact h.lot b (hs b hb).1⟩
set_option maxRecDepth 100000 in
set_option maxHeartbeats 1600000 in
theorem YR(HE:bu W0 w bs L ts M)(h:⟨.agg #[.bool s,.slice A n c,.slice A' n' c'],q,k,b⟩∈M)(hk:k<=100000) :
  Calls Tryz.prog 110 #[.agg #[.bool s,.slice A n c,.slice A' n' c']] w (kG W0 bs L ts M q.num (q.den:Int) (k+2)):=by
 refine Calls.mono (R:=kG w [] L [] M q.num (q.den:Int) (k+2)) ?_ fun _ _ hh=>kG.of HE hh;replace HE:=((HE.here.dF (.bool s) (.slice A n c) (.slice A' n' c')).bV (.bool false) (.slice none 0 0)).bV (.bool false) (.slice none 0 0);simp only [World.size_alloc] at HE;obtain ⟨q0,q1,q2,q3,q4,q5⟩:=HE.c3 ak
 go_enter Tryz.func110,Tryz.ntmps110
 go_wp2_with fail
 refine (Dp HE h hk).mono ?_;clear HE;rintro e w1 ⟨s1,A1,n1,c1,B1,m1,d1,rfl,HE⟩;clear q0 q1 q2 q3 q4 q5
 go_wp2_with fail
 refine (MF HE ak hk).mono ?_;clear HE;rintro e w2 ⟨s2,A2,n2,c2,B2,m2,d2,rfl,HE⟩
 go_wp2_with fail
 refine (IJ HE ak).mono ?_;clear HE;rintro e w3 ⟨s3,A3,n3,c3,s4,A4,n4,c4,rfl,HE⟩;obtain ⟨a0,a1,a2,a3⟩:=HE.c2 ak;obtain ⟨b0,b1,b2,b3⟩:=HE.c2 au
 go_wp2_with fail
 refine bodyPost_ret (v := .tuple #[.agg #[.bool s3,.slice A3 n3 c3],.agg #[.bool s4,.slice A4 n4 c4]]) (by simp [results,Tryz.results110,go_sem,a0,a1,b0,b1]) rfl ?_;have H3:=(HE.iF au [⟨w.heap.size+1+1,.bool false,.slice none 0 0⟩] (fun b hb=>by simp only [List.mem_cons,List.not_mem_nil,or_false] at hb;subst hb;exact ⟨ak,by dsimp only;omega⟩) s3 (.slice A3 n3 c3)).done2 au s4 (.slice A4 n4 c4);exact ⟨_,_,_,_,_,_,_,_,rfl,H3.JF.JF⟩
end
end Go.Proofs.BGQ
