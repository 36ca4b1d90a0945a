/- Part of a proof, said shortly. -/
import Derived.Lib.Join
import Derived.Deep.LoopGhost
import Derived.Test.YtmmgoghiiionfaaGreatDoorAlz
import Derived.Test.YtmmgoghiiionfaaGreatDoorC17
import Derived.Test.YtmmgoghiiionfaaGreatDoorC10
import Derived.Test.YtmmgoghiiionfaaGreatDoorC9
import Derived.Test.YtmmgoghiiionfaaGreatDoorC16
import Derived.Test.YtmmgoghiiionfaaGreatDoorC15
import Derived.Test.YtmmgoghiiionfaaGreatDoorC11
import Derived.Test.YtmmgoghiiionfaaGreatDoorC8
import Derived.Test.YtmmgoghiiionfaaGreatDoorC7
import Derived.Test.YtmmgoghiiionfaaGreatDoorC4
import Derived.Test.YtmmgoghiiionfaaGreatDoorC2
import Derived.Test.YtmmgoghiiionfaaGreatDoorC1
import Derived.Test.YtmmgoghiiionfaaGreatDoorC3
import Derived.Test.YtmmgoghiiionfaaGreatDoorC6
import Derived.Test.YtmmgoghiiionfaaGreatDoorC5
import Derived.Test.YtmmgoghiiionfaaGreatDoorC14
import Derived.Test.YtmmgoghiiionfaaGreatDoorC12
import Derived.Test.YtmmgoghiiionfaaGreatDoorC13
set_option maxRecDepth 100000
set_option maxHeartbeats 8000000
set_option linter.unusedVariables false
set_option linter.unusedSimpArgs false
namespace bJ
open Go Go.RowKit
section
variable {P:Program} {ops:Array Oper} {Q:Exit->Act->World->Prop} {N:Nat} {T:List (Nat×Value)} {w w':World} {o:Oper} {rest:List Oper} {d:Nat} {v:Value}
def JI(P:Program)(ops:Array Oper)(Q:Exit->Act->World->Prop)(l:List Oper)(N:Nat)(T:List (Nat×Value))(w:World):Prop := ∀ a,Kn [] a N T->wpListIn (Fr none) 0 P ops Q l a w
theorem JI.val(hg:o.guard=none)(hd:o.dst=some d)(hN:Nat.ble (d+1) N=true)(hrun : ∀ a,Kn [] a N T->(execOp a.eval o).run P w = .ok (.value v) w')(h:JI P ops Q rest N ((d,v)::T) w'):JI P ops Q (o::rest) N T w:=by
 intro a ha;unfold wpListIn;rw [if_pos (by simp [Region.wanted,hg])];refine GR ?_;unfold mO;rw [hrun a ha];show wpListIn _ 0 P ops Q rest (a.put o.dst v) w';rw [hd];exact h _ (ha.put hN v)
theorem JI.nil(h : ∀ a,Kn [] a N T->Q .normal a w):JI P ops Q [] N T w:=h
theorem JC.ab7{id:Nat}{l:List Oper}(h:JI P l.toArray Q l N T w):JC none [] P (.region id l.toArray false) Q N T w:=fun a ha=>wpIn_region_lit (h a ha)
theorem JI.yield{l:Nat}{x:Operand}{xs:List Operand}{eu:Array TypeId}{vs:List Value}{R:World->Prop}{ty:TypeId}{pos:String}{bn:Array Edge}(hN:Nat.ble (d+1) N=true)(hx:ev T x=some (.func (.yield l) #[] #[]))(hl:evs T xs=some vs)(hy:YieldAt Fence.wide 0 P l vs.toArray w fun e W'=>e = .returned (.bool true)/\R W')(h : ∀ w',R w'->JI P ops Q rest N ((d,.bool true)::T) w'):JI P ops Q (⟨some d,.call ⟨.value x,xs.toArray,eu⟩,ty,pos,bn,none⟩::rest) N T w:=by
 intro a ha;have hx:=ha.ev hx;have hl:=ha.evs hl;obtain ⟨fn,tmps,assign,body,h1,h2⟩:=hy
 have hrun:(execOp a.eval ⟨some d,.call ⟨.value x,xs.toArray,eu⟩,ty,pos,bn,none⟩).run P w = .ok (.round l fn tmps assign body) w:=by
  have e:xs.toArray.map a.eval=vs.toArray:=by rw [<- hl];simp
  simp [execOp,resolve,Deferred.ofValue,hx,invoke,e,h1]
 unfold wpListIn;rw [if_pos (by simp [Region.wanted])];refine ⟨fun _ _=>trivial,?_⟩;rw [show Fence.round (Fr none)=none from rfl,Oper.semAt_none,hrun,Oper.uponIn_round];refine ⟨fun h=>(by cases h),RoundIn.mono h2 fun e w'' he => ?_⟩;obtain ⟨rfl,hr⟩:=he;exact h w'' hr _ (ha.put hN _)
end
def VU(ti tb tp ts te ty:TypeId):Code :=
 .seq (.region 0 #[⟨some 4,.load ts (.tmp 1),ts,"iter.go:28",#[],none⟩,⟨some 5,.call ⟨.builtin .len,#[.tmp 4],#[ts]⟩,ti,"iter.go:28",#[⟨0,.data⟩],none⟩,⟨some 6,.binOp .sub ti (.tmp 5) (.const (.int .i64 1)) ti,ti,"iter.go:28",#[⟨1,.data⟩],none⟩,
   ⟨some 3,.assign (.tmp 6),ti,"iter.go:28",#[⟨2,.data⟩,⟨0,.phase⟩,⟨1,.phase⟩,⟨2,.phase⟩],none⟩] false)
  (.block 0 (.loop (.seq (.seq (.region 1 #[⟨some 7,.move (.tmp 3),ti,"iter.go:28",#[],none⟩,⟨some 8,.binOp .geq ti (.tmp 7) (.const (.int .i64 0)) ti,tb,"iter.go:28",#[⟨0,.data⟩],none⟩] false) (.cond (.tmp 8) .skip (.exit 0)))
   (.seq (.block 1 (.seq (.region 3 #[⟨some 11,.move (.tmp 0),ty,"iter.go:29",#[],none⟩,⟨some 12,.move (.tmp 3),ti,"iter.go:29",#[],none⟩,⟨some 13,.load ts (.tmp 1),ts,"iter.go:29",#[],none⟩,⟨some 14,.move (.tmp 3),ti,"iter.go:29",#[],none⟩,
     ⟨some 15,.indexAddr ts (.tmp 13) (.tmp 14),tp,"iter.go:29",#[⟨2,.data⟩,⟨3,.data⟩],none⟩,⟨some 16,.load te (.tmp 15),te,"iter.go:29",#[⟨4,.data⟩],none⟩,
     ⟨some 17,.call ⟨.value (.tmp 11),#[.tmp 12,.tmp 16],#[ti,te]⟩,tb,"iter.go:29",#[⟨0,.data⟩,⟨1,.data⟩,⟨5,.data⟩],none⟩,⟨some 18,.unOp .not tb (.tmp 17),tb,"iter.go:29",#[⟨6,.data⟩],none⟩] false) (.cond (.tmp 18) .ret .skip)))
    (.region 2 #[⟨some 9,.move (.tmp 3),ti,"iter.go:28",#[],none⟩,⟨some 10,.binOp .sub ti (.tmp 9) (.const (.int .i64 1)) ti,ti,"iter.go:28",#[⟨0,.data⟩],none⟩,⟨some 3,.assign (.tmp 10),ti,"iter.go:28",#[⟨1,.data⟩,⟨0,.phase⟩,⟨1,.phase⟩],none⟩] false)))))
def jY(bx:Nat)(A:Option Addr)(n c q:Nat)(cs:List Value)(w:World):Prop :=
 (∃ b t f,w.heap[bx]? = some (.cells b t f)/\b[0]? = some (.slice A n c))/\(0<n -> ∃ g off b t f,A=some ⟨g,off,none⟩/\w.heap[g]? = some (.cells b t f)/\off+n*q<=b.size/\(b.toList.drop off).take (n*q)=cs)
def lS(n q:Nat)(cs:List Value)(k:Nat):List Value:=[.int .i64 ((n-1-k:Nat):Int),.agg ((cs.drop ((n-1-k)*q)).take q).toArray]
section
variable {P:Program} {gf:Nat} {fn:Func} {ti tb tp ts te ty:TypeId} {q:Nat}
theorem XD{f:FuncId}{c:Code}{N:Nat}{w:World}{vs:List Value}{R:Ending->World->Prop}(hf:P.funcs[f]? = some fn)(hb:fn.body=some c)(hn:fn.ntmps=N)(hl:Nat.ble vs.length N=true)(h:JC none [] P c (bodyPost P fn R) N (args 0 vs) w):CallsIn Fence.wide 1 P f vs.toArray w R:=by
 refine callsIn_of_wp (F:=Fence.wide) hf hb trivial ((wpIn_wide (n:=1)).2 ((wpIn_wide (n:=0)).1 (h _ ⟨rfl,?_,fun t v hv => ?_⟩))) rfl
 ·have:=aho hl
  simp [hn];omega
 ·obtain ⟨j,e,h1⟩:=Ai hv
  rw [ahC] at e;subst e;have h2:=(ahy.1 h1).1;have h3:=(ahy.1 h1).2;simp [ajd,h2,h3]
theorem Lh(hf:P.funcs[gf]? = some fn)(hb:fn.body=some (VU ti tb tp ts te ty))(hn:fn.ntmps=19)(hr:fn.results = #[])(hu : ∀ w,(underlying ts).run P w = .ok (.slice te) w)(hs1 : ∀ w,(isAgg ts).run P w = .ok false w)(hg : ∀ w,(isAgg te).run P w = .ok true w)(hq : ∀ w,(Go.sizeOf te).run P w = .ok q w){bx:Nat}{A:Option Addr}{n c:Nat}{cs:List Value}(hsz:n<1000000000):qL P gf #[.pointer (some ⟨bx,0,none⟩)] (lS n q cs) (jY bx A n c q cs) n:=by
 intro l J W hR hY h0;rw [show #[Value.func (.yield l) #[] #[]] ++ #[.pointer (some ⟨bx,0,none⟩)]=[Value.func (.yield l) #[] #[],.pointer (some ⟨bx,0,none⟩)].toArray by simp];refine XD hf hb hn rfl ?_;refine JC.seq (JC.region ?_);have hy0:jY bx A n c q cs W:=hR 0 W h0;obtain ⟨⟨b,t,f,hb1,hb2⟩,_⟩:=hy0;refine JL.val rfl rfl rfl (fun a ha=>iY (ha.ev rfl) hs1 hb1 hb2) ?_;refine JL.val rfl rfl rfl (fun a ha=>iL (ha.ev rfl) hu) ?_;refine JL.val rfl rfl rfl (fun a ha=>fF (c:=(n:Int)-1-((0:Nat):Int)) (ha.ev rfl) (ha.ev rfl) ((IntKind.wrap_i64 _).trans af)) ?_;refine JL.val rfl rfl rfl (fun a ha=>run_assign (ha.ev rfl)) ?_;refine JL.next (T':=[(3,.int .i64 ((n:Int)-1-((0:Nat):Int))),(0,.func (.yield l) #[] #[]),(1,.pointer (some ⟨bx,0,none⟩))]) (gG rfl (gG rfl (gG rfl qo))) ?_;refine JC.block ?_;refine JC.loop (ι:=Nat) (fun k=>n-k) (fun k=>[(3,.int .i64 ((n:Int)-1-k)),(0,.func (.yield l) #[] #[]),(1,.pointer (some ⟨bx,0,none⟩))]) (fun k w=>k<=n/\J k w) ?_ 0 W ⟨ahl _,h0⟩;intro k w ⟨hk,hJ⟩;refine JC.seq (JC.seq (JC.region ?_));refine JL.val rfl rfl rfl (fun a ha=>run_move (ha.ev rfl)) ?_;refine JL.val rfl rfl rfl (fun a ha=>CP (c:=decide ((n:Int)-1-k >= 0)) (ha.ev rfl) (ha.ev rfl) rfl) ?_;obtain ⟨⟨b,t,f,hb1,hb2⟩,hel⟩:=hR k w hJ
 by_cases hlt:k<n
 ·refine JL.next (T':=[(8,.bool (decide ((n:Int)-1-k >= 0))),(3,.int .i64 ((n:Int)-1-k)),(0,.func (.yield l) #[] #[]),(1,.pointer (some ⟨bx,0,none⟩))]) (gG rfl (gG rfl (gG rfl (gG rfl qo)))) ?_
  refine JC.dh (by show some (Value.bool _)=_;rw [decide_eq_true af]) ?_;refine JC.PW (T':=[(3,.int .i64 ((n:Int)-1-k)),(0,.func (.yield l) #[] #[]),(1,.pointer (some ⟨bx,0,none⟩))]) (gG rfl (gG rfl (gG rfl qo))) ?_;obtain ⟨g,off,b',t',f',rfl,hg1,hg2,hg3⟩:=hel af;refine JC.seq (JC.block (JC.seq (JC.ab7 ?_)));refine JI.val rfl rfl rfl (fun a ha=>run_move (ha.ev rfl)) ?_;refine JI.val rfl rfl rfl (fun a ha=>run_move (ha.ev rfl)) ?_;refine JI.val rfl rfl rfl (fun a ha=>iY (ha.ev rfl) hs1 hb1 hb2) ?_;refine JI.val rfl rfl rfl (fun a ha=>run_move (ha.ev rfl)) ?_;have hj:n-1-k<n:=af
  have hle:(n-1-k)*q+q<=n*q:=by
   have:=ahp q (show n-1-k+1<=n from af);rw [ahP] at this;exact this
  have hsz':b'.toList.length=b'.size:=by simp
  have hpart:((b'.toList.drop (off+(n-1-k)*q)).take q)=(cs.drop ((n-1-k)*q)).take q:=by
   rw [<- hg3,aiF,List.drop_drop,aiK]
   congr 1;omega
  refine JI.val rfl rfl rfl (fun a ha=>Ry (j:=n-1-k) (ha.ev rfl) (ha.ev rfl) hu hq af hj rfl) ?_;refine JI.val rfl rfl rfl (fun a ha=>rO (ha.ev rfl) hg hq hg1 (ajf af)) ?_;rw [hpart]
  refine JI.yield rfl rfl rfl (by
   have:=hY k w hlt hJ;unfold lS at this;rw [show ((n-1-k:Nat):Int)=(n:Int)-1-k by omega] at this;exact this) ?_
  intro w' hJ';refine JI.val rfl rfl rfl (fun a ha=>kE (ha.ev rfl)) ?_;refine JI.nil ?_;refine JL.next (ops := #[]) (T':=[(18,.bool false),(3,.int .i64 ((n:Int)-1-k)),(0,.func (.yield l) #[] #[]),(1,.pointer (some ⟨bx,0,none⟩))]) (gG rfl (gG rfl (gG rfl (gG rfl qo)))) ?_;refine JC.cO rfl ?_;refine JC.lI (T':=[(3,.int .i64 ((n:Int)-1-k)),(0,.func (.yield l) #[] #[]),(1,.pointer (some ⟨bx,0,none⟩))]) (gG rfl (gG rfl (gG rfl qo))) ?_;refine JC.region ?_;refine JL.val rfl rfl rfl (fun a ha=>run_move (ha.ev rfl)) ?_;refine JL.val rfl rfl rfl (fun a ha=>fF (c:=(n:Int)-1-((k+1:Nat):Int)) (ha.ev rfl) (ha.ev rfl) ((IntKind.wrap_i64 _).trans af)) ?_;refine JL.val rfl rfl rfl (fun a ha=>run_assign (ha.ev rfl)) ?_;exact JL.round (k+1) af (gG rfl (gG rfl (gG rfl qo))) ⟨af,hJ'⟩
 ·obtain rfl:k=n:=af
  refine JL.next (T':=[(8,.bool (decide ((k:Int)-1-k >= 0)))]) (gG rfl qo) ?_;refine JC.cO (by show some (Value.bool _)=_;rw [decide_eq_false af]) ?_;intro a ha;refine wpIn_exit ?_;refine ⟨ha.1,.tuple #[],?_,⟨_,rfl⟩,hJ⟩;unfold results;rw [hr];simp
end
end bJ
namespace bJ
open Go Go.RowKit
variable {ds:List Deferred}
theorem jY.of{α:Type}{R:α->List Value->World->Prop}{W0 W:World}{U:List Box}{Ps:List (World->Prop)}{bx n c q:Nat}{tS:TypeId}{A:Option Addr}{vs:List Value}{xs:List α}(HS:St W0 U Ps W)(hb:(⟨bx,tS,[.slice A n c]⟩:Box)∈U)(hq:0<q)(hf:FL R q (.slice A n c) vs xs W):jY bx A n c q vs W:=by
 obtain ⟨h1,h2,h3,h4⟩:=hf.parts;have hvl:vs.length=n*q:=by rw [h4.1,h1]
 refine ⟨⟨_,_,_,HS.box _ hb,by simp⟩,fun hn => ?_⟩;rcases h3 with rfl | ⟨g,off,b,t,fz,rfl,h5,h6⟩
 ·have:=ah8 hn hq
  simp at hvl;omega
 ·refine ⟨g,off,b,t,fz,rfl,h5,?_,by rw [<- hvl];exact h6⟩
  have h7:=congrArg List.length h6;have:=ah8 hn hq;simp at h7;omega
def qK(G:World->Prop):Exit->Act->World->Prop
 | .normal,_,W'=>G W'
 | _,_,_=>False
theorem JC.VH{α ι:Type}{P:Program}{N:Nat}{T:List (Nat×Value)}{W0 w:World}{Q:Exit->Act->World->Prop}{R:α->List Value->World->Prop}{UL:List Box}{PL:List (World->Prop)}{xs:List α}{vs:List Value}{A:Option Addr}{n c q bx gf p0 p1:Nat}{tS te:TypeId}{g:Operand}{assign body:Code}(H0:St W0 UL PL w)(ip:Nat)(hfl:PL[ip]? = some (FL R q (.slice A n c) vs xs))(hg:ev T g=some (.func (.func gf) #[] #[.pointer (some ⟨bx,0,none⟩)]))(eg : ∀ args w,(callFunc gf args).run P w = .ok (.enter gf args) w)(hq:0<q)(hseq : ∀ bx A c cs,qL P gf #[.pointer (some ⟨bx,0,none⟩)] (lS n q cs) (jY bx A n c q cs) n)(hN:[p0,p1].all (fun p=>Nat.blt p N)=true)(Ux:Nat->ι->List Box)(Qx:Nat->ι->List (World->Prop))(cx:Nat->ι->Prop)(hb : ∀ k x,(⟨bx,tS,[.slice A n c]⟩:Box)∈Ux k x)(hl : ∀ k x,∀ Q∈Qx k x,Loc Q)(x0:ι)(hU:Ux 0 x0=UL)(h0:cx 0 x0)(hS:St W0 UL (Qx 0 x0++PL) w)(T1:Nat->ι->Nat->List (Nat×Value))(hassign : ∀ l k x W,k<n->cx k x->St W0 (Ux k x) (KeepsFrom w.heap.size W::(Qx k x++dK (UL.map Box.g) w::PL)) W->JC (some l) [] P assign (Exit.then (fun a' W' => ∃ g,Kn [] a' N (T1 k x g)/\St W0 (⟨g,te,(vs.drop ((n-1-k)*q)).take q⟩::Ux k x) (KeepsFrom w.heap.size W::(Qx k x++dK (UL.map Box.g) w::PL)) W') fun _ _ _=>False) N
   ((p1,.agg ((vs.drop ((n-1-k)*q)).take q).toArray)::(p0,.int .i64 ((n-1-k:Nat):Int))::T) W)(hbody : ∀ l k x g W,k<n->cx k x->St W0 (⟨g,te,(vs.drop ((n-1-k)*q)).take q⟩::Ux k x) (KeepsFrom w.heap.size W::(Qx k x++dK (UL.map Box.g) w::PL)) W ->
   JC (some l) [] P body (qK fun W' => ∃ x',cx (k+1) x'/\St W0 (Ux (k+1) x') (KeepsFrom w.heap.size W::(Qx (k+1) x'++dK (UL.map Box.g) w::PL)) W') N (T1 k x g) W)(hdone : ∀ D x W,w.heap.size<=D->cx n x->St W0 (Ux n x) ((fun w=>w.heap[D]? = some (.deferred (some [])))::(Qx n x++dK (UL.map Box.g) w::PL)) W -> ∀ a,Kn (nH D::ds) a N T->Q .normal a W):JC none ds P (.rangeFunc g #[p0,p1] assign body) Q N T w:=by
 have drop1 : ∀ {U:List Box} {X:World->Prop} {Ps:List (World->Prop)} {W:World},St W0 U (X::Ps) W->St W0 U Ps W:=fun h=>h.facts fun P hP => .tail _ hP;have Y2 : ∀ {U:List Box} {Qs:List (World->Prop)} {W:World},St W0 U (Qs++dK (UL.map Box.g) w::PL) W->FL R q (.slice A n c) vs xs W:=fun h=>h.get (List.mem_append_right _ (.tail _ (ahq hfl)))
 refine JC.back (ι:=ι×Nat) (encs:=lS n q vs) (Rd:=jY bx A n c q vs) (M:=n) hg eg (hseq bx A c vs) (fun _=>rfl) hN (fun k W => ∃ x,cx k x/\St W0 (Ux k x) (Qx k x++dK (UL.map Box.g) w::PL) W) (Qb H0 Ux Qx cx fun k x _=>hl k x)
  (fun k W ⟨x,_,h⟩ => .of h (hb k x) hq (Y2 h)) ⟨x0,h0,?_⟩ (fun k i=>T1 k i.1 i.2) (fun k i W=>cx k i.1/\St W0 (⟨i.2,te,(vs.drop ((n-1-k)*q)).take q⟩::Ux k i.1) (Qx k i.1++dK (UL.map Box.g) w::PL) W) ?_ ?_ ?_ ?_
 ·rw [hU]
  exact ⟨hS.below,hS.box,hS.lo,hS.nd,hS.soft,fun P hP w' h=>by
   rcases aio.1 hP with h1 | h1
   ·exact hS.fact P (ajg _ h1) w' h
   ·rcases List.mem_cons.1 h1 with rfl | h1
    ·exact h
    ·exact hS.fact P (List.mem_append_right _ h1) w' h⟩
 ·intro k
  have:=Qb H0 (β:=ι×Nat) (ι:=Unit) (fun i _=>⟨i.2,te,(vs.drop ((n-1-k)*q)).take q⟩::Ux k i.1) (fun i _=>Qx k i.1) (fun i _=>cx k i.1) (fun i _ _=>hl k i.1);intro i W W' row ⟨h1,h2⟩ hg hr;obtain ⟨_,h3,h4⟩:=this i W W' row ⟨(),h1,h2⟩ hg hr;exact ⟨h3,h4⟩
 ·rintro l k W hk ⟨x,hx,h⟩
  intro a ha;refine Jz (fun e a' W' h1 => ?_) (hassign l k x W hk hx h.others a ha)
  cases e with
  | normal =>
   obtain ⟨g,h2,h3⟩:=h1;exact ⟨h3.get ak,(x,g),h2,hx,drop1 h3⟩
  | _=>exact h1
 ·rintro l k ⟨x,g⟩ W hk ⟨hx,h⟩
  intro a ha;refine Jz (fun e a' W' h1 => ?_) (hbody l k x g W hk hx h.others a ha)
  cases e with
  | normal =>
   obtain ⟨x',h2,h3⟩:=h1;exact ⟨h3.get ak,x',h2,drop1 h3⟩
  | _=>exact h1
 ·rintro D W hD ⟨x,hx,h⟩ hd a ha
  exact hdone D x W hD hx (h.defer hd) a ha
section
variable {P:Program} {N:Nat} {T:List (Nat×Value)} {w:World} {ops:Array Oper} {G:World->Prop} {id:Nat} {r:Option Nat} {late:List Nat} {S:World->Prop} {fuel:Nat} {listed:Array Bool} {Q:Exit->Act->World->Prop}
theorem JL.rd(h:G w):JL ds P ops (qK G) [] N T w:=fun _ _=>h
theorem JL.Cb(h:G w):JL ds P ops (Exit.inBlock id (qK G)) [] N T w:=fun _ _=>h
theorem JR.rd(hr:Region.ready .any ops listed=[])(h:G w):JR ds P ops (qK G) late S fuel listed N T w:=JR.done hr fun _ _=>h
theorem JR.Cb(hr:Region.ready .any ops listed=[])(h:G w):JR ds P ops (Exit.inBlock id (qK G)) late S fuel listed N T w:=JR.done hr fun _ _=>h
theorem JC.rd(h:G w):JC r ds P .skip (qK G) N T w:=JC.skip fun _ _=>h
theorem JC.Cb(h:G w):JC r ds P .skip (Exit.inBlock id (qK G)) N T w:=JC.skip fun _ _=>h
theorem JC.rgo{y:Code}(h:JC none ds P y Q N T w) : ∀ a,Kn ds a N T->Exit.inBlock id (Exit.then (y.wpIn (Fr none) 0 P Q) Q) .normal a w:=h
theorem JL.Vz{p:Act->World->Prop}{Q0:Exit->Act->World->Prop}(h : ∀ a,Kn ds a N T->p a w):JL ds P ops (Exit.then p Q0) [] N T w:=h
theorem acS{ρ:Operand->Value}{dst:Option Tmp}{ty:TypeId}{pos:String}{bn:Array Edge}{gd:Option (Nat×Bool)}{f:FuncId}{x:Operand}{v:Value}(hx:ρ x=v):(execOp ρ ⟨dst,.makeFunc (.func f) #[] #[x],ty,pos,bn,gd⟩).run P w = .ok (.value (.func (.func f) #[] #[v])) w:=by
 simp [execOp,Instr.makeFunc,hx]
end
end bJ
namespace bJ
open Go Go.RowKit Lw
variable {ds:List Deferred} {r:Option Nat}
section
variable {W0 w:World} {U:List Box} {Ps:List (World->Prop)}
theorem St.bp{V U':List Box}{Ps':List (World->Prop)}{late:List Nat}{listed:Array Bool}(HS:St W0 U' Ps' w)(n k m:Nat)(hV:(U'.drop n).take k=V)(hP:Ps'.drop m=Ps):bY late listed->iG V Ps w:=fun _=>by
 subst hV hP;exact ⟨fun b hb=>HS.box b (ah3 (List.mem_of_mem_take hb)),fun P hp=>HS.get (ah3 hp)⟩
theorem JC.Xq{P:Program}{Q:Exit->Act->World->Prop}{N:Nat}{T:List (Nat×Value)}{id:Nat}{l:List Oper}(HS:St W0 U Ps w)(V:List Box)(late:List Nat)(hV : ∀ b∈V,b∈U)(hm:P.follows .mixedOrders=true)(h : ∀ w',St W0 U Ps w'->JR ds P l.toArray Q late (iG V Ps) l.toArray.size (Array.replicate l.toArray.size false) N T w'):JC r ds P (.region id l.toArray true) Q N T w:=fun a ha =>
 wpIn_region_any hm (Dx (late:=late) (S:=iG V Ps) _ _ _ _ (h _ (HS.next (Below.refl _ w).drew) a ha))
end
end bJ
namespace Go.Proofs.AZQ
open Go Go.RowKit Lw bJ
section
variable {W0 w:World} {U:List Box} {Ps:List (World->Prop)}
theorem Qk{n:Nat}(hn:n<1000000000)(bx:Nat)(A:Option Addr)(c:Nat)(cs:List Value):qL Tryz.prog 125 #[.pointer (some ⟨bx,0,none⟩)] (lS n 3 cs) (jY bx A n c 3 cs) n :=
 Lh (ti:=3) (tb:=4) (tp:=0) (ts:=23) (te:=40) (ty:=136) Tryz.func125 rfl Tryz.ntmps125 Tryz.results125 ags Tryz.isAgg23 agt agr hn
theorem aaM(HS:St W0 U Ps w){A:Option Addr}{n c:Nat} : bP Tryz.prog 60 [.slice A n c] w (fun v w' => ∃ g,v = .func (.func 125) #[] #[.pointer (some ⟨g,0,none⟩)]/\St W0 (⟨g,23,[.slice A n c]⟩::U) Ps w'):=by
 refine fD Tryz.func60 rfl Tryz.ntmps60 rfl<|Js<|JL.box (vs:=[.slice A n c]) HS rfl rfl rfl rfl (fun g w1 HS => ?_);refine La rfl<|Jn<|Js<|Lz (.func (.func 125) #[] #[.pointer (some ⟨g,0,none⟩)]) (fun a ha=>acS (ha.ev rfl))<|La rfl<|Jn<|JC.ret (fun a ha => ?_)
 repeat (first | refine yh ?_ | refine yg ?_)
 exact Q8 ha Tryz.results60 (.tmp rfl) ⟨_,rfl,g,rfl,HS⟩
def RS(K:Nat)(x:List UInt8)(cs:List Value)(_:World):Prop:=cs=[.string ⟨x.toArray⟩]/\x.length<=K
theorem EL.SH{α:Type}{R:α->List Value->World->Prop}{sz:Nat}{vs:List Value}{xs ys:List α}{w:World}(h:EL R sz vs xs w)(e:xs=ys):EL R sz vs ys w:=e ▸ h
def fO(xs:List (Rat×Bool))(n i:Nat):List (List UInt8):=(List.range i).flatMap fun k=>if (el xs (n-1-k)).1=0 then [] else [bW (el xs (n-1-k)).1++fE (n-1-k)]
theorem Qw{xs:List (Rat×Bool)}{n i:Nat}(h:(el xs (n-1-i)).1=0):fO xs n i=fO xs n (i+1):=by
 unfold fO;rw [List.range_succ,List.flatMap_append];simp [h]
theorem Qv{xs:List (Rat×Bool)}{n i:Nat}(h:¬ (el xs (n-1-i)).1=0):fO xs n i++[bW (el xs (n-1-i)).1++fE (n-1-i)]=fO xs n (i+1):=by
 unfold fO;rw [List.range_succ,List.flatMap_append];simp [h]
theorem QE{m:Nat}(h:m<100):(fE m).length<=5:=by
 have:=eY h;unfold fE
 split
 ·simp
 ·split
  ·simp
  ·simp;omega
theorem Po{K:Nat} : ∀ {xs:List (List UInt8)},(∀ x∈xs,x.length<=K)->Lib.lens xs<=xs.length*K
 | [],_=>by simp [Lib.lens]
 | x::xs,h=>by
  have h1:=h x ak;have h2:=Po (xs:=xs) fun y hy=>h y (.tail _ hy);unfold Lib.lens at *;rw [List.map_cons,List.sum_cons,List.length_cons,ahP];omega
theorem join_le{K:Nat}{xs:List (List UInt8)}{sep:List UInt8}(h : ∀ x∈xs,x.length<=K):(Lib.join xs sep).length<=xs.length*(K+sep.length):=by
 cases xs with
 | nil=>simp [Lib.join_nil]
 | cons x xs =>
  rw [Lib.join_cons,List.length_append,Lib.joinTail_length];have h1:=h x ak;have h2:=Po (xs:=xs) fun y hy=>h y (.tail _ hy);rw [List.length_cons,ahP,ahn,ahu sep.length];omega
theorem aaU(HS:St W0 U Ps w){A:Option Addr}{m c K:Nat}{vals:List Value}{xs:List (List UInt8)}{sep:List UInt8}(f:FL (RS K) 1 (.slice A m c) vals xs w)(hk:m*(K+sep.length)<=140737488355328)(hm:m<=100000) :
  bP Tryz.prog 64 [.slice A m c,.string ⟨sep.toArray⟩] w (dB W0 U Ps (.string ⟨(Lib.join xs sep).toArray⟩)):=by
 obtain ⟨h1,h2,h3,h4⟩:=f.parts
 by_cases h0:m=0
 ·subst h0
  obtain rfl:=ahT.1 h1;exact Calls.mono (Tryz.strings_Join_none A c ⟨sep.toArray⟩ w) fun e w' ⟨he,hw⟩=>⟨_,he,rfl,by rw [hw];exact HS⟩
 ·have hvl:vals.length=m:=by have:=h4.1;omega
  have hx : ∀ (j:Nat) x,xs[j]? = some x->vals[j]? = some (.string ⟨x.toArray⟩)/\x.length<=K:=fun j x hj=>by
   obtain ⟨k1,k2⟩:=h4.2 j x hj;have hjl:=(ahy.1 hj).1;rw [ahJ] at k1;have:=congrArg (·[0]?) k1;simp at this;exact ⟨this,k2⟩
  rcases h3 with rfl | ⟨g,off,b,t,fz,rfl,h5,h6⟩
  ·simp at hvl;omega
  ·have hl : ∀ x∈xs,x.length<=K:=fun x hx'=>by
    obtain ⟨j,hj⟩:=aiE hx';exact (hx j x hj).2
   have e1:(xs.map fun x=>(⟨x.toArray⟩:ByteArray)).map (·.data.toList)=xs:=by
    rw [List.map_map];exact (List.map_congr_left fun x _=>by simp).trans (List.map_id xs)
   have key:=Tryz.strings_Join g off c (xs.map fun x=>⟨x.toArray⟩) ⟨sep.toArray⟩ w (fun j x hj=>by
    rw [aiv] at hj
    cases hj':xs[j]? with
    | none=>rw [hj'] at hj;cases hj
    | some y =>
     rw [hj'] at hj;cases hj;have h7:=(hx j y hj').1;rw [<- h6,ahQ] at h7
     split at h7
     ·rw [aib] at h7
      unfold World.cell?;simp only [h5]
      simpa using h7
     ·cases h7) (ahD.1 h5).1 (by simp;omega) (by simp;omega) (by
     rw [e1];have:=join_le (sep:=sep) hl;rw [h1] at this;show (Lib.join xs sep).length<=_;omega)
   rw [e1] at key;rw [aij,h1] at key;exact Calls.mono key fun e w' ⟨he,hw⟩=>⟨_,he,rfl,HS.next hw⟩
theorem WC{xs:List (Rat×Bool)}{n:Nat}(hn:xs.length=n)(h:iI xs = .nilIface):n<=65/\gK xs=true:=by
 subst hn;unfold iI at h
 split at h
 ·cases h
 ·split at h
  ·exact ⟨af,by assumption⟩
  ·cases h
theorem Qo(HT:Tz W0)(HB:Tab W0){A1:Option Addr}{n1 c1:Nat}{vs1:List Value}{bz:List (Rat×Bool)}{k1:Nat}(HS:St W0 U Ps w)(f1:fC U w (FL (dL k1) 3 (.slice A1 n1 c1) vs1 bz))(hk:k1<=20000)(hn:n1<=100000)(hok:iI bz = .nilIface):bP Tryz.prog 17 [.slice A1 n1 c1] w (dB W0 U Ps .nilIface):=by
 have h:=Qm HT HB HS f1 hk hn;rw [hok] at h;exact h
theorem fJ{v:Value}{k n i:Nat}{xs:List (Rat×Bool)}{w:World}(h:FV v (el xs i).1 k (el xs i).2 w)(hn:xs.length=n)(ha:gK xs=true)(hi:i<n):FV v (el xs i).1 k true w:=by
 rw [KW hn ha hi] at h;exact h
def mQ(xs:List (Rat×Bool)):List UInt8:=if xs.length=0 then [48] else Lib.join (fO xs xs.length xs.length) [32,43,32]
theorem abb{xs:List (Rat×Bool)}{n:Nat}(hn:xs.length=n)(h:n=0):[48]=mQ xs:=by subst hn;unfold mQ;rw [if_pos h]
theorem abd{xs:List (Rat×Bool)}{n:Nat}(hn:xs.length=n)(h:¬ n=0):Lib.join (fO xs n n) [32,43,32]=mQ xs:=by subst hn;unfold mQ;rw [if_neg h]
theorem SV{a b:List UInt8}(h:a=b):Value.tuple #[.string ⟨a.toArray⟩,.nilIface] = .tuple #[.string ⟨b.toArray⟩,.nilIface]:=by rw [h]
set_option maxRecDepth 100000 in
set_option maxHeartbeats 400000 in
theorem aba(HT:Tz W0)(HB:Tab W0){A1:Option Addr}{n1 c1:Nat}{vs1:List Value}{bz:List (Rat×Bool)}{k1:Nat}(HS:St W0 U Ps w)(f1:fC U w (FL (dL k1) 3 (.slice A1 n1 c1) vs1 bz))(hk:k1<=20000)(hn:n1<=100000)(hok:iI bz = .nilIface):bP Tryz.prog 14 [.slice A1 n1 c1] w (dB W0 U Ps (.tuple #[.string ⟨(mQ bz).toArray⟩,.nilIface])):=by
 obtain ⟨HS,hn1⟩:=HS.arg f1;clear f1;obtain ⟨hnl,hav⟩:=WC hn1 hok;refine MF Tryz.func14 rfl Tryz.ntmps14 rfl<|Js<|La rfl<|La rfl<|Jn<|JC.seq<|Js<|Lm rfl<|JL.call rfl rfl ahb (Qo HT HB HS (HS.dJ 1 rfl) af af hok)<|?_;rintro v21 jU ⟨rfl,HS⟩;refine La rfl<|Jn<|Js<|Lm rfl<|Lz (.bool false) (fun a ha=>RG (ha.ev rfl) rfl Tryz.runUnderlying27)<|Jn<|JC.cO rfl<|Jk<|JC.seq<|Js<|Lm rfl<|Ll rfl ags<|Lz (.bool ((n1:Int)==0)) (fun a ha=>gY (ha.ev rfl) (ha.ev rfl) rfl)<|Jn<|?_
 cases gX:((n1:Int)==0)
 ·skip
  have jH:¬ ((n1:Int)=0):=by simpa using gX
  refine JC.cO rfl<|Jk<|Js<|JL.alloc (vs:=[.slice none 0 0]) HS rfl Tryz.zeroValue83 rfl rfl (fun g23 Jo HS => ?_);refine Jn<|JC.seq<|Js<|Lm rfl<|JL.call rfl rfl Tryz.call60 (aaM HS)<|?_;rintro v24 Jp ⟨wO,rfl,HS⟩;refine Jn<|JC.block<|?_;have Uo:=HS;refine JC.VH (ι:=Option Addr×Nat×Nat×List Value×List Value) (te:=40) HS 1 rfl rfl Tryz.call125 ai (Qk af) rfl (fun i ⟨A,m,c,cur,vals⟩=>⟨wO,23,[.slice A1 n1 c1]⟩::⟨g23,83,[.slice A m c]⟩::(rowB A 9 cur++U)) (fun i ⟨A,m,c,cur,vals⟩=>[EL (RS (20*k1+25)) 1 vals (fO bz n1 i)]) (fun i ⟨A,m,c,cur,vals⟩=>m<=i/\Row 1 A m c cur vals) (fun _ ⟨A,m,c,cur,vals⟩=>ak) (fun _ ⟨_,_,_,_,_⟩ Q hQ=>by cases ahG.1 hQ;exact fun _ _ _ _ h=>h) (none,0,0,[],[]) rfl (⟨ahj _,Row.nil 1⟩) (HS.jq (fun w _=>EL.nil (RS (20*k1+25)) 1 w)) (fun i ⟨A,m,c,cur,vals⟩ g=>[(5,.pointer (some ⟨g23,0,none⟩)),(6,.int .i64 ((n1-1-i:Nat):Int)),(7,.pointer (some ⟨g,0,none⟩))]) ?_ ?_ ?_
  ·skip
   rintro l1 i ⟨A,m,c,cur,vals⟩ JB hk1 bH HS;have HS:St W0 (⟨wO,23,[.slice A1 n1 c1]⟩::⟨g23,83,[.slice A m c]⟩::(rowB A 9 cur++U)) (_::EL (RS (20*k1+25)) 1 vals (fO bz n1 i)::_::EL (dL k1) 3 vs1 bz::FL (dL k1) 3 (.slice A1 n1 c1) vs1 bz::Ps) JB:=HS;obtain ⟨Ob,hrw1⟩:=bH;have hx25:(n1-1-i)<bz.length:=af;obtain ⟨lH,kG,n25,c25,kH,m25,d25,hc25,HS⟩:=HS.kV 3 rfl (n1-1-i) hx25;rw [hc25];refine Js<|La rfl<|Jn<|JC.region<|JL.alloc (vs:=[.bool false,.slice none 0 0,.slice none 0 0]) HS rfl agw rfl rfl (fun Nk Dt HS => ?_);refine JL.store HS rfl rfl (i:=0) rfl agr rfl rfl rfl (vs':=[.bool lH,.slice kG n25 c25,.slice kH m25 d25]) rfl rfl (fun Du HS => ?_);exact JL.Vz fun a ha=>⟨Nk,ha.sub (kP.out ⟨rfl,rfl,rfl,trivial⟩),HS.o0 0 1⟩
  ·skip
   rintro l1 i ⟨A,m,c,cur,vals⟩ Ns JB hk1 bH HS;have HS:St W0 (⟨Ns,40,(vs1.drop ((n1-1-i)*3)).take 3⟩::⟨wO,23,[.slice A1 n1 c1]⟩::⟨g23,83,[.slice A m c]⟩::(rowB A 9 cur++U)) (_::EL (RS (20*k1+25)) 1 vals (fO bz n1 i)::_::EL (dL k1) 3 vs1 bz::FL (dL k1) 3 (.slice A1 n1 c1) vs1 bz::Ps) JB:=HS;obtain ⟨Ob,hrw1⟩:=bH;have hx28:(n1-1-i)<bz.length:=af;obtain ⟨oL,nD,n28,c28,nG,m28,d28,hc28,HS⟩:=HS.kV 3 rfl (n1-1-i) hx28;rw [hc28] at HS;refine JC.block<|Js<|JL.load (.agg #[.bool oL,.slice nD n28 c28,.slice nG m28 d28]) HS 0 rfl rfl rfl agt agr rfl rfl<|JL.call rfl rfl aha (AX HT HB HS (HS.at_ 0 rfl))<|?_;rintro v29 Jq ⟨rfl,HS⟩;have hzz:=KY (HS.at_ 0 rfl) hn1 hav af;refine Lz (.bool (!(decide (n28=0)))) (fun a ha=>kE (ha.ev rfl))<|Jn<|?_
   cases xw:((decide (n28=0)))
   ·skip
    have FY:=of_decide_eq_false xw;refine JC.dh rfl<|JC.Xq HS [⟨Ns,40,[.bool oL,.slice nD n28 c28,.slice nG m28 d28]⟩,⟨wO,23,[.slice A1 n1 c1]⟩,⟨g23,83,[.slice A m c]⟩] [8] (by simp) ah (fun Dw HS => ?_);refine Uk 2 0 rfl (HS.bp 0 3 0 rfl rfl) rfl rfl rfl Tryz.isAgg83<|Uj (.agg #[.bool oL,.slice nD n28 c28,.slice nG m28 d28]) 0 1 rfl (HS.bp 0 3 0 rfl rfl) rfl rfl agt agr<|Dm 3 rfl (HS.bp 0 3 0 rfl rfl) rfl<|nI 2 rfl rfl rfl Tryz.call62 (XZ HT HB HS (HS.at_ 0 rfl) af)<|?_;rintro afV af' ⟨rfl,HS⟩;refine ⟨(HS.bp 0 3 0 rfl rfl),?_⟩;refine nI 4 rfl rfl rfl Tryz.call63 (aa4 (m1:=n1-1-i) HT HB HS af)<|?_;rintro afW aga ⟨rfl,HS⟩;refine ⟨(HS.bp 0 3 0 rfl rfl),?_⟩;refine Dv (.string ⟨((bW ((el bz (n1-1-i)).1))++(fE (n1-1-i))).toArray⟩) 5 rfl (HS.bp 0 3 0 rfl rfl) (fun a ha w=>iw (ha.ev rfl) (ha.ev rfl) (by have:=fP (fJ (HS.at_ 0 rfl) hn1 hav af);have:=QE (m:=n1-1-i) af;(try simp only [List.length_append]);omega) rfl)<|J1 6 ah<|dF.buildSlice (vs:=[.string ⟨((bW ((el bz (n1-1-i)).1))++(fE (n1-1-i))).toArray⟩]) HS rfl rfl (fun a ha=>ha.jE rfl) Tryz.runUnderlying83 agR agS rfl rfl ah rfl rfl (fun aeU agb HS => ?_) dF.nil;refine ⟨(HS.bp 1 3 0 rfl rfl),?_⟩;have HS:=HS.jq (P:=RS (20*k1+25) ((bW ((el bz (n1-1-i)).1))++(fE (n1-1-i))) [.string ⟨((bW ((el bz (n1-1-i)).1))++(fE (n1-1-i))).toArray⟩]) (fun _ _=>⟨rfl,(by have:=fP (fJ (HS.at_ 0 rfl) hn1 hav af);have:=QE (m:=n1-1-i) af;(try simp only [List.length_append]);omega)⟩);refine Ug (Ub:=([_,_,_,_])) (z := .string ⟨([]).toArray⟩) (zs:=[.string ⟨([]).toArray⟩]) (size:=1) (bytes:=16) 7 HS hrw1 rfl rfl rfl (Src.box (e':=9) HS ah 0 rfl (n:=1) rfl rfl _) rfl ah ah rfl rfl rfl rfl af (fun JJ LC WS agc Zl HS => ?_);have HS:=HS.Na 3 0 rfl rfl (fun _ h1 h2=>h1.append (EL.one h2 rfl));refine ⟨(HS.bp 1 3 2 rfl rfl),?_⟩;refine JQ 8 [.slice JJ (m+1) LC] HS 3 rfl rfl rfl rfl Tryz.sizeOf83 (fun _ HS=>⟨(Ph (s:=8) rfl rfl),?_⟩);exact JR.Cb ah ⟨(JJ,m+1,LC,WS,(vals++[.string ⟨((bW ((el bz (n1-1-i)).1))++(fE (n1-1-i))).toArray⟩])),⟨af,Zl⟩,HS.oG 2 5 3 0 rfl rfl rfl (fun _ h=>h) rfl (fun _ h=>EL.SH h (Qv (mt hzz.2 (by assumption))))⟩
   ·skip
    have FY:=of_decide_eq_true xw;refine JC.cO rfl<|?_;exact JC.Cb ⟨(A,m,c,cur,vals),⟨af,hrw1⟩,HS.oG 1 3 1 2 rfl rfl rfl (fun _ h=>h) rfl (fun _ h=>EL.SH h (Qw (hzz.1 (by assumption))))⟩
  ·skip
   rintro D1 ⟨A,m,c,cur,vals⟩ wd1 hD1 bH HS;have HS:St W0 (⟨wO,23,[.slice A1 n1 c1]⟩::⟨g23,83,[.slice A m c]⟩::(rowB A 9 cur++U)) ((fun w=>w.heap[D1]? = some (.deferred (some [])))::EL (RS (20*k1+25)) 1 vals (fO bz n1 n1)::_::EL (dL k1) 3 vs1 bz::FL (dL k1) 3 (.slice A1 n1 c1) vs1 bz::Ps) wd1:=HS;obtain ⟨Ob,hrw1⟩:=bH;refine JC.rgo<|Js<|JL.uz (.slice A m c) HS 1 rfl rfl rfl Tryz.isAgg83 rfl<|?_;have HS:=St.Nc (Ub:=[_,_]) HS hrw1 1 rfl (by have h7:=hrw1.len;have h8:=(HS.at_ 1 rfl).1;omega);refine JL.call rfl rfl Tryz.call64 (aaU (sep:=[32,43,32]) HS (HS.at_ 0 rfl) (by show m*(20*k1+25+3)<=_;have:=ahY (show m<=65 from af) (show 20*k1+25+3<=400028 from af);omega) af)<|?_;rintro v33 TC ⟨rfl,HS⟩;refine La rfl<|La rfl<|Jn<|JC.ret (fun a ha => ?_);refine acd ha (HS.at_ 1 rfl) (fun a ha => ?_);have HS:=St.leave (Qs:=[]) Uo HS (ahq (i:=3) rfl) (by simp) (fun _ h=>by cases h) (fun _ h => .tail _ (.tail _ (.tail _ (.tail _ (h))))) hD1 (HS.at_ 1 rfl)
   repeat (first | refine yh ?_ | refine yg ?_)
   refine Cm (v := .string ⟨(Lib.join (fO bz n1 n1) [32,43,32]).toArray⟩) (v' := .nilIface) ha Tryz.results14 (.tmp rfl) (.tmp rfl) ⟨_,rfl,?_⟩;exact ⟨(SV (abd hn1 af)),HS.o0 2 3⟩
 ·skip
  have jH:(n1:Int)=0:=by simpa using gX
  refine JC.dh rfl<|Js<|La rfl<|La rfl<|Jn<|JC.ret (fun a ha => ?_);refine Q7 ha<|?_
  repeat (first | refine yh ?_ | refine yg ?_)
  refine Cm (v := .string ⟨([48]).toArray⟩) (v' := .nilIface) ha Tryz.results14 (.tmp rfl) (.tmp rfl) ⟨_,rfl,?_⟩;exact ⟨(SV (abb hn1 af)),HS.o0 0 2⟩
end
end Go.Proofs.AZQ
namespace bJ
open Go Go.RowKit
variable {ds:List Deferred} {r:Option Nat}
theorem bytes_at(l:List UInt8)(j:Nat):(⟨l.toArray⟩:ByteArray)[j]? = l[j]? := by
 have hs:(⟨l.toArray⟩:ByteArray).size=l.length:=by simp [ByteArray.size]
 by_cases h:j<l.length
 ·rw [getElem?_pos (⟨l.toArray⟩:ByteArray) j (by rw [hs];exact h),getElem?_pos l j h];rfl
 ·rw [getElem?_neg (⟨l.toArray⟩:ByteArray) j (by rw [hs];exact h),getElem?_neg l j h]
theorem V6(l:List UInt8)(i j:Nat):(⟨l.toArray⟩:ByteArray).extract i j=⟨((l.take j).drop i).toArray⟩:=by
 apply ByteArray.ext;rw [ByteArray.data_extract];simp [List.extract_toArray,aiF]
section
variable {P:Program} {ρ:Operand->Value} {w:World} {dst:Option Tmp} {ty:TypeId} {pos:String} {bn:Array Edge} {gd:Option (Nat×Bool)}
theorem adf{x:Operand}{t:TypeId}{l:List UInt8}{n:Int}(hx:ρ x = .string ⟨l.toArray⟩)(hu : ∀ w,(underlying t).run P w = .ok .string w)(hn:(l.length:Int)=n) :
  (execOp ρ ⟨dst,.call ⟨.builtin .len,#[x],#[t]⟩,ty,pos,bn,gd⟩).run P w = .ok (.value (.int .i64 n)) w:=by
 subst hn;rw [ade hx hu];simp [ByteArray.size]
theorem ac7{t:TypeId}{x y:Operand}{l:List UInt8}{k:IntKind}{i:Int}{j:Nat}{b:UInt8}{c:Int}(hx:ρ x = .string ⟨l.toArray⟩)(hy:ρ y = .int k i)(hu : ∀ w,(underlying t).run P w = .ok .string w)(hi:i=(j:Int))(hb:l[j]? = some b)(hc:(b.toNat:Int)=c) :
  (execOp ρ ⟨dst,.index t x y,ty,pos,bn,gd⟩).run P w = .ok (.value (.int .u8 c)) w:=by
 subst hi hc;simp [execOp,hx,hy,Instr.index,asIntOf,hu,bytes_at,hb]
theorem ac8{t t':TypeId}{x y:Operand}{a b:List UInt8}{c:Bool}(hx:ρ x = .string ⟨a.toArray⟩)(hy:ρ y = .string ⟨b.toArray⟩)(h:(a != b)=c) :
  (execOp ρ ⟨dst,.binOp .neq t x y t',ty,pos,bn,gd⟩).run P w = .ok (.value (.bool c)) w:=by
 subst h;simp [execOp,hx,hy,eqGuard,binOp,Op.stringOp,ByteArray.toList_eq,bne]
end
end bJ
namespace Lw
open Go
def DT(n:Nat):List UInt8:=if n=0 then [] else Lib.decDigits n
theorem Uh{n:Nat}(h:n≠0):DT n=Lib.decDigits n:=if_neg h
theorem Ui{M:Nat}(h:M≠0):DT M=DT (M/10)++[UInt8.ofNat (48+M%10)]:=by
 unfold DT;rw [if_neg h]
 by_cases h1:M<10
 ·rw [if_pos af,Lib.decDigits,dif_pos h1,aih h1];rfl
 ·rw [if_neg af,Lib.decDigits,dif_neg h1]
def Tk(N k r:Nat)(S:List UInt8)(Z:Nat):Prop:=DT (N*10^(9-k)+r)++S=DT Z/\r<10^(9-k)
theorem adW{N:Nat}{S:List UInt8}{Z:Nat}(h:DT N++S=DT Z):Tk (N/1000000000) 0 (N%1000000000) S Z:=by
 refine ⟨?_,?_⟩
 ·rw [show N/1000000000*10^(9-0)+N%1000000000=N by simp only [Nat.sub_zero,Nat.reducePow];omega];exact h
 ·simp only [Nat.sub_zero,Nat.reducePow];omega
theorem adX{N k r:Nat}{S:List UInt8}{Z:Nat}(h:Tk N k r S Z)(hk:k<9)(h0:r≠0\/N≠0):Tk N (k+1) (r/10) (UInt8.ofNat (48+r%10)::S) Z:=by
 have hp:10^(9-k)=10^(9-(k+1))*10:=by rw [<- ahL];congr 1;omega
 have h1:0<10^(9-(k+1)):=ahM af;obtain ⟨h2,h3⟩:=h;unfold Tk;rw [hp] at h3 h2;generalize 10^(9-(k+1))=P at *;have hN:N*(P*10)=N*P*10:=(ahA _ _ _).symm;rw [hN] at h2
 have hne:N*P*10+r≠0:=by
  rcases h0 with h0 | h0
  ·omega
  ·have:0<N*P:=ah8 af h1
   omega
 rw [Ui hne,show (N*P*10+r)/10=N*P+r/10 from af,show (N*P*10+r)%10=r%10 from af,ail,List.singleton_append] at h2;refine ⟨h2,?_⟩;omega
theorem SB{N k r:Nat}{S:List UInt8}{Z:Nat}(h:Tk N k r S Z)(hk:k<=9)(h0:k=9\/(r=0/\N=0)):DT N++S=DT Z:=by
 obtain ⟨h2,h3⟩:=h;rcases h0 with rfl | ⟨rfl,rfl⟩
 ·have:r=0:=by simpa using h3
  subst this
  simpa using h2
 ·simpa using h2
theorem SA{d:Nat}(h:d<10):(ByteArray.mk #[48,49,50,51,52,53,54,55,56,57]).extract d (d+1)=⟨[UInt8.ofNat (48+d)].toArray⟩:=by
 have:d=0\/d=1\/d=2\/d=3\/d=4\/d=5\/d=6\/d=7\/d=8\/d=9:=af;rcases this with h | h | h | h | h | h | h | h | h | h <;> subst h <;> rfl
theorem Xt(n z:Nat)(h:z<pw n):(DT z).length<=10*n+1:=by
 unfold DT
 split
 ·simp
 ·have h1:pw n<=10^(10*n):=by
   rw [aiC];exact Nat.pow_le_pow_left ai n
  refine yZ (10*n) z (ahr h (ahk h1 (aiz af af)))
theorem EP(b:UInt8)(S:List UInt8):(ByteArray.mk [b].toArray++ByteArray.mk S.toArray)=⟨(b::S).toArray⟩:=by
 apply ByteArray.ext;rw [ByteArray.data_append];simp
end Lw
namespace Go.Proofs.AZQ
open Go Go.RowKit Lw
set_option maxRecDepth 100000 in
set_option maxHeartbeats 6400000 in
theorem abT(s:Bool)(A:Option Addr)(ns:List Nat)(n c B:Nat)(w:World)(h:Rd w B A ns)(hB:B<=w.heap.size)(hn:ns.length=n)(hl:n<=10000)(hc:n<=c) :
  Calls Tryz.prog 136 #[.agg #[.bool s,.slice A n c]] w fun e w'=>e = .returned (.string ⟨(Lib.itoa (zv s ns)).toArray⟩)/\Below w.heap.size w w':=by
 have hlz:=vK (s:=s) h.bI;rw [hn] at hlz;have hk:=fun W hR hB'=>GU s A ns n c B W hR hB' hn af hc;have hk':=fun W hR hB'=>Il s A ns n c B W hR hB' hn af;generalize zv s ns=z at *;have Hk:=Lib.hid hk;have Eu:=Lib.hid hk';have HL:Hid ((DT z.natAbs).length<=10*n+1):=Lib.hid (Xt n _ (mG hlz));clear hk hk' hn
 go_enter Tryz.func136,Tryz.ntmps136
 go_wp2_with fail
 refine (Hk.out _ (h.alloc hB _) (by simp;omega)).mono ?_;rintro e w1 ⟨A1,c1,rfl,hc1,hr1,hb1⟩;obtain ⟨t1,hs1,hb2⟩:=box1 hb1;obtain ⟨c10,c11,f10,f11⟩:=t1.facts;obtain ⟨n1,hn1⟩ : ∃ n1,n1=(mg z).length:=⟨_,rfl⟩;rw [<- hn1] at hlz hc1 ⊢;have Ew:=Lib.hid hn1;clear hn1;have hs1':=hs1
 by_cases h0:n1=0
 ·have HZ:Hid (Lib.itoa z=[48]):=Lib.hid (by
   have e:=Az.1 (by rw [<- Ew.out];exact h0);rw [e,Ah rfl];rw [show (0:Int).natAbs=0 from rfl,Lib.decDigits,dif_pos af];rfl)
  subst h0
  go_wp2_with fail
  go_ret
  rw [HZ.out];exact ⟨rfl,hb2⟩
 ·have hbq:((n1:Int)==0)=false:=by rw [beq_eq_false_iff_ne];omega
  go_wp2_with fail
  go_loopg [3,4] z.natAbs (fun M mv sv wr => ∃ (A':Option Addr) (n' c':Nat) (S:List UInt8) (T:ByteArray),mv = .slice A' n' c'/\n'<=c'/\n'<=n/\Hid ((bg M).length=n')/\Rd wr wr.heap.size A' (bg M)/\sv = .string T/\Hid (T=⟨S.toArray⟩)/\T.size<=100001/\Hid (DT M++S=DT z.natAbs)/\Below w1.heap.size w1 wr)
  case atStart=>exact ⟨A1,n1,c1,[],ByteArray.empty,rfl,hc1,hlz,Lib.hid Ew.out.symm,hr1.more af,rfl,Lib.hid rfl,by simp,Lib.hid (aiW _),Below.refl _ _⟩
  case round =>
   obtain ⟨A',n',c',S,T,rfl,hc',hnn,hlen,hr,rfl,FN,hTl,hv,pq⟩:=hrel;have hbw:=bQ hb2 pq af;have Zq:=hbw.size
   by_cases hn0:n'=0
   ·have hz0:Hid (z.natAbs≠0):=Lib.hid (fun e=>h0 (by rw [Ew.out];unfold mg;rw [e];rfl))
    have HT:Hid (T=⟨(Lib.decDigits z.natAbs).toArray⟩):=Lib.hid (by
     have e0:gk=0:=ig.1 (ahB (by rw [hlen.out];exact hn0));have e1:=hv.out;rw [e0,Uh hz0.out] at e1;rw [FN.out,<- e1];rfl)
    subst hn0;clear hlen hr FN hv;obtain ⟨c10,c11,f10,f11⟩:=(t1.next pq).facts
    go_wp2_with fail
    refine (Eu.out _ (h.below (hbw.mono hB)) af).mono ?_;rintro e w2 ⟨rfl,hb3⟩;have hb4:=bQ hbw hb3 (ahj _)
    cases hsg:sg z
    ·have HI:=Lib.hid (Ah hsg)
     go_wp2_with fail
     go_ret
     exact ⟨by rw [HT.out,HI.out,air];rfl,hb4⟩
    ·have HI:=Lib.hid (itoa_neg hsg)
     go_wp2_with fail
     go_ret
     exact ⟨by rw [HT.out,HI.out];exact congrArg (fun b=>Ending.returned (Value.string b)) (EP 45 (Lib.decDigits z.natAbs)),hb4⟩
   ·have hQn:(bg (gk/1000000000)).length<=n:=by
     have h1:=mG (Nat.le_of_eq hlen.out);have h2:=gQ (n:=gk/1000000000) (k:=n') (ahO (ah0 _ _) h1);omega
    have hM0:gk≠0:=fun e=>hn0 (by rw [<- hlen.out,e];rfl);have FM:Hid (gk/1000000000<gk):=Lib.hid af;clear hM0
    go_wp2_with (at_make;refine qE _ rfl _ _ _ rfl 82 agv jI _ _ _ _ n' rfl rfl af af af ?_;intro w3 hblk hbel hsz)
    go_loopw [5,7] (fun rv iv wi => ∃ (i':Int) (r:Nat) (ds:List Nat),-1<=i'/\i'<n'/\r<=999999999/\iv = .int .i64 i'/\rv = .int .u64 r/\bD wi wr.heap.size 82 ds/\Hid (ds.length=n')/\bF ds/\Hid (val (ds.drop (i'+1).toNat)=val ((bg gk).drop (i'+1).toNat)/1000000000/\r=val ((bg gk).drop (i'+1).toNat)%1000000000)/\Below wr.heap.size wr wi) (fun _ i _=>(intOf i+1).toNat)
    case atStart=>exact ⟨(n':Int)-1,0,_,af,af,af,rfl,rfl,hblk,Lib.hid (by simp),qB _,Lib.hid (by rw [show ((n':Int)-1+1).toNat=n' from af,aiA (by simp),aiA (by rw [hlen.out];exact ahj _)];simp [val]),hbel⟩
    case round =>
     obtain ⟨i',r,ds,hi,hin,hrx,rfl,rfl,hb5,hdl,hdw,hvv,hbi⟩:=hrel;clear hblk hbel hsz;have OI:=hbi.size;have Oo:=hr.below hbi
     by_cases hi0:i'<0
     ·have HV:Hid (val ds=gk/1000000000/\r=gk%1000000000):=Lib.hid (by have:=hvv.out;rwa [show (i'+1).toNat=0 from af,ah5,ah5,bG] at this)
      have HK:Hid (Tk (gk/1000000000) 0 r S z.natAbs):=Lib.hid (by rw [HV.out.2];exact adW hv.out);clear hvv Oo hv
      go_wp2_with fail
      refine (uM _ ds n' n' _ _ (hb5.rd hdw) (ahj _) hdl.out af).mono ?_;rintro e w4 ⟨g4,c4,rfl,hc4,hg4,tZ,hb6⟩;rw [HV.out.1] at hc4 tZ ⊢;have qX:=bQ (bQ pq hbi af) hb6 af;have hr4:=tZ.rd (dD _);obtain ⟨Q,hQ⟩ : ∃ Q,Q=gk/1000000000:=⟨_,rfl⟩;rw [<- hQ] at hc4 hr4 HK hQn FM ⊢;obtain ⟨n4,hn4⟩ : ∃ n4,n4=(bg Q).length:=⟨_,rfl⟩;rw [<- hn4] at hc4 hQn ⊢;have yO:=Lib.hid hn4;have HQ:=Lib.hid hQ;clear hQ hn4 tZ hb5 hr hb6
      go_wp2_with fail
      go_loopw [4,5,8] (fun sv rv kv wi2 => ∃ (k2 r2:Nat) (S2:List UInt8) (T2:ByteArray),k2<=9/\r2<=999999999/\kv = .int .i64 k2/\rv = .int .u64 r2/\sv = .string T2/\Hid (T2=⟨S2.toArray⟩)/\Hid (Tk Q k2 r2 S2 z.natAbs)/\wi2=w4) (fun _ _ k _=>9-(intOf k).toNat)
      case atStart=>exact ⟨0,r,S,T,af,hrx,rfl,rfl,rfl,FN,HK,rfl⟩
      case round =>
       obtain ⟨k2,r2,S2,T2,hk2,hr2,rfl,rfl,rfl,hT2,hK2,rfl⟩:=hrel
       have NF:T2.size<=100001:=by
        have h1:=congrArg List.length hK2.out.1;rw [List.length_append] at h1;have h2:=HL.out;rw [hT2.out];simp only [ByteArray.size,List.size_toArray];omega
       obtain ⟨d,hd⟩ : ∃ d,d=r2%10:=⟨_,rfl⟩;have hd10:d<10:=af;have hdi:(r2:Int)%10=(d:Int):=af;have HD:=Lib.hid hd;clear hd
       by_cases hk9:k2<9
       ·by_cases hq0:r2=0/\n4=0
        ·have HE:Hid (DT Q++S2=DT z.natAbs):=Lib.hid (SB hK2.out hk2 (.inr ⟨hq0.1,ig.1 (ahB (by rw [<- yO.out];exact hq0.2))⟩))
         obtain ⟨e1,e2⟩:=hq0
         go_wp2_with fail
         go_roundg Q
         case measure=>exact FM.out
         case rel=>exact ⟨_,0,c4,S2,T2,rfl,af,af,Lib.hid (by rw [<- yO.out];exact e2),hr4,rfl,hT2,NF,HE,qX⟩
        ·have HN:Hid (Tk Q (k2+1) (r2/10) (UInt8.ofNat (48+d)::S2) z.natAbs):=Lib.hid (by
          rw [HD.out];refine adX hK2.out hk9 ?_;rcases Classical.em (r2=0) with e | e
          ·right
           intro e2;exact hq0 ⟨e,by rw [yO.out,e2];rfl⟩
          ·exact .inl e)
         by_cases hr0:r2=0
         ·have afd:0<n4:=af
          clear hq0;obtain rfl:=hr0;obtain rfl:d=0:=af;have HT2:Hid ((ByteArray.mk #[48,49,50,51,52,53,54,55,56,57]).extract 0 1++T2=⟨(UInt8.ofNat (48+0)::S2).toArray⟩):=Lib.hid (by rw [show (1:Nat)=0+1 from rfl,SA hd10,hT2.out];exact EP _ _)
          go_wp2_with fail
          go_roundw
          case rel=>exact ⟨k2+1,0,_,_,af,af,by go_num,by go_num,rfl,HT2,HN,trivial⟩
          case measure=>simp [intOf];omega
         ·have hr1:0<r2:=af
          clear hq0;have HT2:Hid ((ByteArray.mk #[48,49,50,51,52,53,54,55,56,57]).extract d (d+1)++T2=⟨(UInt8.ofNat (48+d)::S2).toArray⟩):=Lib.hid (by rw [SA hd10,hT2.out];exact EP _ _)
          go_wp2_with fail
          go_roundw
          case rel=>exact ⟨k2+1,r2/10,_,_,af,af,by go_num,by go_num,rfl,HT2,HN,trivial⟩
          case measure=>simp [intOf];omega
       ·have HE:Hid (DT Q++S2=DT z.natAbs):=Lib.hid (SB hK2.out hk2 (.inl af))
        go_wp2_with fail
        go_roundg Q
        case measure=>exact FM.out
        case rel=>exact ⟨_,n4,c4,S2,T2,rfl,hc4,hQn,Lib.hid yO.out.symm,hr4,rfl,hT2,NF,HE,qX⟩
     ·obtain ⟨j,rfl⟩:=aif (show 0<=i' from af)
      obtain ⟨b,off,rfl,hb',hcell,hlt⟩:=Oo.at_ (k:=j) (by rw [hlen.out];omega);have hcc:=hb5.cell (i:=j) (by rw [hdl.out];omega);have hfr:=hb5.frozen j;have nJ:=Lib.hid (fun v=>hb5.oN (i:=j) v (by rw [hdl.out];omega));have hst:=MB (x:=1000000000) (r:=r) (d:=dg (bg gk) j) (H:=val ((bg gk).drop (j+1))) af (by have:=hvv.out.2;rwa [show ((j:Int)+1).toNat=j+1 by omega] at this) hlt;have yI:=Lib.hid (vk (bg gk) (k:=j) (by rw [hlen.out];omega));obtain ⟨d,hd⟩ : ∃ d,d=dg (bg gk) j:=⟨_,rfl⟩;rw [<- hd] at hcell hlt hst yI;obtain ⟨D,hD⟩ : ∃ D,D=d+4294967296*r:=⟨_,rfl⟩;rw [<- hD] at hst;have hO:bits .or .u64 ((r:Int)*4294967296) (d:Int)=(D:Int):=by rw [hD];exact rF af hlt
      obtain ⟨q,hq⟩ : ∃ q,q=D/1000000000:=⟨_,rfl⟩;obtain ⟨r',hr'⟩ : ∃ r',r'=D%1000000000:=⟨_,rfl⟩;rw [<- hq,<- hr'] at hst;have gB:q<4294967296:=hst.1;have hDl:D<=18446744073709551615:=af;have hqi:(D:Int)/1000000000=(q:Int):=af;have afk:(D:Int)%1000000000=(r':Int):=af;have Zk:r'<=999999999:=af;have HST:=Lib.hid hst.2;clear hst hd hD hq hr'
      go_wp2_with fail
      go_roundw
      case rel =>
       refine ⟨(j:Int)-1,r',ds.set j q,af,af,Zk,by go_num,by go_num,nJ.out q,Lib.hid (by rw [ahv];exact hdl.out),iO hdw _ gB,Lib.hid ?_,hbi.setCell (ahj _) _⟩;have hv1:=hvv.out;rw [show ((j:Int)+1).toNat=j+1 by omega] at hv1;rw [show ((j:Int)-1+1).toNat=j from af,vk (ds.set j q) (k:=j) (by rw [ahv,hdl.out];omega),iJ (l:=ds) (k:=j) _ (by rw [hdl.out];omega),if_pos rfl,EY _ af,hv1.1,yI.out];exact HST.out
      case measure=>simp [intOf]
end Go.Proofs.AZQ
namespace bJ
open Go Go.RowKit
variable {ds:List Deferred} {r:Option Nat}
section
variable {P:Program} {ops:Array Oper} {Q:Exit->Act->World->Prop} {late:List Nat} {S:World->Prop} {N fuel i:Nat} {T:List (Nat×Value)} {W0 w:World} {U U':List Box} {Ps Ps':List (World->Prop)} {listed:Array Bool} {rs:List Nat}
class Dr{α:Type}(l' l:List α):Prop where
 s : ∀ x∈l,x∈l'
instance Dr.refl{α:Type}{l:List α} : Dr l l:=⟨fun _ h=>h⟩
instance Dr.cons{α:Type}{l' l:List α}{y:α}[h:Dr l' l]:Dr (y::l') l:=⟨fun x hx => .tail _ (h.s x hx)⟩
theorem dF.is(i:Nat)(h:dF ds P ops Q late S fuel listed N T w (i::rs)):dF ds P ops Q late S fuel listed N T w (i::rs):=h
end
end bJ
namespace Go.Proofs.AZQ
open Go Go.RowKit Lw bJ
section
variable {W0 w:World} {U:List Box} {Ps:List (World->Prop)}
variable {s1:Bool} {x1:Int} {c1 k1 n1:Nat} {A1:Option Addr} {q:Rat}
variable {s1:Bool} {A1:Option Addr} {n1 c1:Nat} {B1:Option Addr} {m1 d1:Nat}
theorem FI.CY{v:Value}{z:Int}{k:Nat}{w:World}(h:FI v z k w)(hk:k<=100):(Lib.itoa z).length<=1002:=by have h2:(Lib.itoa z).length<=10*k+2:=xA (cZ.lt h);omega
theorem acy(HS:St W0 U Ps w)(f1:FI (.agg #[.bool s1,.slice A1 n1 c1]) x1 k1 w)(hk:k1<=10000):bP Tryz.prog 136 [.agg #[.bool s1,.slice A1 n1 c1]] w (dB W0 U Ps (.string ⟨(Lib.itoa x1).toArray⟩)):=by
 obtain ⟨s,A,n,c,ns,B,he,h1,h2,h3,h4,h5,h6,-⟩:=f1
 injection he with he;obtain ⟨rfl,rfl,rfl,rfl⟩:s1=s/\A1=A/\n1=n/\c1=c:=by simpa using he
 have hz:zv s1 ns=x1:=h6;have hk':n1<=k1:=h4;rw [<- hz];refine Calls.mono (abT s1 A1 ns n1 c1 B w h1 h2 h3 af h5) fun e w' hh => ?_;obtain ⟨rfl,hb⟩:=hh;exact ⟨_,rfl,rfl,HS.next hb⟩
theorem Iy(_:Tz W0)(_:Tab W0)(HS:St W0 U Ps w)(f1:FI (.agg #[.bool s1,.slice A1 n1 c1]) x1 k1 w)(hk:k1<=10000):bP Tryz.prog 136 [.agg #[.bool s1,.slice A1 n1 c1]] w (dB W0 U Ps (.string ⟨(Lib.itoa x1).toArray⟩)):=acy HS f1 hk
theorem abt(h:decide ((q.den:Int)=1)=true):Lib.itoa q.num=bW q:=by
 have h:=of_decide_eq_true h;unfold bW;rw [if_pos af]
theorem abu(h:decide ((q.den:Int)=1)=false):(Lib.itoa q.num++[47])++Lib.itoa (q.den:Int)=bW q:=by
 have h:=of_decide_eq_false h;unfold bW;rw [if_neg af,ail]
theorem Q9(HT:Tz W0)(HB:Tab W0){q1:Rat}{b1:Bool}(HS:St W0 U Ps w)(f1:FV (ahf s1 A1 n1 c1 B1 m1 d1) q1 k1 b1 w)(hk:k1<=90):bP Tryz.prog 66 [(ahf s1 A1 n1 c1 B1 m1 d1)] w (dB W0 U Ps (.string ⟨(bW q1).toArray⟩)):=by
 have HS:=HS.add (FV.stable _ _ _ _) f1;clear f1;refine fD Tryz.func66 rfl Tryz.ntmps66 rfl<|Js<|JL.box (vs:=(ahg s1 A1 n1 c1 B1 m1 d1)) HS rfl rfl rfl rfl (fun g1 w1 HS => ?_);refine La rfl<|Jn<|Js<|JL.load (ahf s1 A1 n1 c1 B1 m1 d1) HS 0 rfl rfl rfl agt agr rfl rfl<|JL.call rfl rfl Tryz.call133 (aci HT HB HS (HS.at_ 0 rfl) af)<|?_;rintro v2 w2 ⟨IJ,DK,GZ,EQ,IK,DL,G5,ER,rfl,HS⟩;refine Lm rfl<|Lx rfl rfl<|Lx rfl rfl<|JL.alloc (vs:=[.bool false,.slice none 0 0]) HS rfl Tryz.zeroValue109 rfl rfl (fun g3 w3 HS => ?_);refine JL.alloc (vs:=[.bool false,.slice none 0 0]) HS rfl Tryz.zeroValue109 rfl rfl (fun g4 w4 HS => ?_);refine JL.store HS rfl rfl (i:=1) rfl agC rfl rfl rfl (vs':=[.bool IJ,.slice DK GZ EQ]) rfl rfl (fun w5 HS => ?_);refine JL.store HS rfl rfl (i:=0) rfl agC rfl rfl rfl (vs':=[.bool IK,.slice DL G5 ER]) rfl rfl (fun w6 HS => ?_);refine Jn<|JC.seq<|JC.seq<|JC.draw HS [] ah (fun w7 HS => ?_);refine Da (.agg #[.bool IK,.slice DL G5 ER]) 0 0 rfl HS.b0 rfl rfl agZ agC<|nI 1 rfl rfl rfl Tryz.call121 (ach HT HB HS  )<|?_;rintro afX agm ⟨afO,aeJ,afA,aeQ,rfl,HS⟩;refine ⟨HS.b0,?_⟩;refine nI 2 rfl rfl rfl Tryz.call135 (abE HT HB HS (HS.at_ 2 rfl) (HS.at_ 0 rfl) af)<|?_;rintro afY agn ⟨rfl,HS⟩;refine ⟨HS.b0,?_⟩;refine Dv (.bool (decide ((q1.den:Int)=1))) 3 rfl HS.b0 (fun a ha w=>gY (ha.ev rfl) (ha.ev rfl) (WG _ _))<|JR.next ah (fun _ _ h=>h)<|?_
 cases afm:((decide ((q1.den:Int)=1)))
 ·skip
  refine JC.cO rfl<|Jk<|JC.seq<|JC.draw HS [] ah (fun w10 HS => ?_);refine Da (.agg #[.bool IJ,.slice DK GZ EQ]) 0 1 rfl HS.b0 rfl rfl agZ agC<|Da (.agg #[.bool IK,.slice DL G5 ER]) 3 0 rfl HS.b0 rfl rfl agZ agC<|nI 1 rfl rfl rfl Tryz.call136 (Iy HT HB HS (HS.at_ 1 rfl) af)<|?_;rintro afQ af5 ⟨rfl,HS⟩;refine ⟨HS.b0,?_⟩;refine Dv (.string ⟨((Lib.itoa q1.num)++[47]).toArray⟩) 2 rfl HS.b0 (fun a ha w=>iw (ha.ev rfl) (ha.ev rfl) (by have:=FI.CY (HS.at_ 1 rfl) af;have:=FI.CY (HS.at_ 2 rfl) af;simp only [List.length_append,List.length_cons,List.length_nil];omega) rfl)<|nI 4 rfl rfl rfl Tryz.call136 (Iy HT HB HS (HS.at_ 2 rfl) af)<|?_;rintro afR af6 ⟨rfl,HS⟩;refine ⟨HS.b0,?_⟩;refine Dv (.string ⟨(((Lib.itoa q1.num)++[47])++(Lib.itoa (q1.den:Int))).toArray⟩) 5 rfl HS.b0 (fun a ha w=>iw (ha.ev rfl) (ha.ev rfl) (by have:=FI.CY (HS.at_ 1 rfl) af;have:=FI.CY (HS.at_ 2 rfl) af;simp only [List.length_append,List.length_cons,List.length_nil];omega) rfl)<|Ds 6 rfl HS.b0 rfl<|JR.next ah (fun _ _ h=>h)<|Ja (v := .string ⟨(((Lib.itoa q1.num)++[47])++(Lib.itoa (q1.den:Int))).toArray⟩) Tryz.results66 (.tmp rfl)<|?_;exact ⟨(congrArg (fun l:List UInt8=>Value.string ⟨l.toArray⟩) (abu (by assumption))),HS.o0 3 4⟩
 ·skip
  refine JC.dh rfl<|Js<|JL.load (.agg #[.bool IJ,.slice DK GZ EQ]) HS 1 rfl rfl rfl agZ agC rfl rfl<|JL.call rfl rfl Tryz.call136 (Iy HT HB HS (HS.at_ 1 rfl) af)<|?_;rintro v12 w12 ⟨rfl,HS⟩;refine La rfl<|Jn<|Ja Tryz.results66 (.tmp rfl)<|?_;exact ⟨(congrArg (fun l:List UInt8=>Value.string ⟨l.toArray⟩) (abt (by assumption))),HS.o0 3 4⟩
end
end Go.Proofs.AZQ
