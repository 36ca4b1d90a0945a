/- Part of a proof, said shortly. -/
import Derived.Lib.TrailingZeros
import Derived.WalkKit
import Derived.Below
import Derived.Laws.Cells
import Derived.OrdersHeld
import Derived.LoopN
import Derived.BigQuiet
import Derived.Deep.RegionHeld3
import Derived.Deep.RegionWith
import Derived.Test.YtkcpphebkmnonaaGreatDoorAlz
import Derived.Test.YtkcpphebkmnonaaGreatDoorC4
import Derived.Test.YtkcpphebkmnonaaGreatDoorC1
import Derived.Test.YtkcpphebkmnonaaGreatDoorC10
import Derived.Test.YtkcpphebkmnonaaGreatDoorC9
import Derived.Test.YtkcpphebkmnonaaGreatDoorC8
import Derived.Test.YtkcpphebkmnonaaGreatDoorC5
import Derived.Test.YtkcpphebkmnonaaGreatDoorC2
import Derived.Test.YtkcpphebkmnonaaGreatDoorC3
import Derived.Test.YtkcpphebkmnonaaGreatDoorC7
import Derived.Test.YtkcpphebkmnonaaGreatDoorC6
import Derived.Test.YtkcpphebkmnonaaGreatDoorC11
import Derived.Test.YtkcpphebkmnonaaGreatDoorC12
import Derived.Test.YtkcpphebkmnonaaGreatDoorC13
import Derived.Test.YtkcpphebkmnonaaGreatDoorC15
import Derived.Test.YtkcpphebkmnonaaGreatDoorC14
import Derived.Test.YtkcpphebkmnonaaGreatDoorC16
set_option linter.unusedVariables false
set_option linter.unusedSimpArgs false
namespace Lw
theorem Fj(a:Rat):(-a).num = -a.num/\(-a).den=a.den:=⟨rfl,rfl⟩
end Lw
namespace Lw
theorem ad9{a b:Rat} : eU a b=0↔a=b:=by
 rcases tri a b with h | h | h
 ·rw [LG h];exact ⟨fun e=>by simp at e,fun e=>by subst e;exact absurd h avq⟩
 ·subst h;exact ⟨fun _=>rfl,fun _=>TP a⟩
 ·rw [LD h];exact ⟨fun e=>by simp at e,fun e=>by subst e;exact absurd h avq⟩
theorem ak3(a:Rat):iO (a + -a)=0:=by rw [Rat.add_neg_cancel,OL]
end Lw
namespace Go.Proofs.BGQ
open Go Go.RowKit Lw
section
variable {W0 w:World} {bs:List Bx} {L:List En} {ts:List Bt} {M:List Qn} {s s':Bool} {A A':Option Addr} {n c n' c' k k':Nat} {q:Rat} {v:Value} {b:Bool}
theorem bu.NG{g n c n' c' m d:Nat}{s s':Bool}{X X' D:Option Addr}{w:World}{v:Value}(h:bu W0 w bs L ts M)(hm:⟨g,.bool s,.slice X n c,.slice X' n' c'⟩∈ts)(ts':List Bt)(hs : ∀ b∈ts',b∈ts/\b.g≠g) :
  bu W0 (((w.setCell ⟨g,0,none⟩ (.bool s')).setCell ⟨g,1,none⟩ (.slice D m d)).setCell ⟨g,2,none⟩ v) bs L (⟨g,.bool s',.slice D m d,v⟩::ts') M :=
 have h2:=h.iG (D:=D) (m:=m) (d:=d) hm s' v;have hg:W0.heap.size<=g:=h.lot _ hm
 ⟨h2.env,h2.fr,fun b hb=>by
  rcases List.mem_cons.1 hb with rfl | hb
  ·exact (h.tri _ hm).put _ _ _
  ·exact (h.tri b (hs b hb).1).wK (hs b hb).2 _ _ _,h2.tz,h2.tab,h2.lo,fun b hb=>by
  rcases List.mem_cons.1 hb with rfl | hb
  ·exact hg
  ·exact h.lot b (hs b hb).1⟩
end
section
variable {W0 w:World} {bs:List Bx} {L:List En} {ts:List Bt} {M:List Qn} {s s':Bool} {A A' B B':Option Addr} {n c n' c' m d m' d' k k' j:Nat} {q r:Rat} {x y:Int} {b b':Bool}
theorem EE{v:Value}(HE:bu W0 w bs L ts M)(h:⟨v,q,k,b⟩∈M):q.num.natAbs<pw k/\q.den<pw (k+1):=by
 have H:=HE.fr _ h
 cases b
 ·obtain ⟨s',A1,n1,c1,A2,n2,c2,ns,ms,h1,h2,h3,h4,h5,h6,h7,h8,h9,h10,h11⟩:=H
  dsimp only at h10 h11;have h0:q=0:=by rw [<- h10];unfold qv;rw [h11];rfl
  have:=lQ k;have:=fK k;subst h0;exact ⟨by show 0<pw k;omega,by show 1<pw (k+1);omega⟩
 ·exact H.lt
end
end Go.Proofs.BGQ
namespace bG
open Go Go.RowKit
section
variable {P:Program} {ρ:Operand->Value} {w:World} {dst:Option Tmp} {ty:TypeId} {pos:String} {bD:Array Edge} {gd:Option (Nat×Bool)}
theorem aeZ{t:TypeId}{a b:Bool}(hu : ∀ w,(underlying t).run P w = .ok .bool w):(Op.equal t (.bool a) (.bool b)).run P w = .ok (a==b) w:=by
 unfold Op.equal Op.maxDepth Op.equalIn;simp [hu]
theorem YQ{t t':TypeId}{x y:Operand}{a b c:Bool}(hx:ρ x = .bool a)(hy:ρ y = .bool b)(hu : ∀ w,(underlying t).run P w = .ok .bool w)(h:(a==b)=c) :
  (execOp ρ ⟨dst,.binOp .eql t x y t',ty,pos,bD,gd⟩).run P w = .ok (.value (.bool c)) w:=by
 subst h;simp [execOp,hx,hy,eqGuard,binOp,aeZ hu]
end
end bG
namespace bG
open Go Go.RowKit
section
variable {P:Program} {ops:Array Oper} {Q:Exit->Act->World->Prop} {late:List Nat} {S:World->Prop} {N d fuel:Nat} {T:List (Nat×Value)} {w:World} {U:List Box} {listed:Array Bool} {o:Oper} {v:Value}
theorem Jl1{t et:TypeId}{x:Operand}{g off:Nat}{vs:List Value}{ty:TypeId}{pos:String}{bD:Array Edge}(v:Value)(i j:Nat)(hc:wU ops late listed i=true)(hi:ops[i]? = some ⟨some d,.load t x,ty,pos,bD,none⟩)(hq : ∀ c a w,Q (.panic c) (a.put (some d) v) w->Q (.panic c) a w)(hN:Nat.ble (d+1) N=true)(hS:dD late listed->Boxed U w)(hx:ev T x=some (.pointer (some ⟨g,off,none⟩)))(hj:U[j]? = some ⟨g,et,vs⟩)(hg : ∀ w,(isAgg t).run P w = .ok false w)(hv:vs[off]? = some v)(h:JR P ops Q late (Boxed U) fuel (listed.setIfInBounds i true) N ((d,v)::T) w):JR P ops Q late (Boxed U) (fuel+1) listed N T w :=
 have ⟨a,b,c,e,f⟩:=IK hc
 JR.iH v i j hi a b c e hq hN hS f hx hj hg hv rfl h
end
section
variable {P:Program} {ops:Array Oper} {Q:Exit->Act->World->Prop} {late:List Nat} {S:World->Prop} {N d fuel:Nat} {T:List (Nat×Value)} {W0 w w':World} {U:List Box} {Ps:List (World->Prop)} {listed:Array Bool} {o:Oper} {rest:List Oper}
theorem Do{t et:TypeId}{x:Operand}{g off:Nat}{vs:List Value}{ty:TypeId}{pos:String}{bD:Array Edge}(v:Value)(i j:Nat)(hi:ops[i]? = some ⟨some d,.load t x,ty,pos,bD,none⟩)(hS:dD late listed->Boxed U w)(hx:ev T x=some (.pointer (some ⟨g,off,none⟩)))(hj:U[j]? = some ⟨g,et,vs⟩)(hg : ∀ w,(isAgg t).run P w = .ok false w)(h:JR P ops Q late (Boxed U) fuel (listed.setIfInBounds i true) N ((d,v)::T) w)(hv:vs[off]? = some v:=by rfl)(hc:wU ops late listed i=true:=by kernel_rfl)(hN:Nat.ble (d+1) N=true:=by rfl)(hq : ∀ c a w,Q (.panic c) (a.put (some d) v) w->Q (.panic c) a w:=by exact fun _ _ _ h=>h):JR P ops Q late (Boxed U) (fuel+1) listed N T w:=Jl1 v i j hc hi hq hN hS hx hj hg hv h
end
end bG
namespace Go.Proofs.BGQ
open Go Go.RowKit Lw
set_option maxRecDepth 100000 in
set_option maxHeartbeats 6400000 in
theorem ajX(A A':Option Addr)(ns ms:List Nat)(n m c c' B B':Nat)(w:World)(h:Rd w B A ns)(h':Rd w B' A' ms)(hB:B<=w.heap.size)(hB':B'<=w.heap.size)(hn:ns.length=n)(hm:ms.length=m)(hl:n<=16777216)(hl':m<=16777216) :
  Calls Tryz.prog 149 #[.slice A n c,.slice A' m c'] w (zV w (val ns*val ms)):=by
 have Hn:=Lib.hid hn;have Hm:=Lib.hid hm;clear hn hm
 go_enter Tryz.func149,Tryz.ntmps149
 go_wp2_with (at_make;refine rF _ rfl _ _ _ rfl 113 ate l9 _ _ _ _ (n+m) rfl rfl af af af ?_;intro w1 hblk hbel hsz)
 go_loopw [18] (fun i wr => ∃ (k:Nat) (cs:List Nat),k<=n/\i = .int .i64 k/\bM wr w.heap.size 113 cs/\Hid (cs.length=n+m)/\bK cs /\
   Hid (lo cs (k+m)=lo ns k*val ms)/\Hid (∀ j,k+m<=j->dg cs j=0)/\Below w.heap.size w wr) (fun i _=>n-(intOf i).toNat)
 case atStart=>exact ⟨0,_,auw _,rfl,hblk,Lib.hid (by simp),rD _,Lib.hid (by rw [EF (b:=[]) _ (fun j _=>by rw [DT];rfl),dB (by simp),iW];simp [val]),Lib.hid (fun j _=>DT _ _),hbel⟩
 case round =>
  obtain ⟨k,cs,hk,rfl,hb1,hcl,hcw,hv,hz,hbw⟩:=hrel;clear hblk hbel hsz;have hr:=h.below (hbw.mono hB);have hr':=h'.below (hbw.mono hB');have hsz1:=hb1.lt
  by_cases hkn:k<n
  ·obtain ⟨b,off,rfl,hb,hcell,hlt⟩:=hr.at_ (k:=k) (by rw [Hn.out];omega)
   have yh:Hid (0<m -> ∀ a,A'=some a->a.block≠w.heap.size):=Lib.hid (fun hp a ha=>by
    obtain ⟨b,off,hA,hb,_⟩:=h'.2 (by rw [Hm.out];exact hp);rw [ha] at hA;injection hA with e;subst e;exact avh (auD hb hB'))
   obtain ⟨x,hx⟩ : ∃ x,x=dg ns k:=⟨_,rfl⟩;rw [<- hx] at hcell hlt;have HX:=Lib.hid hx;clear hx
   go_wp2_with fail
   go_loopw [7,23] (fun cv jv wi => ∃ (j carry:Nat) (ds:List Nat),j<=m/\carry<4294967296/\jv = .int .i64 j/\cv = .int .u64 carry/\bM wi w.heap.size 113 ds/\Hid (ds.length=cs.length)/\bK ds /\
     Hid (∀ i,i<k\/k+j<=i->dg ds i=dg cs i)/\Hid (lo ds (k+j)+pw (k+j)*carry=lo cs (k+j)+pw k*(lo ms j*x))/\Hid (wr.grownBy wi (some w.heap.size)/\wi.heap.size=wr.heap.size)) (fun _ i _=>m-(intOf i).toNat)
   case atStart=>exact ⟨0,0,cs,auw _,af,rfl,rfl,hb1,Lib.hid rfl,hcw,Lib.hid (fun _ _=>rfl),Lib.hid (by simp [iW]),Lib.hid ⟨World.grownBy.refl wr _,rfl⟩⟩
   case round =>
    obtain ⟨j,carry,ds,hj,hcar,rfl,rfl,hb2,hdl,hdw,hsame,hval,hg⟩:=hrel;clear hb1;have agB:=hg.out.2;have aoo:=hbw.size
    by_cases hjm:j<m
    ·have hr2:=hr'.grown hg.out.1 af (fun hp=>yh.out af)
     obtain ⟨b',off',rfl,hbb,hcell',hlt'⟩:=hr2.at_ (k:=j) (by rw [Hm.out];omega);have hcn:=(World.cell?_of_block (a:=⟨b,off+k,none⟩) (hg.out.1.block b af (by intro e;injection e;omega))).trans hcell;have hcc:=hb2.cell (i:=k+j) (by rw [hdl.out,hcl.out];omega);have hfr:=hb2.frozen (k+j);have yJ:=gI hdw (k+j);have Hd:Hid (dg ds (k+j)=dg cs (k+j)):=Lib.hid (hsame.out _ (.inr (aut _)));have pG:=fun (y d z z':Nat) (e1:y=dg ms j) (e2:d=dg ds (k+j))=>Sr (cs:=ds) (o:=k) (k:=j) (c:=carry) (lc:=lo cs (k+j)) (lm:=lo ms j) (x:=x) (y:=y) (d:=d) (z:=z) (z':=z') (by rw [hdl.out,hcl.out];omega) hval.out;have hset:=fun v=>hb2.ve (i:=k+j) v (by rw [hdl.out,hcl.out];omega);obtain ⟨y,hy⟩ : ∃ y,y=dg ms j:=⟨_,rfl⟩;obtain ⟨d,hd⟩ : ∃ d,d=dg ds (k+j):=⟨_,rfl⟩;have HST:=Lib.hid (pG y d (lo cs (k+j+1)) (lo ms (j+1)) hy hd (by rw [hd,Hd.out];exact dh _ _) (by rw [hy];exact dh _ _));have yg:=Lib.hid hset;rw [<- hy] at hcell' hlt';rw [<- hd] at hcc yJ Hd;clear hy hd pG hset;obtain ⟨Nj,Nk⟩:=EP hlt hlt';obtain ⟨P,hP⟩ : ∃ P,P=x*y:=⟨_,rfl⟩;have MG:(x:Int)*(y:Int)=(P:Int):=by rw [hP];simp
     rw [MG] at Nj Nk;have hQ1:IntKind.u64.wrap ((x:Int)*(y:Int))=(P:Int):=by rw [MG];exact IntWalk.u64_in _ af
     obtain ⟨Q,hQ⟩ : ∃ Q,Q=P+d:=⟨_,rfl⟩;have hQ2:IntKind.u64.wrap ((P:Int)+(d:Int))=(Q:Int):=by rw [show (P:Int)+(d:Int)=(Q:Int) by omega];exact IntWalk.u64_in _ af
     obtain ⟨D,hD⟩ : ∃ D,D=Q+carry:=⟨_,rfl⟩;have hQ3:IntKind.u64.wrap ((Q:Int)+(carry:Int))=(D:Int):=by rw [show (Q:Int)+(carry:Int)=(D:Int) by omega];exact IntWalk.u64_in _ af
     have HDD:Hid (D=carry+(x*y+d)):=Lib.hid af;have hDl:D<=18446744073709551615:=af;obtain ⟨R,hR⟩ : ∃ R,R=D%4294967296:=⟨_,rfl⟩;have hRl:R<4294967296:=af;have hR1:(D:Int)%4294967296=(R:Int):=af;have HR:=Lib.hid hR;obtain ⟨C,hC⟩ : ∃ C,C=D/4294967296:=⟨_,rfl⟩;have MB:C<4294967296:=af;have hC1:(D:Int)/4294967296=(C:Int):=af;have HC:=Lib.hid hC;clear hP hQ hD hR hC MG
     go_wp2_with fail
     go_quiet (fail)
     go_wp2_with fail
     go_roundw
     case rel =>
      refine ⟨j+1,C,ds.set (k+j) R,af,MB,by go_num,by go_num,yg.out R,Lib.hid (by rw [auC];exact hdl.out),jB hdw _ hRl,Lib.hid ?_,Lib.hid ?_,Lib.hid ⟨rQ (grown_drewN hg.out.1 _) _ _,by simp [World.drewN,hg.out.2]⟩⟩
      ·intro i hi
       rw [lq _ (by rw [hdl.out,hcl.out];omega),if_neg af];exact hsame.out i af
      ·have:=HST.out
       rw [<- HDD.out,<- HR.out,<- HC.out] at this;exact this
     case measure=>simp [intOf];omega
    ·obtain rfl:j=m:=af
     have hcc:=hb2.cell (i:=k+j) (by rw [hdl.out,hcl.out];omega);have hfr:=hb2.frozen (k+j);have hkl:Hid (k+j<ds.length):=Lib.hid (by rw [hdl.out,hcl.out];omega);have hset:=Lib.hid (hb2.ve (i:=k+j) carry hkl.out)
     go_wp2_with fail
     go_roundw
     case rel =>
      refine ⟨k+1,ds.set (k+j) carry,af,by go_num,hset.out,Lib.hid (by rw [auC,hdl.out];exact hcl.out),jB hdw _ hcar,Lib.hid ?_,Lib.hid ?_,(below_of_grown hbw hg.out.1 af (aut _)).setCell (aut _) _⟩
      ·rw [show k+1+j=k+j+1 by omega]
       refine WU hkl.out hv.out ?_ (by rw [dh,<- HX.out]);rw [hval.out,dB (l:=ms) (by rw [Hm.out];exact aut _)]
      ·intro i hi
       rw [lq _ hkl.out,if_neg af,hsame.out i af];exact hz.out i af
     case measure=>simp [intOf];omega
  ·obtain rfl:k=n:=af
   have HV:Hid (val cs=val ns*val ms):=Lib.hid (by
    have e:=hv.out
    rwa [dB (by rw [hcl.out];exact aut _),dB (l:=ns) (by rw [Hn.out];exact aut _)] at e)
   go_wp2_with fail
   refine (Fv _ cs _ _ _ _ (hb1.rd hcw) (aut _) hcl.out af).mono ?_;rintro e w3 ⟨g,c6,rfl,hc6,jo,hblk,hb6⟩;rw [HV.out] at hc6 hblk;rw [HV.out];have hb7:=bU hbw hb6 (aut _);have hsz:=hbw.size;clear hr hr' hb1
   go_wp2_with fail
   go_ret
   exact ⟨g,c6,rfl,hc6,auu hsz jo,hblk,hb7⟩
end Go.Proofs.BGQ
namespace Lw
open Go Go.RowKit
theorem ahr(x y:Int):x*y=if (sg x != sg y)=true then -(val (bn (val (mg x)*val (mg y))):Int) else (val (bn (val (mg x)*val (mg y))):Int):=by
 rw [bQ,iq,iq];exact WS x y
end Lw
namespace Go.Proofs.BGQ
open Go Go.RowKit Lw
section
variable {t:TypeId} {W0 w:World} {bs:List Bx} {L:List En} {M:List Sn} {u u':Value} {k k':Nat} {l l':List Nat}
theorem alh(HE:dM t W0 w bs L M)(h:⟨u,l,k⟩∈M)(h':⟨u',l',k'⟩∈M)(hk:k+k'<=100000) :
  Calls Tryz.prog 149 #[u,u'] w fun e w' => ∃ u,e = .returned u/\dM t W0 w' bs L (⟨u,bn (val l*val l'),k+k'+1⟩::M):=by
 obtain ⟨A,n,c,B,e1,h2,h3,h4,h5,h6⟩:=HE.lG _ h;obtain ⟨A',n',c',B',e1',h2',h3',h4',h5',h6'⟩:=HE.lG _ h';dsimp only at *;subst e1 e1'
 have hz:(bn (val l*val l')).length<=k+k'+1:=jG (by
  have:=lt_mul (x:=(val l:Int)) (y:=(val l':Int)) (k:=k) (k':=k') (by rw [auy];exact auD (eP h2.bP) (fJ af)) (by rw [auy];exact auD (eP h2'.bP) (fJ af))
  rwa [<- auT,auy] at this)
 exact (ajX A A' l l' n n' c c' B B' w h2 h2' h3 h3' h4 h4' af af).mono fun e w' hh=>O5 HE hh hz
end
set_option maxRecDepth 100000 in
set_option maxHeartbeats 4000000 in
theorem ajJ(s s':Bool)(A A':Option Addr)(ns ms:List Nat)(n m c c' B B':Nat)(w:World)(h:Rd w B A ns)(h':Rd w B' A' ms)(hB:B<=w.heap.size)(hB':B'<=w.heap.size)(hn:ns.length=n)(hm:ms.length=m)(hl:n<=10000)(hl':m<=10000)(hc:n<=c)(hc':m<=c') :
  Calls Tryz.prog 105 #[.agg #[.bool s,.slice A n c],.agg #[.bool s',.slice A' m c']] w (lM w (zv s ns*zv s' ms)):=by
 have HE:=Dj (s1:=s) (s2:=s') 79 h h' hB hB' hn hm hc hc' (aut n) (aut m);clear h h';generalize zv s ns=x at *;generalize zv s' ms=y at *;generalize vB s ns=bb at *;generalize vB s' ms=bb' at *
 go_enter Tryz.func105,Tryz.ntmps105
 go_wp2_with fail
 go_region_held3 (fun w'=>w'.cell? ⟨w.heap.size,0,none⟩=some (.bool s)/\w'.cell? ⟨w.heap.size,1,none⟩=some (.slice A n c)/\w'.cell? ⟨w.heap.size+1,0,none⟩=some (.bool s')/\w'.cell? ⟨w.heap.size+1,1,none⟩=some (.slice A' m c')) (first | exact HE.env.lZ | exact HE.drew.env.lZ | exact HE.env.jr af af _ _)
  (first
   | (go_at_call 146;refine (xw (by first | exact HE | exact HE.drew) aZ af).mono ?_;rintro e wn ⟨rfl,HE⟩)
   | (go_at_call 145;refine (AV (by first | exact HE | exact HE.drew) aZ af).mono ?_;rintro e wn ⟨u,rfl,HE⟩)
   | (go_at_call 149;refine (alh (by first | exact HE | exact HE.drew) aZ aZ af).mono ?_;rintro e wn ⟨u,rfl,HE⟩)
   | (go_at_call 143;refine (yE (sg x != sg y) (x*y) (by first | exact HE | exact HE.drew) aZ af (ahr x y)).mono ?_;rintro e wn ⟨A9,c9,rfl,fE,ed,HE⟩;obtain ⟨f0,f1,f2,f3⟩:=HE.env.third.facts))
 go_wp2
 refine bodyPost_ret (v := .agg #[.bool (sg (x*y)),.slice A9 (mg (x*y)).length c9]) (by simp [results,Tryz.results105,go_sem,f0,f1]) rfl ?_;exact kF HE.env.third ed (aut _) fE HE.env.below af
theorem ajS{t:TypeId}{W0 w:World}{bs:List Bx}{L:List En}{v v':Value}{x y:Int}{k k':Nat}{b b':Bool}(HE:Env t W0 w bs L)(h:⟨v,x,k,b⟩∈L)(h':⟨v',y,k',b'⟩∈L)(hk:k<=10000/\k'<=10000) :
  Calls Tryz.prog 105 #[v,v'] w fun e w' => ∃ A c,e = .returned (.agg #[.bool (sg (x*y)),.slice A (mg (x*y)).length c])/\(mg (x*y)).length<=c/\Rd w' w'.heap.size A (mg (x*y)) /\
   Env t W0 w' bs (⟨.agg #[.bool (sg (x*y)),.slice A (mg (x*y)).length c],x*y,k+k'+1,true⟩::L):=by
 have H1:=HE.ops _ h;have H2:=HE.ops _ h';have hz:=lt_mul H1.lt H2.lt;obtain ⟨s,A,n,c,ns,B,e1,h2,h3,h4,h5,h6,e7,h8⟩:=H1;obtain ⟨s',A',n',c',ns',B',e1',h2',h3',h4',h5',h6',eX,h8'⟩:=H2;dsimp only at e1 e7 e1' eX h5 h5' hz;subst e1 e1' e7 eX;refine (ajJ s s' A A' ns ns' n n' c c' B B' w h2 h2' h3 h3' h4 h4' af af h6 h6').mono ?_;rintro e w' ⟨A9,c9,rfl,fE,ed,nU⟩;exact ⟨A9,c9,rfl,fE,ed,(HE.next nU).cons ⟨_,A9,_,c9,mg _,_,rfl,ed,aut _,rfl,uJ hz,fE,zL _,xN _⟩⟩
section
variable {W0 w:World} {bs:List Bx} {L:List En} {ts:List Bt} {M:List Qn} {v v':Value} {x y:Int} {k k':Nat} {b b':Bool}
theorem ajv(HE:bu W0 w bs L ts M)(h:⟨v,x,k,b⟩∈L)(h':⟨v',y,k',b'⟩∈L)(hk:k<=10000/\k'<=10000) :
  Calls Tryz.prog 107 #[v,v'] w (gV W0 bs L ts M (x+y) (k+k'+1)) :=
 (Yv HE.env.here h h' hk).mono fun _ _ ⟨A,c,e1,_,_,he⟩=>⟨_,A,_,c,e1,HE.step he⟩
theorem OA(HE:bu W0 w bs L ts M)(h:⟨v,x,k,b⟩∈L)(h':⟨v',y,k',b'⟩∈L)(hk:k<=10000/\k'<=10000) :
  Calls Tryz.prog 105 #[v,v'] w (gV W0 bs L ts M (x*y) (k+k'+1)) :=
 (ajS HE.env.here h h' hk).mono fun _ _ ⟨A,c,e1,_,_,he⟩=>⟨_,A,_,c,e1,HE.step he⟩
end
section
variable {W0 w:World} {bs:List Bx} {L:List En} {ts:List Bt} {M:List Qn} {s s':Bool} {A A' B B':Option Addr} {n c n' c' m d m' d' k k':Nat} {q r:Rat} {x y:Int} {b b':Bool}
theorem ahQ{q:Rat}{k:Nat}(h:q.num.natAbs<pw k/\q.den<pw (k+1)):(-q).num.natAbs<pw (k+1)/\(-q).den<pw (k+1):=by
 rw [(Fj q).1,(Fj q).2,Int.natAbs_neg];exact ⟨auD h.1 (fJ af),h.2⟩
theorem ahR(q:Rat) : -q=Rat.divInt (-q.num) (q.den:Int):=by
 rw [<- (Fj q).1,<- (Fj q).2];exact (ava (-q)).symm
theorem akO(q r:Rat):iO (q-r)=eU q r:=by
 rcases tri q r with h | h | h
 ·rw [LG h];exact Zo (by grind)
 ·rw [ad9.2 h,h,Rat.sub_eq_add_neg,ak3]
 ·rw [LD h];exact Zq (by grind)
set_option maxRecDepth 100000 in
set_option maxHeartbeats 3200000 in
theorem YB(HE:bu W0 w bs L ts M)(h:⟨.agg #[.bool s,.slice A n c,.slice A' n' c'],q,k,b⟩∈M)(h':⟨.agg #[.bool s',.slice B m d,.slice B' m' d'],r,k',b'⟩∈M)(hk:k+k'<=1000) :
  Calls Tryz.prog 63 #[.agg #[.bool s,.slice A n c,.slice A' n' c'],.agg #[.bool s',.slice B m d,.slice B' m' d']] w (dA W0 bs L ts M (q+r) (k+k'+2)):=by
 refine Calls.mono (R:=(dA w [] L [] M (q+r) (k+k'+2))) ?_ fun _ _ hh=>dA.of HE hh;have HP:=Lib.hid (Su (EE HE h) (EE HE h'));have HD:=Lib.hid (Int.mul_ne_zero (wJ q) (wJ r));replace HE:=((HE.here.bY (.bool s) (.slice A n c) (.slice A' n' c')).bY (.bool s') (.slice B m d) (.slice B' m' d')).bY (.bool false) (.slice none 0 0) (.slice none 0 0);simp only [World.size_alloc] at HE;obtain ⟨q0,q1,q2,q3,q4,q5⟩:=HE.c3 ak;obtain ⟨q6,q7,q8,q9,q10,q11⟩:=HE.c3 au;obtain ⟨q12,q13,dO,dP,q16,dQ⟩:=HE.c3 ay
 go_enter Tryz.func63,Tryz.ntmps63
 go_wp2_with fail
 refine (xx HE h af).mono ?_;clear HE;rintro e w1 ⟨s1,D1,m1,d1,s2,D2,m2,d2,rfl,HE⟩;replace HE:=(HE.bI (.bool s1) (.slice D1 m1 d1)).bI (.bool s2) (.slice D2 m2 d2);simp only [World.size_alloc] at HE;clear q0 q1 q2 q3 q4 q5 q6 q7 q8 q9 q10 q11 q12 q13 dO dP q16 dQ;obtain ⟨eu,eF,fM,fO⟩:=HE.c2 ak;obtain ⟨q22,q23,q24,fU⟩:=HE.c2 au;obtain ⟨gJ,gK,gX,gY,q30,gZ⟩:=HE.c3 ak;obtain ⟨q32,iI,iJ,q35,jd,q37⟩:=HE.c3 au;obtain ⟨jy,jX,jY,jZ,kP,kQ⟩:=HE.c3 ay
 go_wp2_with fail
 refine (xx HE h' af).mono ?_;clear HE;rintro e w2 ⟨s3,D3,m3,d3,s4,D4,m4,d4,rfl,HE⟩;replace HE:=(HE.bI (.bool s3) (.slice D3 m3 d3)).bI (.bool s4) (.slice D4 m4 d4);simp only [World.size_alloc] at HE;clear eu eF fM fO q22 q23 q24 fU gJ gK gX gY q30 gZ q32 iI iJ q35 jd q37 jy jX jY jZ kP kQ;obtain ⟨mF,mG,mJ,mM⟩:=HE.c2 ak;obtain ⟨oz,oC,oD,oG⟩:=HE.c2 au;obtain ⟨oH,oI,qE,qF⟩:=HE.c2 ay;obtain ⟨qG,qH,qI,qJ⟩:=HE.c2 az;obtain ⟨qK,qL,qM,qN,qO,qP⟩:=HE.c3 ak;obtain ⟨qQ,qR,qU,qV,qW,qX⟩:=HE.c3 au;obtain ⟨sJ,sK,sN,sO,sQ,sS⟩:=HE.c3 ay
 go_wp2_with fail
 go_region_held3 (fun w'=>w'.cell? ⟨w1.heap.size,0,none⟩=some (.bool s1)/\w'.cell? ⟨w1.heap.size,1,none⟩=some (.slice D1 m1 d1)/\w'.cell? ⟨w1.heap.size+1,0,none⟩=some (.bool s2)/\w'.cell? ⟨w1.heap.size+1,1,none⟩=some (.slice D2 m2 d2)/\w'.cell? ⟨w2.heap.size,0,none⟩=some (.bool s3)/\w'.cell? ⟨w2.heap.size,1,none⟩=some (.slice D3 m3 d3)/\w'.cell? ⟨w2.heap.size+1,0,none⟩=some (.bool s4)/\w'.cell? ⟨w2.heap.size+1,1,none⟩=some (.slice D4 m4 d4)) (first | exact ⟨(HE.c2 az).1,(HE.c2 az).2.1,(HE.c2 ay).1,(HE.c2 ay).2.1,(HE.c2 au).1,(HE.c2 au).2.1,(HE.c2 ak).1,(HE.c2 ak).2.1⟩ | exact ⟨(HE.drew.c2 az).1,(HE.drew.c2 az).2.1,(HE.drew.c2 ay).1,(HE.drew.c2 ay).2.1,(HE.drew.c2 au).1,(HE.drew.c2 au).2.1,(HE.drew.c2 ak).1,(HE.drew.c2 ak).2.1⟩ | exact ⟨(HK.c2 az).1,(HK.c2 az).2.1,(HK.c2 ay).1,(HK.c2 ay).2.1,(HK.c2 au).1,(HK.c2 au).2.1,(HK.c2 ak).1,(HK.c2 ak).2.1⟩)
  (first
   | (go_at_call 105;refine (OA (by with_reducible first | exact HE | exact HE.drew) (by repeat (first | exact aZ | assumption | refine .tail _ ?_)) (by repeat (first | exact aZ | assumption | refine .tail _ ?_)) af).mono ?_;rintro e wn ⟨sx,Ax,nx,cx,rfl,HE⟩)
   | (go_at_call 107;refine (ajv (by with_reducible first | exact HE | exact HE.drew) (by repeat (first | exact aZ | assumption | refine .tail _ ?_)) (by repeat (first | exact aZ | assumption | refine .tail _ ?_)) af).mono ?_;rintro e wn ⟨sx,Ax,nx,cx,rfl,HE⟩)
   | (go_at_call 103;refine (DY (by with_reducible first | exact HE | exact HE.drew) (by repeat (first | exact aZ | assumption | refine .tail _ ?_)) (by repeat (first | exact aZ | assumption | refine .tail _ ?_)) af HD.out).mono ?_;rintro e wn ⟨sx,Ax,nx,cx,Ay,ny,cy,rfl,HE⟩;have HK:=HE.iG (D:=Ax) (m:=nx) (d:=cx) ak sx (.slice Ay ny cy);obtain ⟨z0,z1,z2,z3,z4,z5⟩:=HE.c3 ak))
 go_wp2_with fail
 refine bodyPost_ret (v := .agg #[.bool sx,.slice Ax nx cx,.slice Ay ny cy]) (by simp [results,Tryz.results63,go_sem,z0,z1,z2]) rfl ?_;have HF:=HK.bare;rw [<- Le] at HF;replace HF:=HF.hd (fun hh=>bV.tight hh HP.out.1 HP.out.2);exact ⟨_,_,_,_,_,_,_,rfl,HF.pick (fun e he => .tail _ (.tail _ (.tail _ (.tail _ (.tail _ (.tail _ (.tail _ (.tail _ (he))))))))) (fun _ he=>he)⟩
set_option maxRecDepth 100000 in
set_option maxHeartbeats 2400000 in
theorem YE(HE:bu W0 w bs L ts M)(h:⟨.agg #[.bool s,.slice A n c,.slice A' n' c'],q,k,b⟩∈M)(hk:k<=1500) :
  Calls Tryz.prog 64 #[.agg #[.bool s,.slice A n c,.slice A' n' c']] w (dA W0 bs L ts M (-q) (k+1)):=by
 refine Calls.mono (R:=(dA w [] L [] M (-q) (k+1))) ?_ fun _ _ hh=>dA.of HE hh;have HP:=Lib.hid (ahQ (EE HE h));have HD:=Lib.hid (wJ q);replace HE:=(HE.here.bY (.bool s) (.slice A n c) (.slice A' n' c')).bY (.bool false) (.slice none 0 0) (.slice none 0 0);simp only [World.size_alloc] at HE;obtain ⟨q0,q1,q2,q3,q4,q5⟩:=HE.c3 ak;obtain ⟨q6,q7,q8,q9,q10,q11⟩:=HE.c3 au
 go_enter Tryz.func64,Tryz.ntmps64
 go_wp2_with fail
 refine (xx HE h af).mono ?_;clear HE;rintro e w1 ⟨s1,D1,m1,d1,s2,D2,m2,d2,rfl,HE⟩;replace HE:=(HE.bI (.bool s1) (.slice D1 m1 d1)).bI (.bool s2) (.slice D2 m2 d2);simp only [World.size_alloc] at HE;clear q0 q1 q2 q3 q4 q5 q6 q7 q8 q9 q10 q11;obtain ⟨q12,q13,dO,dP⟩:=HE.c2 ak;obtain ⟨q16,dQ,eu,eF⟩:=HE.c2 au;obtain ⟨fM,fO,q22,q23,q24,fU⟩:=HE.c3 ak;obtain ⟨gJ,gK,gX,gY,q30,gZ⟩:=HE.c3 au
 go_wp2_with fail
 go_region_held3 (fun w'=>w'.cell? ⟨w1.heap.size,0,none⟩=some (.bool s1)/\w'.cell? ⟨w1.heap.size,1,none⟩=some (.slice D1 m1 d1)/\w'.cell? ⟨w1.heap.size+1,0,none⟩=some (.bool s2)/\w'.cell? ⟨w1.heap.size+1,1,none⟩=some (.slice D2 m2 d2)) (first | exact ⟨(HE.c2 au).1,(HE.c2 au).2.1,(HE.c2 ak).1,(HE.c2 ak).2.1⟩ | exact ⟨(HE.drew.c2 au).1,(HE.drew.c2 au).2.1,(HE.drew.c2 ak).1,(HE.drew.c2 ak).2.1⟩ | exact ⟨(HK.c2 au).1,(HK.c2 au).2.1,(HK.c2 ak).1,(HK.c2 ak).2.1⟩)
  (first
   | (go_at_call 108;refine (OB (by with_reducible first | exact HE | exact HE.drew) (by repeat (first | exact aZ | assumption | refine .tail _ ?_)) af).mono ?_;rintro e wn ⟨sx,Ax,nx,cx,rfl,HE⟩)
   | (go_at_call 103;refine (DY (by with_reducible first | exact HE | exact HE.drew) (by repeat (first | exact aZ | assumption | refine .tail _ ?_)) (by repeat (first | exact aZ | assumption | refine .tail _ ?_)) af HD.out).mono ?_;rintro e wn ⟨sx,Ax,nx,cx,Ay,ny,cy,rfl,HE⟩;have HK:=HE.iG (D:=Ax) (m:=nx) (d:=cx) ak sx (.slice Ay ny cy);obtain ⟨z0,z1,z2,z3,z4,z5⟩:=HE.c3 ak))
 go_wp2_with fail
 refine bodyPost_ret (v := .agg #[.bool sx,.slice Ax nx cx,.slice Ay ny cy]) (by simp [results,Tryz.results64,go_sem,z0,z1,z2]) rfl ?_;have HF:=HK.bare;rw [<- ahR] at HF;replace HF:=HF.hd (fun hh=>bV.tight hh HP.out.1 HP.out.2);exact ⟨_,_,_,_,_,_,_,rfl,HF.pick (fun e he => .tail _ (.tail _ (.tail _ (he)))) (fun _ he=>he)⟩
set_option maxRecDepth 100000 in
set_option maxHeartbeats 3200000 in
theorem YG(HE:bu W0 w bs L ts M)(h:⟨.agg #[.bool s,.slice A n c,.slice A' n' c'],q,k,b⟩∈M)(h':⟨.agg #[.bool s',.slice B m d,.slice B' m' d'],r,k',b'⟩∈M)(hk:k+k'<=900) :
  Calls Tryz.prog 61 #[.agg #[.bool s,.slice A n c,.slice A' n' c'],.agg #[.bool s',.slice B m d,.slice B' m' d']] w (dA W0 bs L ts M (q-r) (k+(k'+1)+2)):=by
 refine Calls.mono (R:=(dA w [] L [] M (q-r) (k+(k'+1)+2))) ?_ fun _ _ hh=>dA.of HE hh;replace HE:=((HE.here.bY (.bool s) (.slice A n c) (.slice A' n' c')).bY (.bool s') (.slice B m d) (.slice B' m' d')).bY (.bool false) (.slice none 0 0) (.slice none 0 0);simp only [World.size_alloc] at HE;obtain ⟨q0,q1,q2,q3,q4,q5⟩:=HE.c3 ak;obtain ⟨q6,q7,q8,q9,q10,q11⟩:=HE.c3 au;obtain ⟨q12,q13,dO,dP,q16,dQ⟩:=HE.c3 ay
 go_enter Tryz.func61,Tryz.ntmps61
 go_wp2_with fail
 go_region_held3 (fun w'=>w'.cell? ⟨w.heap.size,0,none⟩=some (.bool s)/\w'.cell? ⟨w.heap.size,1,none⟩=some (.slice A n c)/\w'.cell? ⟨w.heap.size,2,none⟩=some (.slice A' n' c')/\w'.cell? ⟨w.heap.size+1,0,none⟩=some (.bool s')/\w'.cell? ⟨w.heap.size+1,1,none⟩=some (.slice B m d)/\w'.cell? ⟨w.heap.size+1,2,none⟩=some (.slice B' m' d')) (first | exact ⟨(HE.c3 ay).1,(HE.c3 ay).2.1,(HE.c3 ay).2.2.1,(HE.c3 au).1,(HE.c3 au).2.1,(HE.c3 au).2.2.1⟩ | exact ⟨(HE.drew.c3 ay).1,(HE.drew.c3 ay).2.1,(HE.drew.c3 ay).2.2.1,(HE.drew.c3 au).1,(HE.drew.c3 au).2.1,(HE.drew.c3 au).2.2.1⟩ | exact ⟨(HK.c3 ay).1,(HK.c3 ay).2.1,(HK.c3 ay).2.2.1,(HK.c3 au).1,(HK.c3 au).2.1,(HK.c3 au).2.2.1⟩)
  (first
   | (go_at_call 64;refine (YE (by with_reducible first | exact HE | exact HE.drew) (by repeat (first | exact aZ | assumption | refine .tail _ ?_)) af).mono ?_;rintro e wn ⟨sx,Ax,nx,cx,Ay,ny,cy,rfl,HE⟩)
   | (go_at_call 63;refine (YB (by with_reducible first | exact HE | exact HE.drew) (by repeat (first | exact aZ | assumption | refine .tail _ ?_)) (by repeat (first | exact aZ | assumption | refine .tail _ ?_)) af).mono ?_;rintro e wn ⟨sx,Ax,nx,cx,Ay,ny,cy,rfl,HE⟩;have HK:=HE.NG (s':=sx) (D:=Ax) (m:=nx) (d:=cx) (v := .slice Ay ny cy) ak [⟨w.heap.size+1,.bool s',.slice B m d,.slice B' m' d'⟩,⟨w.heap.size,.bool s,.slice A n c,.slice A' n' c'⟩] (fun b hb=>by simp only [List.mem_cons,List.not_mem_nil,or_false] at hb;rcases hb with rfl | rfl <;> exact ⟨(by repeat (first | exact aZ | assumption | refine .tail _ ?_)),by dsimp only;omega⟩);obtain ⟨z0,z1,z2,z3,z4,z5⟩:=HE.c3 ak))
 go_wp2_with fail
 refine bodyPost_ret (v := .agg #[.bool sx,.slice Ax nx cx,.slice Ay ny cy]) (by simp [results,Tryz.results61,go_sem,z0,z1,z2]) rfl ?_;have HF:=HK.bare;rw [<- Rat.sub_eq_add_neg] at HF;exact ⟨_,_,_,_,_,_,_,rfl,HF.pick (fun e he=>he) (fun _ he=>by rcases List.mem_cons.1 he with rfl | he;exact ak;exact .tail _ (.tail _ (he)))⟩
set_option maxRecDepth 100000 in
set_option maxHeartbeats 2400000 in
theorem aj3(HE:bu W0 w bs L ts M)(h:⟨.agg #[.bool s,.slice A n c,.slice A' n' c'],q,k,b⟩∈M)(h':⟨.agg #[.bool s',.slice B m d,.slice B' m' d'],r,k',b'⟩∈M)(hk:k+k'<=900) :
  Calls Tryz.prog 37 #[.agg #[.bool s,.slice A n c,.slice A' n' c'],.agg #[.bool s',.slice B m d,.slice B' m' d']] w fun e w'=>e = .returned (.int .i64 (eU q r))/\bu W0 w' bs L ts M:=by
 refine Calls.mono (R:=fun e w'=>e = .returned (.int .i64 (eU q r))/\bu w w' [] L [] M) ?_ fun _ _ hh=>⟨hh.1,HE.back hh.2⟩;replace HE:=(HE.here.bY (.bool s) (.slice A n c) (.slice A' n' c')).bY (.bool s') (.slice B m d) (.slice B' m' d');simp only [World.size_alloc] at HE;have HS:=Lib.hid (show iO (q-r)=eU q r from akO q r);obtain ⟨q0,q1,q2,q3,q4,q5⟩:=HE.c3 ak;obtain ⟨q6,q7,q8,q9,q10,q11⟩:=HE.c3 au
 go_enter Tryz.func37,Tryz.ntmps37
 go_wp2_with fail
 refine (YG HE h h' af).mono ?_;clear HE;rintro e w1 ⟨sx,Ax,nx,cx,Ay,ny,cy,rfl,HE⟩;clear q0 q1 q2 q3 q4 q5 q6 q7 q8 q9 q10 q11
 go_wp2_with fail
 refine (YF HE ak af).mono ?_;rw [HS.out];clear HE;rintro e w2 ⟨rfl,HE⟩
 go_wp2_with fail
 go_ret
 exact ⟨rfl,HE.bare.pick (fun _ he=>he) (fun e he => .tail _ he)⟩
end
section
variable {W0 w:World} {bs:List Bx} {L:List En} {ts:List Bt} {M:List Qn} {v v':Value} {q r:Rat} {k k':Nat} {b b':Bool}
theorem aj6(HE:bu W0 w bs L ts M)(h:⟨v,q,k,b⟩∈M)(h':⟨v',r,k',b'⟩∈M)(hk:k+k'<=800) :
  Calls Tryz.prog 37 #[v,v'] w fun e w'=>e = .returned (.int .i64 (eU q r))/\bu W0 w' bs L ts M:=by
 obtain ⟨s,A,n,c,A',n',c',e1⟩:=(HE.fr _ h).shape;obtain ⟨t,B,m,d,B',m',d',e2⟩:=(HE.fr _ h').shape;dsimp only at e1 e2;subst e1 e2;exact aj3 HE h h' af
end
open bG
section
variable {W0 w w':World} {U:List Box} {Ps:List (World->Prop)} {v v':Value} {q r:Rat} {x y:Int} {k k':Nat} {b b':Bool} {f:FuncId} {vs:List Value} {L:List En} {M:List Qn}
theorem BA(HT:Tz W0)(HB:Tab W0)(HS:St W0 U Ps w){s1:Bool}{A1:Option Addr}{n1 c1:Nat}{B1:Option Addr}{m1 d1:Nat}{q1:Rat}{k1:Nat}{b1:Bool}{s2:Bool}{A2:Option Addr}{n2 c2:Nat}{B2:Option Addr}{m2 d2:Nat}{q2:Rat}{k2:Nat}{b2:Bool}(f1:FV (aup s1 A1 n1 c1 B1 m1 d1) q1 k1 b1 w)(f2:FV (aup s2 A2 n2 c2 B2 m2 d2) q2 k2 b2 w)(hk:k1+k2<=800):bF Tryz.prog 37 [(aup s1 A1 n1 c1 B1 m1 d1),(aup s2 A2 n2 c2 B2 m2 d2)] w (dI W0 U Ps (.int .i64 (eU q1 q2))) :=
 uo HS (aj6 (((St.start HS HT HB).cons f2).cons f1) ak au hk)
end
end Go.Proofs.BGQ
namespace Lw
open Go Go.RowKit bG
theorem aeb(x y:Int):(dS x y==0)=decide (x=y):=by
 rw [Bool.eq_iff_iff,beq_iff_eq,decide_eq_true_iff];unfold dS
 split
 ·constructor <;> intro <;> omega
 ·split <;> constructor <;> intro <;> omega
end Lw
namespace Lw
open Go Go.RowKit bG
theorem TQ(x y:Int):(dS x y != 0)=(!(decide (x=y))):=by rw [<- aeb];rfl
theorem F6{u:Bool}{q:Rat}(h:u=true->q=0):u=true -> -q=0:=fun e=>by rw [h e];rfl
end Lw
