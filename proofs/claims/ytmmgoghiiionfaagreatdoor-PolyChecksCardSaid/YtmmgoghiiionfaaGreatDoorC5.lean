/- Part of a proof, said shortly. -/
import Derived.Deep.RegionWith
import Derived.Test.YtmmgoghiiionfaaGreatDoorAlz
import Derived.Test.YtmmgoghiiionfaaGreatDoorC4
import Derived.Test.YtmmgoghiiionfaaGreatDoorC1
import Derived.Test.YtmmgoghiiionfaaGreatDoorC2
set_option linter.unusedVariables false
set_option linter.unusedSimpArgs false
namespace Go.Proofs.AZQ
open Go Go.RowKit Lw
set_option maxRecDepth 100000 in
set_option maxHeartbeats 1600000 in
theorem Yi(A A':Option Addr)(us vs:List Nat)(k c c' B B':Nat)(w:World)(h:Rd w B A us)(h':Rd w B' A' vs)(hu:us.length=k+3)(hv:vs.length=k+2)(hl:k<=16777216)(hv1:2147483648<=dg vs (k+1))(hlt:val us<4294967296*val vs) :
  Calls Tryz.prog 279 #[.slice A (k+3:Nat) c,.slice A' (k+2:Nat) c'] w fun e w' => ∃ x q:Nat,e = .returned (.int .u64 x)/\w'=w.drewN q/\x<=4294967295/\val us/val vs<=x/\x<=val us/val vs+1:=by
 obtain ⟨b,off,rfl,hb,hc1,hl1⟩:=h.at_ (k:=k+2) (by rw [hu];omega);obtain ⟨b_,Hg,he,_,hc2,hl2⟩:=h.at_ (k:=k+1) (by rw [hu];omega)
 injection he with he;injection he with e1 e2;subst e1 e2;obtain ⟨b_,Hg,he,_,hc3,hl3⟩:=h.at_ (k:=k) (by rw [hu];omega)
 injection he with he;injection he with e1 e2;subst e1 e2;obtain ⟨b',off',rfl,hb',hd1,hm1⟩:=h'.at_ (k:=k+1) (by rw [hv];omega);obtain ⟨b_,Hg,he,_,hd2,hm2⟩:=h'.at_ (k:=k) (by rw [hv];omega)
 injection he with he;injection he with e1 e2;subst e1 e2;have htl:=top_le hu hv h'.bI hlt;have uh:=abw hu hv h.bI (show 0<dg vs (k+1) from af)
 have hvp:0<val vs:=by
  have:=Dk hv;have h5:1<=(dg vs (k+1)*4294967296+dg vs k)*pw k:=ah8 af (iV k);omega
 obtain ⟨u0,hu0⟩ : ∃ u,u=dg us (k+2):=⟨_,rfl⟩;obtain ⟨u1,hu1⟩ : ∃ u,u=dg us (k+1):=⟨_,rfl⟩;obtain ⟨u2,hu2⟩ : ∃ u,u=dg us k:=⟨_,rfl⟩;obtain ⟨v1,Gq⟩ : ∃ u,u=dg vs (k+1):=⟨_,rfl⟩;obtain ⟨v2,Gu⟩ : ∃ u,u=dg vs k:=⟨_,rfl⟩;rw [<- hu0] at hc1 hl1 htl uh;rw [<- hu1] at hc2 hl2 uh;rw [<- hu2] at hc3 hl3;rw [<- Gq] at hd1 hm1 htl uh hv1;rw [<- Gu] at hd2 hm2;obtain ⟨top,htop⟩ : ∃ t,t=u0*4294967296+u1:=⟨_,rfl⟩;rw [<- htop] at uh;have HG:=Lib.hid (Gs.start (V:=val vs) hv1 af htop af htl uh);have hor:bits .or .u64 ((u0:Int)*4294967296) (u1:Int)=((top:Nat):Int):=by rw [rF hl1 hl2,htop];omega
 have Hu:=Lib.hid hu;have Hv:=Lib.hid hv;have wu:=Lib.hid htop;have Hd:=Lib.hid (And.intro hu0 (And.intro hu1 (And.intro hu2 (And.intro Gq Gu))));have Ey:=Lib.hid hvp;have Ku:=Lib.hid htl;have UU:=Lib.hid (show val us/val vs<4294967296 by rw [aim hvp];exact hlt);have hs1:(k:Int)+2-1=((k+1:Nat):Int):=af;have hs2:(k:Int)+2-2=(k:Int):=af;clear hu hv htop hu0 hu1 hu2 Gq Gu uh hvp htl hlt
 go_enter Tryz.func279,Tryz.ntmps279
 go_wp2_with fail
 go_quiet (fail)
 go_wp2_with fail
 have hq0:IntKind.u64.wrap ((top:Int)/(v1:Int))=((top/v1:Nat):Int):=by
  rw [<- aiZ];exact IntWalk.u64_in _ (by have:=HG.out.le;generalize top/v1=Q at *;omega)
 go_loopw [7,8] (fun a b wr => ∃ x rest q:Nat,x<=4294967297/\rest<=8589934591/\a = .int .u64 x/\b = .int .u64 rest/\Hid (Gs (val us) (val vs) top v1 u1 x rest)/\wr=w.drewN q) (fun a _ _=>(intOf a).toNat)
 case atStart=>exact ⟨top/v1,top%v1,_,HG.out.le,HG.out.small,congrArg _ hq0,congrArg _ (aiY top v1).symm,HG,rfl⟩
 case round =>
  obtain ⟨x,rest,q,hx,hr,rfl,rfl,hg,rfl⟩:=hrel;clear hq0
  by_cases h1:4294967295<rest
  ·have hxl:x<=4294967295:=by
    rcases ahs 4294967295 x with h2 | h2
    ·have:=hg.out.far h2;omega
    ·exact h2
   have HO:=Lib.hid (hg.out.out rfl rfl Hu.out Hv.out h'.bI (by rw [wu.out,Hd.out.1,Hd.out.2.1]) Hd.out.2.2.2.1 hv1 Ey.out hxl (.inl h1));have hb1:decide ((rest:Int)<=4294967295)=false:=decide_eq_false af
   go_wp2_with fail
   go_quiet (fail)
   go_wp2_with fail
   go_ret
   exact ⟨x,_,rfl,by rw [World.drewN_drewN],hxl,HO.out.1,HO.out.2⟩
  ·have hrl:rest<=4294967295:=af
   have hb1:((rest:Int)<=4294967295):=af;clear h1
   by_cases h2:4294967295<x
   ·have hQ:val us/val vs<x:=ahr UU.out h2
    have HN:=Lib.hid (hg.out.next hv1 af wu.out af Ku.out hrl hQ);have hb2:(4294967295:Int)<(x:Int):=af;clear hQ
    go_wp2_with fail
    go_quiet (fail)
    go_wp2_with fail
    go_roundw
    case rel=>exact ⟨x-1,rest+v1,q+nq,af,af,congrArg _ af,congrArg _ af,HN,rfl⟩
    case measure=>simp [intOf];omega
   ·have hxl:x<=4294967295:=af
    obtain ⟨y,hy⟩ : ∃ y,y=x*v2:=⟨_,rfl⟩;obtain ⟨t,ht⟩ : ∃ t,t=rest*4294967296+u2:=⟨_,rfl⟩;have hmul:(x:Int)*(v2:Int)=(y:Int):=by rw [hy];simp
    have hyl:y<=18446744065119617025:=by rw [hy];exact ahY (show x<=4294967295 from af) (show v2<=4294967295 from af)
    have hor2:bits .or .u64 ((rest:Int)*4294967296) (u2:Int)=(t:Int):=by rw [rF af hl3,ht];omega
    have hb2:decide ((4294967295:Int)<(x:Int))=false:=decide_eq_false af;have Hy:=Lib.hid hy;have Ht:=Lib.hid ht;clear h2 hy ht
    by_cases h3:t<y
    ·have hQ:val us/val vs<x:=hg.out.over rfl rfl Hu.out Hv.out h.bI (by rw [wu.out,Hd.out.1,Hd.out.2.1]) Hd.out.2.2.2.1 Ey.out (by rw [<- Hd.out.2.2.1,<- Hd.out.2.2.2.2,<- Hy.out,<- Ht.out];exact h3)
     have hx0:0<x:=ahO (ahl _) hQ;have HN:=Lib.hid (hg.out.next hv1 af wu.out af Ku.out hrl hQ);clear hQ
     go_wp2_with fail
     go_quiet (fail)
     go_wp2_with fail
     go_roundw
     case rel=>exact ⟨x-1,rest+v1,q+nq,af,af,congrArg _ af,congrArg _ af,HN,rfl⟩
     case measure=>simp [intOf];omega
    ·have HO:=Lib.hid (hg.out.out rfl rfl Hu.out Hv.out h'.bI (by rw [wu.out,Hd.out.1,Hd.out.2.1]) Hd.out.2.2.2.1 hv1 Ey.out hxl (.inr (by rw [<- Hd.out.2.2.1,<- Hd.out.2.2.2.2,<- Hy.out,<- Ht.out];omega)))
     go_wp2_with fail
     go_quiet (fail)
     go_wp2_with fail
     go_ret
     exact ⟨x,_,rfl,by rw [World.drewN_drewN],hxl,HO.out.1,HO.out.2⟩
theorem grown_drew(w:World)(s:Option Nat):w.grownBy w.drew s:=⟨rfl,rfl,rfl,ahj _,fun _ _ _=>rfl⟩
set_option maxRecDepth 100000 in
set_option maxHeartbeats 3200000 in
theorem adQ(g o x m U:Nat)(A':Option Addr)(cs ms:List Nat)(c c' B':Nat)(w:World)(hb:bD w g 82 cs)(hcw:bF cs)(h':Rd w B' A' ms)(hB':B'<=w.heap.size)(hne:0<m -> ∀ a,A'=some a->a.block≠g)(hm:ms.length=m)(hl:m<=16777216)(hl':cs.length<=1099511627776)(ho:o+m+1<=cs.length)(hmc:m<=c)(_hx:x<=4294967295)(hU:lo cs (o+m+1)=lo cs o+pw o*U)(hp:0<val ms)(hx1:U/val ms<=x)(hx2:x<=U/val ms+1) :
  Calls Tryz.prog 278 #[.slice (some ⟨g,o,none⟩) (m+1:Nat) c,.slice A' m c',.int .u64 x] w fun e w' => ∃ (ds:List Nat),e = .returned (.int .u32 ((U/val ms:Nat):Int))/\bD w' g 82 ds /\
   ds.length=cs.length/\bF ds/\(∀ j,j<o\/o+m+1<=j->dg ds j=dg cs j)/\lo ds (o+m+1)+pw o*(val ms*(U/val ms))=lo cs (o+m+1)/\w.grownBy w' (some g)/\w'.heap.size=w.heap.size:=by
 have Hm:=Lib.hid hm;have HU:=Lib.hid hU;have HX:=Lib.hid (And.intro hp (And.intro hx1 hx2));have vZ:=Lib.hid hne;clear hm hU hp hx1 hx2 hne
 go_enter Tryz.func278,Tryz.ntmps278
 go_wp2_with fail
 go_loopw [7,8,15] (fun a b i wr => ∃ (k carry bo:Nat) (ds:List Nat),k<=m/\carry<=4294967295/\bo<=1/\i = .int .i64 k/\a = .int .u64 carry/\b = .int .u64 bo/\bD wr g 82 ds/\Hid (ds.length=cs.length)/\bF ds /\
   Hid (∀ j,j<o\/o+k<=j->dg ds j=dg cs j)/\Hid (lo ds (o+k)+pw o*(lo ms k*x)=lo cs (o+k)+pw (o+k)*(carry+bo))/\Hid (w.grownBy wr (some g)/\wr.heap.size=w.heap.size)) (fun _ _ i _=>m-(intOf i).toNat)
 case atStart=>exact ⟨0,0,0,cs,ahl _,af,af,rfl,rfl,rfl,hb,Lib.hid rfl,hcw,Lib.hid (fun _ _=>rfl),Lib.hid (by simp [fM]),Lib.hid ⟨World.grownBy.refl w _,rfl⟩⟩
 case round =>
  obtain ⟨k,carry,bo,ds,hk,hcar,gW,rfl,rfl,rfl,hb1,hdl,hdw,hsame,hv,hg⟩:=hrel;clear hb
  by_cases hkm:k<m
  ·have hr:=h'.grown hg.out.1 hB' (fun hp=>vZ.out af)
   obtain ⟨b,off,rfl,hbb,hcell,hlt⟩:=hr.at_ (k:=k) (by rw [Hm.out];omega);have hcc:=hb1.cell (i:=o+k) (by rw [hdl.out];omega);have qZ:=dV hdw (o+k);have hfr:=hb1.frozen (o+k);obtain ⟨Gv,Gx⟩:=xH (x:=x) af hlt;have hN:x*dg ms k<=18446744065119617025:=by have:=aid x (dg ms k);omega
   obtain ⟨S,hS⟩ : ∃ S,S=carry+x*dg ms k:=⟨_,rfl⟩;have hSl:S<=18446744073709551615:=af;have hsum:(carry:Int)+(x:Int)*(dg ms k:Int)=(S:Int):=by rw [hS,aiD,aid]
   have hand:bits .and .u64 (S:Int) 4294967295=((S%4294967296:Nat):Int):=EH af;obtain ⟨D,hD,hDl,o8⟩:=vF (dg ds (o+k)) (S%4294967296);obtain ⟨F,hF,Nw,o9⟩:=vF D bo;have hsw:=Lib.hid (adT qZ gW o8 o9 hDl);have hs1:S/4294967296<=4294967295:=af;have hF2:F/9223372036854775808<=1:=hsw.out.2;have hT:((S/4294967296:Nat):Int)=(S:Int)/4294967296:=af;have HS:=Lib.hid hS;obtain ⟨M,hM⟩ : ∃ M,M=S%4294967296:=⟨_,rfl⟩;rw [<- hM] at hand hD;clear o8 o9 hS hM
   go_wp2_with fail
   go_roundw
   case rel =>
    refine ⟨k+1,S/4294967296,F/9223372036854775808,ds.set (o+k) (F%4294967296),af,hs1,hF2,by go_num,by go_num,by go_num,hb1.oM (by rw [hdl.out];omega) af,Lib.hid (by rw [ahv];exact hdl.out),iO hdw _ (aht _ af),Lib.hid ?_,Lib.hid ?_,Lib.hid ⟨lY hg.out.1 _ _,by simp [hg.out.2]⟩⟩
    ·intro j hj
     rw [iJ _ (by rw [hdl.out];omega),if_neg af];exact hsame.out j af
    ·have e:=hsw.out.1
     rw [hsame.out (o+k) af] at e;exact adR (by rw [hdl.out];omega) hv.out HS.out e
   case measure=>simp [intOf];omega
  ·obtain rfl:k=m:=af
   have hcc:=hb1.cell (i:=o+k) (by rw [hdl.out];omega);have qZ:=dV hdw (o+k);have hfr:=hb1.frozen (o+k);obtain ⟨D,hD,hDl,o8⟩:=vF (dg ds (o+k)) carry;obtain ⟨F,hF,Nw,o9⟩:=vF D bo;have zS:=XC qZ af gW o8 o9 hDl;have hu:dg ds (o+k)=dg cs (o+k):=hsame.out _ af;have hlk:lo ms k=val ms:=di (by rw [Hm.out];exact ahj _);have HV:=Lib.hid (show lo ds (o+k)+pw o*(val ms*x)=lo cs (o+k)+pw (o+k)*(carry+bo) by rw [<- hlk];exact hv.out);have hlo:Hid (lo ds o=lo cs o):=Lib.hid (Aj o fun j hj=>hsame.out j af);have Hu:=Lib.hid hu;clear o8 o9 hu hlk;rcases zS with ⟨hcb,wS⟩ | ⟨hcb,wS⟩
   ·have hend:=Lib.hid (XB (r:=F) (by rw [hdl.out];omega) HV.out Hu.out wS hcb hlo.out HU.out HX.out.1 HX.out.2.1)
    have hz:(F:Int)/9223372036854775808=0:=af;have hz2:(F:Int)%4294967296=(F:Int):=af;have hx3:(x:Int)%4294967296=(x:Int):=af;clear wS
    go_wp2_with fail
    go_ret
    refine ⟨ds.set (o+k) F,eF (by rw [<- hend.out.1]),hb1.oM (by rw [hdl.out];omega) rfl,by rw [ahv];exact hdl.out,iO hdw _ af,?_,hend.out.2,lY hg.out.1 _ _,by simp [hg.out.2]⟩;intro j hj;rw [iJ _ (by rw [hdl.out];omega),if_neg af];exact hsame.out j af
   ·have hz:(F:Int)/9223372036854775808=1:=af
    have HF:=Lib.hid wS;have hfm:(F:Int)%4294967296=((F%4294967296:Nat):Int):=af;have hfl:F%4294967296<=4294967295:=af;obtain ⟨f,hf⟩ : ∃ f,f=F%4294967296:=⟨_,rfl⟩;rw [<- hf] at hfm hfl;have Hf:=Lib.hid hf;clear wS hf;have hb2:=hb1.oM (i:=o+k) (z:=(f:Int)) (v:=f) (by rw [hdl.out];omega) rfl;have YT:=hb2.cell (i:=o+k) (by rw [ahv,hdl.out];omega);rw [iJ _ (by rw [hdl.out];omega),if_pos rfl] at YT;have hfr2:=hb2.frozen (o+k);have hw2:=iO hdw (o+k) (v:=f) af;have hg2:=lY hg.out.1 (o+k) (.int .u32 (f:Int));have hr2:=h'.grown hg2 hB' (fun hp=>vZ.out (by rw [Hm.out] at hp;exact hp));have hsz2:B'<=(wr.setCell ⟨g,o+k,none⟩ (.int .u32 (f:Int))).heap.size:=by simp [hg.out.2];exact hB'
    go_wp2_with fail
    go_region_with (go_at_call 256;refine (Vd g o 1 A' (ds.set (o+k) f) ms k _ _ B' _ hb2.drew hw2 hr2.drew hsz2 vZ.out Hm.out hl (by rw [ahv,hdl.out];omega) (by rw [ahv,hdl.out];omega) af).mono ?_;rintro e w2 ⟨r,es,rfl,hrl,hb3,hel,zS,Gn,OQ,hg3,hsz3⟩;have YW:=hb3.cell (i:=o+k) (by rw [hel,ahv,hdl.out];omega);rw [Gn (o+k) af,iJ _ (by rw [hdl.out];omega),if_pos rfl] at YW;have hfr3:=hb3.frozen (o+k);have Kt:=Lib.hid hel;have UW:=Lib.hid Gn;have UY:=Lib.hid OQ;have UQ:=Lib.hid hg3;have U5:=Lib.hid hsz3;clear hel Gn OQ hg3 hsz3)
    all_goals
     have hlen:o+k<es.length:=by rw [Kt.out,ahv,hdl.out];omega
     have hb4:=hb3.oM (i:=o+k) (z:=IntKind.u32.wrap ((f:Int)+(r:Int))) (v:=(f+r)%4294967296) hlen (by rw [IntKind.wrap_u32];omega);have hend:=XA (cs:=cs) (ds:=ds) (es:=es) (F:=F) (r:=r) hlen HV.out Hu.out qZ af gW HF.out hcb hlo.out HU.out HX.out.1 HX.out.2.2 hdw zS hrl (by have e:=UY.out;rwa [Pz _ _ (ahj _)] at e);rw [<- Hf.out] at hend;have HE:=Lib.hid hend.2;have hx4:=hend.1;obtain ⟨Q,hQ⟩ : ∃ Q,Q=U/val ms:=⟨_,rfl⟩;rw [<- hQ] at hx4 HE;have HQ:=Lib.hid hQ;have hx5:((x:Int)-1)%4294967296=(Q:Int):=af;clear hend hQ
     go_wp2_with fail
     go_ret
     rw [<- HQ.out];refine ⟨es.set (o+k) ((f+r)%4294967296),eF af,hb4,by rw [ahv,Kt.out,ahv];exact hdl.out,iO zS _ (aht _ af),?_,HE.out,lY (hg2.trans ((grown_drew _ _).trans UQ.out)) _ _,by simp [U5.out,hg.out.2]⟩;intro j hj;rw [iJ _ hlen,if_neg af,UW.out j af,iJ _ (by rw [hdl.out];omega),if_neg af];exact hsame.out j af
end Go.Proofs.AZQ
namespace Lw
open Go Go.RowKit
theorem rG{p:Nat}(hp:p<=32):2^(32-p)*2^p=4294967296:=by
 rw [<- ahV,show 32-p+p=32 by omega]
theorem IX{y p:Nat}(hy:y<4294967296)(hp:p<=32):y/2^(32-p)<2^p:=by
 rw [aim (ahM af),ahu,rG hp];exact hy
theorem aej{x y p:Nat}(_hx:x<4294967296)(hy:y<4294967296)(hp:p<=31) :
  bits .or .u64 (IntKind.u64.wrap ((x:Int)*2^p)) ((y:Int)/2^(32-p))=((x*2^p+y/2^(32-p):Nat):Int):=by
 have h1:2^p<=2147483648:=by
  have:2^p<=2^31:=aiz af hp;omega
 have h2:x*2^p<=4294967295*2147483648:=ahY af h1;have e1:(x:Int)*2^p=(x:Int)*((2^p:Nat):Int):=by simp
 have e2:(y:Int)/2^(32-p)=((y/2^(32-p):Nat):Int):=by simp
 have e3:(x:Int)*((2^p:Nat):Int)=((x*2^p:Nat):Int):=by simp
 rw [e1,e2,e3,IntWalk.u64_in _ af,<- e3];exact Hw (IX hy af) af af
theorem Xm{x y p:Nat}(hx:x<4294967296)(hy:y<4294967296)(hp:p<=31) :
  bits .or .u64 ((x:Int)/2^p) (IntKind.u64.wrap ((y:Int)*2^(32-p)))%4294967296=((x/2^p+y%2^p*2^(32-p):Nat):Int):=by
 have hR:2^(32-p)*2^p=4294967296:=rG af
 have hx2:x/2^p<2^(32-p):=by
  rw [aim (ahM af),hR];exact hx
 have hP:0<2^p:=ahM af
 have hRl:2^(32-p)<=4294967296:=by
  have:2^(32-p)<=2^32:=aiz af af;omega
 have h2:y*2^(32-p)<=4294967295*4294967296:=ahY af hRl;have e2:(x:Int)/2^p=((x/2^p:Nat):Int):=by simp
 have e3:(y:Int)*2^(32-p)=((y*2^(32-p):Nat):Int):=by simp
 rw [e2,e3,IntWalk.u64_in _ af,u64_or_nat _ _ af af,Nat.or_comm,AU hx2]
 have h3:(y*2^(32-p)+x/2^p)%4294967296=x/2^p+y%2^p*2^(32-p):=by
  have h4:=ain y (2^p);have h5:=aht y hP;generalize y/2^p=q at *;generalize y%2^p=r at *;generalize x/2^p=t at *;generalize 2^(32-p)=R at *;generalize 2^p=P at *;subst h4
  have h6:(P*q+r)*R+t=(t+r*R)+4294967296*q:=by
   rw [<- hR,ahw];have:P*q*R=R*P*q:=by ac_rfl
   omega
  have h7:(r+1)*R<=P*R:=ahp _ h5;rw [ahw,ah1,ahu P,hR] at h7;rw [h6,ai',aih af]
 omega
end Lw
namespace Go.Proofs.AZQ
open Go Go.RowKit Lw
set_option maxRecDepth 100000 in
set_option maxHeartbeats 1600000 in
theorem Sj(A:Option Addr)(ns:List Nat)(n c B s W p P R:Nat)(w:World)(h:Rd w B A ns)(hB:B<=w.heap.size)(hn:ns.length=n)(hl:n<=16777216)(hs:s<=536870912)(hW:W=s/32)(hp:p=s%32)(hP:P=2^p)(hR:R=2^(32-p)) :
  Calls Tryz.prog 277 #[.slice A n c,.int .i64 s] w fun e w' => ∃ cs,e = .returned (.slice (some ⟨w.heap.size,0,none⟩) (n+W+1:Nat) (n+W+1:Nat))/\bD w' w.heap.size 82 cs /\
   cs.length=n+W+1/\bF cs/\val cs=pw W*(val ns*P)/\Below w.heap.size w w':=by
 have Hn:=Lib.hid hn;clear hn;have e1:(s:Int)/32=(W:Int):=af;have e2:(s:Int)%32=(p:Int):=af;have hp2:p<=31:=af;have HP:=Lib.hid hP;have HR:=Lib.hid hR;clear hP hR hW hp
 go_enter Tryz.func277,Tryz.ntmps277
 go_wp2_with (at_make;refine qE _ rfl _ _ _ rfl 82 agv jI _ _ _ _ (n+W+1) rfl rfl af af af ?_;intro w1 hblk hbel hsz)
 go_loopw [22] (fun i wr => ∃ (k:Nat) (cs:List Nat),k<=n+1/\i = .int .i64 k/\bD wr w.heap.size 82 cs/\Hid (cs.length=n+W+1)/\bF cs /\
   Hid (lo cs (k+W)+pw (k+W)*(wd ns ((k:Int)-1)/R)=pw W*(lo ns k*P))/\Below w.heap.size w wr) (fun i _=>n+1-(intOf i).toNat)
 case atStart=>exact ⟨0,_,ahl _,rfl,hblk,Lib.hid (by simp),qB _,Lib.hid (by rw [TJ af,Aj (b:=[]) _ (fun j _=>by rw [EW];rfl),di (by simp),fM];simp [val]),hbel⟩
 case round =>
  obtain ⟨k,cs,hk,rfl,hb1,hcl,hcw,hv,hbw⟩:=hrel;clear hblk hbel hsz;have hr:=h.below (hbw.mono hB)
  by_cases hkn:k<n+1
  ·have hcc:=hb1.cell (i:=k+W) (by rw [hcl.out];omega)
   have hfr:=hb1.frozen (k+W);have hw1:=oO hr.bI (k:Int);have hw2:=oO hr.bI ((k:Int)-1)
   go_wp2_with fail
   have k1:IntKind.i64.wrap ((k:Int)-1)=(k:Int)-1:=IntWalk.i64_in _ af;have k2:IntKind.i64.wrap ((k:Int)+(W:Int))=((k+W:Nat):Int):=by rw [IntWalk.i64_in _ af];omega
   have k3:IntKind.i64.wrap (32-(p:Int))=((32-p:Nat):Int):=by rw [IntWalk.i64_in _ af];omega
   go_region_with (go_at_call 240;refine (oP _ ns _ _ _ _ _ hr.drew Hn.out af).mono ?_;rintro e w' ⟨rfl,rfl⟩)
   go_wp2_with fail
   have hkl:k+W<cs.length:=by rw [hcl.out];omega
   have hR0:0<R:=by rw [HR.out];exact ahM af
   have zM:R*P=4294967296:=by rw [HR.out,HP.out];exact rG af
   have Zr:wd ns ((k:Int)-1)/R<P:=by rw [HR.out,HP.out];exact IX hw2 af
   have hval:bits .or .u64 (IntKind.u64.wrap ((wd ns (k:Int):Int)*2^p)) ((wd ns ((k:Int)-1):Int)/2^(32-p))%4294967296=(((dg ns k*P+wd ns ((k:Int)-1)/R)%4294967296:Nat):Int):=by
    rw [aej hw1 hw2 hp2,jD,HR.out,HP.out];omega
   go_roundw
   case rel =>
    refine ⟨k+1,cs.set (k+W) ((dg ns k*P+wd ns ((k:Int)-1)/R)%4294967296),af,by go_num,hb1.oM hkl hval,Lib.hid (by rw [ahv];exact hcl.out),iO hcw _ (aht _ af),Lib.hid ?_,(hbw.setCell (ahj _) _).drew⟩;rw [show ((k+1:Nat):Int)-1=(k:Int) from af,jD,show k+1+W=k+W+1 by omega];exact aek hkl hv.out (ael zM hR0 Zr)
   case measure=>simp [intOf];omega
  ·obtain rfl:k=n+1:=af
   go_wp2_with fail
   go_ret
   refine ⟨cs,rfl,hb1,hcl.out,hcw,?_,hbw⟩;have e:=hv.out;rw [show ((n+1:Nat):Int)-1=(n:Int) from af,jD,nP (by rw [Hn.out];exact ahj _),Nat.zero_div,Nat.mul_zero,ahF,di (by rw [hcl.out];omega),di (l:=ns) (by rw [Hn.out];omega)] at e;exact e
theorem aa2(s:Nat):2^s=pw (s/32)*2^(s%32):=by
 unfold pw;rw [show (4294967296:Nat)=2^32 from rfl,<- aiC,<- ahV];grind
set_option maxRecDepth 100000 in
set_option maxHeartbeats 16000000 in
theorem adv(A:Option Addr)(ns:List Nat)(n c B s W p P R:Nat)(w:World)(h:Rd w B A ns)(hB:B<=w.heap.size)(hn:ns.length=n)(hl:n<=16777216)(hs:s<=536870912)(hW:W=s/32)(hp:p=s%32)(hP:P=2^p)(hR:R=2^(32-p)) :
  Calls Tryz.prog 280 #[.slice A n c,.int .i64 s] w (sO w (val ns/2^s)):=by
 have Hn:=Lib.hid hn;clear hn;have e1:(s:Int)/32=(W:Int):=af;have e2:(s:Int)%32=(p:Int):=af;have hp2:p<=31:=af;have HP:=Lib.hid hP;have HR:=Lib.hid hR;have HQ:Hid (2^s=pw W*P):=Lib.hid (by rw [hP,hp,hW];exact aa2 s);clear hP hR hW hp
 by_cases YF:n<=W
 ·have h0:Hid (val ns/2^s=0):=Lib.hid (by
   apply ah7;have h1:=dQ h.bI;have h2:pw ns.length<=pw W:=dY (by rw [Hn.out];exact YF);have h3:pw W*1<=pw W*P:=ahz _ (by rw [HP.out];exact ahM af);rw [HQ.out];omega)
  go_enter Tryz.func280,Tryz.ntmps280
  go_wp2_with fail
  go_ret
  rw [h0.out];exact ⟨none,0,rfl,ahj _,Rd.nil_ _ _ _,Below.refl _ _⟩
 ·obtain ⟨m,hm⟩ : ∃ m,m=n-W:=⟨_,rfl⟩
  have hm1:IntKind.i64.wrap ((n:Int)-(W:Int))=(m:Int):=by rw [IntWalk.i64_in _ af];omega
  have hm2:(n:Int)-(W:Int)=(m:Int):=af;have Gh:m+W<=n:=af;have hm4:n<=m+W:=af;have hm5:m<=16777216:=af;clear hm
  go_enter Tryz.func280,Tryz.ntmps280
  go_wp2_with (at_make;refine qE _ rfl _ _ _ rfl 82 agv jI _ _ _ _ m rfl rfl af af af ?_;intro w1 hblk hbel hsz)
  go_loopw [24] (fun i wr => ∃ (k:Nat) (cs:List Nat),k<=m/\i = .int .i64 k/\bD wr w.heap.size 82 cs/\Hid (cs.length=m)/\bF cs /\
    Hid (P*lo cs k+dg (ns.drop W) 0%P=lo (ns.drop W) k+pw k*(dg (ns.drop W) k%P))/\Below w.heap.size w wr) (fun i _=>m-(intOf i).toNat)
  case atStart=>exact ⟨0,_,ahl _,rfl,hblk,Lib.hid (by simp),qB _,Lib.hid (by simp [fM,lG]),hbel⟩
  case round =>
   obtain ⟨k,cs,hk,rfl,hb1,hcl,hcw,hv,hbw⟩:=hrel;clear hblk hbel hsz;have hr:=h.below (hbw.mono hB)
   by_cases hkn:k<m
   ·have hcc:=hb1.cell (i:=k) (by rw [hcl.out];omega)
    have hfr:=hb1.frozen k;have hw1:=oO hr.bI ((k:Int)+(W:Int));have hw2:=oO hr.bI ((k:Int)+(W:Int)+1)
    go_wp2_with fail
    have k2:IntKind.i64.wrap ((k:Int)+(W:Int))=(k:Int)+(W:Int):=IntWalk.i64_in _ af;have k4:IntKind.i64.wrap ((k:Int)+(W:Int)+1)=(k:Int)+(W:Int)+1:=IntWalk.i64_in _ af;have k3:IntKind.i64.wrap (32-(p:Int))=((32-p:Nat):Int):=by rw [IntWalk.i64_in _ af];omega
    go_region_with (go_at_call 240;refine (oP _ ns _ _ _ _ _ hr.drew Hn.out af).mono ?_;rintro e w' ⟨rfl,rfl⟩)
    go_wp2_with fail
    have hkl:k<cs.length:=by rw [hcl.out];omega
    have hP0:0<P:=by rw [HP.out];exact ahM af
    have zM:R*P=4294967296:=by rw [HR.out,HP.out];exact rG af
    have d1:wd ns ((k:Int)+(W:Int))=dg (ns.drop W) k:=by rw [wH,<- jD];congr 1;omega
    have d2:wd ns ((k:Int)+(W:Int)+1)=dg (ns.drop W) (k+1):=by rw [wH,<- jD];congr 1;omega
    have hval:bits .or .u64 ((wd ns ((k:Int)+(W:Int)):Int)/2^p) (IntKind.u64.wrap ((wd ns ((k:Int)+(W:Int)+1):Int)*2^(32-p)))%4294967296=((dg (ns.drop W) k/P+dg (ns.drop W) (k+1)%P*R:Nat):Int):=by
     rw [Xm hw1 hw2 hp2,d1,d2,HR.out,HP.out]
    have hlt:dg (ns.drop W) k/P+dg (ns.drop W) (k+1)%P*R<4294967296:=(Xl zM hP0 (by rw [<- d1];exact hw1)).2
    go_roundw
    case rel =>
     refine ⟨k+1,cs.set k (dg (ns.drop W) k/P+dg (ns.drop W) (k+1)%P*R),af,by go_num,hb1.oM hkl hval,Lib.hid (by rw [ahv];exact hcl.out),iO hcw _ hlt,Lib.hid ?_,(hbw.setCell (ahj _) _).drew⟩;exact Xo hkl zM hv.out rfl
    case measure=>simp [intOf];omega
   ·obtain rfl:k=m:=af
    have hP0:0<P:=by rw [HP.out];exact ahM af
    have hdl:(ns.drop W).length=k:=by rw [ahI,Hn.out];omega
    have HV:Hid (val cs=val ns/2^s):=Lib.hid (by
     rw [HQ.out,<- aiM,<- aeo h.bI];refine Xn (z:=dg (ns.drop W) 0%P) hP0 (by rw [hdl];exact hcl.out) (aht _ hP0) ?_;rw [hdl];exact hv.out)
    go_wp2_with (go_at_call 215;refine (rX _ cs _ _ _ _ (hb1.rd hcw) hcl.out (ahj _) af).mono ?_;rintro e w' ⟨rfl,rfl⟩)
    go_ret
    refine ⟨_,_,mW (by rw [HV.out]),?_,?_,hbw⟩
    ·have:=kU hcw
     rw [HV.out,hcl.out] at this;exact this
    ·have:=(hb1.rd hcw).bg
     rw [HV.out] at this;exact this
end Go.Proofs.AZQ
