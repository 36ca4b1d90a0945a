/- Part of a proof, said shortly. -/
import Derived.Deep.RegionWith
import Derived.Test.YtkcpphebkmnonaaGreatDoorAlz
import Derived.Test.YtkcpphebkmnonaaGreatDoorC5
import Derived.Test.YtkcpphebkmnonaaGreatDoorC1
import Derived.Test.YtkcpphebkmnonaaGreatDoorC2
import Derived.Test.YtkcpphebkmnonaaGreatDoorC3
namespace Go.Proofs.BGQ
open Go Go.RowKit Lw
set_option maxRecDepth 100000 in
set_option maxHeartbeats 1600000 in
theorem afP(A A':Option Addr)(us vs:List Nat)(k c c' B B':Nat)(w:World)(h:Rd w B A us)(h':Rd w B' A' vs)(hu:us.length=k+3)(hv:vs.length=k+2)(hl:k<=16777216)(hv1:2147483648<=dg vs (k+1))(hlt:val us<4294967296*val vs) :
  Calls Tryz.prog 214 #[.slice A (k+3:Nat) c,.slice A' (k+2:Nat) c'] w fun e w' => ∃ x q:Nat,e = .returned (.int .u64 x)/\w'=w.drewN q/\x<=4294967295/\val us/val vs<=x/\x<=val us/val vs+1:=by
 obtain ⟨b,off,rfl,hb,hc1,hl1⟩:=h.at_ (k:=k+2) (by rw [hu];omega);obtain ⟨b_,NC,he,_,hc2,hl2⟩:=h.at_ (k:=k+1) (by rw [hu];omega)
 injection he with he;injection he with e1 e2;subst e1 e2;obtain ⟨b_,NC,he,_,hc3,hl3⟩:=h.at_ (k:=k) (by rw [hu];omega)
 injection he with he;injection he with e1 e2;subst e1 e2;obtain ⟨b',off',rfl,hb',hd1,hm1⟩:=h'.at_ (k:=k+1) (by rw [hv];omega);obtain ⟨b_,NC,he,_,hd2,hm2⟩:=h'.at_ (k:=k) (by rw [hv];omega)
 injection he with he;injection he with e1 e2;subst e1 e2;have htl:=top_le hu hv h'.bP hlt;have Az:=ajo hu hv h.bP (show 0<dg vs (k+1) from af)
 have hvp:0<val vs:=by
  have:=J3 hv;have h5:1<=(dg vs (k+1)*4294967296+dg vs k)*pw k:=Nat.mul_pos af (lQ k);omega
 obtain ⟨u0,hu0⟩ : ∃ u,u=dg us (k+2):=⟨_,rfl⟩;obtain ⟨u1,hu1⟩ : ∃ u,u=dg us (k+1):=⟨_,rfl⟩;obtain ⟨u2,hu2⟩ : ∃ u,u=dg us k:=⟨_,rfl⟩;obtain ⟨v1,Nc⟩ : ∃ u,u=dg vs (k+1):=⟨_,rfl⟩;obtain ⟨v2,Nh⟩ : ∃ u,u=dg vs k:=⟨_,rfl⟩;rw [<- hu0] at hc1 hl1 htl Az;rw [<- hu1] at hc2 hl2 Az;rw [<- hu2] at hc3 hl3;rw [<- Nc] at hd1 hm1 htl Az hv1;rw [<- Nh] at hd2 hm2;obtain ⟨top,htop⟩ : ∃ t,t=u0*4294967296+u1:=⟨_,rfl⟩;rw [<- htop] at Az;have HG:=Lib.hid (Gs.start (V:=val vs) hv1 af htop af htl Az);have hor:bits .or .u64 ((u0:Int)*4294967296) (u1:Int)=((top:Nat):Int):=by rw [Bd hl1 hl2,htop];omega
 have Hu:=Lib.hid hu;have Hv:=Lib.hid hv;have C9:=Lib.hid htop;have Hd:=Lib.hid (And.intro hu0 (And.intro hu1 (And.intro hu2 (And.intro Nc Nh))));have KU:=Lib.hid hvp;have RQ:=Lib.hid htl;have Hqm:=Lib.hid (show val us/val vs<4294967296 by rw [au' hvp];exact hlt);have hs1:(k:Int)+2-1=((k+1:Nat):Int):=af;have hs2:(k:Int)+2-2=(k:Int):=af;clear hu hv htop hu0 hu1 hu2 Nc Nh Az hvp htl hlt
 go_enter Tryz.func214,Tryz.ntmps214
 go_wp2_with fail
 go_quiet (fail)
 go_wp2_with fail
 have hq0:IntKind.u64.wrap ((top:Int)/(v1:Int))=((top/v1:Nat):Int):=by
  rw [<- au0];exact IntWalk.u64_in _ (by have:=HG.out.le;generalize top/v1=Q at *;omega)
 go_loopw [7,8] (fun a b wr => ∃ x rest q:Nat,x<=4294967297/\rest<=8589934591/\a = .int .u64 x/\b = .int .u64 rest/\Hid (Gs (val us) (val vs) top v1 u1 x rest)/\wr=w.drewN q) (fun a _ _=>(intOf a).toNat)
 case atStart=>exact ⟨top/v1,top%v1,_,HG.out.le,HG.out.small,congrArg _ hq0,congrArg _ (avI top v1).symm,HG,rfl⟩
 case round =>
  obtain ⟨x,rest,q,hx,hr,rfl,rfl,hg,rfl⟩:=hrel;clear hq0
  by_cases h1:4294967295<rest
  ·have hxl:x<=4294967295:=by
    rcases auA 4294967295 x with h2 | h2
    ·have:=hg.out.far h2;omega
    ·exact h2
   have HO:=Lib.hid (hg.out.out rfl rfl Hu.out Hv.out h'.bP (by rw [C9.out,Hd.out.1,Hd.out.2.1]) Hd.out.2.2.2.1 hv1 KU.out hxl (.inl h1));have hb1:decide ((rest:Int)<=4294967295)=false:=decide_eq_false af
   go_wp2_with fail
   go_quiet (fail)
   go_wp2_with fail
   go_ret
   exact ⟨x,_,rfl,by rw [World.drewN_drewN],hxl,HO.out.1,HO.out.2⟩
  ·have hrl:rest<=4294967295:=af
   have hb1:((rest:Int)<=4294967295):=af;clear h1
   by_cases h2:4294967295<x
   ·have hQ:val us/val vs<x:=auD Hqm.out h2
    have HN:=Lib.hid (hg.out.next hv1 af C9.out af RQ.out hrl hQ);have hb2:(4294967295:Int)<(x:Int):=af;clear hQ
    go_wp2_with fail
    go_quiet (fail)
    go_wp2_with fail
    go_roundw
    case rel=>exact ⟨x-1,rest+v1,q+nq,af,af,congrArg _ af,congrArg _ af,HN,rfl⟩
    case measure=>simp [intOf];omega
   ·have hxl:x<=4294967295:=af
    obtain ⟨y,hy⟩ : ∃ y,y=x*v2:=⟨_,rfl⟩;obtain ⟨t,ht⟩ : ∃ t,t=rest*4294967296+u2:=⟨_,rfl⟩;have hmul:(x:Int)*(v2:Int)=(y:Int):=by rw [hy];simp
    have hyl:y<=18446744065119617025:=by rw [hy];exact au9 (show x<=4294967295 from af) (show v2<=4294967295 from af)
    have hor2:bits .or .u64 ((rest:Int)*4294967296) (u2:Int)=(t:Int):=by rw [Bd af hl3,ht];omega
    have hb2:decide ((4294967295:Int)<(x:Int))=false:=decide_eq_false af;have Hy:=Lib.hid hy;have Ht:=Lib.hid ht;clear h2 hy ht
    by_cases h3:t<y
    ·have hQ:val us/val vs<x:=hg.out.over rfl rfl Hu.out Hv.out h.bP (by rw [C9.out,Hd.out.1,Hd.out.2.1]) Hd.out.2.2.2.1 KU.out (by rw [<- Hd.out.2.2.1,<- Hd.out.2.2.2.2,<- Hy.out,<- Ht.out];exact h3)
     have hx0:0<x:=auM (auw _) hQ;have HN:=Lib.hid (hg.out.next hv1 af C9.out af RQ.out hrl hQ);clear hQ
     go_wp2_with fail
     go_quiet (fail)
     go_wp2_with fail
     go_roundw
     case rel=>exact ⟨x-1,rest+v1,q+nq,af,af,congrArg _ af,congrArg _ af,HN,rfl⟩
     case measure=>simp [intOf];omega
    ·have HO:=Lib.hid (hg.out.out rfl rfl Hu.out Hv.out h'.bP (by rw [C9.out,Hd.out.1,Hd.out.2.1]) Hd.out.2.2.2.1 hv1 KU.out hxl (.inr (by rw [<- Hd.out.2.2.1,<- Hd.out.2.2.2.2,<- Hy.out,<- Ht.out];omega)))
     go_wp2_with fail
     go_quiet (fail)
     go_wp2_with fail
     go_ret
     exact ⟨x,_,rfl,by rw [World.drewN_drewN],hxl,HO.out.1,HO.out.2⟩
theorem grown_drew(w:World)(s:Option Nat):w.grownBy w.drew s:=⟨rfl,rfl,rfl,aut _,fun _ _ _=>rfl⟩
set_option maxRecDepth 100000 in
set_option maxHeartbeats 3200000 in
theorem ak9(g o x m U:Nat)(A':Option Addr)(cs ms:List Nat)(c c' B':Nat)(w:World)(hb:bM w g 113 cs)(hcw:bK cs)(h':Rd w B' A' ms)(hB':B'<=w.heap.size)(hne:0<m -> ∀ a,A'=some a->a.block≠g)(hm:ms.length=m)(hl:m<=16777216)(hl':cs.length<=1099511627776)(ho:o+m+1<=cs.length)(hmc:m<=c)(hx:x<=4294967295)(hU:lo cs (o+m+1)=lo cs o+pw o*U)(hp:0<val ms)(hx1:U/val ms<=x)(hx2:x<=U/val ms+1) :
  Calls Tryz.prog 213 #[.slice (some ⟨g,o,none⟩) (m+1:Nat) c,.slice A' m c',.int .u64 x] w fun e w' => ∃ (ds:List Nat),e = .returned (.int .u32 ((U/val ms:Nat):Int))/\bM w' g 113 ds /\
   ds.length=cs.length/\bK ds/\(∀ j,j<o\/o+m+1<=j->dg ds j=dg cs j)/\lo ds (o+m+1)+pw o*(val ms*(U/val ms))=lo cs (o+m+1)/\w.grownBy w' (some g)/\w'.heap.size=w.heap.size:=by
 have Hm:=Lib.hid hm;have HU:=Lib.hid hU;have HX:=Lib.hid (And.intro hp (And.intro hx1 hx2));have yh:=Lib.hid hne;clear hm hU hp hx1 hx2 hne
 go_enter Tryz.func213,Tryz.ntmps213
 go_wp2_with fail
 go_loopw [7,8,15] (fun a b i wr => ∃ (k carry bo:Nat) (ds:List Nat),k<=m/\carry<=4294967295/\bo<=1/\i = .int .i64 k/\a = .int .u64 carry/\b = .int .u64 bo/\bM wr g 113 ds/\Hid (ds.length=cs.length)/\bK ds /\
   Hid (∀ j,j<o\/o+k<=j->dg ds j=dg cs j)/\Hid (lo ds (o+k)+pw o*(lo ms k*x)=lo cs (o+k)+pw (o+k)*(carry+bo))/\Hid (w.grownBy wr (some g)/\wr.heap.size=w.heap.size)) (fun _ _ i _=>m-(intOf i).toNat)
 case atStart=>exact ⟨0,0,0,cs,auw _,af,af,rfl,rfl,rfl,hb,Lib.hid rfl,hcw,Lib.hid (fun _ _=>rfl),Lib.hid (by simp [iW]),Lib.hid ⟨World.grownBy.refl w _,rfl⟩⟩
 case round =>
  obtain ⟨k,carry,bo,ds,hk,hcar,jT,rfl,rfl,rfl,hb1,hdl,hdw,hsame,hv,hg⟩:=hrel;clear hb
  by_cases hkm:k<m
  ·have hr:=h'.grown hg.out.1 hB' (fun hp=>yh.out af)
   obtain ⟨b,off,rfl,hbb,hcell,hlt⟩:=hr.at_ (k:=k) (by rw [Hm.out];omega);have hcc:=hb1.cell (i:=o+k) (by rw [hdl.out];omega);have yJ:=gI hdw (o+k);have hfr:=hb1.frozen (o+k);obtain ⟨Nj,Nk⟩:=EP (x:=x) af hlt;have hN:x*dg ms k<=18446744065119617025:=by have:=auT x (dg ms k);omega
   obtain ⟨S,hS⟩ : ∃ S,S=carry+x*dg ms k:=⟨_,rfl⟩;have hSl:S<=18446744073709551615:=af;have hsum:(carry:Int)+(x:Int)*(dg ms k:Int)=(S:Int):=by rw [hS,avp,auT]
   have hand:bits .and .u64 (S:Int) 4294967295=((S%4294967296:Nat):Int):=Lh af;obtain ⟨D,hD,hDl,pY⟩:=xQ (dg ds (o+k)) (S%4294967296);obtain ⟨F,hF,MC,qf⟩:=xQ D bo;have hsw:=Lib.hid (alc yJ jT pY qf hDl);have hs1:S/4294967296<=4294967295:=af;have hF2:F/9223372036854775808<=1:=hsw.out.2;have hT:((S/4294967296:Nat):Int)=(S:Int)/4294967296:=af;have HS:=Lib.hid hS;obtain ⟨M,hM⟩ : ∃ M,M=S%4294967296:=⟨_,rfl⟩;rw [<- hM] at hand hD;clear pY qf hS hM
   go_wp2_with fail
   go_roundw
   case rel =>
    refine ⟨k+1,S/4294967296,F/9223372036854775808,ds.set (o+k) (F%4294967296),af,hs1,hF2,by go_num,by go_num,by go_num,hb1.nD (by rw [hdl.out];omega) af,Lib.hid (by rw [auC];exact hdl.out),jB hdw _ (auz _ af),Lib.hid ?_,Lib.hid ?_,Lib.hid ⟨rQ hg.out.1 _ _,by simp [hg.out.2]⟩⟩
    ·intro j hj
     rw [lq _ (by rw [hdl.out];omega),if_neg af];exact hsame.out j af
    ·have e:=hsw.out.1
     rw [hsame.out (o+k) af] at e;exact ala (by rw [hdl.out];omega) hv.out HS.out e
   case measure=>simp [intOf];omega
  ·obtain rfl:k=m:=af
   have hcc:=hb1.cell (i:=o+k) (by rw [hdl.out];omega);have yJ:=gI hdw (o+k);have hfr:=hb1.frozen (o+k);obtain ⟨D,hD,hDl,pY⟩:=xQ (dg ds (o+k)) carry;obtain ⟨F,hF,MC,qf⟩:=xQ D bo;have Iy:=aeX yJ af jT pY qf hDl;have hu:dg ds (o+k)=dg cs (o+k):=hsame.out _ af;have hlk:lo ms k=val ms:=dB (by rw [Hm.out];exact aut _);have HV:=Lib.hid (show lo ds (o+k)+pw o*(val ms*x)=lo cs (o+k)+pw (o+k)*(carry+bo) by rw [<- hlk];exact hv.out);have hlo:Hid (lo ds o=lo cs o):=Lib.hid (EF o fun j hj=>hsame.out j af);have Hu:=Lib.hid hu;clear pY qf hu hlk;rcases Iy with ⟨hcb,Ec⟩ | ⟨hcb,Ec⟩
   ·have hend:=Lib.hid (aeW (r:=F) (by rw [hdl.out];omega) HV.out Hu.out Ec hcb hlo.out HU.out HX.out.1 HX.out.2.1)
    have hz:(F:Int)/9223372036854775808=0:=af;have hz2:(F:Int)%4294967296=(F:Int):=af;have hx3:(x:Int)%4294967296=(x:Int):=af;clear Ec
    go_wp2_with fail
    go_ret
    refine ⟨ds.set (o+k) F,dU (by rw [<- hend.out.1]),hb1.nD (by rw [hdl.out];omega) rfl,by rw [auC];exact hdl.out,jB hdw _ af,?_,hend.out.2,rQ hg.out.1 _ _,by simp [hg.out.2]⟩;intro j hj;rw [lq _ (by rw [hdl.out];omega),if_neg af];exact hsame.out j af
   ·have hz:(F:Int)/9223372036854775808=1:=af
    have HF:=Lib.hid Ec;have hfm:(F:Int)%4294967296=((F%4294967296:Nat):Int):=af;have hfl:F%4294967296<=4294967295:=af;obtain ⟨f,hf⟩ : ∃ f,f=F%4294967296:=⟨_,rfl⟩;rw [<- hf] at hfm hfl;have Hf:=Lib.hid hf;clear Ec hf;have hb2:=hb1.nD (i:=o+k) (z:=(f:Int)) (v:=f) (by rw [hdl.out];omega) rfl;have agh:=hb2.cell (i:=o+k) (by rw [auC,hdl.out];omega);rw [lq _ (by rw [hdl.out];omega),if_pos rfl] at agh;have hfr2:=hb2.frozen (o+k);have hw2:=jB hdw (o+k) (v:=f) af;have hg2:=rQ hg.out.1 (o+k) (.int .u32 (f:Int));have hr2:=h'.grown hg2 hB' (fun hp=>yh.out (by rw [Hm.out] at hp;exact hp));have hsz2:B'<=(wr.setCell ⟨g,o+k,none⟩ (.int .u32 (f:Int))).heap.size:=by simp [hg.out.2];exact hB'
    go_wp2_with fail
    go_region_with (go_at_call 154;refine (Sl g o 1 A' (ds.set (o+k) f) ms k _ _ B' _ hb2.drew hw2 hr2.drew hsz2 yh.out Hm.out hl (by rw [auC,hdl.out];omega) (by rw [auC,hdl.out];omega) af).mono ?_;rintro e w2 ⟨r,es,rfl,hrl,hb3,hel,Iy,Na,VJ,hg3,hsz3⟩;have agi:=hb3.cell (i:=o+k) (by rw [hel,auC,hdl.out];omega);rw [Na (o+k) af,lq _ (by rw [hdl.out];omega),if_pos rfl] at agi;have hfr3:=hb3.frozen (o+k);have RN:=Lib.hid hel;have Hs2:=Lib.hid Na;have Hv2:=Lib.hid VJ;have Hg3:=Lib.hid hg3;have Hz3:=Lib.hid hsz3;clear hel Na VJ hg3 hsz3)
    all_goals
     have hlen:o+k<es.length:=by rw [RN.out,auC,hdl.out];omega
     have hb4:=hb3.nD (i:=o+k) (z:=IntKind.u32.wrap ((f:Int)+(r:Int))) (v:=(f+r)%4294967296) hlen (by rw [IntKind.wrap_u32];omega);have hend:=aeV (cs:=cs) (ds:=ds) (es:=es) (F:=F) (r:=r) hlen HV.out Hu.out yJ af jT HF.out hcb hlo.out HU.out HX.out.1 HX.out.2.2 hdw Iy hrl (by have e:=Hv2.out;rwa [V9 _ _ (aut _)] at e);rw [<- Hf.out] at hend;have HE:=Lib.hid hend.2;have hx4:=hend.1;obtain ⟨Q,hQ⟩ : ∃ Q,Q=U/val ms:=⟨_,rfl⟩;rw [<- hQ] at hx4 HE;have HQ:=Lib.hid hQ;have hx5:((x:Int)-1)%4294967296=(Q:Int):=af;clear hend hQ
     go_wp2_with fail
     go_ret
     rw [<- HQ.out];refine ⟨es.set (o+k) ((f+r)%4294967296),dU af,hb4,by rw [auC,RN.out,auC];exact hdl.out,jB Iy _ (auz _ af),?_,HE.out,rQ (hg2.trans ((grown_drew _ _).trans Hg3.out)) _ _,by simp [Hz3.out,hg.out.2]⟩;intro j hj;rw [lq _ hlen,if_neg af,Hs2.out j af,lq _ (by rw [hdl.out];omega),if_neg af];exact hsame.out j af
end Go.Proofs.BGQ
namespace Lw
open Go Go.RowKit
theorem y9{p:Nat}(hp:p<=32):2^(32-p)*2^p=4294967296:=by
 rw [<- auS,show 32-p+p=32 by omega]
theorem OU{y p:Nat}(hy:y<4294967296)(hp:p<=32):y/2^(32-p)<2^p:=by
 rw [au' (auO af),auE,y9 hp];exact hy
theorem alV{x y p:Nat}(hx:x<4294967296)(hy:y<4294967296)(hp:p<=31) :
  bits .or .u64 (IntKind.u64.wrap ((x:Int)*2^p)) ((y:Int)/2^(32-p))=((x*2^p+y/2^(32-p):Nat):Int):=by
 have h1:2^p<=2147483648:=by
  have:2^p<=2^31:=avF af hp;omega
 have h2:x*2^p<=4294967295*2147483648:=au9 af h1;have e1:(x:Int)*2^p=(x:Int)*((2^p:Nat):Int):=by simp
 have e2:(y:Int)/2^(32-p)=((y/2^(32-p):Nat):Int):=by simp
 have e3:(x:Int)*((2^p:Nat):Int)=((x*2^p:Nat):Int):=by simp
 rw [e1,e2,e3,IntWalk.u64_in _ af,<- e3];exact ND (OU hy af) af af
theorem aeM{x y p:Nat}(hx:x<4294967296)(hy:y<4294967296)(hp:p<=31) :
  bits .or .u64 ((x:Int)/2^p) (IntKind.u64.wrap ((y:Int)*2^(32-p)))%4294967296=((x/2^p+y%2^p*2^(32-p):Nat):Int):=by
 have hR:2^(32-p)*2^p=4294967296:=y9 af
 have hx2:x/2^p<2^(32-p):=by
  rw [au' (auO af),hR];exact hx
 have hP:0<2^p:=auO af
 have hRl:2^(32-p)<=4294967296:=by
  have:2^(32-p)<=2^32:=avF af af;omega
 have h2:y*2^(32-p)<=4294967295*4294967296:=au9 af hRl;have e2:(x:Int)/2^p=((x/2^p:Nat):Int):=by simp
 have e3:(y:Int)*2^(32-p)=((y*2^(32-p):Nat):Int):=by simp
 rw [e2,e3,IntWalk.u64_in _ af,u64_or_nat _ _ af af,Nat.or_comm,I7 hx2]
 have h3:(y*2^(32-p)+x/2^p)%4294967296=x/2^p+y%2^p*2^(32-p):=by
  have h4:=avc y (2^p);have h5:=auz y hP;generalize y/2^p=q at *;generalize y%2^p=r at *;generalize x/2^p=t at *;generalize 2^(32-p)=R at *;generalize 2^p=P at *;subst h4
  have h6:(P*q+r)*R+t=(t+r*R)+4294967296*q:=by
   rw [<- hR,auI];have:P*q*R=R*P*q:=by ac_rfl
   omega
  have h7:(r+1)*R<=P*R:=auB _ h5;rw [auI,auQ,auE P,hR] at h7;rw [h6,avR,avw af]
 omega
end Lw
namespace Go.Proofs.BGQ
open Go Go.RowKit Lw
set_option maxRecDepth 100000 in
set_option maxHeartbeats 1600000 in
theorem Zy(A:Option Addr)(ns:List Nat)(n c B s W p P R:Nat)(w:World)(h:Rd w B A ns)(hB:B<=w.heap.size)(hn:ns.length=n)(hl:n<=16777216)(hs:s<=536870912)(hW:W=s/32)(hp:p=s%32)(hP:P=2^p)(hR:R=2^(32-p)) :
  Calls Tryz.prog 212 #[.slice A n c,.int .i64 s] w fun e w' => ∃ cs,e = .returned (.slice (some ⟨w.heap.size,0,none⟩) (n+W+1:Nat) (n+W+1:Nat))/\bM w' w.heap.size 113 cs /\
   cs.length=n+W+1/\bK cs/\val cs=pw W*(val ns*P)/\Below w.heap.size w w':=by
 have Hn:=Lib.hid hn;clear hn;have e1:(s:Int)/32=(W:Int):=af;have e2:(s:Int)%32=(p:Int):=af;have hp2:p<=31:=af;have HP:=Lib.hid hP;have HR:=Lib.hid hR;clear hP hR hW hp
 go_enter Tryz.func212,Tryz.ntmps212
 go_wp2_with (at_make;refine rF _ rfl _ _ _ rfl 113 ate l9 _ _ _ _ (n+W+1) rfl rfl af af af ?_;intro w1 hblk hbel hsz)
 go_loopw [22] (fun i wr => ∃ (k:Nat) (cs:List Nat),k<=n+1/\i = .int .i64 k/\bM wr w.heap.size 113 cs/\Hid (cs.length=n+W+1)/\bK cs /\
   Hid (lo cs (k+W)+pw (k+W)*(wd ns ((k:Int)-1)/R)=pw W*(lo ns k*P))/\Below w.heap.size w wr) (fun i _=>n+1-(intOf i).toNat)
 case atStart=>exact ⟨0,_,auw _,rfl,hblk,Lib.hid (by simp),rD _,Lib.hid (by rw [aaF af,EF (b:=[]) _ (fun j _=>by rw [DT];rfl),dB (by simp),iW];simp [val]),hbel⟩
 case round =>
  obtain ⟨k,cs,hk,rfl,hb1,hcl,hcw,hv,hbw⟩:=hrel;clear hblk hbel hsz;have hr:=h.below (hbw.mono hB)
  by_cases hkn:k<n+1
  ·have hcc:=hb1.cell (i:=k+W) (by rw [hcl.out];omega)
   have hfr:=hb1.frozen (k+W);have hw1:=rC hr.bP (k:Int);have hw2:=rC hr.bP ((k:Int)-1)
   go_wp2_with fail
   have k1:IntKind.i64.wrap ((k:Int)-1)=(k:Int)-1:=IntWalk.i64_in _ af;have k2:IntKind.i64.wrap ((k:Int)+(W:Int))=((k+W:Nat):Int):=by rw [IntWalk.i64_in _ af];omega
   have k3:IntKind.i64.wrap (32-(p:Int))=((32-p:Nat):Int):=by rw [IntWalk.i64_in _ af];omega
   go_region_with (go_at_call 176;refine (rE _ ns _ _ _ _ _ hr.drew Hn.out af).mono ?_;rintro e w' ⟨rfl,rfl⟩)
   go_wp2_with fail
   have hkl:k+W<cs.length:=by rw [hcl.out];omega
   have hR0:0<R:=by rw [HR.out];exact auO af
   have Ip:R*P=4294967296:=by rw [HR.out,HP.out];exact y9 af
   have htP:wd ns ((k:Int)-1)/R<P:=by rw [HR.out,HP.out];exact OU hw2 af
   have hval:bits .or .u64 (IntKind.u64.wrap ((wd ns (k:Int):Int)*2^p)) ((wd ns ((k:Int)-1):Int)/2^(32-p))%4294967296=(((dg ns k*P+wd ns ((k:Int)-1)/R)%4294967296:Nat):Int):=by
    rw [alV hw1 hw2 hp2,lV,HR.out,HP.out];omega
   go_roundw
   case rel =>
    refine ⟨k+1,cs.set (k+W) ((dg ns k*P+wd ns ((k:Int)-1)/R)%4294967296),af,by go_num,hb1.nD hkl hval,Lib.hid (by rw [auC];exact hcl.out),jB hcw _ (auz _ af),Lib.hid ?_,(hbw.setCell (aut _) _).drew⟩;rw [show ((k+1:Nat):Int)-1=(k:Int) from af,lV,show k+1+W=k+W+1 by omega];exact alX hkl hv.out (alY Ip hR0 htP)
   case measure=>simp [intOf];omega
  ·obtain rfl:k=n+1:=af
   go_wp2_with fail
   go_ret
   refine ⟨cs,rfl,hb1,hcl.out,hcw,?_,hbw⟩;have e:=hv.out;rw [show ((n+1:Nat):Int)-1=(n:Int) from af,lV,uh (by rw [Hn.out];exact aut _),Nat.zero_div,Nat.mul_zero,auV,dB (by rw [hcl.out];omega),dB (l:=ns) (by rw [Hn.out];omega)] at e;exact e
theorem ah'(s:Nat):2^s=pw (s/32)*2^(s%32):=by
 unfold pw;rw [show (4294967296:Nat)=2^32 from rfl,<- Nat.pow_mul,<- auS];grind
set_option maxRecDepth 100000 in
set_option maxHeartbeats 16000000 in
theorem akS(A:Option Addr)(ns:List Nat)(n c B s W p P R:Nat)(w:World)(h:Rd w B A ns)(hB:B<=w.heap.size)(hn:ns.length=n)(hl:n<=16777216)(hs:s<=536870912)(hW:W=s/32)(hp:p=s%32)(hP:P=2^p)(hR:R=2^(32-p)) :
  Calls Tryz.prog 215 #[.slice A n c,.int .i64 s] w (rM w (val ns/2^s)):=by
 have Hn:=Lib.hid hn;clear hn;have e1:(s:Int)/32=(W:Int):=af;have e2:(s:Int)%32=(p:Int):=af;have hp2:p<=31:=af;have HP:=Lib.hid hP;have HR:=Lib.hid hR;have HQ:Hid (2^s=pw W*P):=Lib.hid (by rw [hP,hp,hW];exact ah' s);clear hP hR hW hp
 by_cases hWn:n<=W
 ·have h0:Hid (val ns/2^s=0):=Lib.hid (by
   apply auZ;have h1:=eP h.bP;have h2:pw ns.length<=pw W:=fJ (by rw [Hn.out];exact hWn);have h3:pw W*1<=pw W*P:=auG _ (by rw [HP.out];exact auO af);rw [HQ.out];omega)
  go_enter Tryz.func215,Tryz.ntmps215
  go_wp2_with fail
  go_ret
  rw [h0.out];exact ⟨none,0,rfl,aut _,Rd.nil_ _ _ _,Below.refl _ _⟩
 ·obtain ⟨m,hm⟩ : ∃ m,m=n-W:=⟨_,rfl⟩
  have hm1:IntKind.i64.wrap ((n:Int)-(W:Int))=(m:Int):=by rw [IntWalk.i64_in _ af];omega
  have hm2:(n:Int)-(W:Int)=(m:Int):=af;have Vq:m+W<=n:=af;have hm4:n<=m+W:=af;have hm5:m<=16777216:=af;clear hm
  go_enter Tryz.func215,Tryz.ntmps215
  go_wp2_with (at_make;refine rF _ rfl _ _ _ rfl 113 ate l9 _ _ _ _ m rfl rfl af af af ?_;intro w1 hblk hbel hsz)
  go_loopw [24] (fun i wr => ∃ (k:Nat) (cs:List Nat),k<=m/\i = .int .i64 k/\bM wr w.heap.size 113 cs/\Hid (cs.length=m)/\bK cs /\
    Hid (P*lo cs k+dg (ns.drop W) 0%P=lo (ns.drop W) k+pw k*(dg (ns.drop W) k%P))/\Below w.heap.size w wr) (fun i _=>m-(intOf i).toNat)
  case atStart=>exact ⟨0,_,auw _,rfl,hblk,Lib.hid (by simp),rD _,Lib.hid (by simp [iW,sH]),hbel⟩
  case round =>
   obtain ⟨k,cs,hk,rfl,hb1,hcl,hcw,hv,hbw⟩:=hrel;clear hblk hbel hsz;have hr:=h.below (hbw.mono hB)
   by_cases hkn:k<m
   ·have hcc:=hb1.cell (i:=k) (by rw [hcl.out];omega)
    have hfr:=hb1.frozen k;have hw1:=rC hr.bP ((k:Int)+(W:Int));have hw2:=rC hr.bP ((k:Int)+(W:Int)+1)
    go_wp2_with fail
    have k2:IntKind.i64.wrap ((k:Int)+(W:Int))=(k:Int)+(W:Int):=IntWalk.i64_in _ af;have k4:IntKind.i64.wrap ((k:Int)+(W:Int)+1)=(k:Int)+(W:Int)+1:=IntWalk.i64_in _ af;have k3:IntKind.i64.wrap (32-(p:Int))=((32-p:Nat):Int):=by rw [IntWalk.i64_in _ af];omega
    go_region_with (go_at_call 176;refine (rE _ ns _ _ _ _ _ hr.drew Hn.out af).mono ?_;rintro e w' ⟨rfl,rfl⟩)
    go_wp2_with fail
    have hkl:k<cs.length:=by rw [hcl.out];omega
    have hP0:0<P:=by rw [HP.out];exact auO af
    have Ip:R*P=4294967296:=by rw [HR.out,HP.out];exact y9 af
    have d1:wd ns ((k:Int)+(W:Int))=dg (ns.drop W) k:=by rw [DR,<- lV];congr 1;omega
    have d2:wd ns ((k:Int)+(W:Int)+1)=dg (ns.drop W) (k+1):=by rw [DR,<- lV];congr 1;omega
    have hval:bits .or .u64 ((wd ns ((k:Int)+(W:Int)):Int)/2^p) (IntKind.u64.wrap ((wd ns ((k:Int)+(W:Int)+1):Int)*2^(32-p)))%4294967296=((dg (ns.drop W) k/P+dg (ns.drop W) (k+1)%P*R:Nat):Int):=by
     rw [aeM hw1 hw2 hp2,d1,d2,HR.out,HP.out]
    have hlt:dg (ns.drop W) k/P+dg (ns.drop W) (k+1)%P*R<4294967296:=(aeL Ip hP0 (by rw [<- d1];exact hw1)).2
    go_roundw
    case rel =>
     refine ⟨k+1,cs.set k (dg (ns.drop W) k/P+dg (ns.drop W) (k+1)%P*R),af,by go_num,hb1.nD hkl hval,Lib.hid (by rw [auC];exact hcl.out),jB hcw _ hlt,Lib.hid ?_,(hbw.setCell (aut _) _).drew⟩;exact aeO hkl Ip hv.out rfl
    case measure=>simp [intOf];omega
   ·obtain rfl:k=m:=af
    have hP0:0<P:=by rw [HP.out];exact auO af
    have hdl:(ns.drop W).length=k:=by rw [avl,Hn.out];omega
    have HV:Hid (val cs=val ns/2^s):=Lib.hid (by
     rw [HQ.out,<- avK,<- amc h.bP];refine aeN (z:=dg (ns.drop W) 0%P) hP0 (by rw [hdl];exact hcl.out) (auz _ hP0) ?_;rw [hdl];exact hv.out)
    go_wp2_with (go_at_call 155;refine (sW _ cs _ _ _ _ (hb1.rd hcw) hcl.out (aut _) af).mono ?_;rintro e w' ⟨rfl,rfl⟩)
    go_ret
    refine ⟨_,_,lT (by rw [HV.out]),?_,?_,hbw⟩
    ·have:=nR hcw
     rw [HV.out,hcl.out] at this;exact this
    ·have:=(hb1.rd hcw).bn
     rw [HV.out] at this;exact this
end Go.Proofs.BGQ
