/- Part of a proof, said shortly. -/
import Derived.Deep.RegionWith
import Derived.Test.YtbihljnjaondcaaGreatDoorAlt
import Derived.Test.YtbihljnjaondcaaGreatDoorT15
import Derived.Test.YtbihljnjaondcaaGreatDoorT1
import Derived.Test.YtbihljnjaondcaaGreatDoorT3
import Derived.Test.YtbihljnjaondcaaGreatDoorT2
import Derived.Test.YtbihljnjaondcaaGreatDoorT8
import Derived.Test.YtbihljnjaondcaaGreatDoorT6
import Derived.Test.YtbihljnjaondcaaGreatDoorT4
import Derived.Test.YtbihljnjaondcaaGreatDoorT5
import Derived.Test.YtbihljnjaondcaaGreatDoorT7
namespace Go.Proofs.YtbihljnjaondcaaGreatDoor
open Go Go.RowKit Lw
set_option maxRecDepth 100000 in
set_option maxHeartbeats 1600000 in
theorem bjv (A A':Option Addr) (us vs:List Nat) (k c c' B B':Nat) (w:World) (h:Rd w B A us) (h':Rd w B' A' vs) (hu:us.length=k+3) (hv:vs.length=k+2) (hl:k≤16777216)
  (hv1:2147483648≤dg vs (k+1)) (hlt:val us < 4294967296*val vs) :
  Calls Tryz.prog 254 #[.slice A (k+3:Nat) c,.slice A' (k+2:Nat) c'] w fun e w' => ∃ x q:Nat,e = .returned (.int .u64 x)∧w'=w.drewN q∧x≤4294967295∧val us / val vs≤x∧x≤val us / val vs+1:=by
 obtain ⟨b,off,rfl,hb,hc1,hl1⟩:=h.at_ (k:=k+2) (by rw [hu]; omega)
 obtain ⟨b_,bay,he,_,hc2,hl2⟩:=h.at_ (k:=k+1) (by rw [hu]; omega)
 injection he with he; injection he with e1 e2; subst e1 e2
 obtain ⟨b_,bay,he,_,hc3,hl3⟩:=h.at_ (k:=k) (by rw [hu]; omega)
 injection he with he; injection he with e1 e2; subst e1 e2
 obtain ⟨b',off',rfl,hb',hd1,hm1⟩:=h'.at_ (k:=k+1) (by rw [hv]; omega)
 obtain ⟨b_,bay,he,_,hd2,hm2⟩:=h'.at_ (k:=k) (by rw [hv]; omega)
 injection he with he; injection he with e1 e2; subst e1 e2
 have htl:=top_le hu hv h'.wds hlt
 have hqt:=bmu hu hv h.wds (show 0 < dg vs (k+1) by omega)
 have hvp:0 < val vs:=by
  have:=a8B hv
  have h5:1≤(dg vs (k+1)*4294967296+dg vs k)*pw k:=Nat.mul_pos (by omega) (anr k)
  omega
 obtain ⟨u0,hu0⟩ : ∃ u,u=dg us (k+2):=⟨_,rfl⟩
 obtain ⟨u1,hu1⟩ : ∃ u,u=dg us (k+1):=⟨_,rfl⟩
 obtain ⟨u2,hu2⟩ : ∃ u,u=dg us k:=⟨_,rfl⟩
 obtain ⟨v1,a97⟩ : ∃ u,u=dg vs (k+1):=⟨_,rfl⟩
 obtain ⟨v2,a98⟩ : ∃ u,u=dg vs k:=⟨_,rfl⟩
 rw [← hu0] at hc1 hl1 htl hqt
 rw [← hu1] at hc2 hl2 hqt
 rw [← hu2] at hc3 hl3
 rw [← a97] at hd1 hm1 htl hqt hv1
 rw [← a98] at hd2 hm2
 obtain ⟨top,htop⟩ : ∃ t,t=u0*4294967296+u1:=⟨_,rfl⟩
 rw [← htop] at hqt
 have HG:=Lib.hid (Gs.start (V:=val vs) hv1 (by omega) htop (by omega) htl hqt)
 have hor:bits .or .u64 ((u0:Int)*4294967296) (u1:Int)=((top:Nat):Int):=by rw [a3s hl1 hl2,htop]; omega
 have Hu:=Lib.hid hu
 have Hv:=Lib.hid hv
 have a5Q:=Lib.hid htop
 have Hd:=Lib.hid (And.intro hu0 (And.intro hu1 (And.intro hu2 (And.intro a97 a98))))
 have Hvp:=Lib.hid hvp
 have Htl:=Lib.hid htl
 have Hqm:=Lib.hid (show val us / val vs < 4294967296 by rw [Nat.div_lt_iff_lt_mul hvp]; exact hlt)
 have hs1:(k:Int)+2 - 1=((k+1:Nat):Int):=by omega
 have hs2:(k:Int)+2 - 2=(k:Int):=by omega
 clear hu hv htop hu0 hu1 hu2 a97 a98 hqt hvp htl hlt
 go_enter Tryz.func254,Tryz.ntmps254
 go_wp2_with fail
 go_quiet (fail)
 go_wp2_with fail
 have hq0:IntKind.u64.wrap ((top:Int) / (v1:Int))=((top / v1:Nat):Int):=by
  rw [← Int.natCast_ediv]
  exact IntWalk.u64_in _ (by have:=HG.out.le; generalize top / v1=Q at *; omega)
 go_loopw [7,8] (fun a b wr => ∃ x rest q:Nat,x≤4294967297∧rest≤8589934591∧a = .int .u64 x∧b = .int .u64 rest∧Hid (Gs (val us) (val vs) top v1 u1 x rest)∧wr=w.drewN q) (fun a _ _=>(intOf a).toNat)
 case atStart=>exact ⟨top / v1,top % v1,_,HG.out.le,HG.out.small,congrArg _ hq0,congrArg _ (Int.natCast_emod top v1).symm,HG,rfl⟩
 case round =>
  obtain ⟨x,rest,q,hx,hr,rfl,rfl,hg,rfl⟩:=hrel
  clear hq0
  by_cases h1:4294967295 < rest
  ·have hxl:x≤4294967295:=by
    rcases Nat.lt_or_ge 4294967295 x with h2 | h2
    ·have:=hg.out.far h2; omega
    ·exact h2
   have HO:=Lib.hid (hg.out.out rfl rfl Hu.out Hv.out h'.wds (by rw [a5Q.out,Hd.out.1,Hd.out.2.1]) Hd.out.2.2.2.1 hv1 Hvp.out hxl (.inl h1))
   have hb1:decide ((rest:Int)≤4294967295)=false:=decide_eq_false (by omega)
   go_wp2_with fail
   go_quiet (fail)
   go_wp2_with fail
   go_ret
   exact ⟨x,_,rfl,by rw [World.drewN_drewN],hxl,HO.out.1,HO.out.2⟩
  ·have hrl:rest≤4294967295:=by omega
   have hb1:((rest:Int)≤4294967295):=by omega
   clear h1
   by_cases h2:4294967295 < x
   ·have hQ:val us / val vs < x:=Nat.lt_of_lt_of_le Hqm.out h2
    have HN:=Lib.hid (hg.out.next hv1 (by omega) a5Q.out (by omega) Htl.out hrl hQ)
    have hb2:(4294967295:Int) < (x:Int):=by omega
    clear hQ
    go_wp2_with fail
    go_quiet (fail)
    go_wp2_with fail
    go_roundw
    case rel=>exact ⟨x - 1,rest+v1,q+nq,by omega,by omega,congrArg _ (by omega),congrArg _ (by omega),HN,rfl⟩
    case measure=>simp [intOf]; omega
   ·have hxl:x≤4294967295:=by omega
    obtain ⟨y,hy⟩ : ∃ y,y=x*v2:=⟨_,rfl⟩
    obtain ⟨t,ht⟩ : ∃ t,t=rest*4294967296+u2:=⟨_,rfl⟩
    have hmul:(x:Int)*(v2:Int)=(y:Int):=by rw [hy]; simp
    have hyl:y≤18446744065119617025:=by rw [hy]; exact Nat.mul_le_mul (show x≤4294967295 by omega) (show v2≤4294967295 by omega)
    have hor2:bits .or .u64 ((rest:Int)*4294967296) (u2:Int)=(t:Int):=by rw [a3s (by omega) hl3,ht]; omega
    have bp2:t≤18446744073709551615:=by omega
    have hb2:decide ((4294967295:Int) < (x:Int))=false:=decide_eq_false (by omega)
    have Hy:=Lib.hid hy
    have Ht:=Lib.hid ht
    clear h2 hy ht
    by_cases h3:t < y
    ·have hQ:val us / val vs < x:=hg.out.over rfl rfl Hu.out Hv.out h.wds (by rw [a5Q.out,Hd.out.1,Hd.out.2.1]) Hd.out.2.2.2.1 Hvp.out (by rw [← Hd.out.2.2.1,← Hd.out.2.2.2.2,← Hy.out,← Ht.out]; exact h3)
     have hx0:0 < x:=Nat.lt_of_le_of_lt (Nat.zero_le _) hQ
     have HN:=Lib.hid (hg.out.next hv1 (by omega) a5Q.out (by omega) Htl.out hrl hQ)
     clear hQ
     go_wp2_with fail
     go_quiet (fail)
     go_wp2_with fail
     go_roundw
     case rel=>exact ⟨x - 1,rest+v1,q+nq,by omega,by omega,congrArg _ (by omega),congrArg _ (by omega),HN,rfl⟩
     case measure=>simp [intOf]; omega
    ·have HO:=Lib.hid (hg.out.out rfl rfl Hu.out Hv.out h'.wds (by rw [a5Q.out,Hd.out.1,Hd.out.2.1]) Hd.out.2.2.2.1 hv1 Hvp.out hxl (.inr (by rw [← Hd.out.2.2.1,← Hd.out.2.2.2.2,← Hy.out,← Ht.out]; omega)))
     have hb3:decide ((t:Int) < (y:Int))=false:=decide_eq_false (by omega)
     go_wp2_with fail
     go_quiet (fail)
     go_wp2_with fail
     go_ret
     exact ⟨x,_,rfl,by rw [World.drewN_drewN],hxl,HO.out.1,HO.out.2⟩
end Go.Proofs.YtbihljnjaondcaaGreatDoor
namespace Go.Proofs.YtbihljnjaondcaaGreatDoor
open Go Go.RowKit Lw
theorem grown_drew (w:World) (s:Option Nat):w.grownBy w.drew s:=⟨rfl,rfl,rfl,Nat.le_refl _,fun _ _ _=>rfl⟩
set_option maxRecDepth 100000 in
set_option maxHeartbeats 3200000 in
theorem bn5 (g o x m U:Nat) (A':Option Addr) (cs ms:List Nat) (c c' B':Nat) (w:World) (hb:Blk w g 99 cs) (hcw:Wds cs) (h':Rd w B' A' ms) (hB':B'≤w.heap.size)
  (hne:0 < m → ∀ a,A'=some a→a.block≠g) (hm:ms.length=m) (hl:m≤16777216) (hl':cs.length≤1099511627776) (ho:o+m+1≤cs.length) (hmc:m≤c) (hx:x≤4294967295)
  (hU:lo cs (o+m+1)=lo cs o+pw o*U) (hp:0 < val ms) (hx1:U / val ms≤x) (hx2:x≤U / val ms+1) :
  Calls Tryz.prog 253 #[.slice (some ⟨g,o,none⟩) (m+1:Nat) c,.slice A' m c',.int .u64 x] w fun e w' => ∃ (ds:List Nat),e = .returned (.int .u32 ((U / val ms:Nat):Int))∧Blk w' g 99 ds ∧
   ds.length=cs.length∧Wds ds∧(∀ j,j < o∨o+m+1≤j→dg ds j=dg cs j)∧lo ds (o+m+1)+pw o*(val ms*(U / val ms))=lo cs (o+m+1)∧w.grownBy w' (some g)∧w'.heap.size=w.heap.size:=by
 have Hm:=Lib.hid hm
 have HU:=Lib.hid hU
 have HX:=Lib.hid (And.intro hp (And.intro hx1 hx2))
 have Hne:=Lib.hid hne
 clear hm hU hp hx1 hx2 hne
 go_enter Tryz.func253,Tryz.ntmps253
 go_wp2_with fail
 go_loopw [7,8,15] (fun a b i wr => ∃ (k carry bo:Nat) (ds:List Nat),k≤m∧carry≤4294967295∧bo≤1∧i = .int .i64 k∧a = .int .u64 carry∧b = .int .u64 bo∧Blk wr g 99 ds∧Hid (ds.length=cs.length)∧Wds ds ∧
   Hid (∀ j,j < o∨o+k≤j→dg ds j=dg cs j)∧Hid (lo ds (o+k)+pw o*(lo ms k*x)=lo cs (o+k)+pw (o+k)*(carry+bo))∧Hid (w.grownBy wr (some g)∧wr.heap.size=w.heap.size)) (fun _ _ i _=>m - (intOf i).toNat)
 case atStart=>exact ⟨0,0,0,cs,Nat.zero_le _,by omega,by omega,rfl,rfl,rfl,hb,Lib.hid rfl,hcw,Lib.hid (fun _ _=>rfl),Lib.hid (by simp [akf]),Lib.hid ⟨World.grownBy.refl w _,rfl⟩⟩
 case round =>
  obtain ⟨k,carry,bo,ds,hk,hcar,hbo,rfl,rfl,rfl,hb1,hdl,hdw,hsame,hv,hg⟩:=hrel
  clear hb
  by_cases hkm:k < m
  ·have hr:=h'.grown hg.out.1 hB' (fun hp=>Hne.out (by omega))
   obtain ⟨b,off,rfl,hbb,hcell,hlt⟩:=hr.at_ (k:=k) (by rw [Hm.out]; omega)
   have hcc:=hb1.cell (i:=o+k) (by rw [hdl.out]; omega)
   have a3f:=ahv hdw (o+k)
   have hfr:=hb1.frozen (o+k)
   obtain ⟨a99,a9'⟩:=a6E (x:=x) (by omega) hlt
   have hN:x*dg ms k≤18446744065119617025:=by have:=Int.natCast_mul x (dg ms k); omega
   obtain ⟨S,hS⟩ : ∃ S,S=carry+x*dg ms k:=⟨_,rfl⟩
   have hSl:S≤18446744073709551615:=by omega
   have hsum:(carry:Int)+(x:Int)*(dg ms k:Int)=(S:Int):=by rw [hS,Int.natCast_add,Int.natCast_mul]
   have hand:bits .and .u64 (S:Int) 4294967295=((S % 4294967296:Nat):Int):=a9m (by omega)
   obtain ⟨D,hD,hDl,hDv⟩:=a2F (dg ds (o+k)) (S % 4294967296)
   obtain ⟨F,hF,hFl,hFv⟩:=a2F D bo
   have hsw:=Lib.hid (bn9 a3f hbo hDv hFv hDl)
   have hs1:S / 4294967296≤4294967295:=by omega
   have hF2:F / 9223372036854775808≤1:=hsw.out.2
   have hT:((S / 4294967296:Nat):Int)=(S:Int) / 4294967296:=by omega
   have HS:=Lib.hid hS
   obtain ⟨M,hM⟩ : ∃ M,M=S % 4294967296:=⟨_,rfl⟩
   rw [← hM] at hand hD
   clear hDv hFv hS hM
   go_wp2_with fail
   go_roundw
   case rel =>
    refine ⟨k+1,S / 4294967296,F / 9223372036854775808,ds.set (o+k) (F % 4294967296),by omega,hs1,hF2,by go_num,by go_num,by go_num,hb1.awX (by rw [hdl.out]; omega) (by omega),Lib.hid (by rw [List.length_set]; exact hdl.out),alc hdw _ (Nat.mod_lt _ (by omega)),Lib.hid ?_,Lib.hid ?_,Lib.hid ⟨a1q hg.out.1 _ _,by simp [hg.out.2]⟩⟩
    ·intro j hj
     rw [am3 _ (by rw [hdl.out]; omega),if_neg (by omega)]
     exact hsame.out j (by omega)
    ·have e:=hsw.out.1
     rw [hsame.out (o+k) (by omega)] at e
     exact bn7 (by rw [hdl.out]; omega) hv.out HS.out e
   case measure=>simp [intOf]; omega
  ·obtain rfl:k=m:=by omega
   have hcc:=hb1.cell (i:=o+k) (by rw [hdl.out]; omega)
   have a3f:=ahv hdw (o+k)
   have hfr:=hb1.frozen (o+k)
   obtain ⟨D,hD,hDl,hDv⟩:=a2F (dg ds (o+k)) carry
   obtain ⟨F,hF,hFl,hFv⟩:=a2F D bo
   have hew:=biB a3f (by omega) hbo hDv hFv hDl
   have hu:dg ds (o+k)=dg cs (o+k):=hsame.out _ (by omega)
   have hlk:lo ms k=val ms:=acm (by rw [Hm.out]; exact Nat.le_refl _)
   have HV:=Lib.hid (show lo ds (o+k)+pw o*(val ms*x)=lo cs (o+k)+pw (o+k)*(carry+bo) by rw [← hlk]; exact hv.out)
   have hlo:Hid (lo ds o=lo cs o):=Lib.hid (a6C o fun j hj=>hsame.out j (by omega))
   have Hu:=Lib.hid hu
   clear hDv hFv hu hlk
   rcases hew with ⟨hcb,hFe⟩ | ⟨hcb,hFe⟩
   ·have hend:=Lib.hid (biA (r:=F) (by rw [hdl.out]; omega) HV.out Hu.out hFe hcb hlo.out HU.out HX.out.1 HX.out.2.1)
    have hz:(F:Int) / 9223372036854775808=0:=by omega
    have hz2:(F:Int) % 4294967296=(F:Int):=by omega
    have hx3:(x:Int) % 4294967296=(x:Int):=by omega
    clear hFe
    go_wp2_with fail
    go_ret
    refine ⟨ds.set (o+k) F,ahy (by rw [← hend.out.1]),hb1.awX (by rw [hdl.out]; omega) rfl,by rw [List.length_set]; exact hdl.out,alc hdw _ (by omega),?_,hend.out.2,a1q hg.out.1 _ _,by simp [hg.out.2]⟩
    intro j hj
    rw [am3 _ (by rw [hdl.out]; omega),if_neg (by omega)]
    exact hsame.out j (by omega)
   ·have hz:(F:Int) / 9223372036854775808=1:=by omega
    have HF:=Lib.hid hFe
    have hfm:(F:Int) % 4294967296=((F % 4294967296:Nat):Int):=by omega
    have hfl:F % 4294967296≤4294967295:=by omega
    obtain ⟨f,hf⟩ : ∃ f,f=F % 4294967296:=⟨_,rfl⟩
    rw [← hf] at hfm hfl
    have Hf:=Lib.hid hf
    clear hFe hf
    have hb2:=hb1.awX (i:=o+k) (z:=(f:Int)) (v:=f) (by rw [hdl.out]; omega) rfl
    have bjL:=hb2.cell (i:=o+k) (by rw [List.length_set,hdl.out]; omega)
    rw [am3 _ (by rw [hdl.out]; omega),if_pos rfl] at bjL
    have hfr2:=hb2.frozen (o+k)
    have hw2:=alc hdw (o+k) (v:=f) (by omega)
    have hg2:=a1q hg.out.1 (o+k) (.int .u32 (f:Int))
    have hr2:=h'.grown hg2 hB' (fun hp=>Hne.out (by rw [Hm.out] at hp; exact hp))
    have hsz2:B'≤(wr.setCell ⟨g,o+k,none⟩ (.int .u32 (f:Int))).heap.size:=by simp [hg.out.2]; exact hB'
    go_wp2_with fail
    go_region_with (go_at_call 212; refine (bbH g o 1 A' (ds.set (o+k) f) ms k _ _ B' _ hb2.drew hw2 hr2.drew hsz2 Hne.out Hm.out hl (by rw [List.length_set,hdl.out]; omega) (by rw [List.length_set,hdl.out]; omega) (by omega)).mono ?_; rintro e w2 ⟨r,es,rfl,hrl,hb3,hel,hew,a9Y,bdu,hg3,hsz3⟩; have bjM:=hb3.cell (i:=o+k) (by rw [hel,List.length_set,hdl.out]; omega); rw [a9Y (o+k) (by omega),am3 _ (by rw [hdl.out]; omega),if_pos rfl] at bjM; have hfr3:=hb3.frozen (o+k); have Hel:=Lib.hid hel; have Hs2:=Lib.hid a9Y; have Hv2:=Lib.hid bdu; have Hg3:=Lib.hid hg3; have Hz3:=Lib.hid hsz3; clear hel a9Y bdu hg3 hsz3)
    all_goals
     have hlen:o+k < es.length:=by rw [Hel.out,List.length_set,hdl.out]; omega
     have hb4:=hb3.awX (i:=o+k) (z:=IntKind.u32.wrap ((f:Int)+(r:Int))) (v:=(f+r) % 4294967296) hlen (by rw [IntKind.wrap_u32]; omega)
     have hend:=biz (cs:=cs) (ds:=ds) (es:=es) (F:=F) (r:=r) hlen HV.out Hu.out a3f (by omega) hbo HF.out hcb hlo.out HU.out HX.out.1 HX.out.2.2 hdw hew hrl (by have e:=Hv2.out; rwa [bdJ _ _ (Nat.le_refl _)] at e)
     rw [← Hf.out] at hend
     have HE:=Lib.hid hend.2
     have hx4:=hend.1
     obtain ⟨Q,hQ⟩ : ∃ Q,Q=U / val ms:=⟨_,rfl⟩
     rw [← hQ] at hx4 HE
     have HQ:=Lib.hid hQ
     have hx5:((x:Int) - 1) % 4294967296=(Q:Int):=by omega
     clear hend hQ
     go_wp2_with fail
     go_ret
     rw [← HQ.out]
     refine ⟨es.set (o+k) ((f+r) % 4294967296),ahy (by omega),hb4,by rw [List.length_set,Hel.out,List.length_set]; exact hdl.out,alc hew _ (Nat.mod_lt _ (by omega)),?_,HE.out,a1q (hg2.trans ((grown_drew _ _).trans Hg3.out)) _ _,by simp [Hz3.out,hg.out.2]⟩
     intro j hj
     rw [am3 _ hlen,if_neg (by omega),Hs2.out j (by omega),am3 _ (by rw [hdl.out]; omega),if_neg (by omega)]
     exact hsame.out j (by omega)
end Go.Proofs.YtbihljnjaondcaaGreatDoor
