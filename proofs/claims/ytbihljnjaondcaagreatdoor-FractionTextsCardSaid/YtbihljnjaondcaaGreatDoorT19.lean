/- Part of a proof, said shortly. -/
import Derived.Deep.RegionWith
import Derived.Deep.DeepCutAuto
import Derived.Test.YtbihljnjaondcaaGreatDoorAlt
import Derived.Test.YtbihljnjaondcaaGreatDoorT18
import Derived.Test.YtbihljnjaondcaaGreatDoorT16
import Derived.Test.YtbihljnjaondcaaGreatDoorT15
import Derived.Test.YtbihljnjaondcaaGreatDoorT1
import Derived.Test.YtbihljnjaondcaaGreatDoorT3
import Derived.Test.YtbihljnjaondcaaGreatDoorT2
import Derived.Test.YtbihljnjaondcaaGreatDoorT8
import Derived.Test.YtbihljnjaondcaaGreatDoorT6
import Derived.Test.YtbihljnjaondcaaGreatDoorT4
import Derived.Test.YtbihljnjaondcaaGreatDoorT5
import Derived.Test.YtbihljnjaondcaaGreatDoorT7
import Derived.Test.YtbihljnjaondcaaGreatDoorT17
import Derived.Test.YtbihljnjaondcaaGreatDoorT10
import Derived.Test.YtbihljnjaondcaaGreatDoorT13
import Derived.Test.YtbihljnjaondcaaGreatDoorT9
import Derived.Test.YtbihljnjaondcaaGreatDoorT11
import Derived.Test.YtbihljnjaondcaaGreatDoorT12
namespace Lw
theorem a7A (N M:Nat):Nat.gcd M (N % M)=Nat.gcd N M:=by rw [Nat.gcd_comm N M,Nat.gcd_rec M N,Nat.gcd_comm]
end Lw
namespace Go.Proofs.YtbihljnjaondcaaGreatDoor
open Go Go.RowKit Lw
set_option maxRecDepth 100000 in
set_option maxHeartbeats 6400000 in
theorem bih (A A':Option Addr) (N M n m c c' B B':Nat) (w:World) (h:Rd w B A (Uy N)) (h':Rd w B' A' (Uy M)) (hB:B≤w.heap.size) (hB':B'≤w.heap.size)
  (hn:(Uy N).length=n) (hm:(Uy M).length=m) (hl:n≤8388608) (hc:n≤c) (hc':m≤c') (hMN:M≤N) :
  Calls Tryz.prog 208 #[.slice A n c,.slice A' m c'] w (as8 w (Nat.gcd N M)):=by
 have vN:=aar N
 have vM:=aar M
 have hmn:m≤n:=by rw [← hn,← hm]; exact aty (by omega)
 have Hn:=Lib.hid hn
 have Hm:=Lib.hid hm
 have VN:=Lib.hid vN
 have VM:=Lib.hid vM
 have hcm:=a6c hMN
 have a6m:M≤N:=by omega
 have HMN:=Lib.hid a6m
 clear hn hm vN vM hMN a6m
 go_enter Tryz.func208,Tryz.ntmps208
 go_wp2_with fail
 refine (a0T A A' (Uy N) (Uy M) _ _ _ _ B B' _ h h' (aj7 _) (aj7 _) Hn.out Hm.out (by omega) (by omega)).mono ?_
 rintro e w1 ⟨rfl,q,rfl⟩
 rw [VN.out,VM.out]
 go_wp2_with fail
 obtain ⟨G,hG⟩ : ∃ G,G=Nat.gcd N M:=⟨_,rfl⟩
 have HG:=Lib.hid hG
 clear hG
 go_loopw [0,1] (fun a b wr => ∃ (X Y x y d d':Nat) (D D':Option Addr),a = .slice D x d∧b = .slice D' y d'∧Rd wr wr.heap.size D (Uy X)∧Rd wr wr.heap.size D' (Uy Y)∧Hid ((Uy X).length=x∧(Uy Y).length=y)∧x≤8388608∧y≤x∧x≤d∧y≤d'∧Hid (Y≤X)∧Hid (Nat.gcd X Y=G)∧Below w.heap.size w wr) (fun a b wr=>rdv wr a+rdv wr b)
 case atStart=>exact ⟨N,M,n,m,c,c',A,A',rfl,rfl,(h.drewN q).more (by simpa using hB),(h'.drewN q).more (by simpa using hB'),Lib.hid ⟨Hn.out,Hm.out⟩,hl,hmn,hc,hc',HMN,Lib.hid HG.out.symm,below_drewN' _ _ _⟩
 case round =>
  obtain ⟨X,Y,x,y,d,d',D,D',rfl,rfl,hr1,hr2,hxy,hx,hyx,hxd,hyd,hYX,hg,hbw⟩:=hrel
  have RX:=Lib.hid (awW (c:=d) hr1 hxy.out.1)
  have RY:=Lib.hid (awW (c:=d') hr2 hxy.out.2)
  by_cases h2:y≤2
  ·by_cases h0:y=0
   ·subst h0
    have HM:Hid (G=X):=Lib.hid (by rw [← hg.out,ak4.1 (List.eq_nil_of_length_eq_zero hxy.out.2),Nat.gcd_zero_right])
    go_wp2_with fail
    refine (clone_any D (Uy X) _ _ _ _ hr1 (Nat.le_refl _) hxy.out.1 (by omega)).mono ?_
    rintro e w2 ⟨A1,c1,rfl,hc1,hg1,hr3,hb1⟩
    go_wp2_with fail
    go_ret
    rw [← HG.out,HM.out]
    exact ⟨A1,c1,aor hxy.out.1.symm,by rw [hxy.out.1]; exact hc1,hr3,aaR hbw hb1 (Nat.le_refl _)⟩
   ·have hbq:((y:Int)==0)=false:=by rw [beq_eq_false_iff_ne]; omega
    have hM0:Y≠0:=by intro e; subst e; exact h0 (by rw [← hxy.out.2]; rfl)
    have HM0:=Lib.hid hM0
    clear h0 hM0
    go_wp2_with fail
    refine (a4q D D' X Y _ _ d d' _ _ _ hr1 hr2 (Nat.le_refl _) (Nat.le_refl _) hxy.out.1 hxy.out.2 (by omega) (by omega) hxd hyd HM0.out (.inr a4N)).mono ?_
    rintro e w2 ⟨A3,c3,A4,c4,rfl,hc3,hc4,hr3,hr4,hb3⟩
    have hb4:=aaR hbw hb3 (Nat.le_refl _)
    have hM2:Y≤18446744073709551615:=by have:=awx (n:=Y) (k:=2) (by rw [hxy.out.2]; exact h2); have h3:pw 2=18446744073709551616:=rfl; omega
    have hR2:X % Y < Y:=Nat.mod_lt _ (by have:=HM0.out; omega)
    have HGG:Hid (Nat.gcd Y (X % Y)=G):=Lib.hid (by rw [a7A,hg.out])
    have hlR:(Uy (X % Y)).length≤2:=aj9 (k:=2) (by have h3:pw 2=18446744073709551616:=rfl; omega)
    have a5C:Hid (lo (Uy Y) 2=Y):=Lib.hid (by rw [acm (by rw [hxy.out.2]; exact h2),aar])
    have a5D:Hid (lo (Uy (X % Y)) 2=X % Y):=Lib.hid (by rw [acm hlR,aar])
    obtain ⟨R,hR⟩ : ∃ R,R=X % Y:=⟨_,rfl⟩
    rw [← hR] at hr4 hc4 HGG hlR a5D hR2 ⊢
    clear hR
    obtain ⟨Q,hQ⟩ : ∃ Q,Q=X / Y:=⟨_,rfl⟩
    rw [← hQ] at hr3 hc3 ⊢
    clear hQ
    go_wp2_with fail
    refine (a3o D' (Uy Y) _ d' _ _ (hr2.below hb3) hxy.out.2 (by omega)).mono ?_
    rintro e w3 ⟨rfl,rfl⟩
    rw [a5C.out]
    go_wp2_with fail
    refine (a3o A4 (Uy R) _ c4 _ _ hr4 rfl (by omega)).mono ?_
    rintro e w3 ⟨rfl,rfl⟩
    rw [a5D.out]
    go_wp2_with fail
    refine (bfq Y R _ hM2 (by omega)).mono ?_
    rintro e w3 ⟨rfl,q3,rfl⟩
    rw [HGG.out]
    have hgl:G≤18446744073709551615:=by
     rw [← hg.out]
     exact Nat.le_trans (Nat.gcd_le_right _ (by have:=HM0.out; omega)) hM2
    go_wp2_with fail
    refine (a2C G _ hgl).mono ?_
    rintro e w5 ⟨A5,c5,rfl,hc5,hr5,hb5⟩
    go_wp2_with fail
    go_ret
    rw [← HG.out]
    exact ⟨A5,c5,rfl,hc5,hr5,aaR (hb4.trans (below_drewN' _ _ _)) hb5 (by simp)⟩
  ·obtain ⟨k,rfl⟩ : ∃ k,x=k+3:=⟨x - 3,by omega⟩
   have hY0:Hid (0 < Y):=Lib.hid (by
    rcases Nat.eq_zero_or_pos Y with e | e
    ·exfalso; have:=hxy.out.2; rw [e] at this; have e2:(Uy 0).length=0:=rfl; omega
    ·exact e)
   go_wp2_with fail
   refine (bcC D D' X Y k y d d' _ _ _ hr1 hr2 (Nat.le_refl _) (Nat.le_refl _) hxy.out.1 hxy.out.2 (by omega) hYX.out).mono ?_
   rintro e w2 ⟨u0,u1,v0,v1,o,rfl,hb2,hst⟩
   have HST:=Lib.hid hst
   clear hst
   by_cases hv:v0=0
   ·subst hv
    replace hb2:=hb2.alloc hb2.size (.cells #[.int .u64 (u0:Int),.int .u64 (u1:Int),.int .u64 0,.int .u64 (v1:Int),.bool o] 170)
    have hr1':=hr1.below hb2
    have hr2':=hr2.below hb2
    go_wp2_with fail
    refine (a4q D D' X Y _ _ d d' _ _ _ hr1' hr2' hb2.size hb2.size hxy.out.1 hxy.out.2 (by omega) (by omega) hxd hyd (by have:=hY0.out; omega) (.inr a4N)).mono ?_
    rintro e w3 ⟨A3,c3,A4,c4,rfl,hc3,hc4,hr3,hr4,hb3⟩
    go_wp2_with fail
    have hb5:=aaR hbw (hb2.trans (hb3.mono hb2.size)) (Nat.le_refl _)
    go_roundw
    case rel =>
     exact ⟨Y,X % Y,y,_,d',c4,D',A4,rfl,rfl,(hr2'.below (hb3.mono hb2.size)).more (Nat.le_trans hb2.size hb3.size),hr4,Lib.hid ⟨hxy.out.2,rfl⟩,by omega,by rw [← hxy.out.2]; exact aty (Nat.le_of_lt (Nat.mod_lt _ hY0.out)),hyd,hc4,Lib.hid (Nat.le_of_lt (Nat.mod_lt _ hY0.out)),Lib.hid (by rw [a7A,hg.out]),hb5⟩
    case measure =>
     show rdv _ _+rdv _ _ < rdv _ _+rdv _ _
     rw [RX.out,RY.out,awW hr4 rfl,awW (hr2'.below (hb3.mono hb2.size)) hxy.out.2,aar,aar,aar]
     have h1:=Nat.mod_lt X hY0.out
     have h2:=hYX.out
     omega
   ·have hv1:((v0:Int)==0)=false:=by rw [beq_eq_false_iff_ne]; omega
    replace hb2:=hb2.alloc hb2.size (.cells #[.int .u64 (u0:Int),.int .u64 (u1:Int),.int .u64 (v0:Int),.int .u64 (v1:Int),.bool o] 170)
    have hr1':=hr1.below hb2
    have hr2':=hr2.below hb2
    go_wp2_with fail
    refine (bbL D D' X Y (k+3) y d d' _ _ u0 u1 v0 v1 o _ hr1' hr2' hb2.size hb2.size hxy.out.1 hxy.out.2 (by omega) hyx hv HST.out).mono ?_
    rintro e w3 ⟨r1,r2,⟨A3,c3,A4,c4,rfl,hc3,hc4,hr3,hr4,hb3⟩,hle,hgg,hrX,hsum⟩
    have HH:=Lib.hid (And.intro hle (And.intro hgg (And.intro hrX hsum)))
    clear hle hgg hrX hsum
    go_wp2_with fail
    have hb5:=aaR hbw (hb2.trans (hb3.mono hb2.size)) (Nat.le_refl _)
    go_roundw
    case rel =>
     exact ⟨r1,r2,_,_,c3,c4,A3,A4,rfl,rfl,hr3,hr4,Lib.hid ⟨rfl,rfl⟩,Nat.le_trans (aty HH.out.2.2.1) (by rw [hxy.out.1]; exact hx),aty HH.out.1,hc3,hc4,Lib.hid HH.out.1,Lib.hid (by rw [HH.out.2.1,hg.out]),hb5⟩
    case measure =>
     show rdv _ _+rdv _ _ < rdv _ _+rdv _ _
     rw [RX.out,RY.out,awW hr3 rfl,awW hr4 rfl,aar,aar,aar,aar]
     have h1:=HH.out.2.2.2
     have h2:=hY0.out
     omega
end Go.Proofs.YtbihljnjaondcaaGreatDoor
namespace Go.Proofs.YtbihljnjaondcaaGreatDoor
open Go Go.RowKit Lw
set_option maxRecDepth 100000 in
set_option maxHeartbeats 6400000 in
theorem bii (A A':Option Addr) (N M n m c c' B B':Nat) (w:World) (h:Rd w B A (Uy N)) (h':Rd w B' A' (Uy M)) (hB:B≤w.heap.size) (hB':B'≤w.heap.size)
  (hn:(Uy N).length=n) (hm:(Uy M).length=m) (hl:n≤8388608) (hc:n≤c) (hc':m≤c') (hMN:M < N) :
  Calls Tryz.prog 208 #[.slice A' m c',.slice A n c] w (as8 w (Nat.gcd N M)):=by
 have vN:=aar N
 have vM:=aar M
 have hmn:m≤n:=by rw [← hn,← hm]; exact aty (by omega)
 have Hn:=Lib.hid hn
 have Hm:=Lib.hid hm
 have VN:=Lib.hid vN
 have VM:=Lib.hid vM
 have hcm:=a6b hMN
 have a6m:M≤N:=by omega
 have HMN:=Lib.hid a6m
 clear hn hm vN vM hMN a6m
 go_enter Tryz.func208,Tryz.ntmps208
 go_wp2_with fail
 refine (a0T A' A (Uy M) (Uy N) _ _ _ _ B' B _ h' h (aj7 _) (aj7 _) Hm.out Hn.out (by omega) (by omega)).mono ?_
 rintro e w1 ⟨rfl,q,rfl⟩
 rw [VM.out,VN.out]
 go_wp2_with fail
 obtain ⟨G,hG⟩ : ∃ G,G=Nat.gcd N M:=⟨_,rfl⟩
 have HG:=Lib.hid hG
 clear hG
 go_loopw [0,1] (fun a b wr => ∃ (X Y x y d d':Nat) (D D':Option Addr),a = .slice D x d∧b = .slice D' y d'∧Rd wr wr.heap.size D (Uy X)∧Rd wr wr.heap.size D' (Uy Y)∧Hid ((Uy X).length=x∧(Uy Y).length=y)∧x≤8388608∧y≤x∧x≤d∧y≤d'∧Hid (Y≤X)∧Hid (Nat.gcd X Y=G)∧Below w.heap.size w wr) (fun a b wr=>rdv wr a+rdv wr b)
 case atStart=>exact ⟨N,M,n,m,c,c',A,A',rfl,rfl,(h.drewN q).more (by simpa using hB),(h'.drewN q).more (by simpa using hB'),Lib.hid ⟨Hn.out,Hm.out⟩,hl,hmn,hc,hc',HMN,Lib.hid HG.out.symm,below_drewN' _ _ _⟩
 case round =>
  obtain ⟨X,Y,x,y,d,d',D,D',rfl,rfl,hr1,hr2,hxy,hx,hyx,hxd,hyd,hYX,hg,hbw⟩:=hrel
  have RX:=Lib.hid (awW (c:=d) hr1 hxy.out.1)
  have RY:=Lib.hid (awW (c:=d') hr2 hxy.out.2)
  by_cases h2:y≤2
  ·by_cases h0:y=0
   ·subst h0
    have HM:Hid (G=X):=Lib.hid (by rw [← hg.out,ak4.1 (List.eq_nil_of_length_eq_zero hxy.out.2),Nat.gcd_zero_right])
    go_wp2_with fail
    refine (clone_any D (Uy X) _ _ _ _ hr1 (Nat.le_refl _) hxy.out.1 (by omega)).mono ?_
    rintro e w2 ⟨A1,c1,rfl,hc1,hg1,hr3,hb1⟩
    go_wp2_with fail
    go_ret
    rw [← HG.out,HM.out]
    exact ⟨A1,c1,aor hxy.out.1.symm,by rw [hxy.out.1]; exact hc1,hr3,aaR hbw hb1 (Nat.le_refl _)⟩
   ·have hbq:((y:Int)==0)=false:=by rw [beq_eq_false_iff_ne]; omega
    have hM0:Y≠0:=by intro e; subst e; exact h0 (by rw [← hxy.out.2]; rfl)
    have HM0:=Lib.hid hM0
    clear h0 hM0
    go_wp2_with fail
    refine (a4q D D' X Y _ _ d d' _ _ _ hr1 hr2 (Nat.le_refl _) (Nat.le_refl _) hxy.out.1 hxy.out.2 (by omega) (by omega) hxd hyd HM0.out (.inr a4N)).mono ?_
    rintro e w2 ⟨A3,c3,A4,c4,rfl,hc3,hc4,hr3,hr4,hb3⟩
    have hb4:=aaR hbw hb3 (Nat.le_refl _)
    have hM2:Y≤18446744073709551615:=by have:=awx (n:=Y) (k:=2) (by rw [hxy.out.2]; exact h2); have h3:pw 2=18446744073709551616:=rfl; omega
    have hR2:X % Y < Y:=Nat.mod_lt _ (by have:=HM0.out; omega)
    have HGG:Hid (Nat.gcd Y (X % Y)=G):=Lib.hid (by rw [a7A,hg.out])
    have hlR:(Uy (X % Y)).length≤2:=aj9 (k:=2) (by have h3:pw 2=18446744073709551616:=rfl; omega)
    have a5C:Hid (lo (Uy Y) 2=Y):=Lib.hid (by rw [acm (by rw [hxy.out.2]; exact h2),aar])
    have a5D:Hid (lo (Uy (X % Y)) 2=X % Y):=Lib.hid (by rw [acm hlR,aar])
    obtain ⟨R,hR⟩ : ∃ R,R=X % Y:=⟨_,rfl⟩
    rw [← hR] at hr4 hc4 HGG hlR a5D hR2 ⊢
    clear hR
    obtain ⟨Q,hQ⟩ : ∃ Q,Q=X / Y:=⟨_,rfl⟩
    rw [← hQ] at hr3 hc3 ⊢
    clear hQ
    go_wp2_with fail
    refine (a3o D' (Uy Y) _ d' _ _ (hr2.below hb3) hxy.out.2 (by omega)).mono ?_
    rintro e w3 ⟨rfl,rfl⟩
    rw [a5C.out]
    go_wp2_with fail
    refine (a3o A4 (Uy R) _ c4 _ _ hr4 rfl (by omega)).mono ?_
    rintro e w3 ⟨rfl,rfl⟩
    rw [a5D.out]
    go_wp2_with fail
    refine (bfq Y R _ hM2 (by omega)).mono ?_
    rintro e w3 ⟨rfl,q3,rfl⟩
    rw [HGG.out]
    have hgl:G≤18446744073709551615:=by
     rw [← hg.out]
     exact Nat.le_trans (Nat.gcd_le_right _ (by have:=HM0.out; omega)) hM2
    go_wp2_with fail
    refine (a2C G _ hgl).mono ?_
    rintro e w5 ⟨A5,c5,rfl,hc5,hr5,hb5⟩
    go_wp2_with fail
    go_ret
    rw [← HG.out]
    exact ⟨A5,c5,rfl,hc5,hr5,aaR (hb4.trans (below_drewN' _ _ _)) hb5 (by simp)⟩
  ·obtain ⟨k,rfl⟩ : ∃ k,x=k+3:=⟨x - 3,by omega⟩
   have hY0:Hid (0 < Y):=Lib.hid (by
    rcases Nat.eq_zero_or_pos Y with e | e
    ·exfalso; have:=hxy.out.2; rw [e] at this; have e2:(Uy 0).length=0:=rfl; omega
    ·exact e)
   go_wp2_with fail
   refine (bcC D D' X Y k y d d' _ _ _ hr1 hr2 (Nat.le_refl _) (Nat.le_refl _) hxy.out.1 hxy.out.2 (by omega) hYX.out).mono ?_
   rintro e w2 ⟨u0,u1,v0,v1,o,rfl,hb2,hst⟩
   have HST:=Lib.hid hst
   clear hst
   by_cases hv:v0=0
   ·subst hv
    replace hb2:=hb2.alloc hb2.size (.cells #[.int .u64 (u0:Int),.int .u64 (u1:Int),.int .u64 0,.int .u64 (v1:Int),.bool o] 170)
    have hr1':=hr1.below hb2
    have hr2':=hr2.below hb2
    go_wp2_with fail
    refine (a4q D D' X Y _ _ d d' _ _ _ hr1' hr2' hb2.size hb2.size hxy.out.1 hxy.out.2 (by omega) (by omega) hxd hyd (by have:=hY0.out; omega) (.inr a4N)).mono ?_
    rintro e w3 ⟨A3,c3,A4,c4,rfl,hc3,hc4,hr3,hr4,hb3⟩
    go_wp2_with fail
    have hb5:=aaR hbw (hb2.trans (hb3.mono hb2.size)) (Nat.le_refl _)
    go_roundw
    case rel =>
     exact ⟨Y,X % Y,y,_,d',c4,D',A4,rfl,rfl,(hr2'.below (hb3.mono hb2.size)).more (Nat.le_trans hb2.size hb3.size),hr4,Lib.hid ⟨hxy.out.2,rfl⟩,by omega,by rw [← hxy.out.2]; exact aty (Nat.le_of_lt (Nat.mod_lt _ hY0.out)),hyd,hc4,Lib.hid (Nat.le_of_lt (Nat.mod_lt _ hY0.out)),Lib.hid (by rw [a7A,hg.out]),hb5⟩
    case measure =>
     show rdv _ _+rdv _ _ < rdv _ _+rdv _ _
     rw [RX.out,RY.out,awW hr4 rfl,awW (hr2'.below (hb3.mono hb2.size)) hxy.out.2,aar,aar,aar]
     have h1:=Nat.mod_lt X hY0.out
     have h2:=hYX.out
     omega
   ·have hv1:((v0:Int)==0)=false:=by rw [beq_eq_false_iff_ne]; omega
    replace hb2:=hb2.alloc hb2.size (.cells #[.int .u64 (u0:Int),.int .u64 (u1:Int),.int .u64 (v0:Int),.int .u64 (v1:Int),.bool o] 170)
    have hr1':=hr1.below hb2
    have hr2':=hr2.below hb2
    go_wp2_with fail
    refine (bbL D D' X Y (k+3) y d d' _ _ u0 u1 v0 v1 o _ hr1' hr2' hb2.size hb2.size hxy.out.1 hxy.out.2 (by omega) hyx hv HST.out).mono ?_
    rintro e w3 ⟨r1,r2,⟨A3,c3,A4,c4,rfl,hc3,hc4,hr3,hr4,hb3⟩,hle,hgg,hrX,hsum⟩
    have HH:=Lib.hid (And.intro hle (And.intro hgg (And.intro hrX hsum)))
    clear hle hgg hrX hsum
    go_wp2_with fail
    have hb5:=aaR hbw (hb2.trans (hb3.mono hb2.size)) (Nat.le_refl _)
    go_roundw
    case rel =>
     exact ⟨r1,r2,_,_,c3,c4,A3,A4,rfl,rfl,hr3,hr4,Lib.hid ⟨rfl,rfl⟩,Nat.le_trans (aty HH.out.2.2.1) (by rw [hxy.out.1]; exact hx),aty HH.out.1,hc3,hc4,Lib.hid HH.out.1,Lib.hid (by rw [HH.out.2.1,hg.out]),hb5⟩
    case measure =>
     show rdv _ _+rdv _ _ < rdv _ _+rdv _ _
     rw [RX.out,RY.out,awW hr3 rfl,awW hr4 rfl,aar,aar,aar,aar]
     have h1:=HH.out.2.2.2
     have h2:=hY0.out
     omega
end Go.Proofs.YtbihljnjaondcaaGreatDoor
namespace Go.Proofs.YtbihljnjaondcaaGreatDoor
open Go Go.RowKit Lw
attribute [local go_sem ↓] Go.wp_at_zero Go.wp_at_succ
theorem bie (A A':Option Addr) (N M n m c c' B B':Nat) (w:World) (h:Rd w B A (Uy N)) (h':Rd w B' A' (Uy M)) (hB:B≤w.heap.size) (hB':B'≤w.heap.size)
  (hn:(Uy N).length=n) (hm:(Uy M).length=m) (hl:n≤8388608) (hl':m≤8388608) (hc:n≤c) (hc':m≤c') :
  Calls Tryz.prog 208 #[.slice A n c,.slice A' m c'] w (as8 w (Nat.gcd N M)):=by
 rcases Nat.lt_or_ge N M with h1 | h1
 ·rw [Nat.gcd_comm]
  exact bii A' A M N m n c' c B' B w h' h hB' hB hm hn hl' hc' hc h1
 ·exact bih A A' N M n m c c' B B' w h h' hB hB' hn hm hl hc hc' h1
set_option maxHeartbeats 3200000 in
theorem bcQ (s s':Bool) (A A':Option Addr) (ns ms:List Nat) (n m c c' B B':Nat) (w:World) (h:Rd w B A ns) (h':Rd w B' A' ms) (hB:B≤w.heap.size) (hB':B'≤w.heap.size)
  (hn:ns.length=n) (hm:ms.length=m) (hl:n≤8388608) (hl':m≤8388608) (hc:n≤c) (hc':m≤c') :
  Calls Tryz.prog 154 #[.agg #[.bool s,.slice A n c],.agg #[.bool s',.slice A' m c']] w (atE w ((Nat.gcd (zv s ns).natAbs (zv s' ms).natAbs:Nat):Int)):=by
 have hlz:=ate (s:=s) h.wds
 have hlz':=ate (s:=s') h'.wds
 rw [hn] at hlz
 rw [hm] at hlz'
 go_enter Tryz.func154,Tryz.ntmps154
 go_upto_region 1 with fail
 obtain ⟨T1,T2,T3,_,hb0⟩:=ae' (Below.refl _ (((w.alloc (.cells #[.bool s,.slice A n c] 39)).alloc (.cells #[.bool s',.slice A' m c'] 39)).alloc (.cells #[.bool false,.slice none 0 0] 39)))
 have R1:=h.below (hb0.mono hB)
 have R2:=h'.below (hb0.mono hB')
 generalize hW:(((w.alloc (.cells #[.bool s,.slice A n c] 39)).alloc (.cells #[.bool s',.slice A' m c'] 39)).alloc (.cells #[.bool false,.slice none 0 0] 39))=W at *
 clear hW
 have l3:=T3.lt
 obtain ⟨c10,c11,f10,f11⟩:=T1.facts
 obtain ⟨c20,c21,f20,f21⟩:=T2.facts
 go_cut [] (fun wc => ∃ A1 c1 A2 c2,Two wc w.heap.size 39 (.bool (sg (zv s ns))) (.slice A1 (mg (zv s ns)).length c1)∧Two wc (w.heap.size+1) 39 (.bool (sg (zv s' ms))) (.slice A2 (mg (zv s' ms)).length c2) ∧
  Two wc (w.heap.size+1+1) 39 (.bool false) (.slice none 0 0)∧Rd wc B A1 (mg (zv s ns))∧Rd wc B' A2 (mg (zv s' ms))∧Below w.heap.size w wc∧(mg (zv s ns)).length≤c1∧(mg (zv s' ms)).length≤c2)
 case first =>
  go_region_with (first
   | (go_at_call_of 151 (Value.agg #[Value.bool s,Value.slice A n c]); refine (azk s A ns n c B _ (by first | exact R1.drew | exact R1.next K2 (by omega)) (by first | (simp; omega) | (have:=K2.size; omega)) hn (by omega) hc).mono ?_; rintro e w1 ⟨A1,c1,rfl,hc1,hr1,hb1⟩; have K1:Below W.heap.size W w1:=(by first | exact azl hb1 | exact a01 K2 hb1); obtain ⟨d10,d11,g10,g11⟩:=(T1.next K1).facts; obtain ⟨d20,d21,g20,g21⟩:=(T2.next K1).facts)
   | (go_at_call_of 151 (Value.agg #[Value.bool s',Value.slice A' m c']); refine (azk s' A' ms m c' B' _ (by first | exact R2.drew | exact R2.next K1 (by omega)) (by first | (simp; omega) | (have:=K1.size; omega)) hm (by omega) hc').mono ?_; rintro e w2 ⟨A2,c2,rfl,hc2,hr2,hb2⟩; have K2:Below W.heap.size W w2:=(by first | exact azl hb2 | exact a01 K1 hb2); obtain ⟨i10,i11,j10,j11⟩:=(T1.next K2).facts; obtain ⟨i20,i21,j20,j21⟩:=(T2.next K2).facts))
  all_goals
   obtain ⟨P1,P2,P3,P4,P5⟩:_∧_∧_∧_∧_:=by
    first
     | exact azm (sg (zv s ns)) (sg (zv s' ms)) (.slice A1 (mg (zv s ns)).length c1) (.slice A2 (mg (zv s' ms)).length c2) (T1.next K2) (T2.next K2) (by omega) (hr1.next hb2 (by have:=K1.size; omega)) hr2 (aaR hb0 K2 (by omega)) (Nat.le_refl _) (by omega)
     | exact azm (sg (zv s ns)) (sg (zv s' ms)) (.slice A1 (mg (zv s ns)).length c1) (.slice A2 (mg (zv s' ms)).length c2) (T1.next K1) (T2.next K1) (by omega) hr1 (hr2.next hb1 (by have:=K2.size; omega)) (aaR hb0 K1 (by omega)) (Nat.le_refl _) (by omega)
   clear d10 d11 g10 g11 d20 d21 g20 g21 i10 i11 i20 i21 j10 j11 j20 j21 c10 c11 c20 c21 f10 f11 f20 f21
   go_wp2_with fail
   go_meet
   have N01:=(T3.next K1)
   have N02:=(T3.next K2)
   exact ⟨A1,c1,A2,c2,P1,P2,by first | exact N02.atz (by omega) (by omega) _ _ _ _ | exact N01.atz (by omega) (by omega) _ _ _ _,P3,P4,P5,hc1,hc2⟩
 case rest =>
  obtain ⟨A1,c1,A2,c2,Q1,Q2,Q3,r1,r2,hbc,hc1,hc2⟩:=hcut
  clear T1 T2 T3 R1 R2 hb0 l3 c10 c11 c20 c21 f10 f11 f20 f21
  obtain ⟨c10,c11,f10,f11⟩:=Q1.facts
  obtain ⟨c20,c21,f20,f21⟩:=Q2.facts
  go_wp2_with fail
  refine (bie A1 A2 (zv s ns).natAbs (zv s' ms).natAbs _ _ c1 c2 B B' _ r1 r2 (by have:=hbc.size; omega) (by have:=hbc.size; omega) rfl rfl (Nat.le_trans hlz hl) (Nat.le_trans hlz' hl') hc1 hc2).mono ?_
  rintro e w3 ⟨A3,c3,rfl,hc3,hr3,hb3⟩
  have U3:=Q3.next hb3
  generalize Nat.gcd (zv s ns).natAbs (zv s' ms).natAbs=G at *
  go_wp2_with fail
  refine (atd false A3 G _ c3 _ (G:Int) _ hr3 (Nat.le_refl _) rfl hc3 rfl).mono ?_
  rintro e w4 ⟨A4,c4,rfl,hc4,hr4,hb4⟩
  have V3:=U3.next hb4
  obtain ⟨d0,d1,g0,g1⟩:=V3.facts
  have hsz3:=hb3.size
  have a7N:=hbc.size
  go_wp2_with fail
  refine bodyPost_ret (v := .agg #[.bool (sg (G:Int)),.slice A4 (mg (G:Int)).length c4]) (by simp [results,Tryz.results154,go_sem,d0,d1]) rfl ?_
  exact alf V3 hr4 hb4.size hc4 (aaR (aaR hbc hb3 (Nat.le_refl _)) hb4 (by omega)) (by omega)
end Go.Proofs.YtbihljnjaondcaaGreatDoor
namespace Lw
open Go Go.RowKit
theorem bk3 {N:Nat} (h:N≠0):2 ^ (alQ (Uy N) - 1)≤N:=by
 have hl:(Uy N).length≠0:=by
  intro e
  exact h (ak4.1 (List.eq_nil_of_length_eq_zero e))
 obtain ⟨k,hk⟩ : ∃ k,(Uy N).length=k+1:=⟨(Uy N).length - 1,by omega⟩
 have hd0:dg (Uy N) k≠0:=by
  refine aj7 N _ ?_
  rw [List.getLast?_eq_getElem?,hk,show k+1 - 1=k by omega,a1G (by omega)]
 have hd:=ahv (acy N) k
 obtain ⟨b1,b2,b3,b4⟩:=bitLen_spec hd0 (by omega)
 have e:lo (Uy N) (k+1)=N:=by rw [acm (by omega),aar]
 rw [acw] at e
 unfold alQ
 rw [if_neg hl,hk,show k+1 - 1=k by omega,show k*32+Lib.bitLen (dg (Uy N) k) - 1=32*k+(Lib.bitLen (dg (Uy N) k) - 1) by omega,Nat.pow_add,Nat.pow_mul]
 have h2:=Nat.mul_le_mul_left (pw k) b2
 have h3:(2 ^ 32) ^ k=pw k:=rfl
 rw [h3]
 omega
theorem bk0 {N n:Nat} (h:(Uy N).length=n) (h2:2 < n):65≤alQ (Uy N)∧alQ (Uy N)≤32*n:=by
 have hd0:dg (Uy N) (n - 1)≠0:=by
  refine aj7 N _ ?_
  rw [List.getLast?_eq_getElem?,h,a1G (by omega)]
 have hd:=ahv (acy N) (n - 1)
 obtain ⟨b1,b2,b3,b4⟩:=bitLen_spec hd0 (by omega)
 have b5:=a7o hd
 unfold alQ
 rw [h,if_neg (by omega)]
 omega
theorem blb {N s:Nat} (hN:2 ^ (2*s)≤N) (h4:4≤N):(rt (N / 2 ^ (2*s))+1)*2 ^ s≤N:=by
 have e:2 ^ (2*s)=2 ^ s*2 ^ s:=by rw [← Nat.pow_add]; congr 1; omega
 have h1:2 ^ s≤rt N:=a6B (by rw [← e]; exact hN)
 have h2:rt (N / 2 ^ (2*s))*2 ^ s≤rt N:=by
  apply a6B
  have h3:=a3Y (N / 2 ^ (2*s))
  have h5:rt (N / 2 ^ (2*s))*2 ^ s*(rt (N / 2 ^ (2*s))*2 ^ s)=rt (N / 2 ^ (2*s))*rt (N / 2 ^ (2*s))*2 ^ (2*s):=by rw [e]; ac_rfl
  rw [h5]
  exact Nat.le_trans (Nat.mul_le_mul_right _ h3) (Nat.div_mul_le_self _ _)
 have h6:2≤rt N:=a6B (by omega)
 have h7:=a3Y N
 have h8:2*rt N≤rt N*rt N:=Nat.mul_le_mul_right _ h6
 rw [Nat.add_mul,Nat.one_mul]
 omega
theorem bhj (w:World) (t:TypeId):Blk (w.alloc (.cells #[.int .u32 1] t)) w.heap.size t [1]:=Blk.new w t [1]
theorem bpd:Wds [1]:=by rw [alb]; exact ⟨by omega,ak5⟩
end Lw
namespace Go.Proofs.YtbihljnjaondcaaGreatDoor
open Go Go.RowKit Lw
set_option maxRecDepth 100000 in
set_option maxHeartbeats 6400000 in
theorem bnh (N:Nat) (ih : ∀ N',N' < N → ∀ (A:Option Addr) (n c B:Nat) (w:World),Rd w B A (Uy N')→B≤w.heap.size→(Uy N').length=n→n≤8388608→n≤c→Calls Tryz.prog 213 #[.slice A n c] w (as8 w (rt N')))
  (A:Option Addr) (n c B:Nat) (w:World) (h:Rd w B A (Uy N)) (hB:B≤w.heap.size) (hn:(Uy N).length=n) (hl:n≤8388608) (hc:n≤c) (h2:2 < n) :
  Calls Tryz.prog 213 #[.slice A n c] w (as8 w (rt N)):=by
 obtain ⟨nb1,nb2⟩:=bk0 hn h2
 have hN0:N≠0:=by intro e; subst e; have e2:(Uy 0).length=0:=rfl; omega
 have nb3:=bk3 hN0
 obtain ⟨b,hb⟩ : ∃ b,b=alQ (Uy N):=⟨_,rfl⟩
 have hbit:=bhg A (Uy N) n c B w h hn (by omega)
 rw [← hb] at nb1 nb2 nb3 hbit
 obtain ⟨s,hs⟩ : ∃ s,s=b / 4:=⟨_,rfl⟩
 have hs1:16≤s:=by omega
 have hs2:2*s≤134217728:=by omega
 have hq4:(b:Int) / 4=(s:Int):=by omega
 have a9W:2 ^ (2*s)≤N:=Nat.le_trans (Nat.pow_le_pow_right (by omega) (by omega)) nb3
 have h4N:4≤N:=Nat.le_trans (show 4≤2 ^ (2*s) from Nat.le_trans (show 4≤2 ^ 2 from Nat.le_refl _) (Nat.pow_le_pow_right (by omega) (by omega))) a9W
 have hfit:=blb a9W h4N
 have hst:=blc (N:=N) (s:=s)
 have hless:N / 2 ^ (2*s) < N:=Nat.div_lt_self (by omega) (Nat.le_trans (show 2≤2 ^ 1 from Nat.le_refl _) (Nat.pow_le_pow_right (by omega) (by omega)))
 obtain ⟨N',hN'⟩ : ∃ x,x=N / 2 ^ (2*s):=⟨_,rfl⟩
 rw [← hN'] at hfit hst hless
 have bgS:=Lib.hid hbit
 have Hih:=Lib.hid (ih N' hless)
 have HX:=Lib.hid (And.intro hfit hst)
 have HN':=Lib.hid hN'
 have HN0:=Lib.hid hN0
 have Hn:=Lib.hid hn
 have bdd:(Uy N').length≤n:=by rw [← hn]; exact aty (by omega)
 have HL:=Lib.hid bdd
 have hrl:(Uy (rt N'+1)).length≤n:=by
  rw [← hn]; apply aty
  have:=Nat.le_trans (Nat.le_mul_of_pos_right (rt N'+1) (Nat.pow_pos (n:=s) (show 0 < 2 by omega))) hfit
  exact this
 have HRL:=Lib.hid hrl
 have HP:=Lib.hid (show s / 32=s / 32∧s % 32=s % 32 from ⟨rfl,rfl⟩)
 have hs0:Hid (s=b / 4):=Lib.hid hs
 clear hbit hN' hN0 hn hfit hst hless nb1 nb2 nb3 hb hs a9W h4N bdd hrl ih
 go_enter Tryz.func213,Tryz.ntmps213
 go_wp2_with fail
 refine (bgS.out).mono ?_
 rintro e w1 ⟨rfl,rfl⟩
 obtain ⟨s2,hs2'⟩ : ∃ x,x=2*s:=⟨_,rfl⟩
 have hq5:(2:Int)*(s:Int)=(s2:Int):=by omega
 have hs3:s2≤134217728:=by omega
 have HS2:=Lib.hid hs2'
 clear hs2'
 go_wp2_with fail
 refine (ba4 A (Uy N) n c B s2 (s2 / 32) (s2 % 32) (2 ^ (s2 % 32)) (2 ^ (32 - s2 % 32)) _ h hB Hn.out (by omega) (by omega) rfl rfl rfl rfl).mono ?_
 rintro e w2 ⟨A2,c2,rfl,hc2,hr2,hb2⟩
 rw [aar,HS2.out,← HN'.out] at hr2 hc2 ⊢
 go_wp2_with fail
 refine (Hih.out A2 _ c2 _ _ hr2 (Nat.le_refl _) rfl (Nat.le_trans HL.out hl) hc2).mono ?_
 rintro e w3 ⟨A3,c3,rfl,hc3,hr3,hb3⟩
 go_wp2_with fail
 have hbk:=bhj w3 99
 have hb4:Below w.heap.size w (w3.alloc (.cells #[.int .u32 1] 99)):=(hb2.trans (hb3.mono hb2.size)).alloc (hb2.trans (hb3.mono hb2.size)).size _
 have hv1:val [1]=1:=by simp [val]
 refine (add_any A3 (some ⟨w3.heap.size,0,none⟩) (Uy (rt N')) [1] _ 1 c3 1 _ _ _ (hr3.alloc (Nat.le_refl _) _) (hbk.rd bpd) (by simp) (Nat.le_refl _) rfl rfl (Nat.le_trans (aty (Nat.le_succ _)) (Nat.le_trans HRL.out (by omega))) (by omega) hc3 (Nat.le_refl _)).mono ?_
 rintro e w4 ⟨A4,c4,rfl,hc4,hr4,hb5⟩
 rw [aar,hv1] at hr4 hc4 ⊢
 have hb6:=aaR hb4 hb5 (Nat.le_refl _)
 clear hv1 hbk
 go_wp2_with fail
 refine (ba5 A4 (Uy (rt N'+1)) _ c4 _ s (s / 32) (s % 32) (2 ^ (s % 32)) (2 ^ (32 - s % 32)) _ hr4 (Nat.le_refl _) rfl (Nat.le_trans HRL.out (by omega)) (by omega) rfl rfl rfl rfl).mono ?_
 rintro e w5 ⟨vs,rfl,hk5,hvl,hvw,hvv,hb7⟩
 have hX:val vs=(rt N'+1)*2 ^ s:=by
  rw [hvv,aar,bem s]
  generalize pw (s / 32)=a
  generalize 2 ^ (s % 32)=b
  generalize rt N'+1=c
  ac_rfl
 obtain ⟨X,hXe⟩ : ∃ X,X=(rt N'+1)*2 ^ s:=⟨_,rfl⟩
 rw [← hXe] at hX
 have HXX:=Lib.hid (show X≤N∧rt N < X by rw [hXe]; exact HX.out)
 have hrv:=(hk5.rd hvw).Uy
 rw [hX] at hrv
 have hlv:=aon hvw
 rw [hX] at hlv
 have hL5:vs.length≤16777216:=by rw [hvl]; have:=HRL.out; omega
 have HVL:=Lib.hid hvl
 obtain ⟨vl,bdv⟩ : ∃ x,x=(Uy (rt N'+1)).length+s / 32+1:=⟨_,rfl⟩
 rw [← bdv] at hvl ⊢
 have hb8:=aaR hb6 hb7 (Nat.le_refl _)
 have Hlv:=Lib.hid (show (Uy X).length≤vl by rw [← hvl]; exact hlv)
 have bkc:vl≤16777216:=by rw [← hvl]; exact hL5
 have HXv:=Lib.hid hX
 have HVl:=Lib.hid hvl
 clear hvv hXe hX hlv hvl bdv hL5
 go_wp2_with fail
 refine (aOs _ vs vl vl _ _ (hk5.rd hvw) HVl.out (Nat.le_refl _) (by omega)).mono ?_
 rintro e w6 ⟨rfl,rfl⟩
 rw [HXv.out]
 go_wp2_with fail
 go_loopw [5] (fun a wr => ∃ (X x d:Nat) (D:Option Addr),a = .slice D x d∧Rd wr wr.heap.size D (Uy X)∧Hid ((Uy X).length=x)∧x≤n∧x≤d∧Hid (rt N≤X∧0 < X∧X≤N)∧Below w.heap.size w wr) (fun a wr=>rdv wr a)
 case atStart=>exact ⟨X,_,_,_,rfl,hrv,Lib.hid rfl,by rw [← Hn.out]; exact aty HXX.out.1,Hlv.out,Lib.hid ⟨Nat.le_of_lt HXX.out.2,by have:=HXX.out.2; omega,HXX.out.1⟩,hb8⟩
 case round =>
  clear hr2 hb2 hr3 hb3 hb4 hr4 hb5 hb6 hk5 hb7 hb8 hrv HXX bkc hq4 hq5
  obtain ⟨X,x,d,D,rfl,hr,hxl,hx,hxd,hX,hbw⟩:=hrel
  have RX:=Lib.hid (awW (c:=d) hr hxl.out)
  go_wp2_with fail
  refine (a4q A D N X n x c d _ _ _ (h.below (hbw.mono hB)) hr (Nat.le_trans hB hbw.size) (Nat.le_refl _) Hn.out hxl.out hl (by omega) hc hxd (by have:=hX.out.2.1; omega) (.inr a4N)).mono ?_
  rintro e w7 ⟨A7,c7,A8,c8,rfl,hc7,hc8,hr7,hr8,hb9⟩
  have hlq:(Uy (N / X)).length≤n:=by rw [← Hn.out]; exact aty (Nat.div_le_self _ _)
  have hge:=bd8 (N:=N) (x:=X) hX.out.2.1
  have hend:=bd7 (N:=N) (x:=X) hX.out.2.1 hX.out.1
  have HE:=Lib.hid (And.intro hge hend)
  have hrX:=hr.below hb9
  clear hge hend
  obtain ⟨Q,hQ⟩ : ∃ Q,Q=N / X:=⟨_,rfl⟩
  rw [← hQ] at hr7 hc7 hlq HE ⊢
  have HLQ:=Lib.hid hlq
  clear hQ hlq
  go_wp2_with fail
  refine (add_any D A7 (Uy X) (Uy Q) x _ d c7 _ _ _ hrX hr7 hb9.size (Nat.le_refl _) hxl.out rfl (by omega) (Nat.le_trans HLQ.out (by omega)) hxd hc7).mono ?_
  rintro e w9 ⟨A9,c9,rfl,hc9,hr9,a9J⟩
  rw [aar,aar] at hr9 hc9 ⊢
  have hls:(Uy (X+Q)).length≤n+1:=by
   apply aj9
   have h1:X < pw n:=awx (by rw [hxl.out]; exact hx)
   have h2:Q < pw n:=awx HLQ.out
   rw [afC]; omega
  have HLS:=Lib.hid hls
  clear hls
  go_wp2_with fail
  refine (ba4 A9 (Uy (X+Q)) _ c9 _ 1 0 1 2 2147483648 _ hr9 (Nat.le_refl _) rfl (Nat.le_trans HLS.out (by omega)) (by omega) rfl rfl rfl rfl).mono ?_
  rintro e w10 ⟨A10,c10,rfl,a4B,a4H,bc4⟩
  rw [aar] at a4H a4B ⊢
  rw [show (X+Q) / 2 ^ 1=(X+Q) / 2 from rfl] at a4H a4B ⊢
  have bde:(Uy ((X+Q) / 2)).length≤4294967296:=Nat.le_trans (aty (Nat.div_le_self _ _)) (Nat.le_trans HLS.out (by omega))
  obtain ⟨Z,hZ⟩ : ∃ Z,Z=(X+Q) / 2:=⟨_,rfl⟩
  rw [← hZ] at a4H a4B HE bde ⊢
  clear hZ
  have akA:=hb9.trans ((a9J.mono hb9.size).trans (bc4.mono (Nat.le_trans hb9.size a9J.size)))
  have bdi:=hr.below akA
  have a6o:=aaR hbw akA (Nat.le_refl _)
  have hlZ:Z≤X→(Uy Z).length≤n:=fun hz=>Nat.le_trans (aty hz) (by rw [hxl.out]; exact hx)
  have HB:=Lib.hid (And.intro akA a6o)
  clear hb9 a9J bc4 akA a6o
  go_wp2_with fail
  refine (a0T A10 D (Uy Z) (Uy X) _ x c10 d _ _ _ a4H bdi (aj7 _) (aj7 _) rfl hxl.out bde (by omega)).mono ?_
  rintro e w11 ⟨rfl,q,rfl⟩
  rw [aar,aar]
  by_cases hd:X≤Z
  ·have hcm:=a6c hd
   have HR:=Lib.hid (HE.out.2 hd)
   go_wp2_with fail
   go_ret
   exact ⟨D,d,aor (by rw [← HR.out,hxl.out]),by rw [← HR.out,hxl.out]; exact hxd,by rw [← HR.out]; exact (bdi.drewN q).more (by simpa using HB.out.1.size),HB.out.2.trans (below_drewN' _ _ _)⟩
  ·have hcm:=a6b (show Z < X by omega)
   have HZ:=Lib.hid (show Z < X by omega)
   go_wp2_with fail
   go_roundw
   case rel =>
    refine ⟨Z,_,c10,A10,rfl,a4H.drewN q,Lib.hid rfl,hlZ (Nat.le_of_lt HZ.out),a4B,Lib.hid ⟨HE.out.1,?_,Nat.le_trans (Nat.le_of_lt HZ.out) hX.out.2.2⟩,HB.out.2.trans (below_drewN' _ _ _)⟩
    have:=HE.out.1
    have:=beW HN0.out
    omega
   case measure =>
    rw [RX.out,awW (a4H.drewN q) rfl,aar,aar]
    exact HZ.out
theorem bnc:a9k:=by
 have all : ∀ N,∀ (A:Option Addr) (n c B:Nat) (w:World),Rd w B A (Uy N)→B≤w.heap.size→(Uy N).length=n→n≤8388608→n≤c→Calls Tryz.prog 213 #[.slice A n c] w (as8 w (rt N)):=by
  intro N
  induction N using Nat.strongRecOn with
  | _ N ih =>
   intro A n c B w h hB hn hl hc
   rcases Nat.lt_or_ge 2 n with h2 | h2
   ·exact bnh N ih A n c B w h hB hn hl hc h2
   ·exact beO A N n c B w h hB hn h2
 intro A N n c B w h hB hn hl hc
 exact all N A n c B w h hB hn hl hc
end Go.Proofs.YtbihljnjaondcaaGreatDoor
namespace Lw
open Go Go.RowKit
theorem bdL {x y:Int} {k:Nat} (hy:y≠0) (h:x.natAbs < pw k):(x / y).natAbs < pw (k+1):=by
 have h1:=Int.emod_add_mul_ediv x y
 have h2:=Int.emod_nonneg x hy
 have h3:=Int.emod_lt x hy
 have h4:y.natAbs*(x / y).natAbs=(x - x % y).natAbs:=by
  rw [← Int.natAbs_mul]; congr 1; omega
 have h5:(x - x % y).natAbs+1≤x.natAbs+y.natAbs:=by omega
 have hq:(x / y).natAbs≤x.natAbs+1:=by
  generalize (x / y).natAbs=q at *
  generalize y.natAbs=d at *
  refine Nat.le_of_not_lt fun hlt => ?_
  have hd:1≤d:=by omega
  have h6:d*(x.natAbs+2)≤d*q:=Nat.mul_le_mul_left _ hlt
  have h7:1*x.natAbs≤d*x.natAbs:=Nat.mul_le_mul_right _ hd
  rw [Nat.mul_add] at h6
  omega
 have:=anr k
 rw [afC]; omega
theorem bdN {x y:Int} {k:Nat} (hy:y≠0) (h:y.natAbs < pw k):(x % y).natAbs < pw k:=by
 have h2:=Int.emod_nonneg x hy
 have h3:=Int.emod_lt x hy
 omega
theorem bkA {x y k k':Nat} (h:x < pw k) (h':y < pw k'):((Nat.gcd x y:Nat):Int).natAbs < pw (k+k'):=by
 rw [Int.natAbs_natCast]
 have h1:pw k≤pw (k+k'):=ajj (by omega)
 have h2:pw k'≤pw (k+k'):=ajj (by omega)
 rcases Nat.eq_zero_or_pos x with e | e
 ·subst e; rw [Nat.gcd_zero_left]; omega
 ·have:=Nat.gcd_le_left y e; omega
theorem bkC {x k:Nat} (h:x < pw k):((rt x:Nat):Int).natAbs < pw k:=by
 rw [Int.natAbs_natCast]
 have h1:=a3Y x
 rcases Nat.eq_zero_or_pos (rt x) with e | e
 ·rw [e]; exact anr k
 ·have:=Nat.mul_le_mul_left (rt x) e
  omega
end Lw
namespace Go.Proofs.YtbihljnjaondcaaGreatDoor
open Go Go.RowKit Lw
section
variable {t:TypeId} {W0 w:World} {bs:List Bx} {L:List En} {v v':Value} {x y:Int} {k k':Nat} {b b':Bool}
theorem a4U {w:World} {z:Int} {K:Nat} {A:Option Addr} {c:Nat} (hr:Rd w w.heap.size A (mg z)) (hc:(mg z).length≤c) (hz:z.natAbs < pw K):Opd w ⟨.agg #[.bool (sg z),.slice A (mg z).length c],z,K,true⟩ :=
 ⟨sg z,A,_,c,mg z,_,rfl,hr,Nat.le_refl _,rfl,a1t hz,hc,a1k z,a1f z⟩
theorem bib (HE:Env t W0 w bs L) (h:⟨v,x,k,b⟩∈L) (h':⟨v',y,k',b'⟩∈L) (hk:k+k'≤100000) (hy:y≠0) :
  Calls Tryz.prog 155 #[v,v'] w fun e w' => ∃ (s s':Bool) (D D':Option Addr) (m d m' d':Nat),e = .returned (.tuple #[.agg #[.bool s,.slice D m d],.agg #[.bool s',.slice D' m' d'],.nilIface])∧Env t W0 w' bs (⟨.agg #[.bool s,.slice D m d],x / y,k+1,true⟩ :: ⟨.agg #[.bool s',.slice D' m' d'],x % y,k',true⟩ :: L):=by
 have H1:=HE.ops _ h
 have H2:=HE.ops _ h'
 have hz:=bdL hy H1.lt
 have hz':=bdN (x:=x) hy H2.lt
 obtain ⟨s,A,n,c,ns,B,e1,h2,h3,h4,h5,h6,e7,h8⟩:=H1
 obtain ⟨s',A',n',c',ns',B',e1',h2',h3',h4',h5',h6',e7',h8'⟩:=H2
 dsimp only at e1 e7 e1' e7' h5 h5' hz hz'
 subst e1 e1' e7 e7'
 refine (bij s s' A A' ns ns' n n' c c' B B' w h2 h2' h3 h3' h4 h4' (by omega) (by omega) h6 h6' hy (.inr a4N)).mono fun e w' hh => ?_
 obtain ⟨A3,c3,A4,c4,rfl,hc3,hc4,hr3,hr4,hb⟩:=hh
 exact ⟨_,_,_,_,_,_,_,_,rfl,((HE.next hb).cons (a4U hr4 hc4 hz')).cons (a4U hr3 hc3 hz)⟩
theorem bjk (HE:Env t W0 w bs L) (h:⟨v,x,k,b⟩∈L) (h':⟨v',y,k',b'⟩∈L) (hk:k+k'≤100000) :
  Calls Tryz.prog 154 #[v,v'] w fun e w' => ∃ (s:Bool) (D:Option Addr) (m d:Nat),e = .returned (.agg #[.bool s,.slice D m d])∧Env t W0 w' bs (⟨.agg #[.bool s,.slice D m d],((Nat.gcd x.natAbs y.natAbs:Nat):Int),k+k',true⟩ :: L):=by
 have H1:=HE.ops _ h
 have H2:=HE.ops _ h'
 have hz:=bkA H1.lt H2.lt
 obtain ⟨s,A,n,c,ns,B,e1,h2,h3,h4,h5,h6,e7,h8⟩:=H1
 obtain ⟨s',A',n',c',ns',B',e1',h2',h3',h4',h5',h6',e7',h8'⟩:=H2
 dsimp only at e1 e7 e1' e7' h5 h5' hz
 subst e1 e1' e7 e7'
 refine (bcQ s s' A A' ns ns' n n' c c' B B' w h2 h2' h3 h3' h4 h4' (by omega) (by omega) h6 h6').mono fun e w' hh => ?_
 obtain ⟨A3,c3,rfl,hc3,hr3,hb⟩:=hh
 exact ⟨_,_,_,_,rfl,(HE.next hb).cons (a4U hr3 hc3 hz)⟩
theorem bnf (HE:Env t W0 w bs L) (h:⟨v,x,k,b⟩∈L) (hk:k≤100000) (hx:0≤x) :
  Calls Tryz.prog 158 #[v] w fun e w' => ∃ (s:Bool) (D:Option Addr) (m d:Nat),e = .returned (.tuple #[.agg #[.bool s,.slice D m d],.nilIface])∧Env t W0 w' bs (⟨.agg #[.bool s,.slice D m d],((rt x.natAbs:Nat):Int),k,true⟩ :: L):=by
 have H1:=HE.ops _ h
 have hz:=bkC H1.lt
 obtain ⟨s,A,n,c,ns,B,e1,h2,h3,h4,h5,h6,e7,h8⟩:=H1
 dsimp only at e1 e7 h5 hz
 subst e1 e7
 refine (bnj s A ns n c B w h2 h3 h4 (by omega) h6 hx (.inr bnc)).mono fun e w' hh => ?_
 obtain ⟨A3,c3,rfl,hc3,hr3,hb⟩:=hh
 exact ⟨_,_,_,_,rfl,(HE.next hb).cons (a4U hr3 hc3 hz)⟩
end
end Go.Proofs.YtbihljnjaondcaaGreatDoor
