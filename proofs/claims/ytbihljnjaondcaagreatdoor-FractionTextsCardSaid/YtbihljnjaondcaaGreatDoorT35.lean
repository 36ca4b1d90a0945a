/- Part of a proof, said shortly. -/
import Derived.BigQuiet
import Derived.Test.YtbihljnjaondcaaGreatDoorAlt
import Derived.Test.YtbihljnjaondcaaGreatDoorT12
import Derived.Test.YtbihljnjaondcaaGreatDoorT6
import Derived.Test.YtbihljnjaondcaaGreatDoorT4
import Derived.Test.YtbihljnjaondcaaGreatDoorT3
import Derived.Test.YtbihljnjaondcaaGreatDoorT2
import Derived.Test.YtbihljnjaondcaaGreatDoorT1
import Derived.Test.YtbihljnjaondcaaGreatDoorT5
import Derived.Test.YtbihljnjaondcaaGreatDoorT9
import Derived.Test.YtbihljnjaondcaaGreatDoorT8
import Derived.Test.YtbihljnjaondcaaGreatDoorT7
namespace Lw
open Go
theorem bdI {a b:List Nat} {k M:Nat} (hk:k≤M) (h : ∀ j,k≤j→j < M→dg a j=dg b j) : ∃ z,lo a M=lo a k+z∧lo b M=lo b k+z:=by
 induction M with
 | zero =>
  have:k=0:=by omega
  subst this
  exact ⟨0,rfl,rfl⟩
 | succ M ih =>
  rcases Nat.lt_or_ge k (M+1) with h1 | h1
  ·obtain ⟨z,e1,e2⟩:=ih (by omega) (fun j hj hj'=>h j hj (by omega))
   have:=h M (by omega) (by omega)
   refine ⟨z+pw M*dg a M,?_,?_⟩
   ·rw [acw,e1]; omega
   ·rw [acw,e2,← this]; omega
  ·have:k=M+1:=by omega
   subst this
   exact ⟨0,rfl,rfl⟩
def Agree (a b:List Nat) (k:Nat):Prop := ∀ j,k≤j→dg a j=dg b j
theorem bg2 {a b:List Nat} {M:Nat} (ha:a.length≤M) (hb:b.length≤M):Agree a b M:=fun j hj=>by rw [a1F (by omega),a1F (by omega)]
theorem bg3 {a b:List Nat} {k:Nat} (h:Agree a b (k+1)) (hd:dg a k=dg b k):Agree a b k:=fun j hj=>by
 rcases Nat.lt_or_ge k j with h1 | h1
 ·exact h j h1
 ·have:j=k:=by omega
  subst this; exact hd
theorem bbJ {a b:List Nat} {k:Nat} (wa:Wds a) (h:Agree a b (k+1)) (hd:dg a k < dg b k):val a < val b:=by
 obtain ⟨z,e1,e2⟩:=bdI (a:=a) (b:=b) (k:=k+1) (M:=a.length+b.length+(k+1)) (by omega) (fun j hj _=>h j hj)
 rw [acm (by omega),acw] at e1 e2
 have h3:=ano wa k
 have h4:pw k*(dg a k+1)≤pw k*dg b k:=Nat.mul_le_mul_left _ hd
 rw [Nat.mul_add,Nat.mul_one] at h4
 omega
theorem bg4 {a b:List Nat} (h:Agree a b 0):val a=val b:=by
 obtain ⟨z,e1,e2⟩:=bdI (a:=a) (b:=b) (k:=0) (M:=a.length+b.length) (by omega) (fun j hj _=>h j hj)
 rw [acm (by omega)] at e1 e2
 rw [akf] at e1 e2
 omega
end Lw
namespace Go.Proofs.YtbihljnjaondcaaGreatDoor
open Go Go.RowKit Lw
set_option maxRecDepth 100000 in
set_option maxHeartbeats 1600000 in
theorem a3W (A A':Option Addr) (ns ms:List Nat) (n m c c' B B':Nat) (w:World) (h:Rd w B A ns) (h':Rd w B' A' ms) (hn:ns.length=n) (hm:ms.length=m) (hl:n≤16777216) (hl':m≤16777216) :
  Calls Tryz.prog 163 #[.slice A n c,.slice A' m c'] w fun e w'=>e = .returned (.int .i64 (alg (val ns) (val ms)))∧w=w':=by
 have Hn:=Lib.hid hn
 have Hm:=Lib.hid hm
 clear hn hm
 obtain ⟨M,hM,hM1,hM2⟩ : ∃ M:Nat,(max (n:Int) (m:Int))=(M:Int)∧n≤M∧m≤M:=⟨max n m,by omega,by omega,by omega⟩
 have hMl:M≤16777216:=by omega
 go_enter Tryz.func163,Tryz.ntmps163
 go_wp2_with fail
 go_loopw [5] (fun v wr => ∃ i:Int,-1≤i∧i < M∧v = .int .i64 i∧Hid (Agree ns ms (i+1).toNat)∧w=wr) (fun v _=>(intOf v+1).toNat)
 case atStart=>exact ⟨(M:Int) - 1,by omega,by omega,rfl,Lib.hid (by rw [show ((M:Int) - 1+1).toNat=M by omega]; exact bg2 (by rw [Hn.out]; exact hM1) (by rw [Hm.out]; exact hM2)),rfl⟩
 case round =>
  obtain ⟨i,hi,hiM,rfl,hag,rfl⟩:=hrel
  by_cases h0:i < 0
  ·have HV:Hid (val ns=val ms):=Lib.hid (bg4 (by have:=hag.out; rwa [show (i+1).toNat=0 by omega] at this))
   go_wp2_with fail
   go_ret
   exact ⟨ahy (by rw [a6a HV.out]),rfl⟩
  ·obtain ⟨k,rfl⟩:=Int.eq_ofNat_of_zero_le (show 0≤i by omega)
   have hs1:Hid (Agree ns ms (k+1)):=Lib.hid (by have:=hag.out; rwa [show ((k:Int)+1).toNat=k+1 by omega] at this)
   clear hag
   have hlt:=ahv h.wds k
   have hlt':=ahv h'.wds k
   rcases Nat.lt_trichotomy (dg ns k) (dg ms k) with hd | hd | hd
   ·have hb1:((dg ns k:Int) != (dg ms k:Int))=true:=by rw [bne_iff_ne]; omega
    have HR:=Lib.hid (a2V (bbJ h.wds hs1.out hd))
    go_wp2_with fail
    refine (aom A ns n c B k _ h Hn.out (by omega)).mono ?_
    rintro e w' ⟨rfl,rfl⟩
    go_wp2_with fail
    refine (aom A' ms m c' B' k _ h' Hm.out (by omega)).mono ?_
    rintro e w' ⟨rfl,rfl⟩
    go_wp2_with fail
    refine (aom A ns n c B k _ h Hn.out (by omega)).mono ?_
    rintro e w' ⟨rfl,rfl⟩
    go_wp2_with fail
    refine (aom A' ms m c' B' k _ h' Hm.out (by omega)).mono ?_
    rintro e w' ⟨rfl,rfl⟩
    go_wp2_with fail
    go_ret
    exact ⟨ahy (by rw [HR.out]),rfl⟩
   ·have hb1:((dg ns k:Int) != (dg ms k:Int))=false:=by rw [bne_eq_false_iff_eq]; omega
    have HS:=Lib.hid (bg3 hs1.out hd)
    go_wp2_with fail
    refine (aom A ns n c B k _ h Hn.out (by omega)).mono ?_
    rintro e w' ⟨rfl,rfl⟩
    go_wp2_with fail
    refine (aom A' ms m c' B' k _ h' Hm.out (by omega)).mono ?_
    rintro e w' ⟨rfl,rfl⟩
    go_wp2_with fail
    go_roundw
    case rel=>exact ⟨(k:Int) - 1,by omega,by omega,rfl,Lib.hid (by rw [show ((k:Int) - 1+1).toNat=k by omega]; exact HS.out),trivial⟩
    case measure=>simp [intOf]
   ·have hb1:((dg ns k:Int) != (dg ms k:Int))=true:=by rw [bne_iff_ne]; omega
    have HR:=Lib.hid (a4k (bbJ h'.wds (fun j hj=>(hs1.out j hj).symm) hd))
    go_wp2_with fail
    refine (aom A ns n c B k _ h Hn.out (by omega)).mono ?_
    rintro e w' ⟨rfl,rfl⟩
    go_wp2_with fail
    refine (aom A' ms m c' B' k _ h' Hm.out (by omega)).mono ?_
    rintro e w' ⟨rfl,rfl⟩
    go_wp2_with fail
    refine (aom A ns n c B k _ h Hn.out (by omega)).mono ?_
    rintro e w' ⟨rfl,rfl⟩
    go_wp2_with fail
    refine (aom A' ms m c' B' k _ h' Hm.out (by omega)).mono ?_
    rintro e w' ⟨rfl,rfl⟩
    go_wp2_with fail
    go_ret
    exact ⟨ahy (by rw [HR.out]),rfl⟩
end Go.Proofs.YtbihljnjaondcaaGreatDoor
namespace Lw
open Go
theorem blP {cs ns ms:List Nat} {k carry R:Nat} (hl:cs.length=k) (hv:val cs+pw k*carry=lo ns k+lo ms k) (hR:R=(dg ns k+dg ms k+carry) % 4294967296) :
  val (cs++[R])+pw (k+1)*((dg ns k+dg ms k+carry) / 4294967296)=lo ns (k+1)+lo ms (k+1):=by
 rw [a8A,hl,acw,acw,afC,hR]
 have h:=Nat.div_add_mod (dg ns k+dg ms k+carry) 4294967296
 generalize (dg ns k+dg ms k+carry) / 4294967296=q at *
 generalize (dg ns k+dg ms k+carry) % 4294967296=r at *
 have h2:pw k*(4294967296*q+r)=pw k*(dg ns k+dg ms k+carry):=by rw [h]
 grind
theorem blO {cs ns ms:List Nat} {k carry M:Nat} (wn:Wds ns) (wm:Wds ms) (hn:ns.length≤M) (hm:ms.length≤M) (hk:k=M+1) (hv:val cs+pw k*carry=lo ns k+lo ms k):val cs=val ns+val ms:=by
 subst hk
 rw [acm (by omega),acm (by omega)] at hv
 have h1:=afS wn
 have h2:=afS wm
 have h3:=ajj hn
 have h4:=ajj hm
 rw [afC] at hv
 rcases Nat.eq_zero_or_pos carry with h0 | h0
 ·subst h0; omega
 ·have:4294967296*pw M*1≤4294967296*pw M*carry:=Nat.mul_le_mul_left _ h0
  omega
theorem bkJ {cs ns ms:List Nat} {k b d R:Nat} (hl:cs.length=k) (hv:val cs+lo ms k=lo ns k+pw k*b) (hb:b≤1) (hn:dg ns k < 4294967296) (hm:dg ms k < 4294967296) (hd:d=4294967296+dg ns k - dg ms k - b) (hR:R=d % 4294967296) :
  val (cs++[R])+lo ms (k+1)=lo ns (k+1)+pw (k+1)*(1 - d / 4294967296)∧1 - d / 4294967296≤1:=by
 refine ⟨?_,by omega⟩
 rw [a8A,hl,acw,acw,afC]
 have h5:R+dg ms k+b=dg ns k+4294967296*(1 - d / 4294967296):=by omega
 generalize 1 - d / 4294967296=q at *
 have h2:pw k*(R+dg ms k+b)=pw k*(dg ns k+4294967296*q):=by rw [h5]
 grind
theorem bdQ {cs ns ms:List Nat} {b:Nat} (wc:Wds cs) (hl:cs.length=ns.length) (hm:ms.length≤ns.length) (hle:val ms≤val ns) (hv:val cs+lo ms ns.length=lo ns ns.length+pw ns.length*b):val cs=val ns - val ms:=by
 rw [acm hm,acm (Nat.le_refl _)] at hv
 have h1:=afS wc
 rw [hl] at h1
 rcases Nat.eq_zero_or_pos b with h0 | h0
 ·subst h0; omega
 ·have:pw ns.length*1≤pw ns.length*b:=Nat.mul_le_mul_left _ h0
  omega
end Lw
namespace Go.Proofs.YtbihljnjaondcaaGreatDoor
open Go Go.RowKit Lw
set_option maxRecDepth 100000 in
set_option maxHeartbeats 3200000 in
theorem a6P (A A':Option Addr) (ns ms:List Nat) (n m c c' B B':Nat) (w:World) (h:Rd w B A ns) (h':Rd w B' A' ms) (hB:B≤w.heap.size) (hB':B'≤w.heap.size) (hn:ns.length=n) (hm:ms.length=m) (hl:n≤16777216) (hl':m≤16777216) :
  Calls Tryz.prog 162 #[.slice A n c,.slice A' m c'] w (a2T w (val ns+val ms)):=by
 have Hn:=Lib.hid hn
 have Hm:=Lib.hid hm
 clear hn hm
 obtain ⟨M,hM,hM1,hM2⟩ : ∃ M:Nat,(max (n:Int) (m:Int))=(M:Int)∧n≤M∧m≤M:=⟨max n m,by omega,by omega,by omega⟩
 have hMl:M≤16777216:=by omega
 go_enter Tryz.func162,Tryz.ntmps162
 go_wp2_with fail
 go_loopw [5,6,15] (fun v cv iv wr => ∃ (k carry:Nat) (cs:List Nat),k≤M+1∧carry≤1∧iv = .int .i64 k∧cv = .int .u64 carry∧wr.ownsRow w.heap.size 99 1 v k (arr cs)∧Wds cs ∧
   Hid (val cs+pw k*carry=lo ns k+lo ms k)∧Below w.heap.size w wr) (fun _ _ i _=>M+1 - (intOf i).toNat)
 case atStart=>exact ⟨0,0,[],by omega,by omega,rfl,rfl,World.ownsRow_nil _ _ _ _,ak5,Lib.hid (by rw [akf,akf]; rfl),Below.refl _ _⟩
 case round =>
  obtain ⟨k,carry,cs,hk,hcar,rfl,rfl,hown,hcw,hv,hbw⟩:=hrel
  have hr:=h.below (hbw.mono hB)
  have hr':=h'.below (hbw.mono hB')
  have hsz:=hbw.size
  have hlen:=hown.1
  rw [atC,Nat.mul_one] at hlen
  have HL:=Lib.hid hlen
  clear hlen
  by_cases hkM:k < M+1
  ·have hlt:=ahv h.wds k
   have hlt':=ahv h'.wds k
   obtain ⟨D,hD⟩ : ∃ D,D=dg ns k+dg ms k+carry:=⟨_,rfl⟩
   obtain ⟨R,hR⟩ : ∃ R,R=D % 4294967296:=⟨_,rfl⟩
   have HST:=Lib.hid (blP (R:=R) HL.out hv.out (by rw [hR,hD]))
   rw [← hD] at HST
   have hDl:D≤8589934591:=by omega
   have hRl:R < 4294967296:=by omega
   have hD1:((dg ns k:Int)+((dg ms k:Int)+(carry:Int)))=(D:Int):=by omega
   have hD2:(((dg ns k:Int)+(dg ms k:Int))+(carry:Int))=(D:Int):=by omega
   have hD3:((carry:Int)+((dg ns k:Int)+(dg ms k:Int)))=(D:Int):=by omega
   have hR1:(D:Int) % 4294967296=(R:Int):=by omega
   clear hD hR
   go_wp2_with fail
   refine (aom A ns n c B k _ hr Hn.out (by omega)).mono ?_
   rintro e w' ⟨rfl,rfl⟩
   go_wp2_with fail
   refine (aom A' ms m c' B' k _ hr' Hm.out (by omega)).mono ?_
   rintro e w' ⟨rfl,rfl⟩
   have a0Z:=(Blk.new wr 99 [R]).rd (by rw [alb]; exact ⟨by omega,ak5⟩)
   go_wp2_with (at_builtin; refine a7a _ rfl _ _ 22 rfl w.heap.size 99 bsw ami _ k cs rfl (hown.alloc _) _ _ [R] 1 1 rfl a0Z rfl (by omega) (by simp; omega) ?_; intro v' w4 hown4 hgrow4 hnil)
   have hgrow:(wr.alloc (.cells #[.int .u32 (R:Int)] 99)).grownBy w4 u5.ownBlock:=hgrow4
   have hb5:Below w.heap.size w w4:=(hbw.alloc (by omega) _).grown hgrow (by simp; omega) (fun k hk=>(hown.lt k hk).1)
   clear hgrow4 hnil hgrow a0Z
   go_roundw
   case rel =>
    refine ⟨k+1,D / 4294967296,cs++[R],by omega,by omega,by go_num,by go_num,hown4,a8F.2 ⟨hcw,by rw [alb]; exact ⟨hRl,ak5⟩⟩,HST,hb5⟩
   case measure=>simp [intOf]; omega
  ·obtain rfl:k=M+1:=by omega
   have HV:=Lib.hid (blO h.wds h'.wds (by rw [Hn.out]; exact hM1) (by rw [Hm.out]; exact hM2) rfl hv.out)
   obtain ⟨A5,c5,rfl,hr5,hl5⟩:=baC hown hcw
   go_wp2_with fail
   refine (a4Z A5 cs _ c5 _ _ hr5 (Nat.le_refl _) hl5 (by omega)).mono ?_
   rintro e w3 ⟨g,c6,rfl,hc6,hg6,hblk,hb6⟩
   rw [HV.out] at hc6 hblk
   rw [HV.out]
   have hb7:=aaR hbw hb6 (Nat.le_refl _)
   clear hown hr5 hr hr'
   go_wp2_with fail
   go_ret
   exact ⟨g,c6,rfl,hc6,Nat.le_trans hsz hg6,hblk,hb7⟩
set_option maxRecDepth 100000 in
set_option maxHeartbeats 3200000 in
theorem bm3 (A A':Option Addr) (ns ms:List Nat) (n m c c' B B':Nat) (w:World) (h:Rd w B A ns) (h':Rd w B' A' ms) (hB:B≤w.heap.size) (hB':B'≤w.heap.size) (hn:ns.length=n) (hm:ms.length=m) (hl:n≤16777216) (hl':m≤16777216) (ht:Trm ms) (hle:val ms≤val ns) :
  Calls Tryz.prog 164 #[.slice A n c,.slice A' m c'] w (a2T w (val ns - val ms)):=by
 have Hn:=Lib.hid hn
 have Hm:=Lib.hid hm
 have HMN:Hid (m≤n):=Lib.hid (by
  rcases Nat.eq_zero_or_pos m with h0 | h0
  ·omega
  ·have h1:=a4W ht (by intro e; rw [e] at hm; simp at hm; omega)
   have h2:=afS h.wds
   rw [hm] at h1
   rw [hn] at h2
   rcases Nat.lt_or_ge n m with h3 | h3
   ·have:=ajj (a:=n) (b:=m - 1) (by omega); omega
   ·exact h3)
 have HLE:=Lib.hid hle
 clear hn hm hle
 go_enter Tryz.func164,Tryz.ntmps164
 go_wp2_with fail
 go_loopw [5,6,11] (fun v bv iv wr => ∃ (k b:Nat) (cs:List Nat),k≤n∧b≤1∧iv = .int .i64 k∧bv = .int .u64 b∧wr.ownsRow w.heap.size 99 1 v k (arr cs)∧Wds cs ∧
   Hid (val cs+lo ms k=lo ns k+pw k*b)∧Below w.heap.size w wr) (fun _ _ i _=>n - (intOf i).toNat)
 case atStart=>exact ⟨0,0,[],by omega,by omega,rfl,rfl,World.ownsRow_nil _ _ _ _,ak5,Lib.hid (by rw [akf,akf]; rfl),Below.refl _ _⟩
 case round =>
  obtain ⟨k,b,cs,hk,hcar,rfl,rfl,hown,hcw,hv,hbw⟩:=hrel
  have hr:=h.below (hbw.mono hB)
  have hr':=h'.below (hbw.mono hB')
  have hsz:=hbw.size
  have hlen:=hown.1
  rw [atC,Nat.mul_one] at hlen
  have HL:=Lib.hid hlen
  clear hlen
  by_cases hkM:k < n
  ·have hlt:=ahv h.wds k
   have hlt':=ahv h'.wds k
   obtain ⟨D,hD⟩ : ∃ D,D=4294967296+dg ns k - dg ms k - b:=⟨_,rfl⟩
   obtain ⟨R,hR⟩ : ∃ R,R=D % 4294967296:=⟨_,rfl⟩
   have HST:=Lib.hid (bkJ (R:=R) HL.out hv.out hcar hlt hlt' hD hR)
   have hDl:D≤8589934591:=by omega
   have hRl:R < 4294967296:=by omega
   have hD1:((4294967296:Int)+(dg ns k:Int) - (dg ms k:Int) - (b:Int))=(D:Int):=by omega
   have hR1:(D:Int) % 4294967296=(R:Int):=by omega
   clear hD hR
   go_wp2_with fail
   refine (aom A ns n c B k _ hr Hn.out (by omega)).mono ?_
   rintro e w' ⟨rfl,rfl⟩
   go_wp2_with fail
   refine (aom A' ms m c' B' k _ hr' Hm.out (by omega)).mono ?_
   rintro e w' ⟨rfl,rfl⟩
   have a0Z:=(Blk.new wr 99 [R]).rd (by rw [alb]; exact ⟨by omega,ak5⟩)
   go_wp2_with (at_builtin; refine a7a _ rfl _ _ 22 rfl w.heap.size 99 bsw ami _ k cs rfl (hown.alloc _) _ _ [R] 1 1 rfl a0Z rfl (by omega) (by simp; omega) ?_; intro v' w4 hown4 hgrow4 hnil)
   have hgrow:(wr.alloc (.cells #[.int .u32 (R:Int)] 99)).grownBy w4 u5.ownBlock:=hgrow4
   have hb5:Below w.heap.size w w4:=(hbw.alloc (by omega) _).grown hgrow (by simp; omega) (fun k hk=>(hown.lt k hk).1)
   clear hgrow4 hnil hgrow a0Z
   go_roundw
   case rel =>
    refine ⟨k+1,1 - D / 4294967296,cs++[R],by omega,by omega,by go_num,by go_num,hown4,a8F.2 ⟨hcw,by rw [alb]; exact ⟨hRl,ak5⟩⟩,Lib.hid HST.out.1,hb5⟩
   case measure=>simp [intOf]; omega
  ·obtain rfl:k=n:=by omega
   have HV:Hid (val cs=val ns - val ms):=Lib.hid (bdQ hcw (by rw [HL.out,Hn.out]) (by rw [Hm.out,Hn.out]; exact HMN.out) HLE.out (by rw [Hn.out]; exact hv.out))
   obtain ⟨A5,c5,rfl,hr5,hl5⟩:=baC hown hcw
   go_wp2_with fail
   refine (a4Z A5 cs _ c5 _ _ hr5 (Nat.le_refl _) hl5 (by omega)).mono ?_
   rintro e w3 ⟨g,c6,rfl,hc6,hg6,hblk,hb6⟩
   rw [HV.out] at hc6 hblk
   rw [HV.out]
   have hb7:=aaR hbw hb6 (Nat.le_refl _)
   clear hown hr5 hr hr'
   go_wp2_with fail
   go_ret
   exact ⟨g,c6,rfl,hc6,Nat.le_trans hsz hg6,hblk,hb7⟩
end Go.Proofs.YtbihljnjaondcaaGreatDoor
namespace Lw
open Go Go.RowKit
theorem grown_drewN {a w:World} {g:Option Nat} (h:a.grownBy w g) (k:Nat):a.grownBy (w.drewN k) g:=⟨h.os,h.tape,h.output,h.size,h.block⟩
end Lw
namespace Go.Proofs.YtbihljnjaondcaaGreatDoor
open Go Go.RowKit Lw
set_option maxRecDepth 100000 in
set_option maxHeartbeats 6400000 in
theorem a8h (A A':Option Addr) (ns ms:List Nat) (n m c c' B B':Nat) (w:World) (h:Rd w B A ns) (h':Rd w B' A' ms) (hB:B≤w.heap.size) (hB':B'≤w.heap.size) (hn:ns.length=n) (hm:ms.length=m) (hl:n≤16777216) (hl':m≤16777216) :
  Calls Tryz.prog 166 #[.slice A n c,.slice A' m c'] w (a2T w (val ns*val ms)):=by
 have Hn:=Lib.hid hn
 have Hm:=Lib.hid hm
 clear hn hm
 go_enter Tryz.func166,Tryz.ntmps166
 go_wp2_with (at_make; refine aAN _ rfl _ _ _ rfl 99 bsw ami _ _ _ _ (n+m) rfl rfl (by omega) (by omega) (by omega) ?_; intro w1 hblk hbel hsz)
 go_loopw [18] (fun i wr => ∃ (k:Nat) (cs:List Nat),k≤n∧i = .int .i64 k∧Blk wr w.heap.size 99 cs∧Hid (cs.length=n+m)∧Wds cs ∧
   Hid (lo cs (k+m)=lo ns k*val ms)∧Hid (∀ j,k+m≤j→dg cs j=0)∧Below w.heap.size w wr) (fun i _=>n - (intOf i).toNat)
 case atStart=>exact ⟨0,_,Nat.zero_le _,rfl,hblk,Lib.hid (by simp),az8 _,Lib.hid (by rw [a6C (b:=[]) _ (fun j _=>by rw [a6f]; rfl),acm (by simp),akf]; simp [val]),Lib.hid (fun j _=>a6f _ _),hbel⟩
 case round =>
  obtain ⟨k,cs,hk,rfl,hb1,hcl,hcw,hv,hz,hbw⟩:=hrel
  clear hblk hbel hsz
  have hr:=h.below (hbw.mono hB)
  have hr':=h'.below (hbw.mono hB')
  have hsz1:=hb1.lt
  by_cases hkn:k < n
  ·obtain ⟨b,off,rfl,hb,hcell,hlt⟩:=hr.at_ (k:=k) (by rw [Hn.out]; omega)
   have Hne:Hid (0 < m → ∀ a,A'=some a→a.block≠w.heap.size):=Lib.hid (fun hp a ha=>by
    obtain ⟨b,off,hA,hb,_⟩:=h'.2 (by rw [Hm.out]; exact hp)
    rw [ha] at hA; injection hA with e; subst e; exact Nat.ne_of_lt (Nat.lt_of_lt_of_le hb hB'))
   obtain ⟨x,hx⟩ : ∃ x,x=dg ns k:=⟨_,rfl⟩
   rw [← hx] at hcell hlt
   have HX:=Lib.hid hx
   clear hx
   go_wp2_with fail
   go_loopw [7,23] (fun cv jv wi => ∃ (j carry:Nat) (ds:List Nat),j≤m∧carry < 4294967296∧jv = .int .i64 j∧cv = .int .u64 carry∧Blk wi w.heap.size 99 ds∧Hid (ds.length=cs.length)∧Wds ds ∧
     Hid (∀ i,i < k∨k+j≤i→dg ds i=dg cs i)∧Hid (lo ds (k+j)+pw (k+j)*carry=lo cs (k+j)+pw k*(lo ms j*x))∧Hid (wr.grownBy wi (some w.heap.size)∧wi.heap.size=wr.heap.size)) (fun _ i _=>m - (intOf i).toNat)
   case atStart=>exact ⟨0,0,cs,Nat.zero_le _,by omega,rfl,rfl,hb1,Lib.hid rfl,hcw,Lib.hid (fun _ _=>rfl),Lib.hid (by simp [akf]),Lib.hid ⟨World.grownBy.refl wr _,rfl⟩⟩
   case round =>
    obtain ⟨j,carry,ds,hj,hcar,rfl,rfl,hb2,hdl,hdw,hsame,hval,hg⟩:=hrel
    clear hb1
    have bdr:=hg.out.2
    have bpS:=hbw.size
    by_cases hjm:j < m
    ·have hr2:=hr'.grown hg.out.1 (by omega) (fun hp=>Hne.out (by omega))
     obtain ⟨b',off',rfl,hbb,hcell',hlt'⟩:=hr2.at_ (k:=j) (by rw [Hm.out]; omega)
     have hcn:=(World.cell?_of_block (a:=⟨b,off+k,none⟩) (hg.out.1.block b (by omega) (by intro e; injection e; omega))).trans hcell
     have hcc:=hb2.cell (i:=k+j) (by rw [hdl.out,hcl.out]; omega)
     have hfr:=hb2.frozen (k+j)
     have a3f:=ahv hdw (k+j)
     have Hd:Hid (dg ds (k+j)=dg cs (k+j)):=Lib.hid (hsame.out _ (.inr (Nat.le_refl _)))
     have Hst:=fun (y d z z':Nat) (e1:y=dg ms j) (e2:d=dg ds (k+j))=>bbI (cs:=ds) (o:=k) (k:=j) (c:=carry) (lc:=lo cs (k+j)) (lm:=lo ms j) (x:=x) (y:=y) (d:=d) (z:=z) (z':=z') (by rw [hdl.out,hcl.out]; omega) hval.out
     have hset:=fun v=>hb2.a1c (i:=k+j) v (by rw [hdl.out,hcl.out]; omega)
     obtain ⟨y,hy⟩ : ∃ y,y=dg ms j:=⟨_,rfl⟩
     obtain ⟨d,hd⟩ : ∃ d,d=dg ds (k+j):=⟨_,rfl⟩
     have HY:=Lib.hid hy
     have HD:=Lib.hid hd
     have HST:=Lib.hid (Hst y d (lo cs (k+j+1)) (lo ms (j+1)) hy hd (by rw [hd,Hd.out]; exact acw _ _) (by rw [hy]; exact acw _ _))
     have a1C:=Lib.hid hset
     rw [← hy] at hcell' hlt'
     rw [← hd] at hcc a3f Hd
     clear hy hd Hst hset
     obtain ⟨a99,a9'⟩:=a6E hlt hlt'
     obtain ⟨P,hP⟩ : ∃ P,P=x*y:=⟨_,rfl⟩
     have hPi:(x:Int)*(y:Int)=(P:Int):=by rw [hP]; simp
     rw [hPi] at a99 a9'
     have hQ1:IntKind.u64.wrap ((x:Int)*(y:Int))=(P:Int):=by rw [hPi]; exact IntWalk.u64_in _ (by omega)
     obtain ⟨Q,hQ⟩ : ∃ Q,Q=P+d:=⟨_,rfl⟩
     have hQ2:IntKind.u64.wrap ((P:Int)+(d:Int))=(Q:Int):=by rw [show (P:Int)+(d:Int)=(Q:Int) by omega]; exact IntWalk.u64_in _ (by omega)
     obtain ⟨D,hD⟩ : ∃ D,D=Q+carry:=⟨_,rfl⟩
     have hQ3:IntKind.u64.wrap ((Q:Int)+(carry:Int))=(D:Int):=by rw [show (Q:Int)+(carry:Int)=(D:Int) by omega]; exact IntWalk.u64_in _ (by omega)
     have HDD:Hid (D=carry+(x*y+d)):=Lib.hid (by omega)
     have hDl:D≤18446744073709551615:=by omega
     obtain ⟨R,hR⟩ : ∃ R,R=D % 4294967296:=⟨_,rfl⟩
     have hRl:R < 4294967296:=by omega
     have hR1:(D:Int) % 4294967296=(R:Int):=by omega
     have HR:=Lib.hid hR
     obtain ⟨C,hC⟩ : ∃ C,C=D / 4294967296:=⟨_,rfl⟩
     have hCl:C < 4294967296:=by omega
     have hC1:(D:Int) / 4294967296=(C:Int):=by omega
     have HC:=Lib.hid hC
     clear hP hQ hD hR hC hPi
     go_wp2_with fail
     go_quiet (fail)
     go_wp2_with fail
     go_roundw
     case rel =>
      refine ⟨j+1,C,ds.set (k+j) R,by omega,hCl,by go_num,by go_num,a1C.out R,Lib.hid (by rw [List.length_set]; exact hdl.out),alc hdw _ hRl,Lib.hid ?_,Lib.hid ?_,Lib.hid ⟨a1q (grown_drewN hg.out.1 _) _ _,by simp [World.drewN,hg.out.2]⟩⟩
      ·intro i hi
       rw [am3 _ (by rw [hdl.out,hcl.out]; omega),if_neg (by omega)]
       exact hsame.out i (by omega)
      ·have:=HST.out
       rw [← HDD.out,← HR.out,← HC.out] at this
       exact this
     case measure=>simp [intOf]; omega
    ·obtain rfl:j=m:=by omega
     have hcc:=hb2.cell (i:=k+j) (by rw [hdl.out,hcl.out]; omega)
     have hfr:=hb2.frozen (k+j)
     have hkl:Hid (k+j < ds.length):=Lib.hid (by rw [hdl.out,hcl.out]; omega)
     have hset:=Lib.hid (hb2.a1c (i:=k+j) carry hkl.out)
     go_wp2_with fail
     go_roundw
     case rel =>
      refine ⟨k+1,ds.set (k+j) carry,by omega,by go_num,hset.out,Lib.hid (by rw [List.length_set,hdl.out]; exact hcl.out),alc hdw _ hcar,Lib.hid ?_,Lib.hid ?_,(below_of_grown hbw hg.out.1 (by omega) (Nat.le_refl _)).setCell (Nat.le_refl _) _⟩
      ·rw [show k+1+j=k+j+1 by omega]
       refine bdU hkl.out hv.out ?_ (by rw [acw,← HX.out])
       rw [hval.out,acm (l:=ms) (by rw [Hm.out]; exact Nat.le_refl _)]
      ·intro i hi
       rw [am3 _ hkl.out,if_neg (by omega),hsame.out i (by omega)]
       exact hz.out i (by omega)
     case measure=>simp [intOf]; omega
  ·obtain rfl:k=n:=by omega
   have HV:Hid (val cs=val ns*val ms):=Lib.hid (by
    have e:=hv.out
    rwa [acm (by rw [hcl.out]; exact Nat.le_refl _),acm (l:=ns) (by rw [Hn.out]; exact Nat.le_refl _)] at e)
   go_wp2_with fail
   refine (a4Z _ cs _ _ _ _ (hb1.rd hcw) (Nat.le_refl _) hcl.out (by omega)).mono ?_
   rintro e w3 ⟨g,c6,rfl,hc6,hg6,hblk,hb6⟩
   rw [HV.out] at hc6 hblk
   rw [HV.out]
   have hb7:=aaR hbw hb6 (Nat.le_refl _)
   have hsz:=hbw.size
   clear hr hr' hb1
   go_wp2_with fail
   go_ret
   exact ⟨g,c6,rfl,hc6,Nat.le_trans hsz hg6,hblk,hb7⟩
end Go.Proofs.YtbihljnjaondcaaGreatDoor
