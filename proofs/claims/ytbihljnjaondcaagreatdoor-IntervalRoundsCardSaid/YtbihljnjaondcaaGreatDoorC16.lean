/- Part of a proof, said shortly. -/
import Derived.BigQuiet
import Derived.Test.YtbihljnjaondcaaGreatDoorAlz
import Derived.Test.YtbihljnjaondcaaGreatDoorC14
import Derived.Test.YtbihljnjaondcaaGreatDoorC13
import Derived.Test.YtbihljnjaondcaaGreatDoorC12
import Derived.Test.YtbihljnjaondcaaGreatDoorC11
import Derived.Test.YtbihljnjaondcaaGreatDoorC10
import Derived.Test.YtbihljnjaondcaaGreatDoorC6
import Derived.Test.YtbihljnjaondcaaGreatDoorC2
import Derived.Test.YtbihljnjaondcaaGreatDoorC1
import Derived.Test.YtbihljnjaondcaaGreatDoorC5
import Derived.Test.YtbihljnjaondcaaGreatDoorC4
import Derived.Test.YtbihljnjaondcaaGreatDoorC3
import Derived.Test.YtbihljnjaondcaaGreatDoorC9
import Derived.Test.YtbihljnjaondcaaGreatDoorC8
import Derived.Test.YtbihljnjaondcaaGreatDoorC7
namespace Go.Proofs.YtbihljnjaondcaaGreatDoor
open Go Go.RowKit Lw
theorem bG.start {w:World} (ht:Tz w) (hb:Tab w):bG w w [] [] [] []:=⟨⟨fun _ h=>by simp at h,fun _ h=>by simp at h,Below.refl _ _⟩,fun _ h=>by simp at h,fun _ h=>by simp at h,ht,hb,fun _ h=>by simp at h,fun _ h=>by simp at h⟩
end Go.Proofs.YtbihljnjaondcaaGreatDoor
namespace Lw
open Go Go.RowKit
structure Fh where
 s:Bool
 A:Option Addr
 n:Nat
 c:Nat
 A':Option Addr
 n':Nat
 c':Nat
def Fh.cells (a:Fh):List Value:=[.bool a.s,.slice a.A a.n a.c,.slice a.A' a.n' a.c']
end Lw
namespace Lw
open Go Go.RowKit
theorem fJ.shape {w:World} {e:Qn} (h:fJ w e) : ∃ (s:Bool) (A:Option Addr) (n c:Nat) (A':Option Addr) (n' c':Nat),e.v = .agg #[.bool s,.slice A n c,.slice A' n' c']:=by
 obtain ⟨s,A,n,c,A',n',c',_,_,h1,_⟩:=h
 exact ⟨s,A,n,c,A',n',c',h1⟩
theorem fJ.cut {w:World} {s b:Bool} {A A':Option Addr} {n c n' c' k K:Nat} {q:Rat} (h:fJ w ⟨.agg #[.bool s,.slice A n c,.slice A' n' c'],q,k,b⟩) (hn:n≤K) (hn':n'≤K) :
  fJ w ⟨.agg #[.bool s,.slice A n c,.slice A' n' c'],q,K,b⟩:=by
 obtain ⟨s',A1,n1,c1,A2,n2,c2,ns,ms,h1,h2,h3,h4,h5,h6,h7,h8⟩:=h
 dsimp only at h1
 injection h1 with h1
 injection h1 with h1
 simp only [List.cons.injEq,Value.bool.injEq,Value.slice.injEq,and_true] at h1
 obtain ⟨rfl,⟨rfl,rfl,rfl⟩,rfl,rfl,rfl⟩:=h1
 exact ⟨s,A,n,c,A',n',c',ns,ms,rfl,h2,h3,h4,h5,hn,hn',h8⟩
end Lw
namespace Go.Proofs.YtbihljnjaondcaaGreatDoor
open Go Go.RowKit Lw
section
variable {W0 w:World} {bs:List Bx} {L:List En} {ts:List Bt} {M:List Qn} {v v':Value} {q r:Rat} {k k':Nat} {b b':Bool}
def xH (W0:World) (bs:List Bx) (L:List En) (ts:List Bt) (M:List Qn) (q:Rat) (k:Nat) (e:Ending) (w':World):Prop :=
 ∃ u,e = .returned u∧bG W0 w' bs L ts (⟨u,q,k,true⟩ :: M)
theorem xH.of {e:Ending} (hh:jB W0 bs L ts M q k e w):xH W0 bs L ts M q k e w:=by
 obtain ⟨s,A,n,c,A',n',c',rfl,he⟩:=hh
 exact ⟨_,rfl,he⟩
theorem ayA (HE:bG W0 w bs L ts M) (h:⟨v,q,k,b⟩∈M) (h':⟨v',r,k',b'⟩∈M) (hk:k+k'≤8000) :
  Calls Tryz.prog 72 #[v,v'] w (xH W0 bs L ts M (q+r) (k+k'+2)):=by
 obtain ⟨s,A,n,c,A',n',c',e1⟩:=(HE.fr _ h).shape
 obtain ⟨t,B,m,d,B',m',d',e2⟩:=(HE.fr _ h').shape
 dsimp only at e1 e2
 subst e1 e2
 exact (ayz HE h h' hk).mono fun _ _ hh=>xH.of hh
theorem ayR (HE:bG W0 w bs L ts M) (h:⟨v,q,k,b⟩∈M) (h':⟨v',r,k',b'⟩∈M) (hk:k+k'≤8000) :
  Calls Tryz.prog 74 #[v,v'] w (xH W0 bs L ts M (q*r) (k+k'+2)):=by
 obtain ⟨s,A,n,c,A',n',c',e1⟩:=(HE.fr _ h).shape
 obtain ⟨t,B,m,d,B',m',d',e2⟩:=(HE.fr _ h').shape
 dsimp only at e1 e2
 subst e1 e2
 exact (ayQ HE h h' hk).mono fun _ _ hh=>xH.of hh
theorem ay6 (HE:bG W0 w bs L ts M) (h:⟨v,q,k,b⟩∈M) (hk:k≤100000) :
  Calls Tryz.prog 113 #[v] w fun e w'=>e = .returned (.bool b)∧bG W0 w' bs L ts M:=by
 obtain ⟨s,A,n,c,A',n',c',ns,ms,e1,r1,r2,e2,e3,e4,e5,e6,e7,e8,e9⟩:=HE.fr _ h
 dsimp only at e1 e4 e5 e9
 subst e1 e9
 exact (am0 s A A' ns ms n n' c c' _ _ w r1 r2 (Nat.le_refl _) (Nat.le_refl _) e2 e3 (by omega) (by omega) e6 e7 (HE.tz.next HE.below)).mono fun e w' hh=>⟨hh.1,HE.next hh.2⟩
theorem bG.c9 {g1 g2 g3:Nat} {x1 y1 z1 x2 y2 z2 x3 y3 z3:Value} (h:bG W0 w bs L ts M) (h1:⟨g1,x1,y1,z1⟩∈ts) (h2:⟨g2,x2,y2,z2⟩∈ts) (h3:⟨g3,x3,y3,z3⟩∈ts) :
  w.cell? ⟨g1,0,none⟩=some x1∧w.cell? ⟨g1,1,none⟩=some y1∧w.cell? ⟨g1,2,none⟩=some z1∧w.cell? ⟨g2,0,none⟩=some x2∧w.cell? ⟨g2,1,none⟩=some y2∧w.cell? ⟨g2,2,none⟩=some z2∧w.cell? ⟨g3,0,none⟩=some x3∧w.cell? ⟨g3,1,none⟩=some y3∧w.cell? ⟨g3,2,none⟩=some z3 :=
 ⟨(h.c3 h1).1,(h.c3 h1).2.1,(h.c3 h1).2.2.1,(h.c3 h2).1,(h.c3 h2).2.1,(h.c3 h2).2.2.1,(h.c3 h3).1,(h.c3 h3).2.1,(h.c3 h3).2.2.1⟩
end
end Go.Proofs.YtbihljnjaondcaaGreatDoor
namespace Lw
open Go
theorem aov {a b:List Nat} {k M:Nat} (hk:k≤M) (h : ∀ j,k≤j→j < M→dg a j=dg b j) : ∃ z,lo a M=lo a k+z∧lo b M=lo b k+z:=by
 induction M with
 | zero =>
  have:k=0:=by omega
  subst this
  exact ⟨0,rfl,rfl⟩
 | succ M ih =>
  rcases Nat.lt_or_ge k (M+1) with h1 | h1
  ·obtain ⟨z,e1,e2⟩:=ih (by omega) (fun j hj hj'=>h j hj (by omega))
   have:=h M (by omega) (by omega)
   refine ⟨z+pw M*dg a M,?_,?_⟩
   ·rw [lg,e1]; omega
   ·rw [lg,e2,← this]; omega
  ·have:k=M+1:=by omega
   subst this
   exact ⟨0,rfl,rfl⟩
def Agree (a b:List Nat) (k:Nat):Prop := ∀ j,k≤j→dg a j=dg b j
theorem axc {a b:List Nat} {M:Nat} (ha:a.length≤M) (hb:b.length≤M):Agree a b M:=fun j hj=>by rw [NK (by omega),NK (by omega)]
theorem axd {a b:List Nat} {k:Nat} (h:Agree a b (k+1)) (hd:dg a k=dg b k):Agree a b k:=fun j hj=>by
 rcases Nat.lt_or_ge k j with h1 | h1
 ·exact h j h1
 ·have:j=k:=by omega
  subst this; exact hd
theorem alC {a b:List Nat} {k:Nat} (wa:fQ a) (h:Agree a b (k+1)) (hd:dg a k < dg b k):val a < val b:=by
 obtain ⟨z,e1,e2⟩:=aov (a:=a) (b:=b) (k:=k+1) (M:=a.length+b.length+(k+1)) (by omega) (fun j hj _=>h j hj)
 rw [lG (by omega),lg] at e1 e2
 have h3:=BQ wa k
 have h4:pw k*(dg a k+1)≤pw k*dg b k:=Nat.mul_le_mul_left _ hd
 rw [Nat.mul_add,Nat.mul_one] at h4
 omega
theorem axe {a b:List Nat} (h:Agree a b 0):val a=val b:=by
 obtain ⟨z,e1,e2⟩:=aov (a:=a) (b:=b) (k:=0) (M:=a.length+b.length) (by omega) (fun j hj _=>h j hj)
 rw [lG (by omega)] at e1 e2
 rw [xM] at e1 e2
 omega
end Lw
namespace Go.Proofs.YtbihljnjaondcaaGreatDoor
open Go Go.RowKit Lw
set_option maxRecDepth 100000 in
set_option maxHeartbeats 1600000 in
theorem OC (A A':Option Addr) (ns ms:List Nat) (n m c c' B B':Nat) (w:World) (h:Rd w B A ns) (h':Rd w B' A' ms) (hn:ns.length=n) (hm:ms.length=m) (hl:n≤16777216) (hl':m≤16777216) :
  Calls Tryz.prog 163 #[.slice A n c,.slice A' m c'] w fun e w'=>e = .returned (.int .i64 (yB (val ns) (val ms)))∧w=w':=by
 have Hn:=Lib.hid hn
 have Hm:=Lib.hid hm
 clear hn hm
 obtain ⟨M,hM,hM1,hM2⟩ : ∃ M:Nat,(max (n:Int) (m:Int))=(M:Int)∧n≤M∧m≤M:=⟨max n m,by omega,by omega,by omega⟩
 have Yb:M≤16777216:=by omega
 go_enter Tryz.func163,Tryz.ntmps163
 go_wp2_with fail
 go_loopw [5] (fun v wr => ∃ i:Int,-1≤i∧i < M∧v = .int .i64 i∧Hid (Agree ns ms (i+1).toNat)∧w=wr) (fun v _=>(intOf v+1).toNat)
 case atStart=>exact ⟨(M:Int) - 1,by omega,by omega,rfl,Lib.hid (by rw [show ((M:Int) - 1+1).toNat=M by omega]; exact axc (by rw [Hn.out]; exact hM1) (by rw [Hm.out]; exact hM2)),rfl⟩
 case round =>
  obtain ⟨i,hi,hiM,rfl,hag,rfl⟩:=hrel
  by_cases h0:i < 0
  ·have HV:Hid (val ns=val ms):=Lib.hid (axe (by have:=hag.out; rwa [show (i+1).toNat=0 by omega] at this))
   go_wp2_with fail
   go_ret
   exact ⟨rF (by rw [Ur HV.out]),rfl⟩
  ·obtain ⟨k,rfl⟩:=Int.eq_ofNat_of_zero_le (show 0≤i by omega)
   have hs1:Hid (Agree ns ms (k+1)):=Lib.hid (by have:=hag.out; rwa [show ((k:Int)+1).toNat=k+1 by omega] at this)
   clear hag
   have hlt:=ve h.gW k
   have hlt':=ve h'.gW k
   rcases Nat.lt_trichotomy (dg ns k) (dg ms k) with hd | hd | hd
   ·have hb1:((dg ns k:Int) != (dg ms k:Int))=true:=by rw [bne_iff_ne]; omega
    have HR:=Lib.hid (Py (alC h.gW hs1.out hd))
    go_wp2_with fail
    refine (BB A ns n c B k _ h Hn.out (by omega)).mono ?_
    rintro e w' ⟨rfl,rfl⟩
    go_wp2_with fail
    refine (BB A' ms m c' B' k _ h' Hm.out (by omega)).mono ?_
    rintro e w' ⟨rfl,rfl⟩
    go_wp2_with fail
    refine (BB A ns n c B k _ h Hn.out (by omega)).mono ?_
    rintro e w' ⟨rfl,rfl⟩
    go_wp2_with fail
    refine (BB A' ms m c' B' k _ h' Hm.out (by omega)).mono ?_
    rintro e w' ⟨rfl,rfl⟩
    go_wp2_with fail
    go_ret
    exact ⟨rF (by rw [HR.out]),rfl⟩
   ·have hb1:((dg ns k:Int) != (dg ms k:Int))=false:=by rw [bne_eq_false_iff_eq]; omega
    have HS:=Lib.hid (axd hs1.out hd)
    go_wp2_with fail
    refine (BB A ns n c B k _ h Hn.out (by omega)).mono ?_
    rintro e w' ⟨rfl,rfl⟩
    go_wp2_with fail
    refine (BB A' ms m c' B' k _ h' Hm.out (by omega)).mono ?_
    rintro e w' ⟨rfl,rfl⟩
    go_wp2_with fail
    go_roundw
    case rel=>exact ⟨(k:Int) - 1,by omega,by omega,rfl,Lib.hid (by rw [show ((k:Int) - 1+1).toNat=k by omega]; exact HS.out),trivial⟩
    case measure=>simp [intOf]
   ·have hb1:((dg ns k:Int) != (dg ms k:Int))=true:=by rw [bne_iff_ne]; omega
    have HR:=Lib.hid (Rt (alC h'.gW (fun j hj=>(hs1.out j hj).symm) hd))
    go_wp2_with fail
    refine (BB A ns n c B k _ h Hn.out (by omega)).mono ?_
    rintro e w' ⟨rfl,rfl⟩
    go_wp2_with fail
    refine (BB A' ms m c' B' k _ h' Hm.out (by omega)).mono ?_
    rintro e w' ⟨rfl,rfl⟩
    go_wp2_with fail
    refine (BB A ns n c B k _ h Hn.out (by omega)).mono ?_
    rintro e w' ⟨rfl,rfl⟩
    go_wp2_with fail
    refine (BB A' ms m c' B' k _ h' Hm.out (by omega)).mono ?_
    rintro e w' ⟨rfl,rfl⟩
    go_wp2_with fail
    go_ret
    exact ⟨rF (by rw [HR.out]),rfl⟩
end Go.Proofs.YtbihljnjaondcaaGreatDoor
namespace Lw
open Go
theorem aBY {cs ns ms:List Nat} {k carry R:Nat} (hl:cs.length=k) (hv:val cs+pw k*carry=lo ns k+lo ms k) (hR:R=(dg ns k+dg ms k+carry) % 4294967296) :
  val (cs++[R])+pw (k+1)*((dg ns k+dg ms k+carry) / 4294967296)=lo ns (k+1)+lo ms (k+1):=by
 rw [ajS,hl,lg,lg,vH,hR]
 have h:=Nat.div_add_mod (dg ns k+dg ms k+carry) 4294967296
 generalize (dg ns k+dg ms k+carry) / 4294967296=q at *
 generalize (dg ns k+dg ms k+carry) % 4294967296=r at *
 have h2:pw k*(4294967296*q+r)=pw k*(dg ns k+dg ms k+carry):=by rw [h]
 grind
theorem aBX {cs ns ms:List Nat} {k carry M:Nat} (wn:fQ ns) (wm:fQ ms) (hn:ns.length≤M) (hm:ms.length≤M) (hk:k=M+1) (hv:val cs+pw k*carry=lo ns k+lo ms k):val cs=val ns+val ms:=by
 subst hk
 rw [lG (by omega),lG (by omega)] at hv
 have h1:=sW wn
 have h2:=sW wm
 have h3:=uX hn
 have h4:=uX hm
 rw [vH] at hv
 rcases Nat.eq_zero_or_pos carry with h0 | h0
 ·subst h0; omega
 ·have:4294967296*pw M*1≤4294967296*pw M*carry:=Nat.mul_le_mul_left _ h0
  omega
theorem aA9 {cs ns ms:List Nat} {k b d R:Nat} (hl:cs.length=k) (hv:val cs+lo ms k=lo ns k+pw k*b) (hb:b≤1) (hn:dg ns k < 4294967296) (hm:dg ms k < 4294967296) (hd:d=4294967296+dg ns k - dg ms k - b) (hR:R=d % 4294967296) :
  val (cs++[R])+lo ms (k+1)=lo ns (k+1)+pw (k+1)*(1 - d / 4294967296)∧1 - d / 4294967296≤1:=by
 refine ⟨?_,by omega⟩
 rw [ajS,hl,lg,lg,vH]
 have h5:R+dg ms k+b=dg ns k+4294967296*(1 - d / 4294967296):=by omega
 generalize 1 - d / 4294967296=q at *
 have h2:pw k*(R+dg ms k+b)=pw k*(dg ns k+4294967296*q):=by rw [h5]
 grind
theorem aoY {cs ns ms:List Nat} {b:Nat} (wc:fQ cs) (hl:cs.length=ns.length) (hm:ms.length≤ns.length) (hle:val ms≤val ns) (hv:val cs+lo ms ns.length=lo ns ns.length+pw ns.length*b):val cs=val ns - val ms:=by
 rw [lG hm,lG (Nat.le_refl _)] at hv
 have h1:=sW wc
 rw [hl] at h1
 rcases Nat.eq_zero_or_pos b with h0 | h0
 ·subst h0; omega
 ·have:pw ns.length*1≤pw ns.length*b:=Nat.mul_le_mul_left _ h0
  omega
end Lw
namespace Go.Proofs.YtbihljnjaondcaaGreatDoor
open Go Go.RowKit Lw
set_option maxRecDepth 100000 in
set_option maxHeartbeats 3200000 in
theorem ajc (A A':Option Addr) (ns ms:List Nat) (n m c c' B B':Nat) (w:World) (h:Rd w B A ns) (h':Rd w B' A' ms) (hB:B≤w.heap.size) (hB':B'≤w.heap.size) (hn:ns.length=n) (hm:ms.length=m) (hl:n≤16777216) (hl':m≤16777216) :
  Calls Tryz.prog 162 #[.slice A n c,.slice A' m c'] w (Um w (val ns+val ms)):=by
 have Hn:=Lib.hid hn
 have Hm:=Lib.hid hm
 clear hn hm
 obtain ⟨M,hM,hM1,hM2⟩ : ∃ M:Nat,(max (n:Int) (m:Int))=(M:Int)∧n≤M∧m≤M:=⟨max n m,by omega,by omega,by omega⟩
 have Yb:M≤16777216:=by omega
 go_enter Tryz.func162,Tryz.ntmps162
 go_wp2_with fail
 go_loopw [5,6,15] (fun v cv iv wr => ∃ (k carry:Nat) (cs:List Nat),k≤M+1∧carry≤1∧iv = .int .i64 k∧cv = .int .u64 carry∧wr.ownsRow w.heap.size 99 1 v k (arr cs)∧fQ cs ∧
   Hid (val cs+pw k*carry=lo ns k+lo ms k)∧Below w.heap.size w wr) (fun _ _ i _=>M+1 - (intOf i).toNat)
 case atStart=>exact ⟨0,0,[],by omega,by omega,rfl,rfl,World.ownsRow_nil _ _ _ _,Bj,Lib.hid (by rw [xM,xM]; rfl),Below.refl _ _⟩
 case round =>
  obtain ⟨k,carry,cs,hk,hcar,rfl,rfl,hown,hcw,hv,hbw⟩:=hrel
  have hr:=h.below (hbw.mono hB)
  have hr':=h'.below (hbw.mono hB')
  have hsz:=hbw.size
  have hlen:=hown.1
  rw [GX,Nat.mul_one] at hlen
  have HL:=Lib.hid hlen
  clear hlen
  by_cases hkM:k < M+1
  ·have hlt:=ve h.gW k
   have hlt':=ve h'.gW k
   obtain ⟨D,hD⟩ : ∃ D,D=dg ns k+dg ms k+carry:=⟨_,rfl⟩
   obtain ⟨R,hR⟩ : ∃ R,R=D % 4294967296:=⟨_,rfl⟩
   have HST:=Lib.hid (aBY (R:=R) HL.out hv.out (by rw [hR,hD]))
   rw [← hD] at HST
   have hDl:D≤8589934591:=by omega
   have hRl:R < 4294967296:=by omega
   have hD1:((dg ns k:Int)+((dg ms k:Int)+(carry:Int)))=(D:Int):=by omega
   have hD2:(((dg ns k:Int)+(dg ms k:Int))+(carry:Int))=(D:Int):=by omega
   have hD3:((carry:Int)+((dg ns k:Int)+(dg ms k:Int)))=(D:Int):=by omega
   have hR1:(D:Int) % 4294967296=(R:Int):=by omega
   clear hD hR
   go_wp2_with fail
   refine (BB A ns n c B k _ hr Hn.out (by omega)).mono ?_
   rintro e w' ⟨rfl,rfl⟩
   go_wp2_with fail
   refine (BB A' ms m c' B' k _ hr' Hm.out (by omega)).mono ?_
   rintro e w' ⟨rfl,rfl⟩
   have PO:=(fH.new wr 99 [R]).rd (by rw [Cb]; exact ⟨by omega,Bj⟩)
   go_wp2_with (at_builtin; refine afk _ rfl _ _ 22 rfl w.heap.size 99 aYN Az _ k cs rfl (hown.alloc _) _ _ [R] 1 1 rfl PO rfl (by omega) (by simp; omega) ?_; intro v' w4 hown4 hgrow4 hnil)
   have hgrow:(wr.alloc (.cells #[.int .u32 (R:Int)] 99)).grownBy w4 u5.ownBlock:=hgrow4
   have hb5:Below w.heap.size w w4:=(hbw.alloc (by omega) _).grown hgrow (by simp; omega) (fun k hk=>(hown.lt k hk).1)
   clear hgrow4 hnil hgrow PO
   go_roundw
   case rel =>
    refine ⟨k+1,D / 4294967296,cs++[R],by omega,by omega,by go_num,by go_num,hown4,akl.2 ⟨hcw,by rw [Cb]; exact ⟨hRl,Bj⟩⟩,HST,hb5⟩
   case measure=>simp [intOf]; omega
  ·obtain rfl:k=M+1:=by omega
   have HV:=Lib.hid (aBX h.gW h'.gW (by rw [Hn.out]; exact hM1) (by rw [Hm.out]; exact hM2) rfl hv.out)
   obtain ⟨A5,c5,rfl,yj,hl5⟩:=apE hown hcw
   go_wp2_with fail
   refine (Vk A5 cs _ c5 _ _ yj (Nat.le_refl _) hl5 (by omega)).mono ?_
   rintro e w3 ⟨g,c6,rfl,hc6,wC,hblk,hb6⟩
   rw [HV.out] at hc6 hblk
   rw [HV.out]
   have hb7:=fK hbw hb6 (Nat.le_refl _)
   clear hown yj hr hr'
   go_wp2_with fail
   go_ret
   exact ⟨g,c6,rfl,hc6,Nat.le_trans hsz wC,hblk,hb7⟩
set_option maxRecDepth 100000 in
set_option maxHeartbeats 3200000 in
theorem aEa (A A':Option Addr) (ns ms:List Nat) (n m c c' B B':Nat) (w:World) (h:Rd w B A ns) (h':Rd w B' A' ms) (hB:B≤w.heap.size) (hB':B'≤w.heap.size) (hn:ns.length=n) (hm:ms.length=m) (hl:n≤16777216) (hl':m≤16777216) (ht:wP ms) (hle:val ms≤val ns) :
  Calls Tryz.prog 164 #[.slice A n c,.slice A' m c'] w (Um w (val ns - val ms)):=by
 have Hn:=Lib.hid hn
 have Hm:=Lib.hid hm
 have WT:Hid (m≤n):=Lib.hid (by
  rcases Nat.eq_zero_or_pos m with h0 | h0
  ·omega
  ·have h1:=Y8 ht (by intro e; rw [e] at hm; simp at hm; omega)
   have h2:=sW h.gW
   rw [hm] at h1
   rw [hn] at h2
   rcases Nat.lt_or_ge n m with h3 | h3
   ·have:=uX (a:=n) (b:=m - 1) (by omega); omega
   ·exact h3)
 have yA:=Lib.hid hle
 clear hn hm hle
 go_enter Tryz.func164,Tryz.ntmps164
 go_wp2_with fail
 go_loopw [5,6,11] (fun v bv iv wr => ∃ (k b:Nat) (cs:List Nat),k≤n∧b≤1∧iv = .int .i64 k∧bv = .int .u64 b∧wr.ownsRow w.heap.size 99 1 v k (arr cs)∧fQ cs ∧
   Hid (val cs+lo ms k=lo ns k+pw k*b)∧Below w.heap.size w wr) (fun _ _ i _=>n - (intOf i).toNat)
 case atStart=>exact ⟨0,0,[],by omega,by omega,rfl,rfl,World.ownsRow_nil _ _ _ _,Bj,Lib.hid (by rw [xM,xM]; rfl),Below.refl _ _⟩
 case round =>
  obtain ⟨k,b,cs,hk,hcar,rfl,rfl,hown,hcw,hv,hbw⟩:=hrel
  have hr:=h.below (hbw.mono hB)
  have hr':=h'.below (hbw.mono hB')
  have hsz:=hbw.size
  have hlen:=hown.1
  rw [GX,Nat.mul_one] at hlen
  have HL:=Lib.hid hlen
  clear hlen
  by_cases hkM:k < n
  ·have hlt:=ve h.gW k
   have hlt':=ve h'.gW k
   obtain ⟨D,hD⟩ : ∃ D,D=4294967296+dg ns k - dg ms k - b:=⟨_,rfl⟩
   obtain ⟨R,hR⟩ : ∃ R,R=D % 4294967296:=⟨_,rfl⟩
   have HST:=Lib.hid (aA9 (R:=R) HL.out hv.out hcar hlt hlt' hD hR)
   have hDl:D≤8589934591:=by omega
   have hRl:R < 4294967296:=by omega
   have hD1:((4294967296:Int)+(dg ns k:Int) - (dg ms k:Int) - (b:Int))=(D:Int):=by omega
   have hR1:(D:Int) % 4294967296=(R:Int):=by omega
   clear hD hR
   go_wp2_with fail
   refine (BB A ns n c B k _ hr Hn.out (by omega)).mono ?_
   rintro e w' ⟨rfl,rfl⟩
   go_wp2_with fail
   refine (BB A' ms m c' B' k _ hr' Hm.out (by omega)).mono ?_
   rintro e w' ⟨rfl,rfl⟩
   have PO:=(fH.new wr 99 [R]).rd (by rw [Cb]; exact ⟨by omega,Bj⟩)
   go_wp2_with (at_builtin; refine afk _ rfl _ _ 22 rfl w.heap.size 99 aYN Az _ k cs rfl (hown.alloc _) _ _ [R] 1 1 rfl PO rfl (by omega) (by simp; omega) ?_; intro v' w4 hown4 hgrow4 hnil)
   have hgrow:(wr.alloc (.cells #[.int .u32 (R:Int)] 99)).grownBy w4 u5.ownBlock:=hgrow4
   have hb5:Below w.heap.size w w4:=(hbw.alloc (by omega) _).grown hgrow (by simp; omega) (fun k hk=>(hown.lt k hk).1)
   clear hgrow4 hnil hgrow PO
   go_roundw
   case rel =>
    refine ⟨k+1,1 - D / 4294967296,cs++[R],by omega,by omega,by go_num,by go_num,hown4,akl.2 ⟨hcw,by rw [Cb]; exact ⟨hRl,Bj⟩⟩,Lib.hid HST.out.1,hb5⟩
   case measure=>simp [intOf]; omega
  ·obtain rfl:k=n:=by omega
   have HV:Hid (val cs=val ns - val ms):=Lib.hid (aoY hcw (by rw [HL.out,Hn.out]) (by rw [Hm.out,Hn.out]; exact WT.out) yA.out (by rw [Hn.out]; exact hv.out))
   obtain ⟨A5,c5,rfl,yj,hl5⟩:=apE hown hcw
   go_wp2_with fail
   refine (Vk A5 cs _ c5 _ _ yj (Nat.le_refl _) hl5 (by omega)).mono ?_
   rintro e w3 ⟨g,c6,rfl,hc6,wC,hblk,hb6⟩
   rw [HV.out] at hc6 hblk
   rw [HV.out]
   have hb7:=fK hbw hb6 (Nat.le_refl _)
   clear hown yj hr hr'
   go_wp2_with fail
   go_ret
   exact ⟨g,c6,rfl,hc6,Nat.le_trans hsz wC,hblk,hb7⟩
end Go.Proofs.YtbihljnjaondcaaGreatDoor
namespace Lw
open Go Go.RowKit
theorem grown_drewN {a w:World} {g:Option Nat} (h:a.grownBy w g) (k:Nat):a.grownBy (w.drewN k) g:=⟨h.os,h.tape,h.output,h.size,h.block⟩
end Lw
namespace Go.Proofs.YtbihljnjaondcaaGreatDoor
open Go Go.RowKit Lw
set_option maxRecDepth 100000 in
set_option maxHeartbeats 6400000 in
theorem aqJ (A A':Option Addr) (ns ms:List Nat) (n m c c' B B':Nat) (w:World) (h:Rd w B A ns) (h':Rd w B' A' ms) (hB:B≤w.heap.size) (hB':B'≤w.heap.size) (hn:ns.length=n) (hm:ms.length=m) (hl:n≤16777216) (hl':m≤16777216) :
  Calls Tryz.prog 166 #[.slice A n c,.slice A' m c'] w (Um w (val ns*val ms)):=by
 have Hn:=Lib.hid hn
 have Hm:=Lib.hid hm
 clear hn hm
 go_enter Tryz.func166,Tryz.ntmps166
 go_wp2_with (at_make; refine Eo _ rfl _ _ _ rfl 99 aYN Az _ _ _ _ (n+m) rfl rfl (by omega) (by omega) (by omega) ?_; intro w1 hblk hbel hsz)
 go_loopw [18] (fun i wr => ∃ (k:Nat) (cs:List Nat),k≤n∧i = .int .i64 k∧fH wr w.heap.size 99 cs∧Hid (cs.length=n+m)∧fQ cs ∧
   Hid (lo cs (k+m)=lo ns k*val ms)∧Hid (∀ j,k+m≤j→dg cs j=0)∧Below w.heap.size w wr) (fun i _=>n - (intOf i).toNat)
 case atStart=>exact ⟨0,_,Nat.zero_le _,rfl,hblk,Lib.hid (by simp),Fv _,Lib.hid (by rw [Yu (b:=[]) _ (fun j _=>by rw [Uw]; rfl),lG (by simp),xM]; simp [val]),Lib.hid (fun j _=>Uw _ _),hbel⟩
 case round =>
  obtain ⟨k,cs,hk,rfl,hb1,hcl,hcw,hv,hz,hbw⟩:=hrel
  clear hblk hbel hsz
  have hr:=h.below (hbw.mono hB)
  have hr':=h'.below (hbw.mono hB')
  have hsz1:=hb1.lt
  by_cases hkn:k < n
  ·obtain ⟨b,off,rfl,hb,hcell,hlt⟩:=hr.at_ (k:=k) (by rw [Hn.out]; omega)
   have Rf:Hid (0 < m → ∀ a,A'=some a→a.block≠w.heap.size):=Lib.hid (fun hp a ha=>by
    obtain ⟨b,off,hA,hb,_⟩:=h'.2 (by rw [Hm.out]; exact hp)
    rw [ha] at hA; injection hA with e; subst e; exact Nat.ne_of_lt (Nat.lt_of_lt_of_le hb hB'))
   obtain ⟨x,hx⟩ : ∃ x,x=dg ns k:=⟨_,rfl⟩
   rw [← hx] at hcell hlt
   have HX:=Lib.hid hx
   clear hx
   go_wp2_with fail
   go_loopw [7,23] (fun cv jv wi => ∃ (j carry:Nat) (ds:List Nat),j≤m∧carry < 4294967296∧jv = .int .i64 j∧cv = .int .u64 carry∧fH wi w.heap.size 99 ds∧Hid (ds.length=cs.length)∧fQ ds ∧
     Hid (∀ i,i < k∨k+j≤i→dg ds i=dg cs i)∧Hid (lo ds (k+j)+pw (k+j)*carry=lo cs (k+j)+pw k*(lo ms j*x))∧Hid (wr.grownBy wi (some w.heap.size)∧wi.heap.size=wr.heap.size)) (fun _ i _=>m - (intOf i).toNat)
   case atStart=>exact ⟨0,0,cs,Nat.zero_le _,by omega,rfl,rfl,hb1,Lib.hid rfl,hcw,Lib.hid (fun _ _=>rfl),Lib.hid (by simp [xM]),Lib.hid ⟨World.grownBy.refl wr _,rfl⟩⟩
   case round =>
    obtain ⟨j,carry,ds,hj,hcar,rfl,rfl,hb2,hdl,hdw,hsame,hval,hg⟩:=hrel
    clear hb1
    have an0:=hg.out.2
    have aN4:=hbw.size
    by_cases hjm:j < m
    ·have hr2:=hr'.grown hg.out.1 (by omega) (fun hp=>Rf.out (by omega))
     obtain ⟨b',off',rfl,hbb,hcell',hlt'⟩:=hr2.at_ (k:=j) (by rw [Hm.out]; omega)
     have hcn:=(World.cell?_of_block (a:=⟨b,off+k,none⟩) (hg.out.1.block b (by omega) (by intro e; injection e; omega))).trans hcell
     have hcc:=hb2.cell (i:=k+j) (by rw [hdl.out,hcl.out]; omega)
     have hfr:=hb2.frozen (k+j)
     have RU:=ve hdw (k+j)
     have Hd:Hid (dg ds (k+j)=dg cs (k+j)):=Lib.hid (hsame.out _ (.inr (Nat.le_refl _)))
     have IA:=fun (y d z z':Nat) (e1:y=dg ms j) (e2:d=dg ds (k+j))=>alA (cs:=ds) (o:=k) (k:=j) (c:=carry) (lc:=lo cs (k+j)) (lm:=lo ms j) (x:=x) (y:=y) (d:=d) (z:=z) (z':=z') (by rw [hdl.out,hcl.out]; omega) hval.out
     have hset:=fun v=>hb2.Gi (i:=k+j) v (by rw [hdl.out,hcl.out]; omega)
     obtain ⟨y,hy⟩ : ∃ y,y=dg ms j:=⟨_,rfl⟩
     obtain ⟨d,hd⟩ : ∃ d,d=dg ds (k+j):=⟨_,rfl⟩
     have HY:=Lib.hid hy
     have HD:=Lib.hid hd
     have HST:=Lib.hid (IA y d (lo cs (k+j+1)) (lo ms (j+1)) hy hd (by rw [hd,Hd.out]; exact lg _ _) (by rw [hy]; exact lg _ _))
     have Nk:=Lib.hid hset
     rw [← hy] at hcell' hlt'
     rw [← hd] at hcc RU Hd
     clear hy hd IA hset
     obtain ⟨ah5,ah6⟩:=YO hlt hlt'
     obtain ⟨P,hP⟩ : ∃ P,P=x*y:=⟨_,rfl⟩
     have hPi:(x:Int)*(y:Int)=(P:Int):=by rw [hP]; simp
     rw [hPi] at ah5 ah6
     have hQ1:IntKind.u64.wrap ((x:Int)*(y:Int))=(P:Int):=by rw [hPi]; exact IntWalk.u64_in _ (by omega)
     obtain ⟨Q,hQ⟩ : ∃ Q,Q=P+d:=⟨_,rfl⟩
     have hQ2:IntKind.u64.wrap ((P:Int)+(d:Int))=(Q:Int):=by rw [show (P:Int)+(d:Int)=(Q:Int) by omega]; exact IntWalk.u64_in _ (by omega)
     obtain ⟨D,hD⟩ : ∃ D,D=Q+carry:=⟨_,rfl⟩
     have hQ3:IntKind.u64.wrap ((Q:Int)+(carry:Int))=(D:Int):=by rw [show (Q:Int)+(carry:Int)=(D:Int) by omega]; exact IntWalk.u64_in _ (by omega)
     have HDD:Hid (D=carry+(x*y+d)):=Lib.hid (by omega)
     have hDl:D≤18446744073709551615:=by omega
     obtain ⟨R,hR⟩ : ∃ R,R=D % 4294967296:=⟨_,rfl⟩
     have hRl:R < 4294967296:=by omega
     have hR1:(D:Int) % 4294967296=(R:Int):=by omega
     have HR:=Lib.hid hR
     obtain ⟨C,hC⟩ : ∃ C,C=D / 4294967296:=⟨_,rfl⟩
     have hCl:C < 4294967296:=by omega
     have hC1:(D:Int) / 4294967296=(C:Int):=by omega
     have HC:=Lib.hid hC
     clear hP hQ hD hR hC hPi
     go_wp2_with fail
     go_quiet (fail)
     go_wp2_with fail
     go_roundw
     case rel =>
      refine ⟨j+1,C,ds.set (k+j) R,by omega,hCl,by go_num,by go_num,Nk.out R,Lib.hid (by rw [List.length_set]; exact hdl.out),yP hdw _ hRl,Lib.hid ?_,Lib.hid ?_,Lib.hid ⟨Ky (grown_drewN hg.out.1 _) _ _,by simp [World.drewN,hg.out.2]⟩⟩
      ·intro i hi
       rw [BG _ (by rw [hdl.out,hcl.out]; omega),if_neg (by omega)]
       exact hsame.out i (by omega)
      ·have:=HST.out
       rw [← HDD.out,← HR.out,← HC.out] at this
       exact this
     case measure=>simp [intOf]; omega
    ·obtain rfl:j=m:=by omega
     have hcc:=hb2.cell (i:=k+j) (by rw [hdl.out,hcl.out]; omega)
     have hfr:=hb2.frozen (k+j)
     have hkl:Hid (k+j < ds.length):=Lib.hid (by rw [hdl.out,hcl.out]; omega)
     have hset:=Lib.hid (hb2.Gi (i:=k+j) carry hkl.out)
     go_wp2_with fail
     go_roundw
     case rel =>
      refine ⟨k+1,ds.set (k+j) carry,by omega,by go_num,hset.out,Lib.hid (by rw [List.length_set,hdl.out]; exact hcl.out),yP hdw _ hcar,Lib.hid ?_,Lib.hid ?_,(below_of_grown hbw hg.out.1 (by omega) (Nat.le_refl _)).setCell (Nat.le_refl _) _⟩
      ·rw [show k+1+j=k+j+1 by omega]
       refine ao5 hkl.out hv.out ?_ (by rw [lg,← HX.out])
       rw [hval.out,lG (l:=ms) (by rw [Hm.out]; exact Nat.le_refl _)]
      ·intro i hi
       rw [BG _ hkl.out,if_neg (by omega),hsame.out i (by omega)]
       exact hz.out i (by omega)
     case measure=>simp [intOf]; omega
  ·obtain rfl:k=n:=by omega
   have HV:Hid (val cs=val ns*val ms):=Lib.hid (by
    have e:=hv.out
    rwa [lG (by rw [hcl.out]; exact Nat.le_refl _),lG (l:=ns) (by rw [Hn.out]; exact Nat.le_refl _)] at e)
   go_wp2_with fail
   refine (Vk _ cs _ _ _ _ (hb1.rd hcw) (Nat.le_refl _) hcl.out (by omega)).mono ?_
   rintro e w3 ⟨g,c6,rfl,hc6,wC,hblk,hb6⟩
   rw [HV.out] at hc6 hblk
   rw [HV.out]
   have hb7:=fK hbw hb6 (Nat.le_refl _)
   have hsz:=hbw.size
   clear hr hr' hb1
   go_wp2_with fail
   go_ret
   exact ⟨g,c6,rfl,hc6,Nat.le_trans hsz wC,hblk,hb7⟩
end Go.Proofs.YtbihljnjaondcaaGreatDoor
namespace Lw
open Go Go.RowKit
structure Sn where
 v:Value
 l:List Nat
 k:Nat
def Xj (w:World) (e:Sn):Prop := ∃ (A:Option Addr) (n c B:Nat),e.v = .slice A n c∧Rd w B A e.l∧B≤w.heap.size∧e.l.length=n∧n≤c∧n≤e.k
theorem Xj.next {w w':World} {e:Sn} (h:Xj w e) (hb:Below w.heap.size w w'):Xj w' e:=by
 obtain ⟨A,n,c,B,h1,h2,h3,h4⟩:=h
 exact ⟨A,n,c,B,h1,h2.next hb h3,Nat.le_trans h3 hb.size,h4⟩
structure rP (t:TypeId) (W0 w:World) (bs:List Bx) (L:List En) (M:List Sn):Prop where
 env:Env t W0 w bs L
 Dl : ∀ e∈M,Xj w e
variable {t:TypeId} {W0 w w':World} {bs:List Bx} {L:List En} {M:List Sn}
theorem rP.next (h:rP t W0 w bs L M) (hb:Below w.heap.size w w'):rP t W0 w' bs L M:=⟨h.env.next hb,fun e he=>(h.Dl e he).next hb⟩
theorem rP.drew (h:rP t W0 w bs L M):rP t W0 w.drew bs L M:=h.next (Below.refl _ w).drew
theorem rP.cons (h:rP t W0 w bs L M) {e:Sn} (he:Xj w e):rP t W0 w bs L (e :: M) :=
 ⟨h.env,fun e' h'=>by
  rcases List.mem_cons.1 h' with rfl | h'
  ·exact he
  ·exact h.Dl e' h'⟩
theorem Env.Ea {g1 g2 g3:Nat} {x1 y1 x2 y2 x3 y3:Value} (h:Env t W0 w [⟨g1,x1,y1⟩,⟨g2,x2,y2⟩,⟨g3,x3,y3⟩] L) :
  w.cell? ⟨g1,0,none⟩=some x1∧w.cell? ⟨g1,1,none⟩=some y1∧w.cell? ⟨g2,0,none⟩=some x2∧w.cell? ⟨g2,1,none⟩=some y2:=by
 obtain ⟨a,b,c,d,_⟩:=h.cells3
 exact ⟨a,b,c,d⟩
theorem Env.zo {g1 g2 g3:Nat} {x1 y1 x2 y2 x3 y3:Value} (h:Env t W0 w [⟨g1,x1,y1⟩,⟨g2,x2,y2⟩,⟨g3,x3,y3⟩] L) (h1:g1≠g3) (h2:g2≠g3) (u v:Value) :
  ((w.setCell ⟨g3,0,none⟩ u).setCell ⟨g3,1,none⟩ v).cell? ⟨g1,0,none⟩=some x1∧((w.setCell ⟨g3,0,none⟩ u).setCell ⟨g3,1,none⟩ v).cell? ⟨g1,1,none⟩=some y1 ∧
  ((w.setCell ⟨g3,0,none⟩ u).setCell ⟨g3,1,none⟩ v).cell? ⟨g2,0,none⟩=some x2∧((w.setCell ⟨g3,0,none⟩ u).setCell ⟨g3,1,none⟩ v).cell? ⟨g2,1,none⟩=some y2:=by
 obtain ⟨a1,a2,_,_⟩:=(((h.box _ (.head _)).far (p:=⟨g3,0,none⟩) h1 u).far (p:=⟨g3,1,none⟩) h1 v).facts
 obtain ⟨b1,b2,_,_⟩:=(((h.box _ (.tail _ (.head _))).far (p:=⟨g3,0,none⟩) h2 u).far (p:=⟨g3,1,none⟩) h2 v).facts
 exact ⟨a1,a2,b1,b2⟩
theorem Env.aB2 {g1 g3:Nat} {x1 y1 x3 y3:Value} (h:Env t W0 w [⟨g1,x1,y1⟩,⟨g3,x3,y3⟩] L) (h1:g1≠g3) (u v:Value) :
  ((w.setCell ⟨g3,0,none⟩ u).setCell ⟨g3,1,none⟩ v).cell? ⟨g1,0,none⟩=some x1∧((w.setCell ⟨g3,0,none⟩ u).setCell ⟨g3,1,none⟩ v).cell? ⟨g1,1,none⟩=some y1:=by
 obtain ⟨a1,a2,_,_⟩:=(((h.box _ (.head _)).far (p:=⟨g3,0,none⟩) h1 u).far (p:=⟨g3,1,none⟩) h1 v).facts
 exact ⟨a1,a2⟩
theorem Env.third {g1 g2 g3:Nat} {x1 y1 x2 y2 x3 y3:Value} (h:Env t W0 w [⟨g1,x1,y1⟩,⟨g2,x2,y2⟩,⟨g3,x3,y3⟩] L):Two w g3 t x3 y3:=h.box _ (.tail _ (.tail _ (.head _)))
theorem Env.second {g1 g2:Nat} {x1 y1 x2 y2:Value} (h:Env t W0 w [⟨g1,x1,y1⟩,⟨g2,x2,y2⟩] L):Two w g2 t x2 y2:=h.box _ (.tail _ (.head _))
theorem pF.here {w W:World} {s:Bool} {A:Option Addr} {n c B k:Nat} {l:List Nat} (r:Rd w B A l) (hB:B≤w.heap.size) (hb:Below w.heap.size w W) (h:l.length=n) (hn:n≤k) (hc:n≤c):pF W ⟨.agg #[.bool s,.slice A n c],zv s l,k,vB s l⟩ :=
 ⟨s,A,n,c,l,B,rfl,r.next hb hB,Nat.le_trans hB hb.size,h,hn,hc,rfl,rfl⟩
theorem Xk {w:World} {s1 s2:Bool} {A1 A2:Option Addr} {n1 n2 c1 c2 B1 B2 k1 k2:Nat} {l1 l2:List Nat} (t:TypeId) (r1:Rd w B1 A1 l1) (r2:Rd w B2 A2 l2) (hB1:B1≤w.heap.size) (hB2:B2≤w.heap.size) (e1:l1.length=n1) (e2:l2.length=n2)
  (q1:n1≤c1) (q2:n2≤c2) (h1:n1≤k1) (h2:n2≤k2) :
  rP t w (((w.alloc (.cells #[.bool s1,.slice A1 n1 c1] t)).alloc (.cells #[.bool s2,.slice A2 n2 c2] t)).alloc (.cells #[.bool false,.slice none 0 0] t))
   [⟨w.heap.size,.bool s1,.slice A1 n1 c1⟩,⟨w.heap.size+1,.bool s2,.slice A2 n2 c2⟩,⟨w.heap.size+1+1,.bool false,.slice none 0 0⟩]
   [⟨.agg #[.bool s1,.slice A1 n1 c1],zv s1 l1,k1,vB s1 l1⟩,⟨.agg #[.bool s2,.slice A2 n2 c2],zv s2 l2,k2,vB s2 l2⟩] []:=by
 have hb:=((((Below.refl w.heap.size w).alloc (Nat.le_refl _) (.cells #[.bool s1,.slice A1 n1 c1] t)).alloc (by simp) (.cells #[.bool s2,.slice A2 n2 c2] t)).alloc (by simp; omega) (.cells #[.bool false,.slice none 0 0] t))
 refine ⟨⟨fun e he => ?_,fun b hb' => ?_,hb⟩,fun e he=>by cases he⟩
 ·simp only [List.mem_cons,List.not_mem_nil,or_false] at he
  rcases he with rfl | rfl
  ·exact pF.here r1 hB1 hb e1 h1 q1
  ·exact pF.here r2 hB2 hb e2 h2 q2
 ·simp only [List.mem_cons,List.not_mem_nil,or_false] at hb'
  rcases hb' with rfl | rfl | rfl
  ·exact ((Two.new w t _ _).alloc _).alloc _
  ·have:=(Two.new (w.alloc (.cells #[.bool s1,.slice A1 n1 c1] t)) t (.bool s2) (.slice A2 n2 c2)).alloc (.cells #[.bool false,.slice none 0 0] t)
   rwa [World.size_alloc] at this
  ·have:=Two.new ((w.alloc (.cells #[.bool s1,.slice A1 n1 c1] t)).alloc (.cells #[.bool s2,.slice A2 n2 c2] t)) t (.bool false) (.slice none 0 0)
   rwa [World.size_alloc,World.size_alloc] at this
theorem axn {w:World} {s1:Bool} {A1:Option Addr} {n1 c1 B1 k1:Nat} {l1:List Nat} (t:TypeId) (r1:Rd w B1 A1 l1) (hB1:B1≤w.heap.size) (e1:l1.length=n1) (q1:n1≤c1) (h1:n1≤k1) :
  rP t w ((w.alloc (.cells #[.bool s1,.slice A1 n1 c1] t)).alloc (.cells #[.bool false,.slice none 0 0] t))
   [⟨w.heap.size,.bool s1,.slice A1 n1 c1⟩,⟨w.heap.size+1,.bool false,.slice none 0 0⟩]
   [⟨.agg #[.bool s1,.slice A1 n1 c1],zv s1 l1,k1,vB s1 l1⟩] []:=by
 have hb:=(((Below.refl w.heap.size w).alloc (Nat.le_refl _) (.cells #[.bool s1,.slice A1 n1 c1] t)).alloc (by simp) (.cells #[.bool false,.slice none 0 0] t))
 refine ⟨⟨fun e he => ?_,fun b hb' => ?_,hb⟩,fun e he=>by cases he⟩
 ·simp only [List.mem_cons,List.not_mem_nil,or_false] at he
  rcases he with rfl
  exact pF.here r1 hB1 hb e1 h1 q1
 ·simp only [List.mem_cons,List.not_mem_nil,or_false] at hb'
  rcases hb' with rfl | rfl
  ·exact (Two.new w t _ _).alloc _
  ·have:=Two.new (w.alloc (.cells #[.bool s1,.slice A1 n1 c1] t)) t (.bool false) (.slice none 0 0)
   rwa [World.size_alloc] at this
end Lw
namespace Go.Proofs.YtbihljnjaondcaaGreatDoor
open Go Go.RowKit Lw
section
variable {t:TypeId} {W0 w:World} {bs:List Bx} {L:List En} {M:List Sn} {v u u':Value} {x:Int} {k k':Nat} {b:Bool} {l l':List Nat}
theorem ajH {N K:Nat} {e:Ending} {w':World} (HE:rP t W0 w bs L M) (h:Um w N e w') (hk:(bg N).length≤K) : ∃ u,e = .returned u∧rP t W0 w' bs L (⟨u,bg N,K⟩ :: M):=by
 obtain ⟨g,c,rfl,hc,hg,hblk,hb⟩:=h
 exact ⟨_,rfl,(HE.next hb).cons ⟨_,_,c,_,rfl,hblk.rd (mJ _),Nat.le_refl _,rfl,hc,hk⟩⟩
theorem UZ (HE:rP t W0 w bs L M) (h:⟨v,x,k,b⟩∈L) (hk:k≤100000) :
  Calls Tryz.prog 159 #[v] w fun e w' => ∃ u,e = .returned u∧rP t W0 w' bs L (⟨u,mg x,k⟩ :: M):=by
 obtain ⟨s,A,n,c,ns,B,e1,h2,h3,h4,h5,h6,e7,h8⟩:=HE.env.ops _ h
 dsimp only at e1 e7 h5
 subst e1 e7
 refine (adv s A ns n c B w h2 h3 h4 (by omega) h6).mono ?_
 rintro e w' ⟨A',c',rfl,hc,hr,hb⟩
 have hl:=Cc (s:=s) h2.gW
 exact ⟨_,rfl,(HE.next hb).cons ⟨A',_,c',B,rfl,hr,Nat.le_trans h3 hb.size,rfl,hc,by show _≤k; omega⟩⟩
theorem P6 (HE:rP t W0 w bs L M) (h:⟨v,x,k,b⟩∈L) (hk:k≤100000) :
  Calls Tryz.prog 160 #[v] w fun e w'=>e = .returned (.bool (sg x))∧rP t W0 w' bs L M:=by
 obtain ⟨s,A,n,c,ns,B,e1,h2,h3,h4,h5,h6,e7,h8⟩:=HE.env.ops _ h
 dsimp only at e1 e7 h5
 subst e1 e7
 exact (ad8 s A ns n c B w h2 h3 h4 (by omega)).mono fun e w' hh=>⟨hh.1,HE.next hh.2⟩
theorem apJ (HE:rP t W0 w bs L M) (h:⟨u,l,k⟩∈M) (h':⟨u',l',k'⟩∈M) (hk:k+k'≤100000) :
  Calls Tryz.prog 162 #[u,u'] w fun e w' => ∃ u,e = .returned u∧rP t W0 w' bs L (⟨u,bg (val l+val l'),k+k'+1⟩ :: M):=by
 obtain ⟨A,n,c,B,e1,h2,h3,h4,h5,h6⟩:=HE.Dl _ h
 obtain ⟨A',n',c',B',e1',h2',h3',h4',h5',h6'⟩:=HE.Dl _ h'
 dsimp only at *
 subst e1 e1'
 have hz:(bg (val l+val l')).length≤k+k'+1:=xQ (by
  have:=SB (x:=(val l:Int)) (y:=(val l':Int)) (k:=k) (k':=k') (by rw [Int.natAbs_natCast]; exact Nat.lt_of_lt_of_le (sW h2.gW) (uX (by omega))) (by rw [Int.natAbs_natCast]; exact Nat.lt_of_lt_of_le (sW h2'.gW) (uX (by omega)))
  rwa [← Int.natCast_add,Int.natAbs_natCast] at this)
 exact (ajc A A' l l' n n' c c' B B' w h2 h2' h3 h3' h4 h4' (by omega) (by omega)).mono fun e w' hh=>ajH HE hh hz
theorem air (HE:rP t W0 w bs L M) (h:⟨u,l,k⟩∈M) (h':⟨u',l',k'⟩∈M) (hk:k+k'≤100000) (ht:wP l') (hle:val l'≤val l) :
  Calls Tryz.prog 164 #[u,u'] w fun e w' => ∃ u,e = .returned u∧rP t W0 w' bs L (⟨u,bg (val l - val l'),k⟩ :: M):=by
 obtain ⟨A,n,c,B,e1,h2,h3,h4,h5,h6⟩:=HE.Dl _ h
 obtain ⟨A',n',c',B',e1',h2',h3',h4',h5',h6'⟩:=HE.Dl _ h'
 dsimp only at *
 subst e1 e1'
 have hz:(bg (val l - val l')).length≤k:=xQ (Nat.lt_of_le_of_lt (Nat.sub_le _ _) (Nat.lt_of_lt_of_le (sW h2.gW) (uX (by omega))))
 exact (aEa A A' l l' n n' c c' B B' w h2 h2' h3 h3' h4 h4' (by omega) (by omega) ht hle).mono fun e w' hh=>ajH HE hh hz
theorem axQ (HE:rP t W0 w bs L M) (h:⟨u,l,k⟩∈M) (h':⟨u',l',k'⟩∈M) (hk:k+k'≤100000) :
  Calls Tryz.prog 163 #[u,u'] w fun e w'=>e = .returned (.int .i64 (yB (val l) (val l')))∧rP t W0 w' bs L M:=by
 obtain ⟨A,n,c,B,e1,h2,h3,h4,h5,h6⟩:=HE.Dl _ h
 obtain ⟨A',n',c',B',e1',h2',h3',h4',h5',h6'⟩:=HE.Dl _ h'
 dsimp only at *
 subst e1 e1'
 refine (OC A A' l l' n n' c c' B B' w h2 h2' h4 h4' (by omega) (by omega)).mono ?_
 rintro e w' ⟨rfl,rfl⟩
 exact ⟨rfl,HE⟩
theorem RF (s:Bool) (z:Int) (HE:rP t W0 w bs L M) (h:⟨u,l,k⟩∈M) (hk:k≤100000) (hz:z=if s then -(val l:Int) else (val l:Int)) :
  Calls Tryz.prog 161 #[.bool s,u] w fun e w' => ∃ A c,e = .returned (.agg #[.bool (sg z),.slice A (mg z).length c])∧(mg z).length≤c∧Rd w' w'.heap.size A (mg z)∧rP t W0 w' bs L M:=by
 obtain ⟨A,n,c,B,e1,h2,h3,h4,h5,h6⟩:=HE.Dl _ h
 dsimp only at *
 subst e1
 refine (acs s A l n c B z w h2 h3 h4 (by omega) hz).mono ?_
 rintro e w' ⟨A',c',rfl,hc,hr,hb⟩
 exact ⟨A',c',rfl,hc,hr,HE.next hb⟩
end
end Go.Proofs.YtbihljnjaondcaaGreatDoor
