/- Part of a proof, said shortly. -/
import Derived.Deep.LoopGhost
import Derived.Test.YtbihljnjaondcaaGreatDoorAlt
import Derived.Test.YtbihljnjaondcaaGreatDoorT35
import Derived.Test.YtbihljnjaondcaaGreatDoorT12
import Derived.Test.YtbihljnjaondcaaGreatDoorT6
import Derived.Test.YtbihljnjaondcaaGreatDoorT4
import Derived.Test.YtbihljnjaondcaaGreatDoorT3
import Derived.Test.YtbihljnjaondcaaGreatDoorT2
import Derived.Test.YtbihljnjaondcaaGreatDoorT1
import Derived.Test.YtbihljnjaondcaaGreatDoorT5
import Derived.Test.YtbihljnjaondcaaGreatDoorT9
import Derived.Test.YtbihljnjaondcaaGreatDoorT8
import Derived.Test.YtbihljnjaondcaaGreatDoorT7
import Derived.Test.YtbihljnjaondcaaGreatDoorT34
import Derived.Test.YtbihljnjaondcaaGreatDoorT29
import Derived.Test.YtbihljnjaondcaaGreatDoorT28
import Derived.Test.YtbihljnjaondcaaGreatDoorT26
import Derived.Test.YtbihljnjaondcaaGreatDoorT25
import Derived.Test.YtbihljnjaondcaaGreatDoorT24
import Derived.Test.YtbihljnjaondcaaGreatDoorT23
import Derived.Test.YtbihljnjaondcaaGreatDoorT22
import Derived.Test.YtbihljnjaondcaaGreatDoorT21
import Derived.Test.YtbihljnjaondcaaGreatDoorT20
import Derived.Test.YtbihljnjaondcaaGreatDoorT14
import Derived.Test.YtbihljnjaondcaaGreatDoorT13
import Derived.Test.YtbihljnjaondcaaGreatDoorT19
import Derived.Test.YtbihljnjaondcaaGreatDoorT18
import Derived.Test.YtbihljnjaondcaaGreatDoorT16
import Derived.Test.YtbihljnjaondcaaGreatDoorT15
import Derived.Test.YtbihljnjaondcaaGreatDoorT17
import Derived.Test.YtbihljnjaondcaaGreatDoorT10
import Derived.Test.YtbihljnjaondcaaGreatDoorT11
import Derived.Test.YtbihljnjaondcaaGreatDoorT27
set_option linter.unusedVariables false
set_option linter.unusedSimpArgs false
namespace Lw
open Go
def DT (n:Nat):List UInt8:=if n=0 then [] else Lib.decDigits n
theorem bf5 {n:Nat} (h:n≠0):DT n=Lib.decDigits n:=if_neg h
theorem bf6 {M:Nat} (h:M≠0):DT M=DT (M / 10)++[UInt8.ofNat (48+M % 10)]:=by
 unfold DT
 rw [if_neg h]
 by_cases h1:M < 10
 ·rw [if_pos (by omega),Lib.decDigits,dif_pos h1,Nat.mod_eq_of_lt h1]; rfl
 ·rw [if_neg (by omega),Lib.decDigits,dif_neg h1]
def Tk (N k r:Nat) (S:List UInt8) (Z:Nat):Prop:=DT (N*10 ^ (9 - k)+r)++S=DT Z∧r < 10 ^ (9 - k)
theorem bod {N:Nat} {S:List UInt8} {Z:Nat} (h:DT N++S=DT Z):Tk (N / 1000000000) 0 (N % 1000000000) S Z:=by
 refine ⟨?_,?_⟩
 ·rw [show N / 1000000000*10 ^ (9 - 0)+N % 1000000000=N by simp only [Nat.sub_zero,Nat.reducePow]; omega]; exact h
 ·simp only [Nat.sub_zero,Nat.reducePow]; omega
theorem boe {N k r:Nat} {S:List UInt8} {Z:Nat} (h:Tk N k r S Z) (hk:k < 9) (h0:r≠0∨N≠0):Tk N (k+1) (r / 10) (UInt8.ofNat (48+r % 10) :: S) Z:=by
 have hp:10 ^ (9 - k)=10 ^ (9 - (k+1))*10:=by rw [← Nat.pow_succ]; congr 1; omega
 have h1:0 < 10 ^ (9 - (k+1)):=Nat.pow_pos (by omega)
 obtain ⟨h2,h3⟩:=h
 unfold Tk
 rw [hp] at h3 h2
 generalize 10 ^ (9 - (k+1))=P at *
 have hN:N*(P*10)=N*P*10:=(Nat.mul_assoc _ _ _).symm
 rw [hN] at h2
 have hne:N*P*10+r≠0:=by
  rcases h0 with h0 | h0
  ·omega
  ·have:0 < N*P:=Nat.mul_pos (by omega) h1
   omega
 rw [bf6 hne,show (N*P*10+r) / 10=N*P+r / 10 by omega,show (N*P*10+r) % 10=r % 10 by omega,List.append_assoc,List.singleton_append] at h2
 refine ⟨h2,?_⟩
 omega
theorem bfw {N k r:Nat} {S:List UInt8} {Z:Nat} (h:Tk N k r S Z) (hk:k≤9) (h0:k=9∨(r=0∧N=0)):DT N++S=DT Z:=by
 obtain ⟨h2,h3⟩:=h
 rcases h0 with rfl | ⟨rfl,rfl⟩
 ·have:r=0:=by simpa using h3
  subst this
  simpa using h2
 ·simpa using h2
theorem bfu {d:Nat} (h:d < 10):(ByteArray.mk #[48,49,50,51,52,53,54,55,56,57]).extract d (d+1)=⟨[UInt8.ofNat (48+d)].toArray⟩:=by
 have:d=0∨d=1∨d=2∨d=3∨d=4∨d=5∨d=6∨d=7∨d=8∨d=9:=by omega
 rcases this with h | h | h | h | h | h | h | h | h | h <;> subst h <;> rfl
theorem bir (n z:Nat) (h:z < pw n):(DT z).length≤10*n+1:=by
 unfold DT
 split
 ·simp
 ·have h1:pw n≤10 ^ (10*n):=by
   rw [Nat.pow_mul]; exact Nat.pow_le_pow_left (by decide) n
  refine a7q (10*n) z (Nat.lt_of_lt_of_le h (Nat.le_trans h1 (Nat.pow_le_pow_right (by omega) (by omega))))
theorem a9p (b:UInt8) (S:List UInt8):(ByteArray.mk [b].toArray++ByteArray.mk S.toArray)=⟨(b :: S).toArray⟩:=by
 apply ByteArray.ext
 rw [ByteArray.data_append]
 simp
end Lw
namespace Go.Proofs.YtbihljnjaondcaaGreatDoor
open Go Go.RowKit Lw
set_option maxRecDepth 100000 in
set_option maxHeartbeats 6400000 in
theorem bmX (s:Bool) (A:Option Addr) (ns:List Nat) (n c B:Nat) (w:World) (h:Rd w B A ns) (hB:B≤w.heap.size) (hn:ns.length=n) (hl:n≤10000) (hc:n≤c) :
  Calls Tryz.prog 119 #[.agg #[.bool s,.slice A n c]] w fun e w'=>e = .returned (.string ⟨(Lib.itoa (zv s ns)).toArray⟩)∧Below w.heap.size w w':=by
 have hlz:=ate (s:=s) h.wds
 rw [hn] at hlz
 have hk:=fun W hR hB'=>bas s A ns n c B W hR hB' hn (by omega) hc
 have hk':=fun W hR hB'=>baT s A ns n c B W hR hB' hn (by omega)
 generalize zv s ns=z at *
 have Hk:=Lib.hid hk
 have Hk':=Lib.hid hk'
 have HL:Hid ((DT z.natAbs).length≤10*n+1):=Lib.hid (bir n _ (awx hlz))
 clear hk hk' hn
 go_enter Tryz.func119,Tryz.ntmps119
 go_wp2_with fail
 refine (Hk.out _ (h.alloc hB _) (by simp; omega)).mono ?_
 rintro e w1 ⟨A1,c1,rfl,hc1,hr1,hb1⟩
 obtain ⟨t1,hs1,hb2⟩:=box1 hb1
 obtain ⟨c10,c11,f10,f11⟩:=t1.facts
 obtain ⟨n1,hn1⟩ : ∃ n1,n1=(mg z).length:=⟨_,rfl⟩
 rw [← hn1] at hlz hc1 ⊢
 have Hn1:=Lib.hid hn1
 clear hn1
 have hs1':=hs1
 by_cases h0:n1=0
 ·have HZ:Hid (Lib.itoa z=[48]):=Lib.hid (by
   have e:=a1u.1 (by rw [← Hn1.out]; exact h0)
   rw [e,anm rfl]
   rw [show (0:Int).natAbs=0 from rfl,Lib.decDigits,dif_pos (by omega)]; rfl)
  subst h0
  go_wp2_with fail
  go_ret
  rw [HZ.out]
  exact ⟨rfl,hb2⟩
 ·have hbq:((n1:Int)==0)=false:=by rw [beq_eq_false_iff_ne]; omega
  go_wp2_with fail
  go_loopg [3,4] z.natAbs (fun M mv sv wr => ∃ (A':Option Addr) (n' c':Nat) (S:List UInt8) (T:ByteArray),mv = .slice A' n' c'∧n'≤c'∧n'≤n∧Hid ((Uy M).length=n')∧Rd wr wr.heap.size A' (Uy M)∧sv = .string T∧Hid (T=⟨S.toArray⟩)∧T.size≤100001∧Hid (DT M++S=DT z.natAbs)∧Below w1.heap.size w1 wr)
  case atStart=>exact ⟨A1,n1,c1,[],ByteArray.empty,rfl,hc1,hlz,Lib.hid Hn1.out.symm,hr1.more (by omega),rfl,Lib.hid rfl,by simp,Lib.hid (List.append_nil _),Below.refl _ _⟩
  case round =>
   obtain ⟨A',n',c',S,T,rfl,hc',hnn,hlen,hr,rfl,hTS,hTl,hv,a2g⟩:=hrel
   have hbw:=aaR hb2 a2g (by omega)
   have a7O:=hbw.size
   by_cases hn0:n'=0
   ·have hz0:Hid (z.natAbs≠0):=Lib.hid (fun e=>h0 (by rw [Hn1.out]; unfold mg; rw [e]; rfl))
    have HT:Hid (T=⟨(Lib.decDigits z.natAbs).toArray⟩):=Lib.hid (by
     have e0:gk=0:=ak4.1 (List.eq_nil_of_length_eq_zero (by rw [hlen.out]; exact hn0))
     have e1:=hv.out
     rw [e0,bf5 hz0.out] at e1
     rw [hTS.out,← e1]; rfl)
    subst hn0
    clear hlen hr hTS hv
    obtain ⟨c10,c11,f10,f11⟩:=(t1.next a2g).facts
    go_wp2_with fail
    refine (Hk'.out _ (h.below (hbw.mono hB)) (by omega)).mono ?_
    rintro e w2 ⟨rfl,hb3⟩
    have hb4:=aaR hbw hb3 (Nat.le_refl _)
    cases hsg:sg z
    ·have HI:=Lib.hid (anm hsg)
     go_wp2_with fail
     go_ret
     exact ⟨by rw [HT.out,HI.out,List.nil_append]; rfl,hb4⟩
    ·have HI:=Lib.hid (itoa_neg hsg)
     go_wp2_with fail
     go_ret
     exact ⟨by rw [HT.out,HI.out]; exact congrArg (fun b=>Ending.returned (Value.string b)) (a9p 45 (Lib.decDigits z.natAbs)),hb4⟩
   ·have hQn:(Uy (gk / 1000000000)).length≤n:=by
     have h1:=awx (Nat.le_of_eq hlen.out)
     have h2:=aj9 (n:=gk / 1000000000) (k:=n') (Nat.lt_of_le_of_lt (Nat.div_le_self _ _) h1)
     omega
    have hM0:gk≠0:=fun e=>hn0 (by rw [← hlen.out,e]; rfl)
    have a9H:Hid (gk / 1000000000 < gk):=Lib.hid (by omega)
    clear hM0
    go_wp2_with (at_make; refine aAN _ rfl _ _ _ rfl 99 bsw ami _ _ _ _ n' rfl rfl (by omega) (by omega) (by omega) ?_; intro w3 hblk hbel hsz)
    go_loopw [5,7] (fun rv iv wi => ∃ (i':Int) (r:Nat) (ds:List Nat),-1≤i'∧i' < n'∧r≤999999999∧iv = .int .i64 i'∧rv = .int .u64 r∧Blk wi wr.heap.size 99 ds∧Hid (ds.length=n')∧Wds ds∧Hid (val (ds.drop (i'+1).toNat)=val ((Uy gk).drop (i'+1).toNat) / 1000000000∧r=val ((Uy gk).drop (i'+1).toNat) % 1000000000)∧Below wr.heap.size wr wi) (fun _ i _=>(intOf i+1).toNat)
    case atStart=>exact ⟨(n':Int) - 1,0,_,by omega,by omega,by omega,rfl,rfl,hblk,Lib.hid (by simp),az8 _,Lib.hid (by rw [show ((n':Int) - 1+1).toNat=n' by omega,List.drop_of_length_le (by simp),List.drop_of_length_le (by rw [hlen.out]; exact Nat.le_refl _)]; simp [val]),hbel⟩
    case round =>
     obtain ⟨i',r,ds,hi,hin,hrx,rfl,rfl,hb5,hdl,hdw,hvv,hbi⟩:=hrel
     clear hblk hbel hsz
     have bdr:=hbi.size
     have hri:=hr.below hbi
     by_cases hi0:i' < 0
     ·have HV:Hid (val ds=gk / 1000000000∧r=gk % 1000000000):=Lib.hid (by have:=hvv.out; rwa [show (i'+1).toNat=0 by omega,List.drop_zero,List.drop_zero,aar] at this)
      have HK:Hid (Tk (gk / 1000000000) 0 r S z.natAbs):=Lib.hid (by rw [HV.out.2]; exact bod hv.out)
      clear hvv hri hv
      go_wp2_with fail
      refine (a4Z _ ds n' n' _ _ (hb5.rd hdw) (Nat.le_refl _) hdl.out (by omega)).mono ?_
      rintro e w4 ⟨g4,c4,rfl,hc4,hg4,aNr,hb6⟩
      rw [HV.out.1] at hc4 aNr ⊢
      have a3e:=aaR (aaR a2g hbi (by omega)) hb6 (by omega)
      have hr4:=aNr.rd (acy _)
      obtain ⟨Q,hQ⟩ : ∃ Q,Q=gk / 1000000000:=⟨_,rfl⟩
      rw [← hQ] at hc4 hr4 HK hQn a9H ⊢
      obtain ⟨n4,hn4⟩ : ∃ n4,n4=(Uy Q).length:=⟨_,rfl⟩
      rw [← hn4] at hc4 hQn ⊢
      have Hn4:=Lib.hid hn4
      have HQ:=Lib.hid hQ
      clear hQ hn4 aNr hb5 hr hb6
      go_wp2_with fail
      go_loopw [4,5,8] (fun sv rv kv wi2 => ∃ (k2 r2:Nat) (S2:List UInt8) (T2:ByteArray),k2≤9∧r2≤999999999∧kv = .int .i64 k2∧rv = .int .u64 r2∧sv = .string T2∧Hid (T2=⟨S2.toArray⟩)∧Hid (Tk Q k2 r2 S2 z.natAbs)∧wi2=w4) (fun _ _ k _=>9 - (intOf k).toNat)
      case atStart=>exact ⟨0,r,S,T,by omega,hrx,rfl,rfl,rfl,hTS,HK,rfl⟩
      case round =>
       obtain ⟨k2,r2,S2,T2,hk2,hr2,rfl,rfl,rfl,hT2,hK2,rfl⟩:=hrel
       have bcY:T2.size≤100001:=by
        have h1:=congrArg List.length hK2.out.1
        rw [List.length_append] at h1
        have h2:=HL.out
        rw [hT2.out]
        simp only [ByteArray.size,List.size_toArray]
        omega
       obtain ⟨d,hd⟩ : ∃ d,d=r2 % 10:=⟨_,rfl⟩
       have hd10:d < 10:=by omega
       have hdi:(r2:Int) % 10=(d:Int):=by omega
       have HD:=Lib.hid hd
       clear hd
       by_cases hk9:k2 < 9
       ·by_cases hq0:r2=0∧n4=0
        ·have HE:Hid (DT Q++S2=DT z.natAbs):=Lib.hid (bfw hK2.out hk2 (.inr ⟨hq0.1,ak4.1 (List.eq_nil_of_length_eq_zero (by rw [← Hn4.out]; exact hq0.2))⟩))
         obtain ⟨e1,e2⟩:=hq0
         go_wp2_with fail
         go_roundg Q
         case measure=>exact a9H.out
         case rel=>exact ⟨_,0,c4,S2,T2,rfl,by omega,by omega,Lib.hid (by rw [← Hn4.out]; exact e2),hr4,rfl,hT2,bcY,HE,a3e⟩
        ·have HN:Hid (Tk Q (k2+1) (r2 / 10) (UInt8.ofNat (48+d) :: S2) z.natAbs):=Lib.hid (by
          rw [HD.out]
          refine boe hK2.out hk9 ?_
          rcases Classical.em (r2=0) with e | e
          ·right
           intro e2
           exact hq0 ⟨e,by rw [Hn4.out,e2]; rfl⟩
          ·exact .inl e)
         by_cases hr0:r2=0
         ·have bpT:0 < n4:=by omega
          clear hq0
          obtain rfl:=hr0
          obtain rfl:d=0:=by omega
          have HT2:Hid ((ByteArray.mk #[48,49,50,51,52,53,54,55,56,57]).extract 0 1++T2=⟨(UInt8.ofNat (48+0) :: S2).toArray⟩):=Lib.hid (by rw [show (1:Nat)=0+1 from rfl,bfu hd10,hT2.out]; exact a9p _ _)
          go_wp2_with fail
          go_roundw
          case rel=>exact ⟨k2+1,0,_,_,by omega,by omega,by go_num,by go_num,rfl,HT2,HN,trivial⟩
          case measure=>simp [intOf]; omega
         ·have hr1:0 < r2:=by omega
          clear hq0
          have HT2:Hid ((ByteArray.mk #[48,49,50,51,52,53,54,55,56,57]).extract d (d+1)++T2=⟨(UInt8.ofNat (48+d) :: S2).toArray⟩):=Lib.hid (by rw [bfu hd10,hT2.out]; exact a9p _ _)
          go_wp2_with fail
          go_roundw
          case rel=>exact ⟨k2+1,r2 / 10,_,_,by omega,by omega,by go_num,by go_num,rfl,HT2,HN,trivial⟩
          case measure=>simp [intOf]; omega
       ·have HE:Hid (DT Q++S2=DT z.natAbs):=Lib.hid (bfw hK2.out hk2 (.inl (by omega)))
        go_wp2_with fail
        go_roundg Q
        case measure=>exact a9H.out
        case rel=>exact ⟨_,n4,c4,S2,T2,rfl,hc4,hQn,Lib.hid Hn4.out.symm,hr4,rfl,hT2,bcY,HE,a3e⟩
     ·obtain ⟨j,rfl⟩:=Int.eq_ofNat_of_zero_le (show 0≤i' by omega)
      obtain ⟨b,off,rfl,hb',hcell,hlt⟩:=hri.at_ (k:=j) (by rw [hlen.out]; omega)
      have hcc:=hb5.cell (i:=j) (by rw [hdl.out]; omega)
      have hfr:=hb5.frozen j
      have a1C:=Lib.hid (fun v=>hb5.a1c (i:=j) v (by rw [hdl.out]; omega))
      have hst:=bct (x:=1000000000) (r:=r) (d:=dg (Uy gk) j) (H:=val ((Uy gk).drop (j+1))) (by omega) (by have:=hvv.out.2; rwa [show ((j:Int)+1).toNat=j+1 by omega] at this) hlt
      have HDD:=Lib.hid (a5o (Uy gk) (k:=j) (by rw [hlen.out]; omega))
      obtain ⟨d,hd⟩ : ∃ d,d=dg (Uy gk) j:=⟨_,rfl⟩
      rw [← hd] at hcell hlt hst HDD
      obtain ⟨D,hD⟩ : ∃ D,D=d+4294967296*r:=⟨_,rfl⟩
      rw [← hD] at hst
      have hO:bits .or .u64 ((r:Int)*4294967296) (d:Int)=(D:Int):=by rw [hD]; exact a3s (by omega) hlt
      obtain ⟨q,hq⟩ : ∃ q,q=D / 1000000000:=⟨_,rfl⟩
      obtain ⟨r',hr'⟩ : ∃ r',r'=D % 1000000000:=⟨_,rfl⟩
      rw [← hq,← hr'] at hst
      have hql:q < 4294967296:=hst.1
      have hDl:D≤18446744073709551615:=by omega
      have hqi:(D:Int) / 1000000000=(q:Int):=by omega
      have bpU:(D:Int) % 1000000000=(r':Int):=by omega
      have bj0:r'≤999999999:=by omega
      have HST:=Lib.hid hst.2
      clear hst hd hD hq hr'
      go_wp2_with fail
      go_roundw
      case rel =>
       refine ⟨(j:Int) - 1,r',ds.set j q,by omega,by omega,bj0,by go_num,by go_num,a1C.out q,Lib.hid (by rw [List.length_set]; exact hdl.out),alc hdw _ hql,Lib.hid ?_,hbi.setCell (Nat.le_refl _) _⟩
       have hv1:=hvv.out
       rw [show ((j:Int)+1).toNat=j+1 by omega] at hv1
       rw [show ((j:Int) - 1+1).toNat=j by omega,a5o (ds.set j q) (k:=j) (by rw [List.length_set,hdl.out]; omega),am3 (l:=ds) (k:=j) _ (by rw [hdl.out]; omega),if_pos rfl,a9w _ (by omega),hv1.1,HDD.out]
       exact HST.out
      case measure=>simp [intOf]
end Go.Proofs.YtbihljnjaondcaaGreatDoor
namespace Lw
open Go Go.RowKit
theorem bhp {l:List UInt8} {c:UInt8} (h : ∀ x∈l,x≠c):Lib.indexByte l c = -1:=by
 induction l with
 | nil=>rfl
 | cons b l ih =>
  unfold Lib.indexByte
  rw [if_neg (by simpa using h b (.head _)),ih (fun x hx=>h x (.tail _ hx))]
  rfl
theorem bkh {l:List UInt8} {c:UInt8} (h : ∀ x∈l,x≠c):Lib.index l [c] = -1:=by
 induction l with
 | nil=>rfl
 | cons b l ih =>
  have hb:([c].isPrefixOf (b :: l))=false:=by
   simp only [List.isPrefixOf,Bool.and_true,beq_eq_false_iff_ne]
   exact fun e=>h b (.head _) e.symm
  unfold Lib.index
  rw [hb,ih (fun x hx=>h x (.tail _ hx))]
  rfl
theorem bkg {l:List UInt8} {c:UInt8} (r:List UInt8) (h : ∀ x∈l,x≠c):Lib.index (l++([c]++r)) [c]=(l.length:Int):=by
 induction l with
 | nil =>
  show Lib.index (c :: r) [c]=0
  unfold Lib.index
  rw [if_pos (by simp [List.isPrefixOf])]
 | cons b l ih =>
  have hb:([c].isPrefixOf (b :: (l++([c]++r))))=false:=by
   simp only [List.isPrefixOf,Bool.and_true,beq_eq_false_iff_ne]
   exact fun e=>h b (.head _) e.symm
  show Lib.index (b :: (l++([c]++r))) [c]=_
  unfold Lib.index
  rw [hb,ih (fun x hx=>h x (.tail _ hx))]
  have:(((l.length:Int)) == -1)=false:=by rw [beq_eq_false_iff_ne]; omega
  rw [this]
  simp
theorem bhP {l:List UInt8} {c:UInt8} (h : ∀ x∈l,x≠c):Lib.cut l [c]=(l,[],false):=by
 unfold Lib.cut
 rw [bkh h,if_neg (by decide)]
theorem a6d {l:List UInt8} {c:UInt8} (r:List UInt8) (h : ∀ x∈l,x≠c):Lib.cut (l++([c]++r)) [c]=(l,r,true):=by
 unfold Lib.cut
 rw [bkg r h,if_pos (by omega)]
 simp
theorem bkl (z:Int) : ∀ x∈Lib.itoa z,x.toNat=45∨(48≤x.toNat∧x.toNat≤57):=by
 intro x hx
 cases hs:sg z
 ·rw [anm hs] at hx
  simp only [List.nil_append] at hx
  exact .inr (a4n _ x hx)
 ·rw [itoa_neg hs] at hx
  rcases List.mem_append.1 hx with hx | hx
  ·simp only [List.mem_cons,List.not_mem_nil,or_false] at hx
   subst hx; exact .inl rfl
  ·exact .inr (a4n _ x hx)
theorem a6w {z:Int} {c:UInt8} (h:c.toNat=46∨c.toNat=47) : ∀ x∈Lib.itoa z,x≠c:=by
 rintro x hx rfl
 have:=bkl z x hx
 omega
theorem bhT {N k:Nat} (h:N < pw k) (hk:k≤100):(Lib.decDigits N).length≤1001:=by
 have h1:pw k≤(10 ^ 10) ^ k:=by unfold pw; exact Nat.pow_le_pow_left (by decide) k
 rw [← Nat.pow_mul] at h1
 have h2:10 ^ (10*k)≤10 ^ (10*k+1):=Nat.pow_le_pow_right (by omega) (by omega)
 have h3:=a7q (10*k) N (by omega)
 omega
theorem bkm {z:Int} {k:Nat} (h:z.natAbs < pw k) (hk:k≤100):(Lib.itoa z).length≤1002:=by
 have:=bhT h hk
 cases hs:sg z
 ·rw [anm hs]; simp; omega
 ·rw [itoa_neg hs]; simp; omega
end Lw
namespace Go.Proofs.YtbihljnjaondcaaGreatDoor
open Go Go.RowKit Lw
section
variable {W0 w:World} {bs:List Bx} {L:List En} {ts:List Bt} {M:List Qn} {s:Bool} {A A':Option Addr} {n c n' c' k:Nat} {q:Rat} {b:Bool}
theorem Uz.k2 {g:Nat} {x y:Value} (h:Uz W0 w (⟨g,x,y⟩ :: bs) L ts M):w.cell? ⟨g,0,none⟩=some x∧w.cell? ⟨g,1,none⟩=some y:=⟨(h.c2 (.head _)).1,(h.c2 (.head _)).2.1⟩
end
end Go.Proofs.YtbihljnjaondcaaGreatDoor
