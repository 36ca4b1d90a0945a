/- Part of a proof, said shortly. -/
import Derived.Lib.ItoaNum
import Derived.Deep.RegionWith
import Derived.Deep.DrawnRows
import Derived.Test.YtbihljnjaondcaaGreatDoorAlt
import Derived.Test.YtbihljnjaondcaaGreatDoorT6
import Derived.Test.YtbihljnjaondcaaGreatDoorT4
import Derived.Test.YtbihljnjaondcaaGreatDoorT3
import Derived.Test.YtbihljnjaondcaaGreatDoorT2
import Derived.Test.YtbihljnjaondcaaGreatDoorT1
import Derived.Test.YtbihljnjaondcaaGreatDoorT5
import Derived.Test.YtbihljnjaondcaaGreatDoorT7
namespace Lw
open Go Go.RowKit
theorem a5o (l:List Nat) {k:Nat} (h:k < l.length):val (l.drop k)=dg l k+4294967296*val (l.drop (k+1)):=by
 rw [List.drop_eq_getElem_cons h,az1,a1p h]
theorem a9w (l:List Nat) {k j v:Nat} (h:k < j):(l.set k v).drop j=l.drop j:=by
 rw [List.drop_set,if_pos h]
theorem bct {x r d H:Nat} (hx:0 < x) (hr:r=H % x) (hd:d < 4294967296) :
  (d+4294967296*r) / x < 4294967296∧(d+4294967296*r) / x+4294967296*(H / x)=(d+4294967296*H) / x∧(d+4294967296*r) % x=(d+4294967296*H) % x:=by
 subst hr
 have h1:=Nat.mod_add_div H x
 have h2:=Nat.mod_lt H hx
 generalize H % x=r at *
 generalize H / x=q at *
 have h3:d+4294967296*H=(d+4294967296*r)+x*(4294967296*q):=by
  rw [← h1,Nat.mul_add]
  have:4294967296*(x*q)=x*(4294967296*q):=by rw [← Nat.mul_assoc,Nat.mul_comm 4294967296 x,Nat.mul_assoc]
  omega
 refine ⟨?_,?_,?_⟩
 ·rw [Nat.div_lt_iff_lt_mul hx]
  have h4:(r+1)*4294967296≤x*4294967296:=Nat.mul_le_mul_right _ h2
  have h5:x*4294967296=4294967296*x:=Nat.mul_comm _ _
  omega
 ·rw [h3,Nat.add_mul_div_left _ _ hx]
 ·rw [h3,Nat.add_mul_mod_self_left]
end Lw
namespace Go.Proofs.YtbihljnjaondcaaGreatDoor
open Go Go.RowKit Lw
set_option maxHeartbeats 1600000 in
theorem bcs (g x:Nat) (ns:List Nat) (n c:Nat) (w:World) (hb:Blk w g 99 ns) (hw:Wds ns) (hn:ns.length=n) (h1:1≤n) (hl:n≤16777216) (hx:1≤x) (hx2:x≤4294967295) :
  Calls Tryz.prog 201 #[.slice (some ⟨g,0,none⟩) n c,.int .u32 x] w fun e w' => ∃ ds,e = .returned (.int .u32 ((val ns % x:Nat):Int))∧Blk w' g 99 ds∧Wds ds∧ds.length=n∧val ds=val ns / x ∧
   w.grownBy w' (some g)∧w'.heap.size=w.heap.size:=by
 have Hn:=Lib.hid hn
 clear hn
 go_enter Tryz.func201,Tryz.ntmps201
 go_wp2_with fail
 go_loopw [5,6] (fun v i wr => ∃ (i':Int) (r:Nat) (ds:List Nat),-1≤i'∧i' < n∧r≤4294967294∧r < x∧i = .int .i64 i'∧v = .int .u64 r∧Blk wr g 99 ds∧Hid (ds.length=n)∧Wds ds ∧
   Hid (∀ j,j < (i'+1).toNat→dg ds j=dg ns j)∧Hid (val (ds.drop (i'+1).toNat)=val (ns.drop (i'+1).toNat) / x∧r=val (ns.drop (i'+1).toNat) % x)∧Hid (w.grownBy wr (some g)∧wr.heap.size=w.heap.size)) (fun _ i _=>(intOf i+1).toNat)
 case atStart=>exact ⟨(n:Int) - 1,0,ns,by omega,by omega,by omega,by omega,rfl,rfl,hb,Hn,hw,Lib.hid (fun _ _=>rfl),Lib.hid (by rw [show ((n:Int) - 1+1).toNat=n by omega,List.drop_of_length_le (by rw [Hn.out]; exact Nat.le_refl _)]; simp [val]),Lib.hid ⟨World.grownBy.refl w _,rfl⟩⟩
 case round =>
  obtain ⟨i',r,ds,hi,hin,hr,hrx,rfl,rfl,hb1,hdl,hdw,hsame,hv,hg⟩:=hrel
  clear hb
  by_cases h0:i' < 0
  ·have HV:Hid (val ds=val ns / x∧r=val ns % x):=Lib.hid (by have:=hv.out; rwa [show (i'+1).toNat=0 by omega,List.drop_zero,List.drop_zero] at this)
   go_wp2_with fail
   go_ret
   exact ⟨ds,ahy (by rw [HV.out.2]),hb1,hdw,hdl.out,HV.out.1,hg.out.1,hg.out.2⟩
  ·obtain ⟨j,rfl⟩:=Int.eq_ofNat_of_zero_le (show 0≤i' by omega)
   have hcc:=hb1.cell (i:=j) (by rw [hdl.out]; omega)
   have hlt:=ahv hdw j
   have hfr:=hb1.frozen j
   have HO:bits .or .u64 ((r:Int)*4294967296) (dg ds j:Int)=((dg ds j+4294967296*r:Nat):Int):=a3s (by omega) hlt
   have hst:=bct (x:=x) (r:=r) (d:=dg ds j) (H:=val (ns.drop (j+1))) (by omega) (by have:=hv.out.2; rwa [show ((j:Int)+1).toNat=j+1 by omega] at this) hlt
   have hm:=Nat.mod_lt (dg ds j+4294967296*r) (show 0 < x by omega)
   have HST:=Lib.hid hst
   have HM:=Lib.hid hm
   have hql:(dg ds j+4294967296*r) / x≤4294967295:=by have:=hst.1; omega
   clear hst hm
   have hdj:Hid (dg ds j=dg ns j):=Lib.hid (hsame.out j (by omega))
   go_wp2_with fail
   go_roundw
   case rel =>
    refine ⟨(j:Int) - 1,(dg ds j+4294967296*r) % x,ds.set j ((dg ds j+4294967296*r) / x),by omega,by omega,by have:=HM.out; omega,HM.out,rfl,by go_num,hb1.awX (by rw [hdl.out]; omega) ?_,Lib.hid (by rw [List.length_set]; exact hdl.out),alc hdw _ (by omega),Lib.hid ?_,Lib.hid ?_,Lib.hid ⟨a1q hg.out.1 _ _,by simp [hg.out.2]⟩⟩
    ·have h3:(((dg ds j+4294967296*r) / x:Nat):Int)=((dg ds j:Int)+4294967296*(r:Int)) / (x:Int):=by simp
     rw [← h3]
     generalize (dg ds j+4294967296*r) / x=q at hql ⊢
     omega
    ·intro k hk
     rw [am3 (l:=ds) (k:=j) _ (by rw [hdl.out]; omega),if_neg (by omega)]
     exact hsame.out k (by omega)
    ·have hv1:=hv.out
     rw [show ((j:Int)+1).toNat=j+1 by omega] at hv1
     rw [show ((j:Int) - 1+1).toNat=j by omega,a5o (ds.set j ((dg ds j+4294967296*r) / x)) (k:=j) (by rw [List.length_set,hdl.out]; omega),am3 (l:=ds) (k:=j) _ (by rw [hdl.out]; omega),if_pos rfl,a9w _ (by omega),hv1.1,a5o ns (k:=j) (by rw [Hn.out]; omega),← hdj.out]
     exact HST.out.2
   case measure=>simp [intOf]
end Go.Proofs.YtbihljnjaondcaaGreatDoor
namespace Lw
open Go Go.RowKit
def rtF:Nat→Nat→Nat
 | 0,_=>0
 | f+1,N=>if (f+1)*(f+1)≤N then f+1 else rtF f N
def rt (N:Nat):Nat:=rtF N N
theorem beU (f N:Nat) (h:N < (f+1)*(f+1)):rtF f N*rtF f N≤N∧N < (rtF f N+1)*(rtF f N+1):=by
 induction f with
 | zero=>unfold rtF; omega
 | succ f ih =>
  unfold rtF
  split
  ·rename_i h1; exact ⟨h1,h⟩
  ·rename_i h1; exact ih (by omega)
theorem a3Y (N:Nat):rt N*rt N≤N:=(beU N N (by have:=Nat.le_mul_self (N+1); omega)).1
theorem a8l (N:Nat):N < (rt N+1)*(rt N+1):=(beU N N (by have:=Nat.le_mul_self (N+1); omega)).2
theorem rt_eq {N r:Nat} (h1:r*r≤N) (h2:N < (r+1)*(r+1)):r=rt N:=by
 have h3:=a3Y N
 have h4:=a8l N
 rcases Nat.lt_trichotomy r (rt N) with h | h | h
 ·have:(r+1)*(r+1)≤rt N*rt N:=Nat.mul_le_mul h h
  omega
 ·exact h
 ·have:(rt N+1)*(rt N+1)≤r*r:=Nat.mul_le_mul h h
  omega
theorem a6B {N x:Nat} (h:x*x≤N):x≤rt N:=by
 have h4:=a8l N
 rcases Nat.lt_or_ge (rt N) x with h1 | h1
 ·have:(rt N+1)*(rt N+1)≤x*x:=Nat.mul_le_mul h1 h1
  omega
 ·exact h1
theorem bd8 {N x:Nat} (hx:0 < x):rt N≤(x+N / x) / 2:=by
 have h1:=a3Y N
 have h2:2*(x*rt N)≤x*x+rt N*rt N:=by
  rcases Nat.le_total x (rt N) with h | h
  ·obtain ⟨d,hd⟩:=Nat.exists_eq_add_of_le h
   rw [hd]; grind
  ·obtain ⟨d,hd⟩:=Nat.exists_eq_add_of_le h
   generalize rt N=r at *
   subst hd; grind
 have h3:x*(2*rt N - x)≤N:=by
  rw [Nat.mul_sub]
  have:x*(2*rt N)=2*(x*rt N):=by rw [Nat.mul_left_comm]
  omega
 have h4:2*rt N - x≤N / x:=by rw [Nat.le_div_iff_mul_le hx,Nat.mul_comm]; exact h3
 omega
theorem bd7 {N x:Nat} (hx:0 < x) (h:rt N≤x) (h2:x≤(x+N / x) / 2):x=rt N:=by
 have h3:x≤N / x:=by omega
 rw [Nat.le_div_iff_mul_le hx] at h3
 have:=a6B h3
 omega
theorem bmt {N x:Nat} (h:rt N≤x) (hx:0 < x):N / x≤x+2:=by
 have h1:=a8l N
 have h2:(rt N+1)*(rt N+1)≤(x+1)*(x+1):=Nat.mul_le_mul (by omega) (by omega)
 have h3:(x+1)*(x+1)=x*(x+2)+1:=by grind
 have h4:N / x < x+3:=by
  rw [Nat.div_lt_iff_lt_mul hx,Nat.mul_comm]
  have:x*(x+3)=x*(x+2)+x:=by grind
  omega
 omega
theorem beW {N:Nat} (h:N≠0):1≤rt N:=a6B (by omega)
theorem beV {N x:Nat} (h:N < x*x):rt N < x:=by
 have:=a3Y N
 rcases Nat.lt_or_ge (rt N) x with h1 | h1
 ·exact h1
 ·have:x*x≤rt N*rt N:=Nat.mul_le_mul h1 h1
  omega
theorem bitLen_spec {x:Nat} (h0:x≠0) (h:x < 18446744073709551616):1≤Lib.bitLen x∧2 ^ (Lib.bitLen x - 1)≤x∧x < 2 ^ Lib.bitLen x∧Lib.bitLen x≤64:=by
 have h2:x < 2 ^ 64:=by simpa using h
 obtain ⟨a,b,c⟩:=Lib.bitLenAux_bounds 64 x h2 h0
 exact ⟨a,b,c,Lib.bitLen_le x 64 (by omega) h2⟩
theorem bn0 {x:Nat} (h0:x≠0) (h:x < 18446744073709551616):rt x≤2 ^ ((Lib.bitLen x+1) / 2)∧2 ^ ((Lib.bitLen x+1) / 2)≤4294967296∧1≤2 ^ ((Lib.bitLen x+1) / 2):=by
 obtain ⟨h1,h2,h3,h4⟩:=bitLen_spec h0 h
 refine ⟨Nat.le_of_lt (beV ?_),?_,Nat.pow_pos (by omega)⟩
 ·rw [← Nat.pow_add]
  exact Nat.lt_of_lt_of_le h3 (Nat.pow_le_pow_right (by omega) (by omega))
 ·have:2 ^ ((Lib.bitLen x+1) / 2)≤2 ^ 32:=Nat.pow_le_pow_right (by omega) (by omega)
  simpa using this
end Lw
namespace Go.Proofs.YtbihljnjaondcaaGreatDoor
open Go Go.RowKit Lw
set_option maxHeartbeats 800000 in
theorem bfq (x y:Nat) (w:World) (hx:x≤18446744073709551615) (hy:y≤18446744073709551615) :
  Calls Tryz.prog 233 #[.int .u64 x,.int .u64 y] w fun e w'=>e = .returned (.int .u64 ((Nat.gcd x y:Nat):Int)) ∧ ∃ q,w'=w.drewN q:=by
 go_enter Tryz.func233,Tryz.ntmps233
 go_wp2
 go_loopw [0,1] (fun a b wr => ∃ u v q:Nat,u≤18446744073709551615∧v≤18446744073709551615∧a = .int .u64 u∧b = .int .u64 v∧Hid (Nat.gcd u v=Nat.gcd x y)∧wr=w.drewN q) (fun _ b _=>(intOf b).toNat)
 case atStart=>exact ⟨x,y,0,hx,hy,rfl,rfl,Lib.hid rfl,rfl⟩
 case round =>
  obtain ⟨u,v,q,hu,hv,rfl,rfl,hg,rfl⟩:=hrel
  by_cases h0:v=0
  ·subst h0
   have HG:Hid (u=Nat.gcd x y):=Lib.hid (by rw [← hg.out,Nat.gcd_zero_right])
   go_wp2
   go_ret
   exact ⟨ahy (by rw [← HG.out]),q,rfl⟩
  ·have HG:Hid (Nat.gcd v (u % v)=Nat.gcd x y):=Lib.hid (by rw [← hg.out,Nat.gcd_comm u v,Nat.gcd_rec v u,Nat.gcd_comm])
   have hm:=Nat.mod_lt u (show 0 < v by omega)
   have HM:=Lib.hid hm
   clear hm
   have hv1:1≤v:=by omega
   have hbq:((v:Int) != 0)=true:=by rw [bne_iff_ne]; omega
   clear h0
   go_wp2
   go_quiet (fail)
   go_wp2
   go_roundw
   case rel=>exact ⟨v,u % v,q+nq,hv,by have:=HM.out; omega,rfl,congrArg _ (Int.natCast_emod u v).symm,HG,by rw [World.drewN_drewN]⟩
   case measure =>
    show ((u:Int) % (v:Int)).toNat < ((v:Int)).toNat
    rw [← Int.natCast_emod,Int.toNat_natCast,Int.toNat_natCast]
    exact HM.out
set_option maxHeartbeats 800000 in
theorem bnT (x:Nat) (w:World) (hx:x≤18446744073709551615) :
  Calls Tryz.prog 236 #[.int .u64 x] w fun e w'=>e = .returned (.int .u64 ((rt x:Nat):Int))∧w=w':=by
 by_cases h0:x=0
 ·subst h0
  go_enter Tryz.func236,Tryz.ntmps236
  go_wp2
  go_ret
  exact ⟨rfl,rfl⟩
 ·obtain ⟨s1,s2,s3⟩:=bn0 h0 (by omega)
  have hbl:=(Lw.bitLen_spec h0 (by omega)).2.2.2
  have S1:=Lib.hid s1
  have hbq:((x:Int)==0)=false:=by rw [beq_eq_false_iff_ne]; omega
  have hk : ∀ w,Calls Tryz.prog 207 #[.int .u64 (x:Int)] w fun e w'=>e = .returned (.int .i64 ((Lib.bitLen x:Nat):Int))∧w=w':=fun w=>(Tryz.bits_Len64 x w (by omega) (by omega)).mono fun e w' h=>⟨by rw [h.1,Int.toNat_natCast],h.2.symm⟩
  have Hk:=Lib.hid hk
  clear hk s1
  generalize Lib.bitLen x=L at *
  obtain ⟨P,hP⟩ : ∃ P:Nat,P=2 ^ ((L+1) / 2):=⟨_,rfl⟩
  rw [← hP] at S1 s2 s3
  have hw:IntKind.u64.wrap (2 ^ ((L+1) / 2))=(P:Int):=by
   have e:((P:Nat):Int)=2 ^ ((L+1) / 2):=by rw [hP]; simp
   rw [← e]
   exact IntWalk.u64_in _ (by omega)
  clear hP
  go_enter Tryz.func236,Tryz.ntmps236
  go_wp2_with fail
  refine (Hk.out _).mono ?_
  rintro e w1 ⟨rfl,rfl⟩
  go_wp2_with fail
  go_loop [3,4] (fun v _ => ∃ u:Nat,1≤u∧u≤4294967296∧v = .int .u64 u∧Hid (rt x≤u)) (fun v _=>(intOf v).toNat)
  case atStart=>exact ⟨P,s3,s2,congrArg (Value.int .u64) hw,S1⟩
  case round =>
   obtain ⟨u,hu,hu2,rfl,hr⟩:=hrel
   have hge:=bd8 (N:=x) (x:=u) hu
   have hend:=bd7 (N:=x) (x:=u) hu hr.out
   have hq2:=bmt hr.out hu
   have hq:IntKind.u64.wrap ((x:Int) / (u:Int))=((x / u:Nat):Int):=by
    rw [← Int.natCast_ediv]
    exact IntWalk.u64_in _ (by have:=Nat.div_le_self x u; generalize x / u=Q at *; omega)
   obtain ⟨Q,hQ⟩ : ∃ Q,Q=x / u:=⟨_,rfl⟩
   rw [← hQ] at hge hend hq2 hq
   clear hQ
   have HE:=Lib.hid hend
   have HG:=Lib.hid hge
   clear hend hge hw
   by_cases hd:u≤(u+Q) / 2
   ·have HR:=Lib.hid (HE.out hd)
    go_wp2_with fail
    go_ret
    exact ⟨ahy (by rw [← HR.out]),rfl⟩
   ·go_wp2_with fail
    go_round
    case rel=>exact ⟨(u+Q) / 2,by have:=HG.out; have:=beW h0; omega,by omega,by go_num,HG⟩
    case measure=>simp [intOf]; omega
end Go.Proofs.YtbihljnjaondcaaGreatDoor
namespace Go.Proofs.YtbihljnjaondcaaGreatDoor
open Go Go.RowKit Lw
attribute [local go_sem ↓] Go.wp_at_zero Go.wp_at_succ
def a4h (w:World) (N M:Nat) (e:Ending) (w':World):Prop :=
 ∃ A c A' c',e = .returned (.tuple #[.slice A (Uy N).length c,.slice A' (Uy M).length c'])∧(Uy N).length≤c∧(Uy M).length≤c'∧Rd w' w'.heap.size A (Uy N)∧Rd w' w'.heap.size A' (Uy M)∧Below w.heap.size w w'
set_option maxRecDepth 100000 in
set_option maxHeartbeats 1600000 in
theorem bic (A A':Option Addr) (N M n m c c' B B':Nat) (w:World) (h:Rd w B A (Uy N)) (h':Rd w B' A' (Uy M)) (hB:B≤w.heap.size) (hB':B'≤w.heap.size)
  (hn:(Uy N).length=n) (hm:(Uy M).length=m) (hl:n≤8388608) (hl':m≤8388608) (_hc:n≤c) (hc':m≤c') (hM:M≠0)
  (HL:2 < n→m≠1→M≤N → ∀ W:World,Below w.heap.size w W→Calls Tryz.prog 235 #[.slice A n c,.slice A' m c'] W (a4h W (N / M) (N % M))) :
  Calls Tryz.prog 209 #[.slice A n c,.slice A' m c'] w (a4h w (N / M) (N % M)):=by
 have vN:=aar N
 have vM:=aar M
 have hm1:1≤m:=by
  rcases Nat.eq_zero_or_pos m with h0 | h0
  ·subst h0
   exact absurd (ak4.1 (List.eq_nil_of_length_eq_zero hm)) hM
  ·exact h0
 have Hn:=Lib.hid hn
 have Hm:=Lib.hid hm
 have VN:=Lib.hid vN
 have VM:=Lib.hid vM
 have HLL:=Lib.hid HL
 clear hn hm vN vM HL
 rcases Nat.lt_or_ge N M with hlt | hge
 ·have hcm:=a6b hlt
  have HD:Hid (N / M=0∧N % M=N):=Lib.hid ⟨Nat.div_eq_of_lt hlt,Nat.mod_eq_of_lt hlt⟩
  go_enter btL,btM
  go_wp2_with fail
  refine (a0T A A' (Uy N) (Uy M) _ _ _ _ B B' _ h h' (aj7 _) (aj7 _) Hn.out Hm.out (by omega) (by omega)).mono ?_
  rintro e w1 ⟨rfl,q,rfl⟩
  rw [VN.out,VM.out]
  go_wp2_with fail
  refine (clone_any A (Uy N) _ _ B _ (h.drewN q) (by simpa using hB) Hn.out (by omega)).mono ?_
  rintro e w2 ⟨A1,c1,rfl,hc1,hg1,hr1,hb1⟩
  go_wp2_with fail
  go_ret2
  rw [HD.out.1,HD.out.2]
  exact ⟨none,0,A1,c1,by rw [Hn.out]; rfl,Nat.le_refl _,by rw [Hn.out]; exact hc1,Rd.nil_ _ _ _,hr1,aaR (below_drewN' _ _ _) hb1 (Nat.le_refl _)⟩
 ·have hcm:=a6c hge
  by_cases h2:n≤2
  ·have hN2:N≤18446744073709551615:=by have:=awx (n:=N) (k:=2) (by rw [Hn.out]; exact h2); have h3:pw 2=18446744073709551616:=rfl; omega
   have HLo:Hid (lo (Uy N) 2=N):=Lib.hid (by rw [acm (by rw [Hn.out]; exact h2),VN.out])
   have a5C:Hid (lo (Uy M) 2=M):=Lib.hid (by
    rw [acm,VM.out]
    exact aj9 (by have h3:pw 2=18446744073709551616:=rfl; omega))
   have hq:IntKind.u64.wrap ((N:Int) / (M:Int))=((N / M:Nat):Int):=by
    rw [← Int.natCast_ediv]
    exact IntWalk.u64_in _ (by have:=Nat.div_le_self N M; generalize N / M=Q at *; omega)
   have hql:N / M≤18446744073709551615:=Nat.le_trans (Nat.div_le_self N M) hN2
   have hrl:N % M≤18446744073709551615:=Nat.le_trans (Nat.mod_le N M) hN2
   have hre:(N:Int).tmod (M:Int)=((N % M:Nat):Int):=by rw [Int.tmod_eq_emod_of_nonneg (by omega)]; exact (Int.natCast_emod N M).symm
   have hM1:1≤M:=by omega
   obtain ⟨Q,hQ⟩ : ∃ Q,Q=N / M:=⟨_,rfl⟩
   obtain ⟨R,hR⟩ : ∃ R,R=N % M:=⟨_,rfl⟩
   rw [← hQ] at hq hql ⊢
   rw [← hR] at hrl hre ⊢
   clear hQ hR
   go_enter btL,btM
   go_wp2_with fail
   refine (a0T A A' (Uy N) (Uy M) _ _ _ _ B B' _ h h' (aj7 _) (aj7 _) Hn.out Hm.out (by omega) (by omega)).mono ?_
   rintro e w1 ⟨rfl,q,rfl⟩
   rw [VN.out,VM.out]
   go_wp2_with fail
   refine (a3o A (Uy N) _ c B _ (h.drewN q) Hn.out (by omega)).mono ?_
   rintro e w2 ⟨rfl,rfl⟩
   rw [HLo.out]
   go_wp2_with fail
   refine (a3o A' (Uy M) _ c' B' _ (h'.drewN q) Hm.out (by omega)).mono ?_
   rintro e w2 ⟨rfl,rfl⟩
   rw [a5C.out]
   go_wp2_with fail
   go_region_with (first
    | (go_at_call_of 179 (Value.int IntKind.u64 (Q:Int)); refine (a2C Q _ hql).mono ?_; rintro e w3 ⟨A3,c3,rfl,hc3,hr3,hb3⟩)
    | (go_at_call_of 179 (Value.int IntKind.u64 (R:Int)); refine (a2C R _ hrl).mono ?_; rintro e w4 ⟨A4,c4,rfl,hc4,hr4,hb4⟩))
   go_wp2_with fail
   go_ret2
   have hb5:Below w.heap.size w w3:=by
    first
     | exact aaR (below_drewN' _ _ (q+1)) hb3 (Nat.le_refl _)
     | exact aaR (below_drewN' _ _ q).drew hb3 (Nat.le_refl _)
   exact ⟨A3,c3,A4,c4,rfl,hc3,hc4,(hr3.next hb4 (Nat.le_refl _)).more hb4.size,hr4,aaR hb5 hb4 (Nat.le_refl _)⟩
  ·by_cases h1:m=1
   ·subst h1
    obtain ⟨b,off,rfl,hb,hcell,hlt⟩:=h'.at_ (k:=0) (by rw [Hm.out]; omega)
    have hx:Hid (dg (Uy M) 0=M):=Lib.hid (by
     have e1:=acm (l:=Uy M) (k:=1) (by rw [Hm.out]; omega)
     rw [acw,akf,aNP,VM.out] at e1
     omega)
    rw [hx.out] at hcell hlt
    rw [Nat.add_zero] at hcell
    go_enter btL,btM
    go_wp2_with fail
    refine (a0T A (some ⟨b,off,none⟩) (Uy N) (Uy M) _ _ _ _ B B' _ h h' (aj7 _) (aj7 _) Hn.out Hm.out (by omega) (by omega)).mono ?_
    rintro e w1 ⟨rfl,q,rfl⟩
    rw [VN.out,VM.out]
    go_wp2_with fail
    refine (clone_any A (Uy N) _ _ B _ (h.drewN q) (by simpa using hB) Hn.out (by omega)).mono ?_
    rintro e w2 ⟨A1,c1,rfl,hc1,hg1,hr1,hb1⟩
    obtain ⟨g,rfl,hgl,hblk⟩:=hg1 (by omega)
    have hcell2:=(hb1.cell (p:=⟨b,off,none⟩) (by simp; omega)).trans hcell
    have hb2:=aaR (below_drewN' w.heap.size w q) hb1 (Nat.le_refl _)
    clear hb1
    go_wp2_with fail
    refine (bcs g M (Uy N) _ c1 _ hblk (acy _) Hn.out (by omega) (by omega) (by omega) (by omega)).mono ?_
    rintro e w3 ⟨ds,rfl,hblk3,hw3,hl3,hv3,hg3,hs3⟩
    rw [VN.out] at hv3 ⊢
    have hm3:=Nat.mod_lt N (show 0 < M by omega)
    obtain ⟨R,hR⟩ : ∃ R,R=N % M:=⟨_,rfl⟩
    rw [← hR] at hm3 ⊢
    have HR:=Lib.hid hR
    clear hR
    have hb4:=below_of_grown hb2 hg3 hb2.size hgl
    have hr3:=hblk3.rd hw3
    go_wp2_with fail
    refine (aOs _ ds _ c1 _ _ hr3 hl3 (by omega) (by omega)).mono ?_
    rintro e w4 ⟨rfl,rfl⟩
    rw [hv3]
    go_wp2_with fail
    refine (a2C R _ (by omega)).mono ?_
    rintro e w5 ⟨A5,c5,rfl,hc5,hr5,hb5⟩
    go_wp2_with fail
    go_ret2
    rw [← HR.out]
    have hr4:=hr3.Uy
    rw [hv3] at hr4
    have hc4:=aon hw3
    rw [hv3,hl3] at hc4
    exact ⟨_,_,A5,c5,rfl,Nat.le_trans hc4 hc1,hc5,(hr4.next hb5 (Nat.le_refl _)).more hb5.size,hr5,aaR hb4 hb5 (by have:=hb2.size; omega)⟩
   ·have hbq:((m:Int)==1)=false:=by rw [beq_eq_false_iff_ne]; omega
    go_enter btL,btM
    go_wp2_with fail
    refine (a0T A A' (Uy N) (Uy M) _ _ _ _ B B' _ h h' (aj7 _) (aj7 _) Hn.out Hm.out (by omega) (by omega)).mono ?_
    rintro e w1 ⟨rfl,q,rfl⟩
    rw [VN.out,VM.out]
    go_wp2_with fail
    refine (HLL.out (by omega) h1 hge _ (below_drewN' _ _ _)).mono ?_
    rintro e w2 ⟨A1,c1,A2,c2,rfl,hc1,hc2,hr1,hr2,hb1⟩
    go_wp2_with fail
    go_ret2
    exact ⟨A1,c1,A2,c2,rfl,hc1,hc2,hr1,hr2,aaR (below_drewN' _ _ _) hb1 (Nat.le_refl _)⟩
def a9h:Prop := ∀ (A A':Option Addr) (N M n m c c' B B':Nat) (w:World),Rd w B A (Uy N)→Rd w B' A' (Uy M)→B≤w.heap.size→B'≤w.heap.size→(Uy N).length=n→(Uy M).length=m→n≤8388608→m≤8388608→2≤m→M≤N →
 Calls Tryz.prog 235 #[.slice A n c,.slice A' m c'] w (a4h w (N / M) (N % M))
theorem a4q (A A':Option Addr) (N M n m c c' B B':Nat) (w:World) (h:Rd w B A (Uy N)) (h':Rd w B' A' (Uy M)) (hB:B≤w.heap.size) (hB':B'≤w.heap.size)
  (hn:(Uy N).length=n) (hm:(Uy M).length=m) (hl:n≤8388608) (hl':m≤8388608) (hc:n≤c) (hc':m≤c') (hM:M≠0) (HL:n≤2∨a9h) :
  Calls Tryz.prog 209 #[.slice A n c,.slice A' m c'] w (a4h w (N / M) (N % M)):=by
 refine bic A A' N M n m c c' B B' w h h' hB hB' hn hm hl hl' hc hc' hM ?_
 intro h2 h1 hMN W hb
 rcases HL with HL | HL
 ·omega
 ·have hm0:m≠0:=by
   intro e; subst e
   exact hM (ak4.1 (List.eq_nil_of_length_eq_zero hm))
  exact HL A A' N M n m c c' B B' W (h.below (hb.mono hB)) (h'.below (hb.mono hB')) (Nat.le_trans hB hb.size) (Nat.le_trans hB' hb.size) hn hm hl hl' (by omega) hMN
end Go.Proofs.YtbihljnjaondcaaGreatDoor
