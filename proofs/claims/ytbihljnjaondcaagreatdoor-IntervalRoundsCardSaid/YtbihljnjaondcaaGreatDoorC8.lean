/- Part of a proof, said shortly. -/
import Derived.Deep.RegionWith
import Derived.Deep.RegionHeld3
import Derived.Test.YtbihljnjaondcaaGreatDoorAlz
import Derived.Test.YtbihljnjaondcaaGreatDoorC7
import Derived.Test.YtbihljnjaondcaaGreatDoorC1
import Derived.Test.YtbihljnjaondcaaGreatDoorC2
import Derived.Test.YtbihljnjaondcaaGreatDoorC3
import Derived.Test.YtbihljnjaondcaaGreatDoorC4
namespace Lw
open Go Go.RowKit
theorem SY {p:Nat} (hp:p≤32):2 ^ (32 - p)*2 ^ p=4294967296:=by
 rw [← Nat.pow_add,show 32 - p+p=32 by omega]
theorem ajA {y p:Nat} (hy:y < 4294967296) (hp:p≤32):y / 2 ^ (32 - p) < 2 ^ p:=by
 rw [Nat.div_lt_iff_lt_mul (Nat.pow_pos (by omega)),Nat.mul_comm,SY hp]
 exact hy
theorem aGh {x y p:Nat} (hx:x < 4294967296) (hy:y < 4294967296) (hp:p≤31) :
  bits .or .u64 (IntKind.u64.wrap ((x:Int)*2 ^ p)) ((y:Int) / 2 ^ (32 - p))=((x*2 ^ p+y / 2 ^ (32 - p):Nat):Int):=by
 have h1:2 ^ p≤2147483648:=by
  have:2 ^ p≤2 ^ 31:=Nat.pow_le_pow_right (by omega) hp
  omega
 have h2:x*2 ^ p≤4294967295*2147483648:=Nat.mul_le_mul (by omega) h1
 have e1:(x:Int)*2 ^ p=(x:Int)*((2 ^ p:Nat):Int):=by simp
 have e2:(y:Int) / 2 ^ (32 - p)=((y / 2 ^ (32 - p):Nat):Int):=by simp
 have e3:(x:Int)*((2 ^ p:Nat):Int)=((x*2 ^ p:Nat):Int):=by simp
 rw [e1,e2,e3,IntWalk.u64_in _ (by omega),← e3]
 exact aiB (ajA hy (by omega)) (by omega) (by omega)
theorem ayg {x y p:Nat} (hx:x < 4294967296) (hy:y < 4294967296) (hp:p≤31) :
  bits .or .u64 ((x:Int) / 2 ^ p) (IntKind.u64.wrap ((y:Int)*2 ^ (32 - p))) % 4294967296=((x / 2 ^ p+y % 2 ^ p*2 ^ (32 - p):Nat):Int):=by
 have hR:2 ^ (32 - p)*2 ^ p=4294967296:=SY (by omega)
 have hx2:x / 2 ^ p < 2 ^ (32 - p):=by
  rw [Nat.div_lt_iff_lt_mul (Nat.pow_pos (by omega)),hR]; exact hx
 have hP:0 < 2 ^ p:=Nat.pow_pos (by omega)
 have hRl:2 ^ (32 - p)≤4294967296:=by
  have:2 ^ (32 - p)≤2 ^ 32:=Nat.pow_le_pow_right (by omega) (by omega)
  omega
 have h2:y*2 ^ (32 - p)≤4294967295*4294967296:=Nat.mul_le_mul (by omega) hRl
 have e2:(x:Int) / 2 ^ p=((x / 2 ^ p:Nat):Int):=by simp
 have e3:(y:Int)*2 ^ (32 - p)=((y*2 ^ (32 - p):Nat):Int):=by simp
 rw [e2,e3,IntWalk.u64_in _ (by omega),u64_or_nat _ _ (by omega) (by omega),Nat.or_comm,adV hx2]
 have h3:(y*2 ^ (32 - p)+x / 2 ^ p) % 4294967296=x / 2 ^ p+y % 2 ^ p*2 ^ (32 - p):=by
  have h4:=Nat.div_add_mod y (2 ^ p)
  have h5:=Nat.mod_lt y hP
  generalize y / 2 ^ p=q at *
  generalize y % 2 ^ p=r at *
  generalize x / 2 ^ p=t at *
  generalize 2 ^ (32 - p)=R at *
  generalize 2 ^ p=P at *
  subst h4
  have h6:(P*q+r)*R+t=(t+r*R)+4294967296*q:=by
   rw [← hR,Nat.add_mul]
   have:P*q*R=R*P*q:=by ac_rfl
   omega
  have h7:(r+1)*R≤P*R:=Nat.mul_le_mul_right _ h5
  rw [Nat.add_mul,Nat.one_mul,Nat.mul_comm P,hR] at h7
  rw [h6,Nat.add_mul_mod_self_left,Nat.mod_eq_of_lt (by omega)]
 omega
end Lw
namespace Go.Proofs.YtbihljnjaondcaaGreatDoor
open Go Go.RowKit Lw
set_option maxRecDepth 100000 in
set_option maxHeartbeats 1600000 in
theorem ajz (A:Option Addr) (ns:List Nat) (n c B s W p P R:Nat) (w:World) (h:Rd w B A ns) (hB:B≤w.heap.size) (hn:ns.length=n) (hl:n≤16777216) (hs:s≤536870912)
  (hW:W=s / 32) (hp:p=s % 32) (hP:P=2 ^ p) (hR:R=2 ^ (32 - p)) :
  Calls Tryz.prog 238 #[.slice A n c,.int .i64 s] w fun e w' => ∃ cs,e = .returned (.slice (some ⟨w.heap.size,0,none⟩) (n+W+1:Nat) (n+W+1:Nat))∧fH w' w.heap.size 99 cs ∧
   cs.length=n+W+1∧fQ cs∧val cs=pw W*(val ns*P)∧Below w.heap.size w w':=by
 have Hn:=Lib.hid hn
 clear hn
 have e1:(s:Int) / 32=(W:Int):=by omega
 have e2:(s:Int) % 32=(p:Int):=by omega
 have hp2:p≤31:=by omega
 have HP:=Lib.hid hP
 have HR:=Lib.hid hR
 clear hP hR hW hp
 go_enter Tryz.func238,Tryz.ntmps238
 go_wp2_with (at_make; refine Eo _ rfl _ _ _ rfl 99 aYN Az _ _ _ _ (n+W+1) rfl rfl (by omega) (by omega) (by omega) ?_; intro w1 hblk hbel hsz)
 go_loopw [22] (fun i wr => ∃ (k:Nat) (cs:List Nat),k≤n+1∧i = .int .i64 k∧fH wr w.heap.size 99 cs∧Hid (cs.length=n+W+1)∧fQ cs ∧
   Hid (lo cs (k+W)+pw (k+W)*(wd ns ((k:Int) - 1) / R)=pw W*(lo ns k*P))∧Below w.heap.size w wr) (fun i _=>n+1 - (intOf i).toNat)
 case atStart=>exact ⟨0,_,Nat.zero_le _,rfl,hblk,Lib.hid (by simp),Fv _,Lib.hid (by rw [ath (by omega),Yu (b:=[]) _ (fun j _=>by rw [Uw]; rfl),lG (by simp),xM]; simp [val]),hbel⟩
 case round =>
  obtain ⟨k,cs,hk,rfl,hb1,hcl,hcw,hv,hbw⟩:=hrel
  clear hblk hbel hsz
  have hr:=h.below (hbw.mono hB)
  by_cases hkn:k < n+1
  ·have hcc:=hb1.cell (i:=k+W) (by rw [hcl.out]; omega)
   have hfr:=hb1.frozen (k+W)
   have hw1:=H7 hr.gW (k:Int)
   have hw2:=H7 hr.gW ((k:Int) - 1)
   go_wp2_with fail
   have k1:IntKind.i64.wrap ((k:Int) - 1)=(k:Int) - 1:=IntWalk.i64_in _ (by omega)
   have k2:IntKind.i64.wrap ((k:Int)+(W:Int))=((k+W:Nat):Int):=by rw [IntWalk.i64_in _ (by omega)]; omega
   have k3:IntKind.i64.wrap (32 - (p:Int))=((32 - p:Nat):Int):=by rw [IntWalk.i64_in _ (by omega)]; omega
   go_region_with (go_at_call 204; refine (H9 _ ns _ _ _ _ _ hr.drew Hn.out (by omega)).mono ?_; rintro e w' ⟨rfl,rfl⟩)
   go_wp2_with fail
   have hkl:k+W < cs.length:=by rw [hcl.out]; omega
   have hR0:0 < R:=by rw [HR.out]; exact Nat.pow_pos (by omega)
   have hRP:R*P=4294967296:=by rw [HR.out,HP.out]; exact SY (by omega)
   have htP:wd ns ((k:Int) - 1) / R < P:=by rw [HR.out,HP.out]; exact ajA hw2 (by omega)
   have hval:bits .or .u64 (IntKind.u64.wrap ((wd ns (k:Int):Int)*2 ^ p)) ((wd ns ((k:Int) - 1):Int) / 2 ^ (32 - p)) % 4294967296=(((dg ns k*P+wd ns ((k:Int) - 1) / R) % 4294967296:Nat):Int):=by
    rw [aGh hw1 hw2 hp2,Dq,HR.out,HP.out]; omega
   go_roundw
   case rel =>
    refine ⟨k+1,cs.set (k+W) ((dg ns k*P+wd ns ((k:Int) - 1) / R) % 4294967296),by omega,by go_num,hb1.Fg hkl hval,Lib.hid (by rw [List.length_set]; exact hcl.out),yP hcw _ (Nat.mod_lt _ (by omega)),Lib.hid ?_,(hbw.setCell (Nat.le_refl _) _).drew⟩
    rw [show ((k+1:Nat):Int) - 1=(k:Int) by omega,Dq,show k+1+W=k+W+1 by omega]
    exact aGi hkl hv.out (aGj hRP hR0 htP)
   case measure=>simp [intOf]; omega
  ·obtain rfl:k=n+1:=by omega
   go_wp2_with fail
   go_ret
   refine ⟨cs,rfl,hb1,hcl.out,hcw,?_,hbw⟩
   have e:=hv.out
   rw [show ((n+1:Nat):Int) - 1=(n:Int) by omega,Dq,NK (by rw [Hn.out]; exact Nat.le_refl _),Nat.zero_div,Nat.mul_zero,Nat.add_zero,lG (by rw [hcl.out]; omega),lG (l:=ns) (by rw [Hn.out]; omega)] at e
   exact e
end Go.Proofs.YtbihljnjaondcaaGreatDoor
namespace Go.Proofs.YtbihljnjaondcaaGreatDoor
open Go Go.RowKit Lw
theorem apM (s:Nat):2 ^ s=pw (s / 32)*2 ^ (s % 32):=by
 unfold pw
 rw [show (4294967296:Nat)=2 ^ 32 from rfl,← Nat.pow_mul,← Nat.pow_add]
 congr 1; omega
set_option maxRecDepth 100000 in
set_option maxHeartbeats 16000000 in
theorem ajy (A:Option Addr) (ns:List Nat) (n c B s W p P R:Nat) (w:World) (h:Rd w B A ns) (hB:B≤w.heap.size) (hn:ns.length=n) (hl:n≤16777216) (hs:s≤536870912)
  (hW:W=s / 32) (hp:p=s % 32) (hP:P=2 ^ p) (hR:R=2 ^ (32 - p)) :
  Calls Tryz.prog 237 #[.slice A n c,.int .i64 s] w (Dw w (val ns / 2 ^ s)):=by
 have Hn:=Lib.hid hn
 clear hn
 have e1:(s:Int) / 32=(W:Int):=by omega
 have e2:(s:Int) % 32=(p:Int):=by omega
 have hp2:p≤31:=by omega
 have HP:=Lib.hid hP
 have HR:=Lib.hid hR
 have HQ:Hid (2 ^ s=pw W*P):=Lib.hid (by rw [hP,hp,hW]; exact apM s)
 clear hP hR hW hp
 by_cases hWn:n≤W
 ·have h0:Hid (val ns / 2 ^ s=0):=Lib.hid (by
   apply Nat.div_eq_of_lt
   have h1:=sW h.gW
   have h2:pw ns.length≤pw W:=uX (by rw [Hn.out]; exact hWn)
   have h3:pw W*1≤pw W*P:=Nat.mul_le_mul_left _ (by rw [HP.out]; exact Nat.pow_pos (by omega))
   rw [HQ.out]; omega)
  go_enter Tryz.func237,Tryz.ntmps237
  go_wp2_with fail
  go_ret
  rw [h0.out]
  exact ⟨none,0,rfl,Nat.le_refl _,Rd.nil_ _ _ _,Below.refl _ _⟩
 ·obtain ⟨m,hm⟩ : ∃ m,m=n - W:=⟨_,rfl⟩
  have hm1:IntKind.i64.wrap ((n:Int) - (W:Int))=(m:Int):=by rw [IntWalk.i64_in _ (by omega)]; omega
  have hm2:(n:Int) - (W:Int)=(m:Int):=by omega
  have hm3:m+W≤n:=by omega
  have hm4:n≤m+W:=by omega
  have hm5:m≤16777216:=by omega
  clear hm
  go_enter Tryz.func237,Tryz.ntmps237
  go_wp2_with (at_make; refine Eo _ rfl _ _ _ rfl 99 aYN Az _ _ _ _ m rfl rfl (by omega) (by omega) (by omega) ?_; intro w1 hblk hbel hsz)
  go_loopw [24] (fun i wr => ∃ (k:Nat) (cs:List Nat),k≤m∧i = .int .i64 k∧fH wr w.heap.size 99 cs∧Hid (cs.length=m)∧fQ cs ∧
    Hid (P*lo cs k+dg (ns.drop W) 0 % P=lo (ns.drop W) k+pw k*(dg (ns.drop W) k % P))∧Below w.heap.size w wr) (fun i _=>m - (intOf i).toNat)
  case atStart=>exact ⟨0,_,Nat.zero_le _,rfl,hblk,Lib.hid (by simp),Fv _,Lib.hid (by simp [xM,Jo]),hbel⟩
  case round =>
   obtain ⟨k,cs,hk,rfl,hb1,hcl,hcw,hv,hbw⟩:=hrel
   clear hblk hbel hsz
   have hr:=h.below (hbw.mono hB)
   by_cases hkn:k < m
   ·have hcc:=hb1.cell (i:=k) (by rw [hcl.out]; omega)
    have hfr:=hb1.frozen k
    have hw1:=H7 hr.gW ((k:Int)+(W:Int))
    have hw2:=H7 hr.gW ((k:Int)+(W:Int)+1)
    go_wp2_with fail
    have k2:IntKind.i64.wrap ((k:Int)+(W:Int))=(k:Int)+(W:Int):=IntWalk.i64_in _ (by omega)
    have k4:IntKind.i64.wrap ((k:Int)+(W:Int)+1)=(k:Int)+(W:Int)+1:=IntWalk.i64_in _ (by omega)
    have k3:IntKind.i64.wrap (32 - (p:Int))=((32 - p:Nat):Int):=by rw [IntWalk.i64_in _ (by omega)]; omega
    go_region_with (go_at_call 204; refine (H9 _ ns _ _ _ _ _ hr.drew Hn.out (by omega)).mono ?_; rintro e w' ⟨rfl,rfl⟩)
    go_wp2_with fail
    have hkl:k < cs.length:=by rw [hcl.out]; omega
    have hP0:0 < P:=by rw [HP.out]; exact Nat.pow_pos (by omega)
    have hRP:R*P=4294967296:=by rw [HR.out,HP.out]; exact SY (by omega)
    have d1:wd ns ((k:Int)+(W:Int))=dg (ns.drop W) k:=by rw [XY,← Dq]; congr 1; omega
    have d2:wd ns ((k:Int)+(W:Int)+1)=dg (ns.drop W) (k+1):=by rw [XY,← Dq]; congr 1; omega
    have hval:bits .or .u64 ((wd ns ((k:Int)+(W:Int)):Int) / 2 ^ p) (IntKind.u64.wrap ((wd ns ((k:Int)+(W:Int)+1):Int)*2 ^ (32 - p))) % 4294967296=((dg (ns.drop W) k / P+dg (ns.drop W) (k+1) % P*R:Nat):Int):=by
     rw [ayg hw1 hw2 hp2,d1,d2,HR.out,HP.out]
    have hlt:dg (ns.drop W) k / P+dg (ns.drop W) (k+1) % P*R < 4294967296:=(ayf hRP hP0 (by rw [← d1]; exact hw1)).2
    go_roundw
    case rel =>
     refine ⟨k+1,cs.set k (dg (ns.drop W) k / P+dg (ns.drop W) (k+1) % P*R),by omega,by go_num,hb1.Fg hkl hval,Lib.hid (by rw [List.length_set]; exact hcl.out),yP hcw _ hlt,Lib.hid ?_,(hbw.setCell (Nat.le_refl _) _).drew⟩
     exact ayi hkl hRP hv.out rfl
    case measure=>simp [intOf]; omega
   ·obtain rfl:k=m:=by omega
    have hP0:0 < P:=by rw [HP.out]; exact Nat.pow_pos (by omega)
    have hdl:(ns.drop W).length=k:=by rw [List.length_drop,Hn.out]; omega
    have HV:Hid (val cs=val ns / 2 ^ s):=Lib.hid (by
     rw [HQ.out,← Nat.div_div_eq_div_mul,← aGE h.gW]
     refine ayh (z:=dg (ns.drop W) 0 % P) hP0 (by rw [hdl]; exact hcl.out) (Nat.mod_lt _ hP0) ?_
     rw [hdl]; exact hv.out)
    go_wp2_with (go_at_call 202; refine (H6 _ cs _ _ _ _ (hb1.rd hcw) hcl.out (Nat.le_refl _) (by omega)).mono ?_; rintro e w' ⟨rfl,rfl⟩)
    go_ret
    refine ⟨_,_,BV (by rw [HV.out]),?_,?_,hbw⟩
    ·have:=BI hcw
     rw [HV.out,hcl.out] at this; exact this
    ·have:=(hb1.rd hcw).bg
     rw [HV.out] at this; exact this
end Go.Proofs.YtbihljnjaondcaaGreatDoor
namespace Lw
open Go Go.RowKit
theorem ar1 {d:Nat} (h0:d≠0) (h:d < 4294967296):1≤Lib.bitLen d∧Lib.bitLen d≤32∧2147483648≤d*2 ^ (32 - Lib.bitLen d)∧d*2 ^ (32 - Lib.bitLen d) < 4294967296:=by
 obtain ⟨h1,h2,h3,_⟩:=bitLen_spec h0 (show d < 18446744073709551616 by omega)
 have h4:Lib.bitLen d≤32:=Lib.bitLen_le d 32 (by omega) (by simpa using h)
 have e1:2 ^ (Lib.bitLen d - 1)*2 ^ (32 - Lib.bitLen d)=2147483648:=by rw [← Nat.pow_add,show Lib.bitLen d - 1+(32 - Lib.bitLen d)=31 by omega]
 have e2:2 ^ Lib.bitLen d*2 ^ (32 - Lib.bitLen d)=4294967296:=by rw [← Nat.pow_add,show Lib.bitLen d+(32 - Lib.bitLen d)=32 by omega]
 have hp:0 < 2 ^ (32 - Lib.bitLen d):=Nat.pow_pos (by omega)
 have m1:=Nat.mul_le_mul_right (2 ^ (32 - Lib.bitLen d)) h2
 have m2:=Nat.mul_lt_mul_of_pos_right h3 hp
 exact ⟨h1,h4,by omega,by omega⟩
theorem aFt {l:List Nat} {k P:Nat} (hw:fQ l) (hl:l.length=k+2) (h1:2147483648≤dg l (k+1)*P) (h2:dg l (k+1)*P < 4294967296) (hP:0 < P) (hPd:dg l (k+1)*P+P≤4294967296) :
  (bg (val l*P)).length=k+2∧2147483648≤dg (bg (val l*P)) (k+1):=by
 have e:lo l (k+2)=val l:=lG (by omega)
 rw [show k+2=k+1+1 from rfl,lg] at e
 have h3:=BQ hw (k+1)
 have e2:val l*P=lo l (k+1)*P+pw (k+1)*(dg l (k+1)*P):=by rw [← e,Nat.add_mul,Nat.mul_assoc]
 have h4:lo l (k+1)*P+P≤pw (k+1)*P:=by
  have:=Nat.mul_le_mul_right P h3
  rwa [Nat.succ_mul] at this
 have h5:pw (k+1)*(dg l (k+1)*P)+pw (k+1)*P≤pw (k+2):=by
  rw [← Nat.mul_add,vH (k+1),Nat.mul_comm 4294967296]
  exact Nat.mul_le_mul_left _ hPd
 have h6:pw (k+1)*2147483648≤pw (k+1)*(dg l (k+1)*P):=Nat.mul_le_mul_left _ h1
 have hlt:val l*P < pw (k+2):=by omega
 have hpp:=Di (k+1)
 have hle:=xQ hlt
 have hlen:(bg (val l*P)).length=k+2:=by
  rcases Nat.lt_or_ge (bg (val l*P)).length (k+2) with h7 | h7
  ·have:=Dz (n:=val l*P) (k:=k+1) (by omega)
   omega
  ·omega
 refine ⟨hlen,?_⟩
 have e3:lo (bg (val l*P)) (k+2)=val l*P:=by rw [lG (by omega),fA]
 rw [show k+2=k+1+1 from rfl,lg] at e3
 have h8:=BQ (mJ (val l*P)) (k+1)
 refine Nat.le_of_not_lt fun h9 => ?_
 have:=Nat.mul_le_mul_left (pw (k+1)) (show dg (bg (val l*P)) (k+1)+1≤2147483648 by omega)
 rw [Nat.mul_add,Nat.mul_one] at this
 omega
theorem asl {d P:Nat} (h1:d*P < 4294967296) (h2 : ∃ k,k*P=4294967296):d*P+P≤4294967296:=by
 obtain ⟨k,hk⟩:=h2
 rw [← hk] at h1 ⊢
 have h3:d < k:=Nat.lt_of_mul_lt_mul_right h1
 have:=Nat.mul_le_mul_right P h3
 rwa [Nat.succ_mul] at this
theorem aAY {N M n k P:Nat} (hn:(bg N).length=n) (hm:(bg M).length=k+2) (hnm:k+2≤n) (hP:0 < P):N*P < M*P*pw (n - (k+2)+1):=by
 have h1:N < pw n:=Dz (by omega)
 have h2:=Y8 (vU M) (by intro e; rw [e] at hm; simp at hm)
 rw [fA,hm] at h2
 have h3:pw n=pw (k+2 - 1)*pw (n - (k+2)+1):=by rw [← OB]; congr 1; omega
 have h4:pw (k+2 - 1)*pw (n - (k+2)+1)≤M*pw (n - (k+2)+1):=Nat.mul_le_mul_right _ h2
 have h5:N < M*pw (n - (k+2)+1):=by omega
 have h6:=Nat.mul_lt_mul_of_pos_right h5 hP
 have h7:M*pw (n - (k+2)+1)*P=M*P*pw (n - (k+2)+1):=by ac_rfl
 omega
theorem aFu {r P:Nat} (hP:0 < P):r*P / P=r:=Nat.mul_div_cancel r hP
end Lw
namespace Go.Proofs.YtbihljnjaondcaaGreatDoor
open Go Go.RowKit Lw
set_option maxRecDepth 100000 in
set_option maxHeartbeats 3200000 in
theorem aAX (A A':Option Addr) (N M n k c c' B B':Nat) (w:World) (h:Rd w B A (bg N)) (h':Rd w B' A' (bg M)) (hB:B≤w.heap.size) (hB':B'≤w.heap.size)
  (hn:(bg N).length=n) (hm:(bg M).length=k+2) (hl:n≤8388608) (hnm:k+2≤n) :
  Calls Tryz.prog 235 #[.slice A n c,.slice A' (k+2:Nat) c'] w (Ul w (N / M) (N % M)):=by
 obtain ⟨b,off,rfl,hb,hcell,hlt⟩:=h'.at_ (k:=k+1) (by rw [hm]; omega)
 have hd0:dg (bg M) (k+1)≠0:=by
  refine vU M _ ?_
  rw [List.getLast?_eq_getElem?,hm,show k+2 - 1=k+1 by omega,NL (by omega)]
 obtain ⟨t1,t2,t3,t4⟩:=ar1 hd0 hlt
 obtain ⟨d,hd⟩ : ∃ d,d=dg (bg M) (k+1):=⟨_,rfl⟩
 rw [← hd] at hcell hlt hd0 t1 t2 t3 t4
 have hk:=fun W=>(Tryz.bits_LeadingZeros32 (d:Int) W (by omega) (by omega))
 obtain ⟨s,hs⟩ : ∃ s,s=32 - Lib.bitLen d:=⟨_,rfl⟩
 rw [← hs] at t3 t4
 have anQ:s≤31:=by omega
 have hk2 : ∀ W,Calls Tryz.prog 252 #[.int .u32 (d:Int)] W fun e w'=>e = .returned (.int .i64 (s:Int))∧W=w':=fun W=>(hk W).mono fun e w' h=>⟨by rw [h.1,Int.toNat_natCast,hs]; congr 2; omega,h.2.symm⟩
 have Hk:=Lib.hid hk2
 have hP0:0 < 2 ^ s:=Nat.pow_pos (by omega)
 have htop:=aFt (mJ M) hm (by rw [← hd]; exact t3) (by rw [← hd]; exact t4) hP0 (by rw [← hd]; exact asl t4 ⟨2 ^ (32 - s),SY (by omega)⟩)
 rw [fA] at htop
 have hst:=aAY hn hm hnm hP0
 obtain ⟨P,hP⟩ : ∃ P,P=2 ^ s:=⟨_,rfl⟩
 rw [← hP] at hP0 htop hst
 have hs1:0=s / 32:=by omega
 have hs2:s=s % 32:=by omega
 have Bz:=Lib.hid (And.intro hs1 (And.intro hs2 hP))
 have HN:=Lib.hid hn
 have HM:=Lib.hid hm
 have HT:=Lib.hid htop
 have HS:=Lib.hid hst
 have HP:=Lib.hid hP0
 obtain ⟨j,hj⟩ : ∃ j,n=k+2+j:=⟨n - (k+2),by omega⟩
 subst hj
 clear hk hk2 hs t1 t2 t3 t4 hd hn hm htop hst hP0 hd0 hs1 hs2 hP
 go_enter Tryz.func235,Tryz.ntmps235
 go_wp2_with fail
 refine (Hk.out _).mono ?_
 rintro e w1 ⟨rfl,rfl⟩
 go_wp2_with fail
 refine (ajz A (bg N) (k+2+j) c B s 0 s P (2 ^ (32 - s)) _ h hB HN.out (by omega) (by omega) Bz.out.1 Bz.out.2.1 Bz.out.2.2 rfl).mono ?_
 rintro e w2 ⟨us,rfl,hu1,GU,huw,huv,hub⟩
 rw [fA,Jo,Nat.one_mul] at huv
 have an3:=hu1.lt
 have Hul:=Lib.hid GU
 have Huv:=Lib.hid huv
 clear GU huv
 go_wp2_with fail
 refine (ajz (some ⟨b,off,none⟩) (bg M) (k+2) c' B' s 0 s P (2 ^ (32 - s)) _ (h'.below (hub.mono hB')) (Nat.le_trans hB' hub.size) HM.out (by omega) (by omega) Bz.out.1 Bz.out.2.1 Bz.out.2.2 rfl).mono ?_
 rintro e w3 ⟨vs,rfl,hv1,hvl,hvw,hvv,hvb⟩
 rw [fA,Jo,Nat.one_mul] at hvv
 have az2:=hv1.lt
 have Hvl:=Lib.hid hvl
 have Hvv:=Lib.hid hvv
 clear hvl hvv
 go_wp2_with fail
 refine (H6 _ vs _ _ _ _ (hv1.rd hvw) Hvl.out (by omega) (by omega)).mono ?_
 rintro e w4 ⟨rfl,rfl⟩
 have hvr:=(hv1.rd hvw).bg
 rw [Hvv.out] at hvr ⊢
 rw [HT.out.1]
 obtain ⟨V,hV⟩ : ∃ V,V=M*P:=⟨_,rfl⟩
 rw [← hV] at hvr
 have HV:=Lib.hid hV
 have an5:=hub.trans (hvb.mono hub.size)
 have hu2:=hu1.below hvb an3
 clear hV hub hvb hu1 hv1
 have hj1:IntKind.i64.wrap ((k:Int)+2+(j:Int)+1 - ((k:Int)+2))=((j+1:Nat):Int):=by rw [IntWalk.i64_in _ (by omega)]; omega
 have hj2:(k:Int)+2+(j:Int)+1 - ((k:Int)+2)=((j+1:Nat):Int):=by omega
 go_wp2_with (at_make; refine Eo _ rfl _ _ _ rfl 99 aYN Az _ _ _ _ (j+1) rfl rfl (by omega) (by omega) (by omega) ?_; intro w4 hq1 PL hqs)
 have hu4:=hu2.below PL (Nat.lt_of_lt_of_le an3 (Nat.le_of_lt (Nat.lt_of_lt_of_le az2 (Nat.le_refl _)))|> fun h=>by omega)
 have hv4:=hvr.below PL
 have hb4:=an5.trans (PL.mono (by omega))
 have hgq:=hq1.lt
 have HKS:=Lib.hid (show Ks (N*P) V (k+2) us (List.replicate (j+1) 0) (j+1) from Ks.start Huv.out (by rw [Hul.out]; omega) (by rw [HV.out]; have:=HS.out; rwa [show k+2+j - (k+2)+1=j+1 by omega] at this))
 clear hu2 hvr an5 PL hqs
 generalize w3.heap.size=gq at *
 generalize w2.heap.size=gv at *
 go_loopw [9] (fun i wr => ∃ (i':Int) (xs qs:List Nat),-1≤i'∧i'≤j∧i = .int .i64 i'∧fH wr w.heap.size 99 xs∧Hid (xs.length=k+2+j+1)∧fQ xs∧fH wr gq 99 qs∧Hid (qs.length=j+1)∧fQ qs ∧
   Rd wr gq (some ⟨gv,0,none⟩) (bg V)∧Hid (Ks (N*P) V (k+2) xs qs (i'+1).toNat)∧Below w.heap.size w wr) (fun i _=>(intOf i+1).toNat)
 case atStart=>exact ⟨j,us,_,by omega,by omega,rfl,hu4,Lib.hid (by rw [Hul.out]),huw,hq1,Lib.hid (by simp),Fv _,hv4,HKS,hb4⟩
 case round =>
  obtain ⟨i',xs,qs,hi,hij,rfl,hx1,hxl,hxw,hqq,zg,NZ,hv5,hks,hbw⟩:=hrel
  clear hu4 hq1 hv4 hb4
  by_cases h0:i' < 0
  ·have azI:Hid (Ks (N*P) V (k+2) xs qs 0):=Lib.hid (by have:=hks.out; rwa [show (i'+1).toNat=0 by omega] at this)
   have hko:=azI.out.out
   have HR:Hid (val xs / 2 ^ s=N % M∧val qs=N / M):=Lib.hid (by
    rw [HV.out,Nat.mul_mod_mul_right,Nat.mul_div_mul_right _ _ HP.out] at hko
    rw [hko.1,← Bz.out.2.2]
    exact ⟨aFu HP.out,hko.2⟩)
   clear hko
   go_wp2_with fail
   refine (H6 _ qs _ _ _ _ (hqq.rd NZ) zg.out (Nat.le_refl _) (by omega)).mono ?_
   rintro e w7 ⟨rfl,rfl⟩
   rw [HR.out.2]
   have hqd:=(hqq.rd NZ).bg
   have PM:=BI NZ
   rw [HR.out.2] at hqd PM
   rw [zg.out] at PM
   have HQN:=Lib.hid PM
   clear PM
   go_wp2_with fail
   refine (ajy _ xs (k+2+j+1) _ _ s 0 s P (2 ^ (32 - s)) _ (hx1.rd hxw) (Nat.le_refl _) hxl.out (by omega) (by omega) Bz.out.1 Bz.out.2.1 Bz.out.2.2 rfl).mono ?_
   rintro e w8 ⟨A8,c8,rfl,hc8,EM,hb8⟩
   rw [HR.out.1] at EM hc8 ⊢
   go_wp2_with fail
   go_ret2
   exact ⟨_,_,A8,c8,rfl,HQN.out,hc8,(hqd.below hb8).more hb8.size,EM,fK hbw hb8 (Nat.le_refl _)⟩
  ·obtain ⟨i,rfl⟩:=Int.eq_ofNat_of_zero_le (show 0≤i' by omega)
   have anC:Hid (Ks (N*P) V (k+2) xs qs (i+1)):=Lib.hid (by have:=hks.out; rwa [show ((i:Int)+1).toNat=i+1 by omega] at this)
   clear hks
   go_wp2_with fail
   rw [show i+(k+2)+1 - i=k+3 by omega]
   go_wp2_with fail
   have HTV:Hid ((bg V).length=k+2∧2147483648≤dg (bg V) (k+1)):=Lib.hid (by rw [HV.out]; exact HT.out)
   have hxi:i < xs.length:=by rw [hxl.out]; omega
   obtain ⟨U,hU1,hU2,hU3,hU4,hU5⟩:=anC.out.part hxw hxi (Dz (by rw [HTV.out.1]; exact Nat.le_refl _))
   have hVp:0 < V:=by
    rcases Nat.eq_zero_or_pos V with e | e
    ·rw [e] at hU3; omega
    ·exact e
   have HU:=Lib.hid (And.intro hU2 (And.intro hU4 hU5))
   have azP:=hqq.lt
   refine (azh _ _ ((xs.drop i).take (k+2+1)) (bg V) k _ _ _ gq _ (hx1.aDU hxw i (k+2+1) (by rw [hxl.out]; omega)) hv5 (by rw [List.length_take,List.length_drop,hxl.out]; omega) HTV.out.1 (by omega) HTV.out.2 (by rw [hU1,fA]; exact hU3)).mono ?_
   rintro e w5 ⟨x,q,rfl,rfl,hx,hxa,hxb⟩
   rw [hU1,fA] at hxa hxb
   have HX:=Lib.hid (And.intro hxa hxb)
   clear hU1 hU2 hU3 hU4 hU5 hxa hxb
   go_wp2_with fail
   refine (aFL w.heap.size i x (k+2) U (some ⟨gv,0,none⟩) xs (bg V) _ _ gq _ (hx1.drewN q) hxw (hv5.drewN q) (by simp; omega) (fun _ a ha=>by injection ha with e; subst e; simp; omega) HTV.out.1 (by omega) (by rw [hxl.out]; omega) (by rw [hxl.out]; omega) (by omega) hx HU.out.2.1 (by rw [fA]; exact hVp) (by rw [fA]; exact HX.out.1) (by rw [fA]; exact HX.out.2)).mono ?_
   rintro e w6 ⟨ds,rfl,hb6,hdl,hdw,hsame,hval,wC,anX⟩
   rw [fA] at hval ⊢
   obtain ⟨Q,hQ⟩ : ∃ Q,Q=U / V:=⟨_,rfl⟩
   have hQl:Q≤4294967295:=by rw [hQ]; exact Nat.le_trans HX.out.1 hx
   rw [← hQ] at hval ⊢
   have hq6:=hqq.of_same (wC.block gq azP (by intro e; injection e with e; omega))
   have hv6:=hv5.grown ((show wr.grownBy (wr.drewN q) (some w.heap.size) from ⟨rfl,rfl,rfl,Nat.le_refl _,fun _ _ _=>rfl⟩).trans wC) (by omega) (fun _ a ha=>by injection ha with e; subst e; simp; omega)
   have BO:=below_of_grown (hbw.trans (below_drewN' _ _ _)) wC (by simp; exact hbw.size) (Nat.le_refl _)
   have HD:=Lib.hid (And.intro hdl (And.intro hsame (And.intro hval (And.intro hQ anX))))
   have hqc:=hq6.cell (i:=i) (by rw [zg.out]; omega)
   have hqf:=hq6.frozen i
   have HB:=Lib.hid BO
   clear hdl hsame hval hQ anX wC BO
   go_wp2_with fail
   go_roundw
   case rel =>
    refine ⟨(i:Int) - 1,ds,qs.set i Q,by omega,by omega,rfl,hb6.far (p:=⟨gq,i,none⟩) (by simp; omega) _,Lib.hid (by rw [HD.out.1]; exact hxl.out),hdw,hq6.Gi Q (by rw [zg.out]; omega),Lib.hid (by rw [List.length_set]; exact zg.out),yP NZ _ (by omega),hv6.setCell (p:=⟨gq,i,none⟩) (Nat.le_refl _) _,Lib.hid ?_,HB.out.setCell (p:=⟨gq,i,none⟩) (by simp; omega) _⟩
    rw [show ((i:Int) - 1+1).toNat=i by omega,HD.out.2.2.2.1]
    refine anC.out.next hxi (by rw [zg.out]; omega) HD.out.1 HU.out.1 hVp ?_ HU.out.2.2 HD.out.2.1 (by rw [← HD.out.2.2.2.1]; exact HD.out.2.2.1)
    have:=BQ hxw (i+(k+2)+1)
    rw [HU.out.2.2]; exact this
   case measure=>simp [intOf]
theorem UW:agQ:=by
 intro A A' N M n m c c' B B' w h h' hB hB' hn hm hl hl' h2 Eb
 obtain ⟨k,rfl⟩ : ∃ k,m=k+2:=⟨m - 2,by omega⟩
 have hnm:k+2≤n:=by
  rcases Nat.lt_or_ge n (k+2) with h1 | h1
  ·have:=Yv (mJ N) (vU M) (by rw [hn,hm]; exact h1)
   rw [fA,fA] at this
   omega
  ·exact h1
 exact aAX A A' N M n k c c' B B' w h h' hB hB' hn hm hl hnm
end Go.Proofs.YtbihljnjaondcaaGreatDoor
namespace Go.Proofs.YtbihljnjaondcaaGreatDoor
open Go Go.RowKit Lw
set_option maxRecDepth 100000 in
set_option maxHeartbeats 3200000 in
theorem aot (A A':Option Addr) (N M k m c c' B B':Nat) (w:World) (h:Rd w B A (bg M)) (h':Rd w B' A' (bg N)) (hn:(bg N).length=k+3) (hm:(bg M).length=m) (hl:k≤8388608) (Eb:M≤N) :
  Calls Tryz.prog 250 #[.slice A m c,.slice A' (k+3:Nat) c'] w fun e w' => ∃ q,e = .returned (.int .u64 ((M / (pw k*2 ^ Lib.bitLen (dg (bg N) (k+2))):Nat):Int))∧w'=w.drewN q:=by
 obtain ⟨b,off,rfl,hb,hcell,hlt⟩:=h'.at_ (k:=k+2) (by rw [hn]; omega)
 have hd0:dg (bg N) (k+2)≠0:=by
  refine vU N _ ?_
  rw [List.getLast?_eq_getElem?,hn,show k+3 - 1=k+2 by omega,NL (by omega)]
 obtain ⟨t1,t2,t3,t4⟩:=ar1 hd0 hlt
 have hmm:m≤k+3:=by
  rcases Nat.lt_or_ge (k+3) m with h1 | h1
  ·have:=Yv (mJ N) (vU M) (by rw [hn,hm]; exact h1)
   rw [fA,fA] at this
   omega
  ·exact h1
 have Yb:val (bg M) < pw (k+3):=Nat.lt_of_lt_of_le (sW (mJ M)) (uX (by rw [hm]; exact hmm))
 have htm:=aFX (mJ N) (by rw [fA,fA]; exact Eb) hn Yb
 obtain ⟨d,hd⟩ : ∃ d,d=dg (bg N) (k+2):=⟨_,rfl⟩
 rw [← hd] at hcell hlt hd0 t1 t2 t3 t4 htm
 obtain ⟨s,hs⟩ : ∃ s,s=32 - Lib.bitLen d:=⟨_,rfl⟩
 rw [← hs] at t3 t4
 have anQ:s≤31:=by omega
 have hbl:Lib.bitLen d=32 - s:=by omega
 have hk:=fun W=>(Tryz.bits_LeadingZeros32 (d:Int) W (by omega) (by omega))
 have hk2 : ∀ W,Calls Tryz.prog 252 #[.int .u32 (d:Int)] W fun e w'=>e = .returned (.int .i64 (s:Int))∧W=w':=fun W=>(hk W).mono fun e w' h=>⟨by rw [h.1,Int.toNat_natCast,hs]; congr 2; omega,h.2.symm⟩
 have Hk:=Lib.hid hk2
 have hval:=aAQ (n:=k) (mJ M) Yb (SY (p:=s) (by omega)) (Nat.pow_pos (by omega))
 rw [fA] at hval
 obtain ⟨w1,hw1⟩ : ∃ x,x=dg (bg M) (k+2):=⟨_,rfl⟩
 obtain ⟨w2,hw2⟩ : ∃ x,x=dg (bg M) (k+1):=⟨_,rfl⟩
 obtain ⟨w3,hw3⟩ : ∃ x,x=dg (bg M) k:=⟨_,rfl⟩
 have l1:w1 < 4294967296:=by rw [hw1]; exact ve (mJ M) _
 have l2:w2 < 4294967296:=by rw [hw2]; exact ve (mJ M) _
 have l3:w3 < 4294967296:=by rw [hw3]; exact ve (mJ M) _
 rw [← hw1,← hw2,← hw3] at hval
 rw [← hw1] at htm
 obtain ⟨P,hP⟩ : ∃ P,P=2 ^ s:=⟨_,rfl⟩
 have htop:(w2+4294967296*w1)*P≤18446744073709551615:=by
  have hP0:0 < P:=by rw [hP]; exact Nat.pow_pos (by omega)
  have f1:w1*P≤d*P:=Nat.mul_le_mul_right _ htm
  have f2:w1*P+P≤4294967296:=asl (by rw [← hP] at t4; omega) ⟨2 ^ (32 - s),by rw [hP]; exact SY (by omega)⟩
  have f3:w2*P≤4294967295*P:=Nat.mul_le_mul_right _ (by omega)
  rw [Nat.add_mul,Nat.mul_assoc]
  omega
 have anM:bits .or .u64 ((w1:Int)*4294967296) (w2:Int)=((w2+4294967296*w1:Nat):Int):=SV l1 l2
 obtain ⟨top,ht⟩ : ∃ t,t=w2+4294967296*w1:=⟨_,rfl⟩
 rw [← ht] at anM htop hval
 have htl:top≤18446744073709551615:=by omega
 have hb3:w3 / 2 ^ (32 - s) < 2 ^ s:=ajA l3 (by omega)
 have hmul:(top:Int)*2 ^ s=((top*P:Nat):Int):=by rw [hP]; simp
 have ah1:IntKind.u64.wrap ((top:Int)*2 ^ s)=((top*P:Nat):Int):=by rw [hmul]; exact IntWalk.u64_in _ (by omega)
 have Yg:(w3:Int) / 2 ^ (32 - s)=((w3 / 2 ^ (32 - s):Nat):Int):=by simp
 have hor2:bits .or .u64 ((top*P:Nat):Int) ((w3 / 2 ^ (32 - s):Nat):Int)=((top*P+w3 / 2 ^ (32 - s):Nat):Int):=by
  have hp2:2 ^ s≤2147483648:=by
   have:2 ^ s≤2 ^ 31:=Nat.pow_le_pow_right (by omega) anQ
   omega
  have:=aiB (i:=s) (a:=top) (b:=w3 / 2 ^ (32 - s)) hb3 (by rw [← hP]; omega) (by omega)
  rw [← hP] at this
  rw [← this,Int.natCast_mul]
 rw [← hP] at hval
 obtain ⟨x1,hx1⟩ : ∃ x,x=top*P:=⟨_,rfl⟩
 obtain ⟨x2,hx2⟩ : ∃ x,x=w3 / 2 ^ (32 - s):=⟨_,rfl⟩
 rw [← hx1] at hor2 ah1 hval htop
 rw [← hx2] at hor2 Yg hval
 obtain ⟨G,hG⟩ : ∃ G,G=M / (pw k*2 ^ (32 - s)):=⟨_,rfl⟩
 rw [← hG] at hval
 have HG:=Lib.hid (show G=M / (pw k*2 ^ Lib.bitLen (dg (bg N) (k+2))) by rw [← hd,hbl]; exact hG)
 rw [hval] at hor2
 have Hn:=Lib.hid hn
 have Hm:=Lib.hid hm
 have Hw:=Lib.hid (And.intro hw1 (And.intro hw2 hw3))
 have k1:IntKind.i64.wrap ((k:Int)+3 - 1)=(k:Int)+2:=by rw [IntWalk.i64_in _ (by omega)]; omega
 have k2:IntKind.i64.wrap ((k:Int)+3 - 2)=(k:Int)+1:=by rw [IntWalk.i64_in _ (by omega)]; omega
 have k3:IntKind.i64.wrap ((k:Int)+3 - 3)=(k:Int):=by rw [IntWalk.i64_in _ (by omega)]; omega
 have hA1 : ∀ W,Rd W B A (bg M)→Calls Tryz.prog 204 #[.slice A m c,.int .i64 ((k:Int)+2)] W fun e w'=>e = .returned (.int .u64 (w1:Int))∧W=w':=fun W hW=>by
  have:=H9 A (bg M) m c B ((k+2:Nat):Int) W hW hm (by omega)
  rw [Dq,← hw1] at this; exact this
 have hA2 : ∀ W,Rd W B A (bg M)→Calls Tryz.prog 204 #[.slice A m c,.int .i64 ((k:Int)+1)] W fun e w'=>e = .returned (.int .u64 (w2:Int))∧W=w':=fun W hW=>by
  have:=H9 A (bg M) m c B ((k+1:Nat):Int) W hW hm (by omega)
  rw [Dq,← hw2] at this; exact this
 have hA3 : ∀ W,Rd W B A (bg M)→Calls Tryz.prog 204 #[.slice A m c,.int .i64 (k:Int)] W fun e w'=>e = .returned (.int .u64 (w3:Int))∧W=w':=fun W hW=>by
  have:=H9 A (bg M) m c B (k:Int) W hW hm (by omega)
  rw [Dq,← hw3] at this; exact this
 have HA1:=Lib.hid hA1
 have HA2:=Lib.hid hA2
 have HA3:=Lib.hid hA3
 clear hA1 hA2 hA3
 go_enter Tryz.func250,Tryz.ntmps250
 clear hn hm hw1 hw2 hw3 hval hk hk2 hs hbl t1 t2 t3 t4 hd0 hP hmul ht hx1 hx2 hG hd htm hb3
 go_wp2_with fail
 refine (Hk.out _).mono ?_
 rintro e w4 ⟨rfl,rfl⟩
 go_wp2_with fail
 refine (HA1.out _ h).mono ?_
 rintro e w4 ⟨rfl,rfl⟩
 go_wp2_with fail
 refine (HA2.out _ h).mono ?_
 rintro e w4 ⟨rfl,rfl⟩
 go_wp2_with fail
 have HF:=Lib.hid (And.intro ah1 (And.intro Yg hor2))
 clear ah1 Yg hor2
 clear Yb hmm Eb htl htop l1 l2 l3 anM hcell hlt hb h' k1 k2
 have k5:IntKind.i64.wrap (k:Int)=(k:Int):=IntWalk.i64_in _ (by omega)
 have k4:IntKind.i64.wrap (32 - (s:Int))=((32 - s:Nat):Int):=by rw [IntWalk.i64_in _ (by omega)]; omega
 go_region_with (go_at_call 204; refine (HA3.out _ h.drew).mono ?_; rintro e w4 ⟨rfl,rfl⟩)
 all_goals go_wp2_with fail
 all_goals go_ret
 all_goals exact ⟨1,rF (by rw [HF.out.1,HF.out.2.1,HF.out.2.2,HG.out]),rfl⟩
end Go.Proofs.YtbihljnjaondcaaGreatDoor
namespace Lw
open Go Go.RowKit
def agS (N M u0 u1 v0 v1:Nat) (o:Bool):Prop:=v0=0∨Sp N M u0 u1 v0 v1 o
theorem aAP {l:List Nat} {k:Nat} (hw:fQ l) (hl:l.length=k+3) (hd0:dg l (k+2)≠0):val l / (pw k*2 ^ Lib.bitLen (dg l (k+2))) < 18446744073709551616:=by
 obtain ⟨b1,b2,b3,b4⟩:=bitLen_spec hd0 (show dg l (k+2) < 18446744073709551616 by have:=ve hw (k+2); omega)
 rw [Nat.div_lt_iff_lt_mul (Nat.mul_pos (Di k) (Nat.pow_pos (by omega)))]
 have e:lo l (k+3)=val l:=lG (by omega)
 rw [show k+3=k+2+1 from rfl,lg] at e
 have h1:=BQ hw (k+2)
 have h2:pw (k+2)*(dg l (k+2)+1)≤pw (k+2)*2 ^ Lib.bitLen (dg l (k+2)):=Nat.mul_le_mul_left _ b3
 have p2:pw (k+2)=18446744073709551616*pw k:=by rw [vH,vH,← Nat.mul_assoc]
 have h3:18446744073709551616*(pw k*2 ^ Lib.bitLen (dg l (k+2)))=pw (k+2)*2 ^ Lib.bitLen (dg l (k+2)):=by rw [p2,Nat.mul_assoc]
 rw [Nat.mul_add,Nat.mul_one] at h2
 omega
theorem amS (w:World) (o:Obj) (q:Nat) (a b c d e:Value) :
  Below w.heap.size w (((((((w.alloc o).drewN q).setCell ⟨w.heap.size,0,none⟩ a).setCell ⟨w.heap.size,1,none⟩ b).setCell ⟨w.heap.size,2,none⟩ c).setCell ⟨w.heap.size,3,none⟩ d).setCell ⟨w.heap.size,4,none⟩ e) :=
 have hb:=((Below.refl w.heap.size w).alloc (Nat.le_refl _) o).trans (⟨rfl,rfl,rfl,Nat.le_refl _,fun _ _=>rfl⟩:Below w.heap.size (w.alloc o) ((w.alloc o).drewN q))
 ((((hb.setCell (Nat.le_refl _) _).setCell (Nat.le_refl _) _).setCell (Nat.le_refl _) _).setCell (Nat.le_refl _) _).setCell (Nat.le_refl _) _
end Lw
namespace Go.Proofs.YtbihljnjaondcaaGreatDoor
open Go Go.RowKit Lw
set_option maxRecDepth 100000 in
set_option maxHeartbeats 6400000 in
theorem amV (A A':Option Addr) (N M k m c c' B B':Nat) (w:World) (h:Rd w B A (bg N)) (h':Rd w B' A' (bg M)) (hB:B≤w.heap.size) (hB':B'≤w.heap.size) (hn:(bg N).length=k+3) (hm:(bg M).length=m) (hl:k≤8388605) (Eb:M≤N) :
  Calls Tryz.prog 231 #[.slice A (k+3:Nat) c,.slice A' m c'] w fun e w' => ∃ (u0 u1 v0 v1:Nat) (o:Bool),e = .returned (.agg #[.int .u64 u0,.int .u64 u1,.int .u64 v0,.int .u64 v1,.bool o])∧Below w.heap.size w w'∧agS N M u0 u1 v0 v1 o:=by
 have hd0:dg (bg N) (k+2)≠0:=by
  refine vU N _ ?_
  rw [List.getLast?_eq_getElem?,hn,show k+3 - 1=k+2 by omega,NL (by omega)]
 have hx0:=aAP (mJ N) hn hd0
 rw [fA] at hx0
 obtain ⟨K,hK⟩ : ∃ K,K=pw k*2 ^ Lib.bitLen (dg (bg N) (k+2)):=⟨_,rfl⟩
 have hK0:0 < K:=by rw [hK]; exact Nat.mul_pos (Di k) (Nat.pow_pos (by omega))
 have l1:=fun (W:World) (hW:Rd W B A (bg N))=>aot A A N N k (k+3) c c B B W hW hW hn hn (by omega) (Nat.le_refl _)
 have l2:=fun (W:World) (hW:Rd W B A (bg N)) (hW':Rd W B' A' (bg M))=>aot A' A N M k m c' c B' B W hW' hW hn hm (by omega) Eb
 rw [← hK] at l1 l2 hx0
 obtain ⟨x0,hx⟩ : ∃ x,x=N / K:=⟨_,rfl⟩
 obtain ⟨y0,hy⟩ : ∃ y,y=M / K:=⟨_,rfl⟩
 rw [← hx] at l1 hx0
 rw [← hy] at l2
 have hyx:y0≤x0:=by rw [hx,hy]; exact Nat.div_le_div_right Eb
 have H1:=Lib.hid l1
 have H2:=Lib.hid l2
 have HK:=Lib.hid (And.intro hK0 (And.intro hx hy))
 have HL:=Lib.hid (Lm.start hyx)
 have hy0:y0 < 18446744073709551616:=by omega
 clear hd0 hK hK0 l1 l2 hx hy hn hm Eb
 go_enter Tryz.func231,Tryz.ntmps231
 go_wp2_with fail
 refine (H1.out _ (h.alloc hB _)).mono ?_
 rintro e w1 ⟨q1,rfl,rfl⟩
 go_wp2_with fail
 refine (H2.out _ ((h.alloc hB _).drewN q1) ((h'.alloc hB' _).drewN q1)).mono ?_
 rintro e w1 ⟨q2,rfl,rfl⟩
 go_wp2_with fail
 go_loopw [5,6,7,8,9,10,11,12,13] (fun a b c0 c1 c2 d0 d1 d2 e wr => ∃ (X Y U0 U1 U2 V0 V1 V2:Nat) (O:Bool) (q:Nat),X≤18446744073709551615∧a = .int .u64 X∧b = .int .u64 Y∧c0 = .int .u64 U0∧c1 = .int .u64 U1∧c2 = .int .u64 U2∧d0 = .int .u64 V0∧d1 = .int .u64 V1∧d2 = .int .u64 V2∧e = .bool O ∧
   Hid (Lm x0 y0 X Y U1 U2 V1 V2 O)∧Hid (agS N M U0 U1 V0 V1 O)∧wr=(w.alloc (.cells #[.int .u64 0,.int .u64 0,.int .u64 0,.int .u64 0,.bool false] 170)).drewN q) (fun _ b _ _ _ _ _ _ _ _=>(intOf b).toNat)
 case atStart=>exact ⟨x0,y0,0,1,0,0,0,1,true,q1+q2,by omega,rfl,rfl,rfl,rfl,rfl,rfl,rfl,rfl,rfl,HL,Lib.hid (.inl rfl),rfl⟩
 case round =>
  obtain ⟨X,Y,U0,U1,U2,V0,V1,V2,O,q,hX,rfl,rfl,rfl,rfl,rfl,rfl,rfl,rfl,rfl,hlm,hst,rfl⟩:=hrel
  have UE:Y≤X:=hlm.out.le
  by_cases g1:V2≤Y
  ·obtain ⟨b1,b2,b3,b4⟩:=hlm.out.small hx0 g1
   obtain ⟨f1,f2⟩:=hlm.out.fits g1
   have hY1:1≤Y:=Nat.le_trans hlm.out.v2p g1
   have hg1:(V2:Int)≤(Y:Int):=by omega
   obtain ⟨Z,hZ⟩ : ∃ Z,Z=X - Y:=⟨_,rfl⟩
   have hZ1:(X:Int) - (Y:Int)=(Z:Int):=by omega
   by_cases g2:V1+V2≤Z
   ·have hg2:(V1:Int)+(V2:Int)≤(Z:Int):=by omega
    have hstep:=Lib.hid (hlm.out.step hx0 g1 (by rw [← hZ]; exact g2) HK.out.1 HK.out.2.1 HK.out.2.2)
    have hnext:=Lib.hid (hlm.out.next g1)
    have hmod:=Lib.hid (Nat.mod_lt X (show 0 < Y by omega))
    obtain ⟨Q,hQ⟩ : ∃ Q,Q=X / Y:=⟨_,rfl⟩
    obtain ⟨R,hR⟩ : ∃ R,R=X % Y:=⟨_,rfl⟩
    have hQl:Q≤18446744073709551615:=by rw [hQ]; exact Nat.le_trans (Nat.div_le_self _ _) hX
    have hq1:IntKind.u64.wrap ((X:Int) / (Y:Int))=(Q:Int):=by
     rw [← Int.natCast_ediv,← hQ]
     exact IntWalk.u64_in _ (by omega)
    have hr1:(X:Int) % (Y:Int)=(R:Int):=by rw [hR]; exact (Int.natCast_emod X Y).symm
    have hr2:(X:Int).tmod (Y:Int)=(R:Int):=by rw [Int.tmod_eq_emod_of_nonneg (by omega)]; exact hr1
    rw [← hQ] at f1 f2 hnext
    rw [← hR] at hnext hmod
    obtain ⟨QU,hQU⟩ : ∃ Z,Z=Q*U2:=⟨_,rfl⟩
    obtain ⟨QV,hQV⟩ : ∃ Z,Z=Q*V2:=⟨_,rfl⟩
    rw [← hQU,← hQV] at f1 hnext
    rw [← hQV] at f2
    have hqu:(Q:Int)*(U2:Int)=(QU:Int):=by rw [hQU]; simp
    have hqv:(Q:Int)*(V2:Int)=(QV:Int):=by rw [hQV]; simp
    have hbq:((Y:Int)==0)=false:=by rw [beq_eq_false_iff_ne]; omega
    have f3:V1+QV≤18446744073709551615:=by omega
    have f4:U1+QU≤18446744073709551615:=by omega
    have hYl:Y≤18446744073709551615:=by omega
    clear hQ hR hQU hQV hZ f1 f2 hx0
    go_wp2_with fail
    go_quiet (fail)
    go_wp2_with fail
    go_roundw
    case rel =>
     exact ⟨Y,R,U1,U2,U1+QU,V1,V2,V1+QV,!O,q+nq,hYl,rfl,rfl,rfl,rfl,by go_num,rfl,rfl,by go_num,rfl,hnext,Lib.hid (.inr hstep.out),rfl⟩
    case measure =>
     have:=hmod.out
     simp [intOf]; omega
   ·have hg2:decide ((V1:Int)+(V2:Int)≤(Z:Int))=false:=decide_eq_false (by omega)
    clear f1 f2 hx0 hZ
    go_wp2_with fail
    refine bodyPost_ret (v := .agg #[.int .u64 U0,.int .u64 U1,.int .u64 V0,.int .u64 V1,.bool O]) (by simp [results,Tryz.results231,go_sem]) rfl ?_
    exact ⟨U0,U1,V0,V1,O,rfl,amS w _ _ _ _ _ _ _,hst.out⟩
  ·have hg1:decide ((V2:Int)≤(Y:Int))=false:=decide_eq_false (by omega)
   go_wp2_with fail
   refine bodyPost_ret (v := .agg #[.int .u64 U0,.int .u64 U1,.int .u64 V0,.int .u64 V1,.bool O]) (by simp [results,Tryz.results231,go_sem]) rfl ?_
   exact ⟨U0,U1,V0,V1,O,rfl,amS w _ _ _ _ _ _ _,hst.out⟩
end Go.Proofs.YtbihljnjaondcaaGreatDoor
namespace Go.Proofs.YtbihljnjaondcaaGreatDoor
open Go Go.RowKit Lw
set_option maxRecDepth 100000 in
set_option maxHeartbeats 3200000 in
theorem ach (A A':Option Addr) (ns ms:List Nat) (n m L c c' B B' x y R:Nat) (w:World) (h:Rd w B A ns) (h':Rd w B' A' ms) (hB:B≤w.heap.size) (hB':B'≤w.heap.size)
  (hn:ns.length=n) (hm:ms.length=m) (hl:n≤16777216) (hl':m≤16777216) (hx:x≤4294967295) (hy:y≤4294967295) (hL:L=max n m) (hR:x*val ns=R+y*val ms) (hRl:R < pw L) :
  Calls Tryz.prog 251 #[.slice A n c,.int .u64 x,.slice A' m c',.int .u64 y] w (Dw w R):=by
 have Hn:=Lib.hid hn
 have Hm:=Lib.hid hm
 have HR:=Lib.hid (And.intro hR hRl)
 have hL1:L≤16777216:=by omega
 have hL2:n≤L:=by omega
 have hL3:m≤L:=by omega
 have hL4:((max n m:Nat):Int)=(L:Int):=by omega
 have hL5:max (n:Int) (m:Int)=(L:Int):=by omega
 clear hn hm hR hRl hL
 go_enter Tryz.func251,Tryz.ntmps251
 go_wp2_with (at_make; refine Eo _ rfl _ _ _ rfl 99 aYN Az _ _ _ _ L rfl rfl (by omega) (by omega) (by omega) ?_; intro w1 hblk hbel hsz)
 go_loopw [10,11,12,23] (fun a b e i wr => ∃ (k cA cB bo:Nat) (cs:List Nat),k≤L∧cA≤4294967295∧cB≤4294967295∧bo≤1∧i = .int .i64 k∧a = .int .u64 cA∧b = .int .u64 cB∧e = .int .u64 bo∧fH wr w.heap.size 99 cs∧Hid (cs.length=L)∧fQ cs ∧
   Hid (lo cs k+y*lo ms k+pw k*cA=x*lo ns k+pw k*(cB+bo))∧Below w.heap.size w wr) (fun _ _ _ i _=>L - (intOf i).toNat)
 case atStart=>exact ⟨0,0,0,0,_,Nat.zero_le _,by omega,by omega,by omega,rfl,rfl,rfl,rfl,hblk,Lib.hid (by simp),Fv _,Lib.hid (by simp [xM]),hbel⟩
 case round =>
  obtain ⟨k,cA,cB,bo,cs,hk,hcA,hcB,Ak,rfl,rfl,rfl,rfl,hb1,hcl,hcw,hv,hbw⟩:=hrel
  clear hblk hbel hsz
  have hr:=h.below (hbw.mono hB)
  have hr':=h'.below (hbw.mono hB')
  by_cases hkn:k < L
  ·have hwa:=H7 hr.gW (k:Int)
   have hwb:=H7 hr'.gW (k:Int)
   have hcc:=hb1.cell (i:=k) (by rw [hcl.out]; omega)
   have hfr:=hb1.frozen k
   obtain ⟨a,ha⟩ : ∃ a,a=wd ns (k:Int):=⟨_,rfl⟩
   obtain ⟨b,hb⟩ : ∃ b,b=wd ms (k:Int):=⟨_,rfl⟩
   rw [← ha] at hwa
   rw [← hb] at hwb
   obtain ⟨aOt,aOu⟩:=YO (x:=x) (by omega) hwa
   obtain ⟨aOv,aOw⟩:=YO (x:=y) (by omega) hwb
   have hxN:=Int.natCast_mul x a
   have hyN:=Int.natCast_mul y b
   obtain ⟨S,hS⟩ : ∃ S,S=cA+x*a:=⟨_,rfl⟩
   obtain ⟨T,hT⟩ : ∃ T,T=cB+y*b:=⟨_,rfl⟩
   have hSl:S≤18446744073709551615:=by omega
   have hTl:T≤18446744073709551615:=by omega
   have hsum:(cA:Int)+(x:Int)*(a:Int)=(S:Int):=by rw [hS,Int.natCast_add,Int.natCast_mul]
   have aOl:(cB:Int)+(y:Int)*(b:Int)=(T:Int):=by rw [hT,Int.natCast_add,Int.natCast_mul]
   have azw:bits .and .u64 (S:Int) 4294967295=((S % 4294967296:Nat):Int):=agV (by omega)
   have azx:bits .and .u64 (T:Int) 4294967295=((T % 4294967296:Nat):Int):=agV (by omega)
   obtain ⟨D,hD,hDl,IY⟩:=QE (S % 4294967296) (T % 4294967296)
   obtain ⟨F,hF,hFl,IZ⟩:=QE D bo
   have hdw:=Lib.hid (ax2 (S:=S) (T:=T) Ak IY IZ hDl)
   have hF2:F / 9223372036854775808≤1:=hdw.out.2
   have HS:=Lib.hid (And.intro hS hT)
   obtain ⟨SM,hSM⟩ : ∃ M,M=S % 4294967296:=⟨_,rfl⟩
   obtain ⟨TM,hTM⟩ : ∃ M,M=T % 4294967296:=⟨_,rfl⟩
   rw [← hSM] at azw hD
   rw [← hTM] at azx hD
   have Ha:=Lib.hid (And.intro ha hb)
   clear IY IZ hS hT hSM hTM hxN hyN
   have hwA : ∀ W,Below w.heap.size w W→Calls Tryz.prog 204 #[.slice A n c,.int .i64 k] W fun e w'=>e = .returned (.int .u64 (a:Int))∧W=w':=fun W hW=>by rw [ha]; exact H9 _ ns _ _ _ _ _ (h.below (hW.mono hB)) Hn.out (by omega)
   have hwB : ∀ W,Below w.heap.size w W→Calls Tryz.prog 204 #[.slice A' m c',.int .i64 k] W fun e w'=>e = .returned (.int .u64 (b:Int))∧W=w':=fun W hW=>by rw [hb]; exact H9 _ ms _ _ _ _ _ (h'.below (hW.mono hB')) Hm.out (by omega)
   have HWA:=Lib.hid hwA
   have HWB:=Lib.hid hwB
   clear hwA hwB ha hb
   go_wp2_with fail
   refine (HWA.out _ hbw).mono ?_
   rintro e w2 ⟨rfl,rfl⟩
   go_wp2_with fail
   refine (HWB.out _ hbw).mono ?_
   rintro e w2 ⟨rfl,rfl⟩
   go_wp2_with fail
   go_roundw
   case rel =>
    refine ⟨k+1,S / 4294967296,T / 4294967296,F / 9223372036854775808,cs.set k (F % 4294967296),by omega,by omega,by omega,hF2,by go_num,by go_num,by go_num,by go_num,hb1.Fg (by rw [hcl.out]; omega) (by omega),Lib.hid (by rw [List.length_set]; exact hcl.out),yP hcw _ (Nat.mod_lt _ (by omega)),Lib.hid ?_,hbw.setCell (Nat.le_refl _) _⟩
    refine ax1 (by rw [hcl.out]; omega) hv.out ?_ ?_ hdw.out.1
    ·rw [HS.out.1,Ha.out.1,Dq]
    ·rw [HS.out.2,Ha.out.2,Dq]
   case measure=>simp [intOf]; omega
  ·obtain rfl:k=L:=by omega
   have HV:Hid (val cs=R):=Lib.hid (ax0 hcw hcl.out (by rw [Hn.out]; omega) (by rw [Hm.out]; omega) hv.out HR.out.1 HR.out.2)
   go_wp2_with fail
   refine (H6 _ cs _ _ _ _ (hb1.rd hcw) hcl.out (Nat.le_refl _) (by omega)).mono ?_
   rintro e w' ⟨rfl,rfl⟩
   go_wp2_with fail
   go_ret
   refine ⟨_,_,BV (by rw [HV.out]),?_,?_,hbw⟩
   ·have:=BI hcw
    rw [HV.out,hcl.out] at this; exact this
   ·have:=(hb1.rd hcw).bg
    rw [HV.out] at this; exact this
end Go.Proofs.YtbihljnjaondcaaGreatDoor
namespace Lw
open Go Go.RowKit
theorem D8 {a b:Nat} (h:a≤b):(bg a).length≤(bg b).length:=by
 rcases Nat.lt_or_ge (bg b).length (bg a).length with h1 | h1
 ·have:=Yv (mJ b) (vU a) h1
  rw [fA,fA] at this
  omega
 ·exact h1
def abg (w:World) (N:Nat) (e:Ending) (w':World):Prop :=
 ∃ u,e = .returned u∧Hid (∃ A c,u = .slice A (bg N).length c∧(bg N).length≤c∧Rd w' w'.heap.size A (bg N))∧Below w.heap.size w w'
structure Ko (w:World) (g:Nat) (a b c d e:Value):Prop where
 lt:g < w.heap.size
 cells:w.cell? ⟨g,0,none⟩=some a∧w.cell? ⟨g,1,none⟩=some b∧w.cell? ⟨g,2,none⟩=some c∧w.cell? ⟨g,3,none⟩=some d∧w.cell? ⟨g,4,none⟩=some e
theorem Ko.new (w:World) (t:TypeId) (a b c d:Nat) (e:Bool):Ko (w.alloc (.cells #[.int .u64 a,.int .u64 b,.int .u64 c,.int .u64 d,.bool e] t)) w.heap.size (.int .u64 a) (.int .u64 b) (.int .u64 c) (.int .u64 d) (.bool e) :=
 ⟨by simp,by simp [go_sem],by simp [go_sem],by simp [go_sem],by simp [go_sem],by simp [go_sem]⟩
theorem Ko.drew {w:World} {g:Nat} {a b c d e:Value} (h:Ko w g a b c d e):Ko w.drew g a b c d e:=⟨h.lt,h.cells⟩
theorem Ko.next {w w':World} {g B:Nat} {a b c d e:Value} (h:Ko w g a b c d e) (hb:Below B w w') (hB:B=w.heap.size):Ko w' g a b c d e:=by
 subst hB
 exact ⟨Nat.lt_of_lt_of_le h.lt hb.size,(hb.cell h.lt).trans h.cells.1,(hb.cell h.lt).trans h.cells.2.1,(hb.cell h.lt).trans h.cells.2.2.1,(hb.cell h.lt).trans h.cells.2.2.2.1,(hb.cell h.lt).trans h.cells.2.2.2.2⟩
end Lw
namespace Go.Proofs.YtbihljnjaondcaaGreatDoor
open Go Go.RowKit Lw
set_option maxRecDepth 100000 in
set_option maxHeartbeats 6400000 in
theorem alE (A A':Option Addr) (N M n m c c' B B' u0 u1 v0 v1:Nat) (o:Bool) (w:World) (h:Rd w B A (bg N)) (h':Rd w B' A' (bg M)) (hB:B≤w.heap.size) (hB':B'≤w.heap.size)
  (hn:(bg N).length=n) (hm:(bg M).length=m) (hl:n≤8388608) (hl':m≤n) (hv:v0≠0) (hs:agS N M u0 u1 v0 v1 o) :
  Calls Tryz.prog 232 #[.agg #[.int .u64 u0,.int .u64 u1,.int .u64 v0,.int .u64 v1,.bool o],.slice A n c,.slice A' m c'] w fun e w' =>
   ∃ r1 r2,Ul w r1 r2 e w'∧r2≤r1∧Nat.gcd r1 r2=Nat.gcd N M∧r1≤N∧r1+r2≤N:=by
 obtain ⟨b1,b2,b3,b4,r1,r2,heq,hle,hg,hrN,hsum⟩:=hs.resolve_left hv
 have anV:=hsum (Nat.pos_of_ne_zero hv)
 have hr1:r1 < pw n:=Nat.lt_of_le_of_lt hrN (Dz (by omega))
 have hr2:r2 < pw n:=Nat.lt_of_le_of_lt hle hr1
 have hmax:n=max n m:=by omega
 have anI:n=max m n:=by omega
 have HG:=Lib.hid (And.intro hle (And.intro hg (And.intro hrN anV)))
 have HN:=Lib.hid (And.intro hn hm)
 have HR:=Lib.hid (And.intro hr1 hr2)
 have HM:=Lib.hid (And.intro hmax anI)
 clear hle hg hrN hsum anV hn hm hr1 hr2 hmax anI hs
 cases o
 ·simp only [Bool.false_eq_true,if_false] at heq
  have HE:=Lib.hid heq
  clear heq
  go_enter Tryz.func232,Tryz.ntmps232
  go_wp2_with fail
  have H1 : ∀ W,Below w.heap.size w W→Calls Tryz.prog 251 #[.slice A n c,.int .u64 u0,.slice A' m c',.int .u64 v0] W (abg W r1):=fun W hW =>
   (ach _ _ (bg N) (bg M) _ _ n _ _ _ _ u0 v0 r1 W (h.below (hW.mono hB)) (h'.below (hW.mono hB')) (Nat.le_trans hB hW.size) (Nat.le_trans hB' hW.size) HN.out.1 HN.out.2 (by omega) (by omega) (by omega) (by omega) HM.out.1 (by rw [fA,fA]; exact HE.out.1) HR.out.1).mono fun e w' ⟨A,c,he,hc,hr,hb⟩=>⟨_,he,Lib.hid ⟨A,c,rfl,hc,hr⟩,hb⟩
  have H2 : ∀ W,Below w.heap.size w W→Calls Tryz.prog 251 #[.slice A' m c',.int .u64 v1,.slice A n c,.int .u64 u1] W (abg W r2):=fun W hW =>
   (ach _ _ (bg M) (bg N) _ _ n _ _ _ _ v1 u1 r2 W (h'.below (hW.mono hB')) (h.below (hW.mono hB)) (Nat.le_trans hB' hW.size) (Nat.le_trans hB hW.size) HN.out.2 HN.out.1 (by omega) (by omega) (by omega) (by omega) HM.out.2 (by rw [fA,fA]; exact HE.out.2) HR.out.2).mono fun e w' ⟨A,c,he,hc,hr,hb⟩=>⟨_,he,Lib.hid ⟨A,c,rfl,hc,hr⟩,hb⟩
  have HD1:=Lib.hid H1
  have HD2:=Lib.hid H2
  clear H1 H2
  have hF:=Ko.new w 170 u0 u1 v0 v1 false
  have hW:=(Below.refl w.heap.size w).alloc (Nat.le_refl _) (.cells #[.int .u64 (u0:Int),.int .u64 (u1:Int),.int .u64 (v0:Int),.int .u64 (v1:Int),.bool false] 170)
  generalize w.alloc (.cells #[.int .u64 (u0:Int),.int .u64 (u1:Int),.int .u64 (v0:Int),.int .u64 (v1:Int),.bool false] 170)=W0 at hF hW ⊢
  go_region_held3 (fun w'=>w'.cell? ⟨w.heap.size,0,none⟩=some (.int .u64 u0)∧w'.cell? ⟨w.heap.size,1,none⟩=some (.int .u64 u1)∧w'.cell? ⟨w.heap.size,2,none⟩=some (.int .u64 v0)∧w'.cell? ⟨w.heap.size,3,none⟩=some (.int .u64 v1)∧w'.cell? ⟨w.heap.size,4,none⟩=some (.bool false)) (first | exact hF.cells | exact hF.drew.cells)
   (first
    | (go_at_call_of 251 (Value.slice A' m c'); refine (HD2.out _ hW2).mono ?_; rintro e w3 ⟨x2,rfl,hr2,hb2⟩; have hF:=hF.next hb2 rfl; have hW3:=fK hW2 hb2 (Nat.le_refl _))
    | (go_at_call_of 251 (Value.slice A n c); refine (HD1.out _ hW.drew).mono ?_; rintro e w2 ⟨x1,rfl,hr1,hb1⟩; have hF:=hF.drew.next hb1 rfl; have hW2:=fK hW.drew hb1 (Nat.le_refl _)))
  all_goals
   go_wp2_with fail
   go_ret2
   obtain ⟨A1,c1,rfl,hc1,hr1⟩:=hr1.out
   obtain ⟨A2,c2,rfl,hc2,hr2⟩:=hr2.out
   exact ⟨r1,r2,⟨A1,c1,A2,c2,rfl,hc1,hc2,(hr1.next hb2 (Nat.le_refl _)).more hb2.size,hr2,hW3⟩,HG.out.1,HG.out.2.1,HG.out.2.2.1,HG.out.2.2.2⟩
 ·simp only [if_true] at heq
  have HE:=Lib.hid heq
  clear heq
  go_enter Tryz.func232,Tryz.ntmps232
  go_wp2_with fail
  have H1 : ∀ W,Below w.heap.size w W→Calls Tryz.prog 251 #[.slice A' m c',.int .u64 v0,.slice A n c,.int .u64 u0] W (abg W r1):=fun W hW =>
   (ach _ _ (bg M) (bg N) _ _ n _ _ _ _ v0 u0 r1 W (h'.below (hW.mono hB')) (h.below (hW.mono hB)) (Nat.le_trans hB' hW.size) (Nat.le_trans hB hW.size) HN.out.2 HN.out.1 (by omega) (by omega) (by omega) (by omega) HM.out.2 (by rw [fA,fA]; exact HE.out.1) HR.out.1).mono fun e w' ⟨A,c,he,hc,hr,hb⟩=>⟨_,he,Lib.hid ⟨A,c,rfl,hc,hr⟩,hb⟩
  have H2 : ∀ W,Below w.heap.size w W→Calls Tryz.prog 251 #[.slice A n c,.int .u64 u1,.slice A' m c',.int .u64 v1] W (abg W r2):=fun W hW =>
   (ach _ _ (bg N) (bg M) _ _ n _ _ _ _ u1 v1 r2 W (h.below (hW.mono hB)) (h'.below (hW.mono hB')) (Nat.le_trans hB hW.size) (Nat.le_trans hB' hW.size) HN.out.1 HN.out.2 (by omega) (by omega) (by omega) (by omega) HM.out.1 (by rw [fA,fA]; exact HE.out.2) HR.out.2).mono fun e w' ⟨A,c,he,hc,hr,hb⟩=>⟨_,he,Lib.hid ⟨A,c,rfl,hc,hr⟩,hb⟩
  have HD1:=Lib.hid H1
  have HD2:=Lib.hid H2
  clear H1 H2
  have hF:=Ko.new w 170 u0 u1 v0 v1 true
  have hW:=(Below.refl w.heap.size w).alloc (Nat.le_refl _) (.cells #[.int .u64 (u0:Int),.int .u64 (u1:Int),.int .u64 (v0:Int),.int .u64 (v1:Int),.bool true] 170)
  generalize w.alloc (.cells #[.int .u64 (u0:Int),.int .u64 (u1:Int),.int .u64 (v0:Int),.int .u64 (v1:Int),.bool true] 170)=W0 at hF hW ⊢
  go_region_held3 (fun w'=>w'.cell? ⟨w.heap.size,0,none⟩=some (.int .u64 u0)∧w'.cell? ⟨w.heap.size,1,none⟩=some (.int .u64 u1)∧w'.cell? ⟨w.heap.size,2,none⟩=some (.int .u64 v0)∧w'.cell? ⟨w.heap.size,3,none⟩=some (.int .u64 v1)∧w'.cell? ⟨w.heap.size,4,none⟩=some (.bool true)) (first | exact hF.cells | exact hF.drew.cells)
   (first
    | (go_at_call_of 251 (Value.slice A n c); refine (HD2.out _ hW2).mono ?_; rintro e w3 ⟨x2,rfl,hr2,hb2⟩; have hF:=hF.next hb2 rfl; have hW3:=fK hW2 hb2 (Nat.le_refl _))
    | (go_at_call_of 251 (Value.slice A' m c'); refine (HD1.out _ hW.drew).mono ?_; rintro e w2 ⟨x1,rfl,hr1,hb1⟩; have hF:=hF.drew.next hb1 rfl; have hW2:=fK hW.drew hb1 (Nat.le_refl _)))
  all_goals
   go_wp2_with fail
   go_ret2
   obtain ⟨A1,c1,rfl,hc1,hr1⟩:=hr1.out
   obtain ⟨A2,c2,rfl,hc2,hr2⟩:=hr2.out
   exact ⟨r1,r2,⟨A1,c1,A2,c2,rfl,hc1,hc2,(hr1.next hb2 (Nat.le_refl _)).more hb2.size,hr2,hW3⟩,HG.out.1,HG.out.2.1,HG.out.2.2.1,HG.out.2.2.2⟩
end Go.Proofs.YtbihljnjaondcaaGreatDoor
namespace Lw
open Go Go.RowKit
def wordAt (w:World) (b k:Nat):Nat:=match w.cell? ⟨b,k,none⟩ with | some (.int _ z)=>z.toNat | _=>0
def rdv (w:World):Value→Nat
 | .slice (some a) n _=>val ((List.range n).map fun j=>wordAt w a.block (a.off+j))
 | _=>0
theorem E5 {w:World} {B:Nat} {A:Option Addr} {ns:List Nat} {n c:Nat} (h:Rd w B A ns) (hn:ns.length=n):rdv w (.slice A n c)=val ns:=by
 rcases Nat.eq_zero_or_pos n with h0 | h0
 ·subst h0
  obtain rfl:ns=[]:=List.eq_nil_of_length_eq_zero hn
  cases A <;> rfl
 ·obtain ⟨b,off,rfl,hb,hc⟩:=h.2 (by omega)
  show val ((List.range n).map fun j=>wordAt w b (off+j))=val ns
  congr 1
  apply List.ext_getElem
  ·simp [hn]
  ·intro j h1 h2
   rw [List.getElem_map,List.getElem_range]
   unfold wordAt
   rw [hc j h2]
   show (dg ns j:Int).toNat=ns[j]
   rw [Int.toNat_natCast,Kt h2]
theorem aBw {N s:Nat} : rt N < (rt (N / 2 ^ (2*s))+1)*2 ^ s:=by
 apply aq8
 have h1:=Zm (N / 2 ^ (2*s))
 have hp:0 < 2 ^ (2*s):=Nat.pow_pos (by omega)
 have h2:N < (N / 2 ^ (2*s)+1)*2 ^ (2*s):=by
  have:=Nat.div_add_mod N (2 ^ (2*s))
  have:=Nat.mod_lt N hp
  rw [Nat.add_mul,Nat.one_mul,Nat.mul_comm]
  omega
 have h3:(N / 2 ^ (2*s)+1)*2 ^ (2*s)≤(rt (N / 2 ^ (2*s))+1)*(rt (N / 2 ^ (2*s))+1)*2 ^ (2*s):=Nat.mul_le_mul_right _ h1
 have h4:(rt (N / 2 ^ (2*s))+1)*2 ^ s*((rt (N / 2 ^ (2*s))+1)*2 ^ s)=(rt (N / 2 ^ (2*s))+1)*(rt (N / 2 ^ (2*s))+1)*2 ^ (2*s):=by
  rw [show 2 ^ (2*s)=2 ^ s*2 ^ s by rw [← Nat.pow_add]; congr 1; omega]
  ac_rfl
 rw [h4]; omega
end Lw
