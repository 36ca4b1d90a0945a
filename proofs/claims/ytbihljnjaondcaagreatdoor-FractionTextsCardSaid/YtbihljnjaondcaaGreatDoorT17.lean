/- Part of a proof, said shortly. -/
import Derived.Deep.RegionWith
import Derived.Test.YtbihljnjaondcaaGreatDoorAlt
import Derived.Test.YtbihljnjaondcaaGreatDoorT15
import Derived.Test.YtbihljnjaondcaaGreatDoorT1
import Derived.Test.YtbihljnjaondcaaGreatDoorT3
import Derived.Test.YtbihljnjaondcaaGreatDoorT2
import Derived.Test.YtbihljnjaondcaaGreatDoorT8
import Derived.Test.YtbihljnjaondcaaGreatDoorT6
import Derived.Test.YtbihljnjaondcaaGreatDoorT4
import Derived.Test.YtbihljnjaondcaaGreatDoorT5
import Derived.Test.YtbihljnjaondcaaGreatDoorT7
namespace Lw
open Go Go.RowKit
theorem a3t {p:Nat} (hp:p≤32):2 ^ (32 - p)*2 ^ p=4294967296:=by
 rw [← Nat.pow_add,show 32 - p+p=32 by omega]
theorem ba6 {y p:Nat} (hy:y < 4294967296) (hp:p≤32):y / 2 ^ (32 - p) < 2 ^ p:=by
 rw [Nat.div_lt_iff_lt_mul (Nat.pow_pos (by omega)),Nat.mul_comm,a3t hp]
 exact hy
theorem boG {x y p:Nat} (hx:x < 4294967296) (hy:y < 4294967296) (hp:p≤31) :
  bits .or .u64 (IntKind.u64.wrap ((x:Int)*2 ^ p)) ((y:Int) / 2 ^ (32 - p))=((x*2 ^ p+y / 2 ^ (32 - p):Nat):Int):=by
 have h1:2 ^ p≤2147483648:=by
  have:2 ^ p≤2 ^ 31:=Nat.pow_le_pow_right (by omega) hp
  omega
 have h2:x*2 ^ p≤4294967295*2147483648:=Nat.mul_le_mul (by omega) h1
 have e1:(x:Int)*2 ^ p=(x:Int)*((2 ^ p:Nat):Int):=by simp
 have e2:(y:Int) / 2 ^ (32 - p)=((y / 2 ^ (32 - p):Nat):Int):=by simp
 have e3:(x:Int)*((2 ^ p:Nat):Int)=((x*2 ^ p:Nat):Int):=by simp
 rw [e1,e2,e3,IntWalk.u64_in _ (by omega),← e3]
 exact baz (ba6 hy (by omega)) (by omega) (by omega)
theorem bim {x y p:Nat} (hx:x < 4294967296) (hy:y < 4294967296) (hp:p≤31) :
  bits .or .u64 ((x:Int) / 2 ^ p) (IntKind.u64.wrap ((y:Int)*2 ^ (32 - p))) % 4294967296=((x / 2 ^ p+y % 2 ^ p*2 ^ (32 - p):Nat):Int):=by
 have hR:2 ^ (32 - p)*2 ^ p=4294967296:=a3t (by omega)
 have hx2:x / 2 ^ p < 2 ^ (32 - p):=by
  rw [Nat.div_lt_iff_lt_mul (Nat.pow_pos (by omega)),hR]; exact hx
 have hP:0 < 2 ^ p:=Nat.pow_pos (by omega)
 have hRl:2 ^ (32 - p)≤4294967296:=by
  have:2 ^ (32 - p)≤2 ^ 32:=Nat.pow_le_pow_right (by omega) (by omega)
  omega
 have h2:y*2 ^ (32 - p)≤4294967295*4294967296:=Nat.mul_le_mul (by omega) hRl
 have e2:(x:Int) / 2 ^ p=((x / 2 ^ p:Nat):Int):=by simp
 have e3:(y:Int)*2 ^ (32 - p)=((y*2 ^ (32 - p):Nat):Int):=by simp
 rw [e2,e3,IntWalk.u64_in _ (by omega),u64_or_nat _ _ (by omega) (by omega),Nat.or_comm,a7V hx2]
 have h3:(y*2 ^ (32 - p)+x / 2 ^ p) % 4294967296=x / 2 ^ p+y % 2 ^ p*2 ^ (32 - p):=by
  have h4:=Nat.div_add_mod y (2 ^ p)
  have h5:=Nat.mod_lt y hP
  generalize y / 2 ^ p=q at *
  generalize y % 2 ^ p=r at *
  generalize x / 2 ^ p=t at *
  generalize 2 ^ (32 - p)=R at *
  generalize 2 ^ p=P at *
  subst h4
  have h6:(P*q+r)*R+t=(t+r*R)+4294967296*q:=by
   rw [← hR,Nat.add_mul]
   have:P*q*R=R*P*q:=by ac_rfl
   omega
  have h7:(r+1)*R≤P*R:=Nat.mul_le_mul_right _ h5
  rw [Nat.add_mul,Nat.one_mul,Nat.mul_comm P,hR] at h7
  rw [h6,Nat.add_mul_mod_self_left,Nat.mod_eq_of_lt (by omega)]
 omega
end Lw
namespace Go.Proofs.YtbihljnjaondcaaGreatDoor
open Go Go.RowKit Lw
set_option maxRecDepth 100000 in
set_option maxHeartbeats 1600000 in
theorem ba5 (A:Option Addr) (ns:List Nat) (n c B s W p P R:Nat) (w:World) (h:Rd w B A ns) (hB:B≤w.heap.size) (hn:ns.length=n) (hl:n≤16777216) (hs:s≤536870912)
  (hW:W=s / 32) (hp:p=s % 32) (hP:P=2 ^ p) (hR:R=2 ^ (32 - p)) :
  Calls Tryz.prog 238 #[.slice A n c,.int .i64 s] w fun e w' => ∃ cs,e = .returned (.slice (some ⟨w.heap.size,0,none⟩) (n+W+1:Nat) (n+W+1:Nat))∧Blk w' w.heap.size 99 cs ∧
   cs.length=n+W+1∧Wds cs∧val cs=pw W*(val ns*P)∧Below w.heap.size w w':=by
 have Hn:=Lib.hid hn
 clear hn
 have e1:(s:Int) / 32=(W:Int):=by omega
 have e2:(s:Int) % 32=(p:Int):=by omega
 have hp2:p≤31:=by omega
 have HP:=Lib.hid hP
 have HR:=Lib.hid hR
 clear hP hR hW hp
 go_enter Tryz.func238,Tryz.ntmps238
 go_wp2_with (at_make; refine aAN _ rfl _ _ _ rfl 99 bsw ami _ _ _ _ (n+W+1) rfl rfl (by omega) (by omega) (by omega) ?_; intro w1 hblk hbel hsz)
 go_loopw [22] (fun i wr => ∃ (k:Nat) (cs:List Nat),k≤n+1∧i = .int .i64 k∧Blk wr w.heap.size 99 cs∧Hid (cs.length=n+W+1)∧Wds cs ∧
   Hid (lo cs (k+W)+pw (k+W)*(wd ns ((k:Int) - 1) / R)=pw W*(lo ns k*P))∧Below w.heap.size w wr) (fun i _=>n+1 - (intOf i).toNat)
 case atStart=>exact ⟨0,_,Nat.zero_le _,rfl,hblk,Lib.hid (by simp),az8 _,Lib.hid (by rw [bfR (by omega),a6C (b:=[]) _ (fun j _=>by rw [a6f]; rfl),acm (by simp),akf]; simp [val]),hbel⟩
 case round =>
  obtain ⟨k,cs,hk,rfl,hb1,hcl,hcw,hv,hbw⟩:=hrel
  clear hblk hbel hsz
  have hr:=h.below (hbw.mono hB)
  by_cases hkn:k < n+1
  ·have hcc:=hb1.cell (i:=k+W) (by rw [hcl.out]; omega)
   have hfr:=hb1.frozen (k+W)
   have hw1:=a0t hr.wds (k:Int)
   have hw2:=a0t hr.wds ((k:Int) - 1)
   go_wp2_with fail
   have k1:IntKind.i64.wrap ((k:Int) - 1)=(k:Int) - 1:=IntWalk.i64_in _ (by omega)
   have k2:IntKind.i64.wrap ((k:Int)+(W:Int))=((k+W:Nat):Int):=by rw [IntWalk.i64_in _ (by omega)]; omega
   have k3:IntKind.i64.wrap (32 - (p:Int))=((32 - p:Nat):Int):=by rw [IntWalk.i64_in _ (by omega)]; omega
   go_region_with (go_at_call 204; refine (a0u _ ns _ _ _ _ _ hr.drew Hn.out (by omega)).mono ?_; rintro e w' ⟨rfl,rfl⟩)
   go_wp2_with fail
   have hkl:k+W < cs.length:=by rw [hcl.out]; omega
   have hR0:0 < R:=by rw [HR.out]; exact Nat.pow_pos (by omega)
   have hRP:R*P=4294967296:=by rw [HR.out,HP.out]; exact a3t (by omega)
   have htP:wd ns ((k:Int) - 1) / R < P:=by rw [HR.out,HP.out]; exact ba6 hw2 (by omega)
   have hval:bits .or .u64 (IntKind.u64.wrap ((wd ns (k:Int):Int)*2 ^ p)) ((wd ns ((k:Int) - 1):Int) / 2 ^ (32 - p)) % 4294967296=(((dg ns k*P+wd ns ((k:Int) - 1) / R) % 4294967296:Nat):Int):=by
    rw [boG hw1 hw2 hp2,as7,HR.out,HP.out]; omega
   go_roundw
   case rel =>
    refine ⟨k+1,cs.set (k+W) ((dg ns k*P+wd ns ((k:Int) - 1) / R) % 4294967296),by omega,by go_num,hb1.awX hkl hval,Lib.hid (by rw [List.length_set]; exact hcl.out),alc hcw _ (Nat.mod_lt _ (by omega)),Lib.hid ?_,(hbw.setCell (Nat.le_refl _) _).drew⟩
    rw [show ((k+1:Nat):Int) - 1=(k:Int) by omega,as7,show k+1+W=k+W+1 by omega]
    exact boH hkl hv.out (boI hRP hR0 htP)
   case measure=>simp [intOf]; omega
  ·obtain rfl:k=n+1:=by omega
   go_wp2_with fail
   go_ret
   refine ⟨cs,rfl,hb1,hcl.out,hcw,?_,hbw⟩
   have e:=hv.out
   rw [show ((n+1:Nat):Int) - 1=(n:Int) by omega,as7,a1F (by rw [Hn.out]; exact Nat.le_refl _),Nat.zero_div,Nat.mul_zero,Nat.add_zero,acm (by rw [hcl.out]; omega),acm (l:=ns) (by rw [Hn.out]; omega)] at e
   exact e
end Go.Proofs.YtbihljnjaondcaaGreatDoor
namespace Go.Proofs.YtbihljnjaondcaaGreatDoor
open Go Go.RowKit Lw
theorem bem (s:Nat):2 ^ s=pw (s / 32)*2 ^ (s % 32):=by
 unfold pw
 rw [show (4294967296:Nat)=2 ^ 32 from rfl,← Nat.pow_mul,← Nat.pow_add]
 congr 1; omega
set_option maxRecDepth 100000 in
set_option maxHeartbeats 16000000 in
theorem ba4 (A:Option Addr) (ns:List Nat) (n c B s W p P R:Nat) (w:World) (h:Rd w B A ns) (hB:B≤w.heap.size) (hn:ns.length=n) (hl:n≤16777216) (hs:s≤536870912)
  (hW:W=s / 32) (hp:p=s % 32) (hP:P=2 ^ p) (hR:R=2 ^ (32 - p)) :
  Calls Tryz.prog 237 #[.slice A n c,.int .i64 s] w (as8 w (val ns / 2 ^ s)):=by
 have Hn:=Lib.hid hn
 clear hn
 have e1:(s:Int) / 32=(W:Int):=by omega
 have e2:(s:Int) % 32=(p:Int):=by omega
 have hp2:p≤31:=by omega
 have HP:=Lib.hid hP
 have HR:=Lib.hid hR
 have HQ:Hid (2 ^ s=pw W*P):=Lib.hid (by rw [hP,hp,hW]; exact bem s)
 clear hP hR hW hp
 by_cases hWn:n≤W
 ·have h0:Hid (val ns / 2 ^ s=0):=Lib.hid (by
   apply Nat.div_eq_of_lt
   have h1:=afS h.wds
   have h2:pw ns.length≤pw W:=ajj (by rw [Hn.out]; exact hWn)
   have h3:pw W*1≤pw W*P:=Nat.mul_le_mul_left _ (by rw [HP.out]; exact Nat.pow_pos (by omega))
   rw [HQ.out]; omega)
  go_enter Tryz.func237,Tryz.ntmps237
  go_wp2_with fail
  go_ret
  rw [h0.out]
  exact ⟨none,0,rfl,Nat.le_refl _,Rd.nil_ _ _ _,Below.refl _ _⟩
 ·obtain ⟨m,hm⟩ : ∃ m,m=n - W:=⟨_,rfl⟩
  have hm1:IntKind.i64.wrap ((n:Int) - (W:Int))=(m:Int):=by rw [IntWalk.i64_in _ (by omega)]; omega
  have hm2:(n:Int) - (W:Int)=(m:Int):=by omega
  have hm3:m+W≤n:=by omega
  have hm4:n≤m+W:=by omega
  have hm5:m≤16777216:=by omega
  clear hm
  go_enter Tryz.func237,Tryz.ntmps237
  go_wp2_with (at_make; refine aAN _ rfl _ _ _ rfl 99 bsw ami _ _ _ _ m rfl rfl (by omega) (by omega) (by omega) ?_; intro w1 hblk hbel hsz)
  go_loopw [24] (fun i wr => ∃ (k:Nat) (cs:List Nat),k≤m∧i = .int .i64 k∧Blk wr w.heap.size 99 cs∧Hid (cs.length=m)∧Wds cs ∧
    Hid (P*lo cs k+dg (ns.drop W) 0 % P=lo (ns.drop W) k+pw k*(dg (ns.drop W) k % P))∧Below w.heap.size w wr) (fun i _=>m - (intOf i).toNat)
  case atStart=>exact ⟨0,_,Nat.zero_le _,rfl,hblk,Lib.hid (by simp),az8 _,Lib.hid (by simp [akf,aNP]),hbel⟩
  case round =>
   obtain ⟨k,cs,hk,rfl,hb1,hcl,hcw,hv,hbw⟩:=hrel
   clear hblk hbel hsz
   have hr:=h.below (hbw.mono hB)
   by_cases hkn:k < m
   ·have hcc:=hb1.cell (i:=k) (by rw [hcl.out]; omega)
    have hfr:=hb1.frozen k
    have hw1:=a0t hr.wds ((k:Int)+(W:Int))
    have hw2:=a0t hr.wds ((k:Int)+(W:Int)+1)
    go_wp2_with fail
    have k2:IntKind.i64.wrap ((k:Int)+(W:Int))=(k:Int)+(W:Int):=IntWalk.i64_in _ (by omega)
    have k4:IntKind.i64.wrap ((k:Int)+(W:Int)+1)=(k:Int)+(W:Int)+1:=IntWalk.i64_in _ (by omega)
    have k3:IntKind.i64.wrap (32 - (p:Int))=((32 - p:Nat):Int):=by rw [IntWalk.i64_in _ (by omega)]; omega
    go_region_with (go_at_call 204; refine (a0u _ ns _ _ _ _ _ hr.drew Hn.out (by omega)).mono ?_; rintro e w' ⟨rfl,rfl⟩)
    go_wp2_with fail
    have hkl:k < cs.length:=by rw [hcl.out]; omega
    have hP0:0 < P:=by rw [HP.out]; exact Nat.pow_pos (by omega)
    have hRP:R*P=4294967296:=by rw [HR.out,HP.out]; exact a3t (by omega)
    have d1:wd ns ((k:Int)+(W:Int))=dg (ns.drop W) k:=by rw [a6e,← as7]; congr 1; omega
    have d2:wd ns ((k:Int)+(W:Int)+1)=dg (ns.drop W) (k+1):=by rw [a6e,← as7]; congr 1; omega
    have hval:bits .or .u64 ((wd ns ((k:Int)+(W:Int)):Int) / 2 ^ p) (IntKind.u64.wrap ((wd ns ((k:Int)+(W:Int)+1):Int)*2 ^ (32 - p))) % 4294967296=((dg (ns.drop W) k / P+dg (ns.drop W) (k+1) % P*R:Nat):Int):=by
     rw [bim hw1 hw2 hp2,d1,d2,HR.out,HP.out]
    have hlt:dg (ns.drop W) k / P+dg (ns.drop W) (k+1) % P*R < 4294967296:=(bil hRP hP0 (by rw [← d1]; exact hw1)).2
    go_roundw
    case rel =>
     refine ⟨k+1,cs.set k (dg (ns.drop W) k / P+dg (ns.drop W) (k+1) % P*R),by omega,by go_num,hb1.awX hkl hval,Lib.hid (by rw [List.length_set]; exact hcl.out),alc hcw _ hlt,Lib.hid ?_,(hbw.setCell (Nat.le_refl _) _).drew⟩
     exact bip hkl hRP hv.out rfl
    case measure=>simp [intOf]; omega
   ·obtain rfl:k=m:=by omega
    have hP0:0 < P:=by rw [HP.out]; exact Nat.pow_pos (by omega)
    have hdl:(ns.drop W).length=k:=by rw [List.length_drop,Hn.out]; omega
    have HV:Hid (val cs=val ns / 2 ^ s):=Lib.hid (by
     rw [HQ.out,← Nat.div_div_eq_div_mul,← boY h.wds]
     refine bio (z:=dg (ns.drop W) 0 % P) hP0 (by rw [hdl]; exact hcl.out) (Nat.mod_lt _ hP0) ?_
     rw [hdl]; exact hv.out)
    go_wp2_with (go_at_call 202; refine (aOs _ cs _ _ _ _ (hb1.rd hcw) hcl.out (Nat.le_refl _) (by omega)).mono ?_; rintro e w' ⟨rfl,rfl⟩)
    go_ret
    refine ⟨_,_,aor (by rw [HV.out]),?_,?_,hbw⟩
    ·have:=aon hcw
     rw [HV.out,hcl.out] at this; exact this
    ·have:=(hb1.rd hcw).Uy
     rw [HV.out] at this; exact this
end Go.Proofs.YtbihljnjaondcaaGreatDoor
