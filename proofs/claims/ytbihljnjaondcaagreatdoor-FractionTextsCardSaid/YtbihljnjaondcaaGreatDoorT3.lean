/- Part of a proof, said shortly. -/
import Derived.Test.YtbihljnjaondcaaGreatDoorAlt
import Derived.Test.YtbihljnjaondcaaGreatDoorT2
import Derived.Test.YtbihljnjaondcaaGreatDoorT1
namespace Go.Proofs.YtbihljnjaondcaaGreatDoor
open Go Go.RowKit Lw
def as8 (w:World) (N:Nat) (e:Ending) (w':World):Prop :=
 ∃ A c,e = .returned (.slice A (Uy N).length c)∧(Uy N).length≤c∧Rd w' w'.heap.size A (Uy N)∧Below w.heap.size w w'
set_option maxHeartbeats 800000 in
theorem add_any (A A':Option Addr) (ns ms:List Nat) (n m c c' B B':Nat) (w:World) (h:Rd w B A ns) (h':Rd w B' A' ms) (hB:B≤w.heap.size) (hB':B'≤w.heap.size)
  (hn:ns.length=n) (hm:ms.length=m) (hl:n≤16777216) (hl':m≤16777216) (hc:n≤c) (hc':m≤c') :
  Calls Tryz.prog 210 #[.slice A n c,.slice A' m c'] w (as8 w (val ns+val ms)):=by
 have Hn:=Lib.hid hn
 have Hm:=Lib.hid hm
 clear hn hm
 rcases Nat.lt_or_ge n m with hnm | hnm
 ·go_enter Tryz.func210,Tryz.ntmps210
  go_wp2_with (at_make; refine aAN _ rfl _ _ _ rfl 99 bsw ami _ _ _ _ (m+1) rfl rfl (by omega) (by omega) (by omega) ?_; intro w1 hblk hbel hsz)
  go_loopw [6,22] (fun v i wr => ∃ (k carry:Nat) (cs:List Nat),k≤m∧carry≤1∧i = .int .i64 k∧v = .int .u64 carry∧Blk wr w.heap.size 99 cs∧Hid (cs.length=m+1)∧Wds cs ∧
    Hid (lo cs k+pw k*carry=lo ms k+lo ns k)∧Below w.heap.size w wr) (fun _ i _=>m - (intOf i).toNat)
  case atStart=>exact ⟨0,0,_,Nat.zero_le _,Nat.zero_le _,rfl,rfl,hblk,Lib.hid (by simp),az8 _,Lib.hid (by simp [akf]),hbel⟩
  case round =>
   obtain ⟨k,carry,cs,hk,hcar,rfl,rfl,hb1,hcl,hcw,hv,hbw⟩:=hrel
   clear hblk hbel hsz
   have hr:=h'.below (hbw.mono hB')
   have hr':=h.below (hbw.mono hB)
   by_cases hkn:k < m
   ·obtain ⟨b,off,rfl,hb,hcell,hlt⟩:=hr.at_ (k:=k) (by rw [Hm.out]; omega)
    have hwl:=a0t hr'.wds k
    have hcc:=hb1.cell (i:=k) (by rw [hcl.out]; omega)
    have hfr:=hb1.frozen k
    go_wp2_with (go_at_call 204; refine (a0u _ ns _ _ _ _ _ hr' Hn.out (by omega)).mono ?_; rintro e w' ⟨rfl,rfl⟩)
    have hw:wd ns k=dg ns k:=as7 _ _
    go_roundw
    case rel =>
     refine ⟨k+1,(carry+(dg ms k+dg ns k)) / 4294967296,cs.set k ((carry+(dg ms k+dg ns k)) % 4294967296),by omega,by omega,by go_num,by rw [hw]; go_num,?_,?_,?_,?_,?_⟩
     ·exact hb1.awX (by rw [hcl.out]; omega) (by rw [hw]; omega)
     ·exact Lib.hid (by rw [List.length_set]; exact hcl.out)
     ·exact alc hcw _ (Nat.mod_lt _ (by omega))
     ·exact Lib.hid (by rw [baH (by rw [hcl.out]; omega) hv.out rfl,acw,acw,Nat.mul_add]; omega)
     ·exact hbw.setCell (Nat.le_refl _) _
    case measure=>simp [intOf]; omega
   ·obtain rfl:k=m:=by omega
    have hcc:=hb1.cell (i:=k) (by rw [hcl.out]; omega)
    have hfr:=hb1.frozen k
    have hset:=hb1.awX (i:=k) (by rw [hcl.out]; omega) (z:=(carry:Int)) rfl
    have a3j:Wds (cs.set k carry):=alc hcw _ (by omega)
    have hlen:Hid ((cs.set k carry).length=k+1):=Lib.hid (by rw [List.length_set]; exact hcl.out)
    have hb2:=hbw.setCell (p:=⟨w.heap.size,k,none⟩) (Nat.le_refl _) (.int .u32 (carry:Int))
    have HV:Hid (val (cs.set k carry)=val ns+val ms):=Lib.hid (by
     rw [← acm (l:=cs.set k carry) (k:=k+1) (by rw [hlen.out]; exact Nat.le_refl _),ata _ (by rw [hcl.out]; omega),hv.out,acm (by rw [Hm.out]; exact Nat.le_refl _),acm (by rw [Hn.out]; omega)]; exact Nat.add_comm _ _)
    go_wp2_with (go_at_call 202; refine (aOs _ (cs.set k carry) _ _ _ _ (hset.rd a3j) hlen.out (Nat.le_refl _) (by omega)).mono ?_; rintro e w' ⟨rfl,rfl⟩)
    go_ret
    refine ⟨_,_,aor (by rw [HV.out]),?_,?_,hb2⟩
    ·have:=aon a3j
     rw [HV.out,hlen.out] at this; exact this
    ·have:=(hset.rd a3j).Uy
     rw [HV.out] at this; exact this
 ·go_enter Tryz.func210,Tryz.ntmps210
  go_wp2_with (at_make; refine aAN _ rfl _ _ _ rfl 99 bsw ami _ _ _ _ (n+1) rfl rfl (by omega) (by omega) (by omega) ?_; intro w1 hblk hbel hsz)
  go_loopw [6,22] (fun v i wr => ∃ (k carry:Nat) (cs:List Nat),k≤n∧carry≤1∧i = .int .i64 k∧v = .int .u64 carry∧Blk wr w.heap.size 99 cs∧Hid (cs.length=n+1)∧Wds cs ∧
    Hid (lo cs k+pw k*carry=lo ns k+lo ms k)∧Below w.heap.size w wr) (fun _ i _=>n - (intOf i).toNat)
  case atStart=>exact ⟨0,0,_,Nat.zero_le _,Nat.zero_le _,rfl,rfl,hblk,Lib.hid (by simp),az8 _,Lib.hid (by simp [akf]),hbel⟩
  case round =>
   obtain ⟨k,carry,cs,hk,hcar,rfl,rfl,hb1,hcl,hcw,hv,hbw⟩:=hrel
   clear hblk hbel hsz
   have hr:=h.below (hbw.mono hB)
   have hr':=h'.below (hbw.mono hB')
   by_cases hkn:k < n
   ·obtain ⟨b,off,rfl,hb,hcell,hlt⟩:=hr.at_ (k:=k) (by rw [Hn.out]; omega)
    have hwl:=a0t hr'.wds k
    have hcc:=hb1.cell (i:=k) (by rw [hcl.out]; omega)
    have hfr:=hb1.frozen k
    go_wp2_with (go_at_call 204; refine (a0u _ ms _ _ _ _ _ hr' Hm.out (by omega)).mono ?_; rintro e w' ⟨rfl,rfl⟩)
    have hw:wd ms k=dg ms k:=as7 _ _
    go_roundw
    case rel =>
     refine ⟨k+1,(carry+(dg ns k+dg ms k)) / 4294967296,cs.set k ((carry+(dg ns k+dg ms k)) % 4294967296),by omega,by omega,by go_num,by rw [hw]; go_num,?_,?_,?_,?_,?_⟩
     ·exact hb1.awX (by rw [hcl.out]; omega) (by rw [hw]; omega)
     ·exact Lib.hid (by rw [List.length_set]; exact hcl.out)
     ·exact alc hcw _ (Nat.mod_lt _ (by omega))
     ·exact Lib.hid (by rw [baH (by rw [hcl.out]; omega) hv.out rfl,acw,acw,Nat.mul_add]; omega)
     ·exact hbw.setCell (Nat.le_refl _) _
    case measure=>simp [intOf]; omega
   ·obtain rfl:k=n:=by omega
    have hcc:=hb1.cell (i:=k) (by rw [hcl.out]; omega)
    have hfr:=hb1.frozen k
    have hset:=hb1.awX (i:=k) (by rw [hcl.out]; omega) (z:=(carry:Int)) rfl
    have a3j:Wds (cs.set k carry):=alc hcw _ (by omega)
    have hlen:Hid ((cs.set k carry).length=k+1):=Lib.hid (by rw [List.length_set]; exact hcl.out)
    have hb2:=hbw.setCell (p:=⟨w.heap.size,k,none⟩) (Nat.le_refl _) (.int .u32 (carry:Int))
    have HV:Hid (val (cs.set k carry)=val ns+val ms):=Lib.hid (by
     rw [← acm (l:=cs.set k carry) (k:=k+1) (by rw [hlen.out]; exact Nat.le_refl _),ata _ (by rw [hcl.out]; omega),hv.out,acm (by rw [Hn.out]; exact Nat.le_refl _),acm (by rw [Hm.out]; omega)])
    go_wp2_with (go_at_call 202; refine (aOs _ (cs.set k carry) _ _ _ _ (hset.rd a3j) hlen.out (Nat.le_refl _) (by omega)).mono ?_; rintro e w' ⟨rfl,rfl⟩)
    go_ret
    refine ⟨_,_,aor (by rw [HV.out]),?_,?_,hb2⟩
    ·have:=aon a3j
     rw [HV.out,hlen.out] at this; exact this
    ·have:=(hset.rd a3j).Uy
     rw [HV.out] at this; exact this
end Go.Proofs.YtbihljnjaondcaaGreatDoor
namespace Lw
open Go
def a1E (x y D:Nat):Prop:=x < 18446744073709551616→y < 18446744073709551616→D=if y≤x then x - y else 18446744073709551616+x - y
theorem a2F (x y:Nat) : ∃ D:Nat,IntKind.u64.wrap ((x:Int) - (y:Int))=(D:Int)∧D≤18446744073709551615∧a1E x y D:=by
 refine ⟨(((x:Int) - (y:Int)) % 18446744073709551616).toNat,?_,by omega,fun h1 h2=>by split <;> omega⟩
 rw [IntKind.wrap_u64]; omega
theorem ba7 {x y c D F:Nat} (hx:x < 4294967296) (hy:y < 4294967296) (hc:c≤1) (hD:a1E x y D) (hF:a1E D c F) (hDl:D≤18446744073709551615) :
  F % 4294967296+(y+c)=x+4294967296*(F / 9223372036854775808)∧F / 9223372036854775808≤1:=by
 have h1:=hD (by omega) (by omega)
 have h2:=hF (by omega) (by omega)
 split at h1 <;> split at h2 <;> omega
theorem blW {cs:List Nat} {k c b r s:Nat} {t u x y:Nat} (h:k < cs.length) (hv:lo cs k+t=u+pw k*c) (hs:r+(y+c)=x+4294967296*b) (e:s=lo (cs.set k r) (k+1)) :
  s+(t+pw k*y)=(u+pw k*x)+pw (k+1)*b:=by
 subst e
 have e1:pw k*(r+(y+c))=pw k*(x+4294967296*b):=by rw [hs]
 rw [ata _ h,afC]
 simp only [Nat.mul_add] at e1
 have e2:pw k*(4294967296*b)=4294967296*pw k*b:=by rw [← Nat.mul_assoc,Nat.mul_comm (pw k)]
 omega
theorem bhm {c u t p:Nat} {b:Nat} (hc:c < p) (hv:c+t=u+p*b) (ht:t≤u) (hb:b≤1):c=u - t:=by
 rcases Nat.le_one_iff_eq_zero_or_eq_one.1 hb with rfl | rfl <;> omega
theorem bkv {l:List Nat} {k N:Nat} (h:val l≤N) (hN:N < pw k):lo l k=val l:=by
 rcases Nat.le_total l.length k with h1 | h1
 ·exact acm h1
 ·have e:=a4a l k
  rw [Nat.min_eq_left h1] at e
  rcases Nat.eq_zero_or_pos (val (l.drop k)) with h0 | h0
  ·rw [h0] at e; omega
  ·have:=Nat.mul_le_mul_left (pw k) h0
   omega
end Lw
namespace Go.Proofs.YtbihljnjaondcaaGreatDoor
open Go Go.RowKit Lw
set_option maxHeartbeats 800000 in
theorem ba8 (A A':Option Addr) (ns ms:List Nat) (n m c c' B B':Nat) (w:World) (h:Rd w B A ns) (h':Rd w B' A' ms) (hB:B≤w.heap.size) (hB':B'≤w.heap.size)
  (hn:ns.length=n) (hm:ms.length=m) (hl:n≤16777216) (hl':m≤16777216) (hle:val ms≤val ns) :
  Calls Tryz.prog 211 #[.slice A n c,.slice A' m c'] w (as8 w (val ns - val ms)):=by
 have Hn:=Lib.hid hn
 have Hm:=Lib.hid hm
 have Hle:=Lib.hid hle
 clear hn hm hle
 go_enter Tryz.func211,Tryz.ntmps211
 go_wp2_with (at_make; refine aAN _ rfl _ _ _ rfl 99 bsw ami _ _ _ _ n rfl rfl (by omega) (by omega) (by omega) ?_; intro w1 hblk hbel hsz)
 go_loopw [6,15] (fun v i wr => ∃ (k carry:Nat) (cs:List Nat),k≤n∧carry≤1∧i = .int .i64 k∧v = .int .u64 carry∧Blk wr w.heap.size 99 cs∧Hid (cs.length=n)∧Wds cs ∧
   Hid (lo cs k+lo ms k=lo ns k+pw k*carry)∧Below w.heap.size w wr) (fun _ i _=>n - (intOf i).toNat)
 case atStart=>exact ⟨0,0,_,Nat.zero_le _,Nat.zero_le _,rfl,rfl,hblk,Lib.hid (by simp),az8 _,Lib.hid (by simp [akf]),hbel⟩
 case round =>
  obtain ⟨k,carry,cs,hk,hcar,rfl,rfl,hb1,hcl,hcw,hv,hbw⟩:=hrel
  clear hblk hbel hsz
  have hr:=h.below (hbw.mono hB)
  have hr':=h'.below (hbw.mono hB')
  by_cases hkn:k < n
  ·obtain ⟨b,off,rfl,hb,hcell,hlt⟩:=hr.at_ (k:=k) (by rw [Hn.out]; omega)
   have hwl:=a0t hr'.wds k
   obtain ⟨D,hD,hDl,hDv⟩:=a2F (dg ns k) (wd ms k)
   obtain ⟨F,hF,hFl,hFv⟩:=a2F D carry
   have HDv:=Lib.hid hDv
   have HFv:=Lib.hid hFv
   clear hDv hFv
   have hcc:=hb1.cell (i:=k) (by rw [hcl.out]; omega)
   have hfr:=hb1.frozen k
   go_wp2_with (go_at_call 204; refine (a0u _ ms _ _ _ _ _ hr' Hm.out (by omega)).mono ?_; rintro e w' ⟨rfl,rfl⟩)
   have hw:wd ms k=dg ms k:=as7 _ _
   have hsw:=ba7 hlt hwl hcar HDv.out HFv.out hDl
   go_roundw
   case rel =>
    refine ⟨k+1,F / 9223372036854775808,cs.set k (F % 4294967296),by omega,hsw.2,by go_num,by go_num,hb1.awX (by rw [hcl.out]; omega) (by omega),Lib.hid (by rw [List.length_set]; exact hcl.out),alc hcw _ (Nat.mod_lt _ (by omega)),Lib.hid ?_,hbw.setCell (Nat.le_refl _) _⟩
    have e1:=hsw.1
    rw [hw] at e1
    have:=blW (k:=k) (by rw [hcl.out]; omega) hv.out e1 rfl
    rw [acw ms,acw ns]; exact this
   case measure=>simp [intOf]; omega
  ·obtain rfl:k=n:=by omega
   have hlen:cs.length≤k:=by rw [hcl.out]; exact Nat.le_refl _
   have hnl:val ns < pw k:=by have:=afS h.wds; rwa [Hn.out] at this
   have HV:Hid (val cs=val ns - val ms):=Lib.hid (by
    have e:=hv.out
    have e2:=afS hcw
    rw [hcl.out] at e2
    rw [acm hlen,acm (l:=ns) (by rw [Hn.out]; exact Nat.le_refl _),bkv Hle.out hnl] at e
    exact bhm e2 e Hle.out hcar)
   go_wp2_with (go_at_call 202; refine (aOs _ cs _ _ _ _ (hb1.rd hcw) hcl.out (Nat.le_refl _) (by omega)).mono ?_; rintro e w' ⟨rfl,rfl⟩)
   go_ret
   refine ⟨_,_,aor (by rw [HV.out]),?_,?_,hbw⟩
   ·have:=aon hcw
    rw [HV.out,hcl.out] at this; exact this
   ·have:=(hb1.rd hcw).Uy
    rw [HV.out] at this; exact this
end Go.Proofs.YtbihljnjaondcaaGreatDoor
namespace Lw
open Go Go.RowKit
theorem a6E {x y:Nat} (hx:x < 4294967296) (hy:y < 4294967296):(0:Int)≤(x:Int)*(y:Int)∧(x:Int)*(y:Int)≤18446744065119617025:=by
 have h:x*y≤4294967295*4294967295:=Nat.mul_le_mul (by omega) (by omega)
 have e:((x*y:Nat):Int)=(x:Int)*(y:Int):=Int.natCast_mul x y
 omega
theorem bbI {cs:List Nat} {o k c lc lm x y d z z':Nat} (h:o+k < cs.length) (hv:lo cs (o+k)+pw (o+k)*c=lc+pw o*(lm*x))
  (hz:z=lc+pw (o+k)*d) (hz':z'=lm+pw k*y) :
  lo (cs.set (o+k) ((c+(x*y+d)) % 4294967296)) (o+k+1)+pw (o+k+1)*((c+(x*y+d)) / 4294967296)=z+pw o*(z'*x):=by
 rw [baH h hv rfl,hz,hz',a2t]
 generalize pw o=a
 generalize pw k=b
 grind
theorem a6C {a b:List Nat} (k:Nat) (h : ∀ j,j < k→dg a j=dg b j):lo a k=lo b k:=by
 induction k with
 | zero=>rw [akf,akf]
 | succ k ih=>rw [acw,acw,ih (fun j hj=>h j (by omega)),h k (by omega)]
theorem a1q {a w:World} {g:Nat} (h:a.grownBy w (some g)) (i:Nat) (u:Value):a.grownBy (w.setCell ⟨g,i,none⟩ u) (some g) :=
 ⟨h.os,h.tape,h.output,by simpa [World.setCell] using h.size,fun j hj hne=>(Below.heap_setCell w ⟨g,i,none⟩ u j (by rintro rfl; exact hne rfl)).trans (h.block j hj hne)⟩
theorem Rd.grown {w w':World} {B g:Nat} {A:Option Addr} {ns:List Nat} (h:Rd w B A ns) (hg:w.grownBy w' (some g)) (hB:B≤w.heap.size) (hne:0 < ns.length → ∀ a,A=some a→a.block≠g):Rd w' B A ns :=
 ⟨h.1,fun hn=>by
  obtain ⟨b,off,hA,hb,hc⟩:=h.2 hn
  refine ⟨b,off,hA,hb,fun j hj => ?_⟩
  rw [← hc j hj]
  exact World.cell?_of_block (hg.block b (by omega) (fun e=>hne hn _ hA (by injection e)))⟩
end Lw
namespace Go.Proofs.YtbihljnjaondcaaGreatDoor
open Go Go.RowKit Lw
set_option maxHeartbeats 800000 in
theorem bbH (g o x:Nat) (A':Option Addr) (cs ms:List Nat) (m c c' B':Nat) (w:World) (hb:Blk w g 99 cs) (hcw:Wds cs) (h':Rd w B' A' ms) (hB':B'≤w.heap.size)
  (hne:0 < m → ∀ a,A'=some a→a.block≠g) (hm:ms.length=m) (hl:m≤16777216) (hl':cs.length≤1099511627776) (ho:o+m≤cs.length) (hx:x < 4294967296) :
  Calls Tryz.prog 212 #[.slice (some ⟨g,o,none⟩) m c,.slice A' m c',.int .u32 x] w fun e w' => ∃ (carry:Nat) (ds:List Nat),e = .returned (.int .u32 carry)∧carry < 4294967296∧Blk w' g 99 ds ∧
   ds.length=cs.length∧Wds ds∧(∀ j,j < o∨o+m≤j→dg ds j=dg cs j)∧lo ds (o+m)+pw (o+m)*carry=lo cs (o+m)+pw o*(val ms*x)∧w.grownBy w' (some g)∧w'.heap.size=w.heap.size:=by
 have Hm:=Lib.hid hm
 clear hm
 go_enter Tryz.func212,Tryz.ntmps212
 go_wp2
 go_loopw [7,12] (fun v i wr => ∃ (k carry:Nat) (ds:List Nat),k≤m∧carry < 4294967296∧i = .int .i64 k∧v = .int .u64 carry∧Blk wr g 99 ds∧Hid (ds.length=cs.length)∧Wds ds ∧
   Hid (∀ j,j < o∨o+k≤j→dg ds j=dg cs j)∧Hid (lo ds (o+k)+pw (o+k)*carry=lo cs (o+k)+pw o*(lo ms k*x))∧Hid (w.grownBy wr (some g)∧wr.heap.size=w.heap.size)) (fun _ i _=>m - (intOf i).toNat)
 case atStart=>exact ⟨0,0,cs,Nat.zero_le _,by omega,rfl,rfl,hb,Lib.hid rfl,hcw,Lib.hid (fun _ _=>rfl),Lib.hid (by simp [akf]),Lib.hid ⟨World.grownBy.refl w _,rfl⟩⟩
 case round =>
  obtain ⟨k,carry,ds,hk,hcar,rfl,rfl,hb1,hdl,hdw,hsame,hv,hg⟩:=hrel
  clear hb
  by_cases hkm:k < m
  ·have hr:=h'.grown hg.out.1 hB' (fun hp=>hne (by omega))
   obtain ⟨b,off,rfl,hbb,hcell,hlt⟩:=hr.at_ (k:=k) (by rw [Hm.out]; omega)
   have hcc:=hb1.cell (i:=o+k) (by rw [hdl.out]; omega)
   have a3f:=ahv hdw (o+k)
   have hfr:=hb1.frozen (o+k)
   have hxy:=a6E hx hlt
   obtain ⟨a99,a9'⟩:=hxy
   clear hne
   go_wp2
   have hN:x*dg ms k≤18446744065119617025:=by have:=Int.natCast_mul x (dg ms k); omega
   have hd:dg ds (o+k)=dg cs (o+k):=hsame.out _ (.inr (Nat.le_refl _))
   go_roundw
   case rel =>
    refine ⟨k+1,(carry+(x*dg ms k+dg ds (o+k))) / 4294967296,ds.set (o+k) ((carry+(x*dg ms k+dg ds (o+k))) % 4294967296),by omega,by omega,by go_num,?_,hb1.awX (by rw [hdl.out]; omega) ?_,Lib.hid (by rw [List.length_set]; exact hdl.out),alc hdw _ (Nat.mod_lt _ (by omega)),Lib.hid ?_,Lib.hid ?_,Lib.hid ⟨a1q hg.out.1 _ _,by simp [hg.out.2]⟩⟩
    ·rw [show ((carry:Int)+((x:Int)*(dg ms k:Int)+(dg ds (o+k):Int)))=((carry+(x*dg ms k+dg ds (o+k)):Nat):Int) by simp]; rfl
    ·rw [show ((carry:Int)+((x:Int)*(dg ms k:Int)+(dg ds (o+k):Int)))=((carry+(x*dg ms k+dg ds (o+k)):Nat):Int) by simp]; rfl
    ·intro j hj
     rw [am3 _ (by rw [hdl.out]; omega),if_neg (by omega)]
     exact hsame.out j (by omega)
    ·rw [show o+(k+1)=o+k+1 from rfl]
     rw [bbI (z:=lo cs (o+k+1)) (z':=lo ms (k+1)) (by rw [hdl.out]; omega) hv.out (by rw [hd]; exact acw _ _) (acw _ _)]
   case measure=>simp [intOf]; omega
  ·obtain rfl:k=m:=by omega
   go_wp2
   go_ret
   exact ⟨carry,ds,rfl,hcar,hb1,hdl.out,hdw,hsame.out,by rw [hv.out,acm (l:=ms) (by rw [Hm.out]; exact Nat.le_refl _)],hg.out.1,hg.out.2⟩
end Go.Proofs.YtbihljnjaondcaaGreatDoor
namespace Lw
open Go Go.RowKit
theorem bdU {cs ds:List Nat} {k m v x l l' r:Nat} (hm:k+m < ds.length) (hv:lo cs (k+m)=l*v) (hd:lo ds (k+m)+pw (k+m)*r=lo cs (k+m)+pw k*(v*x)) (hl:l'=l+pw k*x) :
  lo (ds.set (k+m) r) (k+m+1)=l'*v:=by
 rw [ata _ hm,hd,hv,hl,Nat.add_mul,Nat.mul_assoc,Nat.mul_comm v x]
theorem below_of_grown {a w w':World} {B g:Nat} (h:Below B a w) (hg:w.grownBy w' (some g)) (hB:B≤w.heap.size) (hgB:B≤g):Below B a w' :=
 h.grown hg hB (fun k hk=>by injection hk with e; omega)
end Lw
namespace Go.Proofs.YtbihljnjaondcaaGreatDoor
open Go Go.RowKit Lw
set_option maxHeartbeats 800000 in
theorem bkQ (A A':Option Addr) (ns ms:List Nat) (n m c c' B B':Nat) (w:World) (h:Rd w B A ns) (h':Rd w B' A' ms) (hB:B≤w.heap.size) (hB':B'≤w.heap.size)
  (hn:ns.length=n) (hm:ms.length=m) (hl:n≤16777216) (hl':m≤16777216) :
  Calls Tryz.prog 157 #[.slice A n c,.slice A' m c'] w (as8 w (val ns*val ms)):=by
 have Hn:=Lib.hid hn
 have Hm:=Lib.hid hm
 clear hn hm
 go_enter Tryz.func157,Tryz.ntmps157
 go_wp2_with (at_make; refine aAN _ rfl _ _ _ rfl 99 bsw ami _ _ _ _ (n+m) rfl rfl (by omega) (by omega) (by omega) ?_; intro w1 hblk hbel hsz)
 go_loopw [16] (fun i wr => ∃ (k:Nat) (cs:List Nat),k≤n∧i = .int .i64 k∧Blk wr w.heap.size 99 cs∧Hid (cs.length=n+m)∧Wds cs ∧
   Hid (lo cs (k+m)=lo ns k*val ms)∧Hid (∀ j,k+m≤j→dg cs j=0)∧Below w.heap.size w wr) (fun i _=>n - (intOf i).toNat)
 case atStart=>exact ⟨0,_,Nat.zero_le _,rfl,hblk,Lib.hid (by simp),az8 _,Lib.hid (by rw [a6C (b:=[]) _ (fun j _=>by rw [a6f]; rfl),acm (by simp),akf]; simp [val]),Lib.hid (fun j _=>a6f _ _),hbel⟩
 case round =>
  obtain ⟨k,cs,hk,rfl,hb1,hcl,hcw,hv,hz,hbw⟩:=hrel
  clear hblk hbel hsz
  have hr:=h.below (hbw.mono hB)
  have hr':=h'.below (hbw.mono hB')
  have hsz1:=hb1.lt
  by_cases hkn:k < n
  ·obtain ⟨b,off,rfl,hb,hcell,hlt⟩:=hr.at_ (k:=k) (by rw [Hn.out]; omega)
   have Hne:Hid (0 < m → ∀ a,A'=some a→a.block≠w.heap.size):=Lib.hid (fun hp a ha=>by
    obtain ⟨b,off,hA,hb,_⟩:=h'.2 (by rw [Hm.out]; exact hp)
    rw [ha] at hA; injection hA with e; subst e; exact Nat.ne_of_lt (Nat.lt_of_lt_of_le hb hB'))
   go_wp2_with fail
   refine (bbH _ _ _ _ cs ms _ _ _ _ _ hb1 hcw hr' (by omega) Hne.out Hm.out (by omega) (by rw [hcl.out]; omega) (by rw [hcl.out]; omega) hlt).mono ?_
   rintro e w2 ⟨r,ds,rfl,hrl,hb2,hdl,hdw,hsame,hval,hg,hsz2⟩
   have hcc:=hb2.cell (i:=k+m) (by rw [hdl,hcl.out]; omega)
   have hfr:=hb2.frozen (k+m)
   have Hdl:=Lib.hid hdl
   have bgU:=Lib.hid hsame
   have bgV:=Lib.hid hval
   have bpv:=Lib.hid hsz2
   clear hdl hsame hval hsz2
   go_wp2_with fail
   have hkl:k+m < ds.length:=by rw [Hdl.out,hcl.out]; omega
   go_roundw
   case rel =>
    refine ⟨k+1,ds.set (k+m) r,by omega,by go_num,hb2.a1c _ hkl,Lib.hid (by rw [List.length_set,Hdl.out]; exact hcl.out),alc hdw _ hrl,Lib.hid ?_,Lib.hid ?_,(below_of_grown hbw hg (by omega) (Nat.le_refl _)).setCell (Nat.le_refl _) _⟩
    ·rw [show k+1+m=k+m+1 by omega]
     exact bdU hkl hv.out bgV.out (acw _ _)
    ·intro j hj
     rw [am3 _ hkl,if_neg (by omega),bgU.out j (by omega)]
     exact hz.out j (by omega)
   case measure=>simp [intOf]; omega
  ·obtain rfl:k=n:=by omega
   have HV:Hid (val cs=val ns*val ms):=Lib.hid (by
    have e:=hv.out
    rwa [acm (by rw [hcl.out]; exact Nat.le_refl _),acm (l:=ns) (by rw [Hn.out]; exact Nat.le_refl _)] at e)
   go_wp2_with (go_at_call 202; refine (aOs _ cs _ _ _ _ (hb1.rd hcw) hcl.out (Nat.le_refl _) (by omega)).mono ?_; rintro e w' ⟨rfl,rfl⟩)
   go_ret
   refine ⟨_,_,aor (by rw [HV.out]),?_,?_,hbw⟩
   ·have:=aon hcw
    rw [HV.out,hcl.out] at this; exact this
   ·have:=(hb1.rd hcw).Uy
    rw [HV.out] at this; exact this
end Go.Proofs.YtbihljnjaondcaaGreatDoor
