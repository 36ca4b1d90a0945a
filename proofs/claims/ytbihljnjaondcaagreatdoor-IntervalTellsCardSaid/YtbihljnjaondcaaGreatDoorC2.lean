/- Part of a proof, said shortly. -/
import Derived.Deep.AppendLies
import Derived.Shelf.Small.Bits
import Derived.Shelf.Small.Wraps
import Derived.Shelf.Strconv.Itoa0
import Derived.Shelf.Strconv.Itoa1
import Derived.Shelf.LaysM
import Derived.Shelf.Strconv.Itoa2
import Derived.Shelf.Strings.Search1
import Derived.Shelf.Strings.Search2
import Derived.Shelf.Strings.Search3
import Derived.Shelf.Strings.Cut
import Derived.Shelf.Strings.Shaped
import Derived.Shelf.Strconv.AppendUint10
import Derived.Shelf.Strings.Prefix
import Derived.Test.YtbihljnjaondcaaGreatDoorProg
import Derived.Lib.BitFns
import Derived.Laws.AppendOwnNone
import Derived.Test.YtbihljnjaondcaaGreatDoorAlz
import Derived.Test.YtbihljnjaondcaaGreatDoorC1
namespace Go.Proofs.YtbihljnjaondcaaGreatDoor
open Go Go.RowKit Lw
def Dw (w:World) (N:Nat) (e:Ending) (w':World):Prop :=
 ∃ A c,e = .returned (.slice A (bg N).length c)∧(bg N).length≤c∧Rd w' w'.heap.size A (bg N)∧Below w.heap.size w w'
set_option maxHeartbeats 800000 in
theorem add_any (A A':Option Addr) (ns ms:List Nat) (n m c c' B B':Nat) (w:World) (h:Rd w B A ns) (h':Rd w B' A' ms) (hB:B≤w.heap.size) (hB':B'≤w.heap.size)
  (hn:ns.length=n) (hm:ms.length=m) (hl:n≤16777216) (hl':m≤16777216) (hc:n≤c) (hc':m≤c') :
  Calls Tryz.prog 210 #[.slice A n c,.slice A' m c'] w (Dw w (val ns+val ms)):=by
 have Hn:=Lib.hid hn
 have Hm:=Lib.hid hm
 clear hn hm
 rcases Nat.lt_or_ge n m with hnm | hnm
 ·go_enter Tryz.func210,Tryz.ntmps210
  go_wp2_with (at_make; refine Eo _ rfl _ _ _ rfl 99 aYN Az _ _ _ _ (m+1) rfl rfl (by omega) (by omega) (by omega) ?_; intro w1 hblk hbel hsz)
  go_loopw [6,22] (fun v i wr => ∃ (k carry:Nat) (cs:List Nat),k≤m∧carry≤1∧i = .int .i64 k∧v = .int .u64 carry∧fH wr w.heap.size 99 cs∧Hid (cs.length=m+1)∧fQ cs ∧
    Hid (lo cs k+pw k*carry=lo ms k+lo ns k)∧Below w.heap.size w wr) (fun _ i _=>m - (intOf i).toNat)
  case atStart=>exact ⟨0,0,_,Nat.zero_le _,Nat.zero_le _,rfl,rfl,hblk,Lib.hid (by simp),Fv _,Lib.hid (by simp [xM]),hbel⟩
  case round =>
   obtain ⟨k,carry,cs,hk,hcar,rfl,rfl,hb1,hcl,hcw,hv,hbw⟩:=hrel
   clear hblk hbel hsz
   have hr:=h'.below (hbw.mono hB')
   have hr':=h.below (hbw.mono hB)
   by_cases hkn:k < m
   ·obtain ⟨b,off,rfl,hb,hcell,hlt⟩:=hr.at_ (k:=k) (by rw [Hm.out]; omega)
    have hwl:=H7 hr'.gW k
    have hcc:=hb1.cell (i:=k) (by rw [hcl.out]; omega)
    have hfr:=hb1.frozen k
    go_wp2_with (go_at_call 204; refine (H9 _ ns _ _ _ _ _ hr' Hn.out (by omega)).mono ?_; rintro e w' ⟨rfl,rfl⟩)
    have hw:wd ns k=dg ns k:=Dq _ _
    go_roundw
    case rel =>
     refine ⟨k+1,(carry+(dg ms k+dg ns k)) / 4294967296,cs.set k ((carry+(dg ms k+dg ns k)) % 4294967296),by omega,by omega,by go_num,by rw [hw]; go_num,?_,?_,?_,?_,?_⟩
     ·exact hb1.Fg (by rw [hcl.out]; omega) (by rw [hw]; omega)
     ·exact Lib.hid (by rw [List.length_set]; exact hcl.out)
     ·exact yP hcw _ (Nat.mod_lt _ (by omega))
     ·exact Lib.hid (by rw [aiE (by rw [hcl.out]; omega) hv.out rfl,lg,lg,Nat.mul_add]; omega)
     ·exact hbw.setCell (Nat.le_refl _) _
    case measure=>simp [intOf]; omega
   ·obtain rfl:k=m:=by omega
    have hcc:=hb1.cell (i:=k) (by rw [hcl.out]; omega)
    have hfr:=hb1.frozen k
    have hset:=hb1.Fg (i:=k) (by rw [hcl.out]; omega) (z:=(carry:Int)) rfl
    have Sl:fQ (cs.set k carry):=yP hcw _ (by omega)
    have hlen:Hid ((cs.set k carry).length=k+1):=Lib.hid (by rw [List.length_set]; exact hcl.out)
    have hb2:=hbw.setCell (p:=⟨w.heap.size,k,none⟩) (Nat.le_refl _) (.int .u32 (carry:Int))
    have HV:Hid (val (cs.set k carry)=val ns+val ms):=Lib.hid (by
     rw [← lG (l:=cs.set k carry) (k:=k+1) (by rw [hlen.out]; exact Nat.le_refl _),Ec _ (by rw [hcl.out]; omega),hv.out,lG (by rw [Hm.out]; exact Nat.le_refl _),lG (by rw [Hn.out]; omega)]; exact Nat.add_comm _ _)
    go_wp2_with (go_at_call 202; refine (H6 _ (cs.set k carry) _ _ _ _ (hset.rd Sl) hlen.out (Nat.le_refl _) (by omega)).mono ?_; rintro e w' ⟨rfl,rfl⟩)
    go_ret
    refine ⟨_,_,BV (by rw [HV.out]),?_,?_,hb2⟩
    ·have:=BI Sl
     rw [HV.out,hlen.out] at this; exact this
    ·have:=(hset.rd Sl).bg
     rw [HV.out] at this; exact this
 ·go_enter Tryz.func210,Tryz.ntmps210
  go_wp2_with (at_make; refine Eo _ rfl _ _ _ rfl 99 aYN Az _ _ _ _ (n+1) rfl rfl (by omega) (by omega) (by omega) ?_; intro w1 hblk hbel hsz)
  go_loopw [6,22] (fun v i wr => ∃ (k carry:Nat) (cs:List Nat),k≤n∧carry≤1∧i = .int .i64 k∧v = .int .u64 carry∧fH wr w.heap.size 99 cs∧Hid (cs.length=n+1)∧fQ cs ∧
    Hid (lo cs k+pw k*carry=lo ns k+lo ms k)∧Below w.heap.size w wr) (fun _ i _=>n - (intOf i).toNat)
  case atStart=>exact ⟨0,0,_,Nat.zero_le _,Nat.zero_le _,rfl,rfl,hblk,Lib.hid (by simp),Fv _,Lib.hid (by simp [xM]),hbel⟩
  case round =>
   obtain ⟨k,carry,cs,hk,hcar,rfl,rfl,hb1,hcl,hcw,hv,hbw⟩:=hrel
   clear hblk hbel hsz
   have hr:=h.below (hbw.mono hB)
   have hr':=h'.below (hbw.mono hB')
   by_cases hkn:k < n
   ·obtain ⟨b,off,rfl,hb,hcell,hlt⟩:=hr.at_ (k:=k) (by rw [Hn.out]; omega)
    have hwl:=H7 hr'.gW k
    have hcc:=hb1.cell (i:=k) (by rw [hcl.out]; omega)
    have hfr:=hb1.frozen k
    go_wp2_with (go_at_call 204; refine (H9 _ ms _ _ _ _ _ hr' Hm.out (by omega)).mono ?_; rintro e w' ⟨rfl,rfl⟩)
    have hw:wd ms k=dg ms k:=Dq _ _
    go_roundw
    case rel =>
     refine ⟨k+1,(carry+(dg ns k+dg ms k)) / 4294967296,cs.set k ((carry+(dg ns k+dg ms k)) % 4294967296),by omega,by omega,by go_num,by rw [hw]; go_num,?_,?_,?_,?_,?_⟩
     ·exact hb1.Fg (by rw [hcl.out]; omega) (by rw [hw]; omega)
     ·exact Lib.hid (by rw [List.length_set]; exact hcl.out)
     ·exact yP hcw _ (Nat.mod_lt _ (by omega))
     ·exact Lib.hid (by rw [aiE (by rw [hcl.out]; omega) hv.out rfl,lg,lg,Nat.mul_add]; omega)
     ·exact hbw.setCell (Nat.le_refl _) _
    case measure=>simp [intOf]; omega
   ·obtain rfl:k=n:=by omega
    have hcc:=hb1.cell (i:=k) (by rw [hcl.out]; omega)
    have hfr:=hb1.frozen k
    have hset:=hb1.Fg (i:=k) (by rw [hcl.out]; omega) (z:=(carry:Int)) rfl
    have Sl:fQ (cs.set k carry):=yP hcw _ (by omega)
    have hlen:Hid ((cs.set k carry).length=k+1):=Lib.hid (by rw [List.length_set]; exact hcl.out)
    have hb2:=hbw.setCell (p:=⟨w.heap.size,k,none⟩) (Nat.le_refl _) (.int .u32 (carry:Int))
    have HV:Hid (val (cs.set k carry)=val ns+val ms):=Lib.hid (by
     rw [← lG (l:=cs.set k carry) (k:=k+1) (by rw [hlen.out]; exact Nat.le_refl _),Ec _ (by rw [hcl.out]; omega),hv.out,lG (by rw [Hn.out]; exact Nat.le_refl _),lG (by rw [Hm.out]; omega)])
    go_wp2_with (go_at_call 202; refine (H6 _ (cs.set k carry) _ _ _ _ (hset.rd Sl) hlen.out (Nat.le_refl _) (by omega)).mono ?_; rintro e w' ⟨rfl,rfl⟩)
    go_ret
    refine ⟨_,_,BV (by rw [HV.out]),?_,?_,hb2⟩
    ·have:=BI Sl
     rw [HV.out,hlen.out] at this; exact this
    ·have:=(hset.rd Sl).bg
     rw [HV.out] at this; exact this
end Go.Proofs.YtbihljnjaondcaaGreatDoor
namespace Lw
open Go
def Np (x y D:Nat):Prop:=x < 18446744073709551616→y < 18446744073709551616→D=if y≤x then x - y else 18446744073709551616+x - y
theorem QE (x y:Nat) : ∃ D:Nat,IntKind.u64.wrap ((x:Int) - (y:Int))=(D:Int)∧D≤18446744073709551615∧Np x y D:=by
 refine ⟨(((x:Int) - (y:Int)) % 18446744073709551616).toNat,?_,by omega,fun h1 h2=>by split <;> omega⟩
 rw [IntKind.wrap_u64]; omega
theorem ajE {x y c D F:Nat} (hx:x < 4294967296) (hy:y < 4294967296) (hc:c≤1) (hD:Np x y D) (hF:Np D c F) (hDl:D≤18446744073709551615) :
  F % 4294967296+(y+c)=x+4294967296*(F / 9223372036854775808)∧F / 9223372036854775808≤1:=by
 have h1:=hD (by omega) (by omega)
 have h2:=hF (by omega) (by omega)
 split at h1 <;> split at h2 <;> omega
theorem aB3 {cs:List Nat} {k c b r s:Nat} {t u x y:Nat} (h:k < cs.length) (hv:lo cs k+t=u+pw k*c) (hs:r+(y+c)=x+4294967296*b) (e:s=lo (cs.set k r) (k+1)) :
  s+(t+pw k*y)=(u+pw k*x)+pw (k+1)*b:=by
 subst e
 have e1:pw k*(r+(y+c))=pw k*(x+4294967296*b):=by rw [hs]
 rw [Ec _ h,vH]
 simp only [Nat.mul_add] at e1
 have e2:pw k*(4294967296*b)=4294967296*pw k*b:=by rw [← Nat.mul_assoc,Nat.mul_comm (pw k)]
 omega
theorem axw {c u t p:Nat} {b:Nat} (hc:c < p) (hv:c+t=u+p*b) (ht:t≤u) (hb:b≤1):c=u - t:=by
 rcases Nat.le_one_iff_eq_zero_or_eq_one.1 hb with rfl | rfl <;> omega
theorem aAV {l:List Nat} {k N:Nat} (h:val l≤N) (hN:N < pw k):lo l k=val l:=by
 rcases Nat.le_total l.length k with h1 | h1
 ·exact lG h1
 ·have e:=TN l k
  rw [Nat.min_eq_left h1] at e
  rcases Nat.eq_zero_or_pos (val (l.drop k)) with h0 | h0
  ·rw [h0] at e; omega
  ·have:=Nat.mul_le_mul_left (pw k) h0
   omega
end Lw
namespace Go.Proofs.YtbihljnjaondcaaGreatDoor
open Go Go.RowKit Lw
set_option maxHeartbeats 800000 in
theorem ajF (A A':Option Addr) (ns ms:List Nat) (n m c c' B B':Nat) (w:World) (h:Rd w B A ns) (h':Rd w B' A' ms) (hB:B≤w.heap.size) (hB':B'≤w.heap.size)
  (hn:ns.length=n) (hm:ms.length=m) (hl:n≤16777216) (hl':m≤16777216) (hle:val ms≤val ns) :
  Calls Tryz.prog 211 #[.slice A n c,.slice A' m c'] w (Dw w (val ns - val ms)):=by
 have Hn:=Lib.hid hn
 have Hm:=Lib.hid hm
 have Hle:=Lib.hid hle
 clear hn hm hle
 go_enter Tryz.func211,Tryz.ntmps211
 go_wp2_with (at_make; refine Eo _ rfl _ _ _ rfl 99 aYN Az _ _ _ _ n rfl rfl (by omega) (by omega) (by omega) ?_; intro w1 hblk hbel hsz)
 go_loopw [6,15] (fun v i wr => ∃ (k carry:Nat) (cs:List Nat),k≤n∧carry≤1∧i = .int .i64 k∧v = .int .u64 carry∧fH wr w.heap.size 99 cs∧Hid (cs.length=n)∧fQ cs ∧
   Hid (lo cs k+lo ms k=lo ns k+pw k*carry)∧Below w.heap.size w wr) (fun _ i _=>n - (intOf i).toNat)
 case atStart=>exact ⟨0,0,_,Nat.zero_le _,Nat.zero_le _,rfl,rfl,hblk,Lib.hid (by simp),Fv _,Lib.hid (by simp [xM]),hbel⟩
 case round =>
  obtain ⟨k,carry,cs,hk,hcar,rfl,rfl,hb1,hcl,hcw,hv,hbw⟩:=hrel
  clear hblk hbel hsz
  have hr:=h.below (hbw.mono hB)
  have hr':=h'.below (hbw.mono hB')
  by_cases hkn:k < n
  ·obtain ⟨b,off,rfl,hb,hcell,hlt⟩:=hr.at_ (k:=k) (by rw [Hn.out]; omega)
   have hwl:=H7 hr'.gW k
   obtain ⟨D,hD,hDl,IY⟩:=QE (dg ns k) (wd ms k)
   obtain ⟨F,hF,hFl,IZ⟩:=QE D carry
   have HDv:=Lib.hid IY
   have HFv:=Lib.hid IZ
   clear IY IZ
   have hcc:=hb1.cell (i:=k) (by rw [hcl.out]; omega)
   have hfr:=hb1.frozen k
   go_wp2_with (go_at_call 204; refine (H9 _ ms _ _ _ _ _ hr' Hm.out (by omega)).mono ?_; rintro e w' ⟨rfl,rfl⟩)
   have hw:wd ms k=dg ms k:=Dq _ _
   have hsw:=ajE hlt hwl hcar HDv.out HFv.out hDl
   go_roundw
   case rel =>
    refine ⟨k+1,F / 9223372036854775808,cs.set k (F % 4294967296),by omega,hsw.2,by go_num,by go_num,hb1.Fg (by rw [hcl.out]; omega) (by omega),Lib.hid (by rw [List.length_set]; exact hcl.out),yP hcw _ (Nat.mod_lt _ (by omega)),Lib.hid ?_,hbw.setCell (Nat.le_refl _) _⟩
    have e1:=hsw.1
    rw [hw] at e1
    have:=aB3 (k:=k) (by rw [hcl.out]; omega) hv.out e1 rfl
    rw [lg ms,lg ns]; exact this
   case measure=>simp [intOf]; omega
  ·obtain rfl:k=n:=by omega
   have hlen:cs.length≤k:=by rw [hcl.out]; exact Nat.le_refl _
   have hnl:val ns < pw k:=by have:=sW h.gW; rwa [Hn.out] at this
   have HV:Hid (val cs=val ns - val ms):=Lib.hid (by
    have e:=hv.out
    have e2:=sW hcw
    rw [hcl.out] at e2
    rw [lG hlen,lG (l:=ns) (by rw [Hn.out]; exact Nat.le_refl _),aAV Hle.out hnl] at e
    exact axw e2 e Hle.out hcar)
   go_wp2_with (go_at_call 202; refine (H6 _ cs _ _ _ _ (hb1.rd hcw) hcl.out (Nat.le_refl _) (by omega)).mono ?_; rintro e w' ⟨rfl,rfl⟩)
   go_ret
   refine ⟨_,_,BV (by rw [HV.out]),?_,?_,hbw⟩
   ·have:=BI hcw
    rw [HV.out,hcl.out] at this; exact this
   ·have:=(hb1.rd hcw).bg
    rw [HV.out] at this; exact this
end Go.Proofs.YtbihljnjaondcaaGreatDoor
namespace Lw
open Go Go.RowKit
theorem YO {x y:Nat} (hx:x < 4294967296) (hy:y < 4294967296):(0:Int)≤(x:Int)*(y:Int)∧(x:Int)*(y:Int)≤18446744065119617025:=by
 have h:x*y≤4294967295*4294967295:=Nat.mul_le_mul (by omega) (by omega)
 have e:((x*y:Nat):Int)=(x:Int)*(y:Int):=Int.natCast_mul x y
 omega
theorem alA {cs:List Nat} {o k c lc lm x y d z z':Nat} (h:o+k < cs.length) (hv:lo cs (o+k)+pw (o+k)*c=lc+pw o*(lm*x))
  (hz:z=lc+pw (o+k)*d) (hz':z'=lm+pw k*y) :
  lo (cs.set (o+k) ((c+(x*y+d)) % 4294967296)) (o+k+1)+pw (o+k+1)*((c+(x*y+d)) / 4294967296)=z+pw o*(z'*x):=by
 rw [aiE h hv rfl,hz,hz',OB]
 generalize pw o=a
 generalize pw k=b
 grind
theorem Yu {a b:List Nat} (k:Nat) (h : ∀ j,j < k→dg a j=dg b j):lo a k=lo b k:=by
 induction k with
 | zero=>rw [xM,xM]
 | succ k ih=>rw [lg,lg,ih (fun j hj=>h j (by omega)),h k (by omega)]
theorem Ky {a w:World} {g:Nat} (h:a.grownBy w (some g)) (i:Nat) (u:Value):a.grownBy (w.setCell ⟨g,i,none⟩ u) (some g) :=
 ⟨h.os,h.tape,h.output,by simpa [World.setCell] using h.size,fun j hj hne=>(Below.heap_setCell w ⟨g,i,none⟩ u j (by rintro rfl; exact hne rfl)).trans (h.block j hj hne)⟩
theorem Rd.grown {w w':World} {B g:Nat} {A:Option Addr} {ns:List Nat} (h:Rd w B A ns) (hg:w.grownBy w' (some g)) (hB:B≤w.heap.size) (hne:0 < ns.length → ∀ a,A=some a→a.block≠g):Rd w' B A ns :=
 ⟨h.1,fun hn=>by
  obtain ⟨b,off,hA,hb,hc⟩:=h.2 hn
  refine ⟨b,off,hA,hb,fun j hj => ?_⟩
  rw [← hc j hj]
  exact World.cell?_of_block (hg.block b (by omega) (fun e=>hne hn _ hA (by injection e)))⟩
end Lw
namespace Go.Proofs.YtbihljnjaondcaaGreatDoor
open Go Go.RowKit Lw
set_option maxHeartbeats 800000 in
theorem alz (g o x:Nat) (A':Option Addr) (cs ms:List Nat) (m c c' B':Nat) (w:World) (hb:fH w g 99 cs) (hcw:fQ cs) (h':Rd w B' A' ms) (hB':B'≤w.heap.size)
  (hne:0 < m → ∀ a,A'=some a→a.block≠g) (hm:ms.length=m) (hl:m≤16777216) (hl':cs.length≤1099511627776) (ho:o+m≤cs.length) (hx:x < 4294967296) :
  Calls Tryz.prog 212 #[.slice (some ⟨g,o,none⟩) m c,.slice A' m c',.int .u32 x] w fun e w' => ∃ (carry:Nat) (ds:List Nat),e = .returned (.int .u32 carry)∧carry < 4294967296∧fH w' g 99 ds ∧
   ds.length=cs.length∧fQ ds∧(∀ j,j < o∨o+m≤j→dg ds j=dg cs j)∧lo ds (o+m)+pw (o+m)*carry=lo cs (o+m)+pw o*(val ms*x)∧w.grownBy w' (some g)∧w'.heap.size=w.heap.size:=by
 have Hm:=Lib.hid hm
 clear hm
 go_enter Tryz.func212,Tryz.ntmps212
 go_wp2
 go_loopw [7,12] (fun v i wr => ∃ (k carry:Nat) (ds:List Nat),k≤m∧carry < 4294967296∧i = .int .i64 k∧v = .int .u64 carry∧fH wr g 99 ds∧Hid (ds.length=cs.length)∧fQ ds ∧
   Hid (∀ j,j < o∨o+k≤j→dg ds j=dg cs j)∧Hid (lo ds (o+k)+pw (o+k)*carry=lo cs (o+k)+pw o*(lo ms k*x))∧Hid (w.grownBy wr (some g)∧wr.heap.size=w.heap.size)) (fun _ i _=>m - (intOf i).toNat)
 case atStart=>exact ⟨0,0,cs,Nat.zero_le _,by omega,rfl,rfl,hb,Lib.hid rfl,hcw,Lib.hid (fun _ _=>rfl),Lib.hid (by simp [xM]),Lib.hid ⟨World.grownBy.refl w _,rfl⟩⟩
 case round =>
  obtain ⟨k,carry,ds,hk,hcar,rfl,rfl,hb1,hdl,hdw,hsame,hv,hg⟩:=hrel
  clear hb
  by_cases hkm:k < m
  ·have hr:=h'.grown hg.out.1 hB' (fun hp=>hne (by omega))
   obtain ⟨b,off,rfl,hbb,hcell,hlt⟩:=hr.at_ (k:=k) (by rw [Hm.out]; omega)
   have hcc:=hb1.cell (i:=o+k) (by rw [hdl.out]; omega)
   have RU:=ve hdw (o+k)
   have hfr:=hb1.frozen (o+k)
   have hxy:=YO hx hlt
   obtain ⟨ah5,ah6⟩:=hxy
   clear hne
   go_wp2
   have hN:x*dg ms k≤18446744065119617025:=by have:=Int.natCast_mul x (dg ms k); omega
   have hd:dg ds (o+k)=dg cs (o+k):=hsame.out _ (.inr (Nat.le_refl _))
   go_roundw
   case rel =>
    refine ⟨k+1,(carry+(x*dg ms k+dg ds (o+k))) / 4294967296,ds.set (o+k) ((carry+(x*dg ms k+dg ds (o+k))) % 4294967296),by omega,by omega,by go_num,?_,hb1.Fg (by rw [hdl.out]; omega) ?_,Lib.hid (by rw [List.length_set]; exact hdl.out),yP hdw _ (Nat.mod_lt _ (by omega)),Lib.hid ?_,Lib.hid ?_,Lib.hid ⟨Ky hg.out.1 _ _,by simp [hg.out.2]⟩⟩
    ·rw [show ((carry:Int)+((x:Int)*(dg ms k:Int)+(dg ds (o+k):Int)))=((carry+(x*dg ms k+dg ds (o+k)):Nat):Int) by simp]; rfl
    ·rw [show ((carry:Int)+((x:Int)*(dg ms k:Int)+(dg ds (o+k):Int)))=((carry+(x*dg ms k+dg ds (o+k)):Nat):Int) by simp]; rfl
    ·intro j hj
     rw [BG _ (by rw [hdl.out]; omega),if_neg (by omega)]
     exact hsame.out j (by omega)
    ·rw [show o+(k+1)=o+k+1 from rfl]
     rw [alA (z:=lo cs (o+k+1)) (z':=lo ms (k+1)) (by rw [hdl.out]; omega) hv.out (by rw [hd]; exact lg _ _) (lg _ _)]
   case measure=>simp [intOf]; omega
  ·obtain rfl:k=m:=by omega
   go_wp2
   go_ret
   exact ⟨carry,ds,rfl,hcar,hb1,hdl.out,hdw,hsame.out,by rw [hv.out,lG (l:=ms) (by rw [Hm.out]; exact Nat.le_refl _)],hg.out.1,hg.out.2⟩
end Go.Proofs.YtbihljnjaondcaaGreatDoor
namespace Lw
open Go Go.RowKit
theorem ao5 {cs ds:List Nat} {k m v x l l' r:Nat} (hm:k+m < ds.length) (hv:lo cs (k+m)=l*v) (hd:lo ds (k+m)+pw (k+m)*r=lo cs (k+m)+pw k*(v*x)) (hl:l'=l+pw k*x) :
  lo (ds.set (k+m) r) (k+m+1)=l'*v:=by
 rw [Ec _ hm,hd,hv,hl,Nat.add_mul,Nat.mul_assoc,Nat.mul_comm v x]
theorem below_of_grown {a w w':World} {B g:Nat} (h:Below B a w) (hg:w.grownBy w' (some g)) (hB:B≤w.heap.size) (hgB:B≤g):Below B a w' :=
 h.grown hg hB (fun k hk=>by injection hk with e; omega)
end Lw
namespace Go.Proofs.YtbihljnjaondcaaGreatDoor
open Go Go.RowKit Lw
set_option maxHeartbeats 800000 in
theorem aBj (A A':Option Addr) (ns ms:List Nat) (n m c c' B B':Nat) (w:World) (h:Rd w B A ns) (h':Rd w B' A' ms) (hB:B≤w.heap.size) (hB':B'≤w.heap.size)
  (hn:ns.length=n) (hm:ms.length=m) (hl:n≤16777216) (hl':m≤16777216) :
  Calls Tryz.prog 157 #[.slice A n c,.slice A' m c'] w (Dw w (val ns*val ms)):=by
 have Hn:=Lib.hid hn
 have Hm:=Lib.hid hm
 clear hn hm
 go_enter Tryz.func157,Tryz.ntmps157
 go_wp2_with (at_make; refine Eo _ rfl _ _ _ rfl 99 aYN Az _ _ _ _ (n+m) rfl rfl (by omega) (by omega) (by omega) ?_; intro w1 hblk hbel hsz)
 go_loopw [16] (fun i wr => ∃ (k:Nat) (cs:List Nat),k≤n∧i = .int .i64 k∧fH wr w.heap.size 99 cs∧Hid (cs.length=n+m)∧fQ cs ∧
   Hid (lo cs (k+m)=lo ns k*val ms)∧Hid (∀ j,k+m≤j→dg cs j=0)∧Below w.heap.size w wr) (fun i _=>n - (intOf i).toNat)
 case atStart=>exact ⟨0,_,Nat.zero_le _,rfl,hblk,Lib.hid (by simp),Fv _,Lib.hid (by rw [Yu (b:=[]) _ (fun j _=>by rw [Uw]; rfl),lG (by simp),xM]; simp [val]),Lib.hid (fun j _=>Uw _ _),hbel⟩
 case round =>
  obtain ⟨k,cs,hk,rfl,hb1,hcl,hcw,hv,hz,hbw⟩:=hrel
  clear hblk hbel hsz
  have hr:=h.below (hbw.mono hB)
  have hr':=h'.below (hbw.mono hB')
  have hsz1:=hb1.lt
  by_cases hkn:k < n
  ·obtain ⟨b,off,rfl,hb,hcell,hlt⟩:=hr.at_ (k:=k) (by rw [Hn.out]; omega)
   have Rf:Hid (0 < m → ∀ a,A'=some a→a.block≠w.heap.size):=Lib.hid (fun hp a ha=>by
    obtain ⟨b,off,hA,hb,_⟩:=h'.2 (by rw [Hm.out]; exact hp)
    rw [ha] at hA; injection hA with e; subst e; exact Nat.ne_of_lt (Nat.lt_of_lt_of_le hb hB'))
   go_wp2_with fail
   refine (alz _ _ _ _ cs ms _ _ _ _ _ hb1 hcw hr' (by omega) Rf.out Hm.out (by omega) (by rw [hcl.out]; omega) (by rw [hcl.out]; omega) hlt).mono ?_
   rintro e w2 ⟨r,ds,rfl,hrl,hb2,hdl,hdw,hsame,hval,hg,hsz2⟩
   have hcc:=hb2.cell (i:=k+m) (by rw [hdl,hcl.out]; omega)
   have hfr:=hb2.frozen (k+m)
   have Hdl:=Lib.hid hdl
   have awO:=Lib.hid hsame
   have awR:=Lib.hid hval
   have aKq:=Lib.hid hsz2
   clear hdl hsame hval hsz2
   go_wp2_with fail
   have hkl:k+m < ds.length:=by rw [Hdl.out,hcl.out]; omega
   go_roundw
   case rel =>
    refine ⟨k+1,ds.set (k+m) r,by omega,by go_num,hb2.Gi _ hkl,Lib.hid (by rw [List.length_set,Hdl.out]; exact hcl.out),yP hdw _ hrl,Lib.hid ?_,Lib.hid ?_,(below_of_grown hbw hg (by omega) (Nat.le_refl _)).setCell (Nat.le_refl _) _⟩
    ·rw [show k+1+m=k+m+1 by omega]
     exact ao5 hkl hv.out awR.out (lg _ _)
    ·intro j hj
     rw [BG _ hkl,if_neg (by omega),awO.out j (by omega)]
     exact hz.out j (by omega)
   case measure=>simp [intOf]; omega
  ·obtain rfl:k=n:=by omega
   have HV:Hid (val cs=val ns*val ms):=Lib.hid (by
    have e:=hv.out
    rwa [lG (by rw [hcl.out]; exact Nat.le_refl _),lG (l:=ns) (by rw [Hn.out]; exact Nat.le_refl _)] at e)
   go_wp2_with (go_at_call 202; refine (H6 _ cs _ _ _ _ (hb1.rd hcw) hcl.out (Nat.le_refl _) (by omega)).mono ?_; rintro e w' ⟨rfl,rfl⟩)
   go_ret
   refine ⟨_,_,BV (by rw [HV.out]),?_,?_,hbw⟩
   ·have:=BI hcw
    rw [HV.out,hcl.out] at this; exact this
   ·have:=(hb1.rd hcw).bg
    rw [HV.out] at this; exact this
end Go.Proofs.YtbihljnjaondcaaGreatDoor
namespace Lw
open Go Go.RowKit
def sg (z:Int):Bool:=decide (z < 0)
def mg (z:Int):List Nat:=bg z.natAbs
theorem adw (z:Int):fQ (mg z):=mJ _
theorem SG (z:Int):wP (mg z):=vU _
theorem vV (z:Int):val (mg z)=z.natAbs:=fA _
theorem aFr:sg 0=false:=rfl
theorem Vw (z:Int):z=if sg z then -(val (mg z):Int) else (val (mg z):Int):=by
 rw [vV]; unfold sg
 by_cases h:z < 0
 ·simp [h]; omega
 ·simp [h]; omega
theorem arY {s:Bool} {N:Nat} {z:Int} (h0:N≠0) (hz:z=if s then -(N:Int) else (N:Int)):sg z=s∧mg z=bg N:=by
 unfold sg mg
 have hn:z.natAbs=N:=by rw [hz]; split <;> omega
 rw [hn]
 refine ⟨?_,rfl⟩
 rw [hz]
 cases s <;> simp <;> omega
def vB (s:Bool) (ns:List Nat):Bool:=if ns.length=0 then !s else dg ns (ns.length - 1) != 0
def zv (s:Bool) (ns:List Nat):Int:=if vB s ns then (if s then -(val ns:Int) else (val ns:Int)) else 0
theorem afl (s:Bool) (ns:List Nat):(zv s ns).natAbs≤val ns:=by
 unfold zv; split
 ·split <;> omega
 ·simp
theorem Cc {s:Bool} {ns:List Nat} (h:fQ ns):(mg (zv s ns)).length≤ns.length :=
 xQ (Nat.lt_of_le_of_lt (afl s ns) (sW h))
theorem asE {s:Bool} {ns:List Nat} (h:vB s ns=true):wP ns:=by
 unfold vB at h
 split at h
 ·rename_i h0
  rw [List.eq_nil_of_length_eq_zero h0]; exact ajJ
 ·exact asn (by simpa using h)
theorem Qw {s:Bool} {ns:List Nat} {z:Int} (h:vB s ns=true) (hz:z=if s then -(val ns:Int) else (val ns:Int)) (hw:fQ ns) :
  sg z=s∧mg z=ns∧wP ns:=by
 unfold sg mg
 have ht:=asE h
 have hn:z.natAbs=val ns:=by rw [hz]; split <;> omega
 refine ⟨?_,by rw [hn]; exact X0 hw ht,ht⟩
 rw [hz]
 cases s
 ·simp
 ·have h0:ns≠[]:=by
   intro e; subst e
   simp [vB] at h
  have:=aeM ht h0
  simp; omega
end Lw
namespace Go.Proofs.YtbihljnjaondcaaGreatDoor
open Go Go.RowKit Lw
theorem DI {a b:Bool} (h:a=b):Ending.returned (.bool a)=Ending.returned (.bool b):=by rw [h]
set_option maxHeartbeats 800000 in
theorem aeY (s:Bool) (A:Option Addr) (ns:List Nat) (n c B:Nat) (w:World) (h:Rd w B A ns) (hB:B≤w.heap.size) (hn:ns.length=n) (hl:n≤16777216) :
  Calls Tryz.prog 181 #[.agg #[.bool s,.slice A n c]] w fun e w'=>e = .returned (.bool (vB s ns))∧Below w.heap.size w w':=by
 have Hn:=Lib.hid hn
 clear hn
 by_cases h0:n=0
 ·subst h0
  go_enter Tryz.func181,Tryz.ntmps181
  go_wp2
  go_ret
  refine ⟨DI ?_,?_⟩
  ·unfold vB; rw [if_pos Hn.out]
  ·exact (Below.refl _ _).alloc (Nat.le_refl _) _
 ·obtain ⟨b,off,rfl,hb,hcell,hlt⟩:=h.at_ (k:=n - 1) (by rw [Hn.out]; omega)
  have hb1:((n:Int)==0)=false:=by simp; omega
  have hbs:b < w.heap.size:=by omega
  go_enter Tryz.func181,Tryz.ntmps181
  go_wp2
  go_ret
  refine ⟨DI ?_,(Below.refl _ _).alloc (Nat.le_refl _) _⟩
  unfold vB
  rw [if_neg (by rw [Hn.out]; exact h0),Hn.out,Bool.eq_iff_iff,bne_iff_ne,bne_iff_ne]
  exact not_congr Int.ofNat_inj
def aly (w:World) (B:Nat) (z:Int) (e:Ending) (w':World):Prop :=
 ∃ A c,e = .returned (.agg #[.bool (sg z),.slice A (mg z).length c])∧(mg z).length≤c∧Rd w' B A (mg z)∧Below w.heap.size w w'
def DX (w:World) (z:Int) (e:Ending) (w':World):Prop :=
 ∃ A c,e = .returned (.agg #[.bool (sg z),.slice A (mg z).length c])∧(mg z).length≤c∧Rd w' w'.heap.size A (mg z)∧Below w.heap.size w w'
theorem zX {w W:World} {B g n c c':Nat} {t:TypeId} {s:Bool} {A A':Option Addr} {z:Int} (h2:Two W g t (.bool s) (.slice A' n c)) (hr:Rd W B A (mg z)) (hB:B≤W.heap.size) (hc:(mg z).length≤c')
  (hb:Below w.heap.size w W) (hg:w.heap.size≤g) :
  DX w z (.returned (.agg #[.bool (sg z),.slice A (mg z).length c'])) ((W.setCell ⟨g,0,none⟩ (.bool (sg z))).setCell ⟨g,1,none⟩ (.slice A (mg z).length c')) :=
 ⟨A,c',rfl,hc,(hr.yF h2 _ _).more (by simpa using hB),(hb.setCell hg _).setCell hg _⟩
set_option maxHeartbeats 800000 in
theorem EQ (s:Bool) (A:Option Addr) (ns:List Nat) (n c B:Nat) (w:World) (h:Rd w B A ns) (hB:B≤w.heap.size) (hn:ns.length=n) (hl:n≤16777216) (hc:n≤c) :
  Calls Tryz.prog 151 #[.agg #[.bool s,.slice A n c]] w (aly w B (zv s ns)):=by
 cases hv:vB s ns
 ·have hz:Hid (zv s ns=0):=Lib.hid (by unfold zv; rw [hv]; rfl)
  go_enter Tryz.func151,Tryz.ntmps151
  go_wp2_with fail
  refine (aeY s A ns n c B _ ((h.alloc hB _).alloc (by simp; omega) _) (by simp; omega) hn hl).mono ?_
  rintro e w1 ⟨rfl,hb1⟩
  obtain ⟨t1,t2,hs1,hb2⟩:=fF hb1
  obtain ⟨c10,c11,f10,f11⟩:=t1.facts
  obtain ⟨c20,c21,f20,f21⟩:=t2.facts
  go_wp2_with fail
  refine bodyPost_ret (v := .agg #[.bool false,.slice none 0 0]) (by simp [results,Tryz.results151,go_sem,c20,c21]) rfl ?_
  rw [hz.out]
  exact ⟨none,0,rfl,Nat.le_refl _,Rd.nil_ _ _ _,(hb2.setCell (by simp) _).setCell (by simp) _⟩
 ·have hz:Hid (zv s ns=if s then -(val ns:Int) else (val ns:Int)):=Lib.hid (by unfold zv; rw [hv]; rfl)
  have Hv:=Lib.hid hv
  go_enter Tryz.func151,Tryz.ntmps151
  go_wp2_with fail
  refine (aeY s A ns n c B _ ((h.alloc hB _).alloc (by simp; omega) _) (by simp; omega) hn hl).mono ?_
  rintro e w1 ⟨rfl,hb1⟩
  obtain ⟨t1,t2,hs1,hb2⟩:=fF hb1
  obtain ⟨c10,c11,f10,f11⟩:=t1.facts
  obtain ⟨c20,c21,f20,f21⟩:=t2.facts
  go_wp2_with fail
  refine bodyPost_ret (v := .agg #[.bool s,.slice A n c]) (by simp [results,Tryz.results151,go_sem,c20,c21]) rfl ?_
  obtain ⟨e1,e2,e3⟩:=Qw Hv.out hz.out h.gW
  refine ⟨A,c,?_,by rw [e2,hn]; exact hc,?_,(hb2.setCell (by simp) _).setCell (by simp) _⟩
  ·rw [e1,e2,hn]
  ·rw [e2]
   exact (((h.below (hb2.mono hB)).setCell (by simp; omega) _).setCell (by simp; omega) _)
end Go.Proofs.YtbihljnjaondcaaGreatDoor
namespace Lw
open Go Go.RowKit
theorem abk {w:World} {base:Nat} {e:TypeId} {v:Value} {n:Nat} {ns:List Nat} (h:w.ownsRow base e 1 v n (arr ns)) (hv:v ≠ .slice none 0 0) :
  ∃ g c,v = .slice (some ⟨g,0,none⟩) n c∧base≤g∧n≤c∧fH w g e ns:=by
 rcases h.2 with ⟨h0,_⟩ | ⟨g,cap,cur,hv',hb,hg,hnc,hcm,hcs,htake⟩
 ·exact absurd h0 hv
 ·refine ⟨g,cap,hv',hb,hnc,cur.toList.drop (n*1),?_⟩
  rw [hg,← htake,List.take_append_drop]
end Lw
namespace Go.Proofs.YtbihljnjaondcaaGreatDoor
open Go Go.RowKit Lw
def atq (w:World) (ns:List Nat) (n:Nat) (e:Ending) (w':World):Prop :=
 ∃ A c,e = .returned (.slice A n c)∧n≤c∧(0 < n → ∃ g,A=some ⟨g,0,none⟩∧w.heap.size≤g∧fH w' g 99 ns)∧Rd w' w'.heap.size A ns∧Below w.heap.size w w'
set_option maxRecDepth 100000 in
set_option maxHeartbeats 800000 in
theorem clone_any (A:Option Addr) (ns:List Nat) (n c B:Nat) (w:World) (h:Rd w B A ns) (hB:B≤w.heap.size) (hn:ns.length=n) (hl:n≤16777216) :
  Calls Tryz.prog 185 #[.slice A n c] w (atq w ns n):=by
 have hq:=fun (W:World) (A:Option Addr)=>Lib.run_eql_slice_nil (P:=Tryz.prog) W 22 99 A n c 0 0 aYN
 rcases A with _ | ad
 ·have h0:n=0:=by
   rcases Nat.eq_zero_or_pos n with h0 | h0
   ·exact h0
   ·obtain ⟨b,off,hA,_⟩:=h.2 (by omega)
    cases hA
  subst h0
  have e0:ns=[]:=List.eq_nil_of_length_eq_zero hn
  subst e0
  clear hn
  go_enter Tryz.func185,Tryz.ntmps185
  go_wp2
  go_ret
  exact ⟨none,0,rfl,Nat.le_refl _,fun h=>absurd h (by omega),Rd.nil_ _ _ _,Below.refl _ _⟩
 ·obtain ⟨i0,hi0,hz0,hz1,hz2⟩:=info_parts Az
  have Hn:=Lib.hid hn
  clear hn
  go_enter Tryz.func185,Tryz.ntmps185
  have hown:(w.alloc (.cells #[] 99)).ownsRow w.heap.size 99 1 (.slice (some ⟨w.heap.size,0,none⟩) 0 0) 0 []:=World.ownsRow_lit w #[] 0 (Nat.le_refl _) (by simp [maxLen]) (by simp)
  have hnews : ∀ j u,(arr ns)[j]? = some u→(w.alloc (.cells #[] 99)).cell? (ad.add j)=some u:=by
   intro j u hu
   have hj:j < ns.length:=by
    rcases Nat.lt_or_ge j ns.length with h1 | h1
    ·exact h1
    ·rw [List.getElem?_eq_none (by rw [GX]; exact h1)] at hu; cases hu
   obtain ⟨b,off,hA,hb,hcell⟩:=(h.alloc hB (.cells #[] 99)).2 (by omega)
   rw [agX ns j hj] at hu
   injection hA with hA
   subst hA
   rw [← hu,← hcell j hj]
   congr 1
   unfold Addr.add
   split
   ·rename_i h0; subst h0; rfl
   ·rfl
  have h1 : ∀ u∈arr ns,u.oneCell'=true:=by
   intro u hu
   unfold arr at hu
   rw [List.mem_map] at hu
   obtain ⟨x,_,rfl⟩:=hu
   rfl
  have hl1:(arr ns).length=n*1:=by rw [GX,Hn.out,Nat.mul_one]
  have awL:=Lib.hid hnews
  have H1:=Lib.hid h1
  have Hl1:=Lib.hid hl1
  clear hnews h1 hl1
  go_wp2_with (at_builtin; refine wpList_append_own _ rfl _ _ 22 rfl w.heap.size 99 i0 _ 1 4 aYN hi0 hz0 hz1 hz2 rfl (by decide) _ 0 [] rfl hown ad n c (arr ns) rfl Hl1.out awL.out H1.out (by unfold maxLen; omega) (by omega) (by simp) ?_; intro v' w1 hown1 hgrow1 hnil)
  go_ret
  rw [Nat.zero_add,List.nil_append] at hown1
  obtain ⟨g,c',rfl,hg,hc',hblk⟩:=abk hown1 (by intro e; have h1:=(hnil.1 e).1; cases h1)
  have hgl:=hblk.lt
  refine ⟨some ⟨g,0,none⟩,c',rfl,hc',fun _=>⟨g,rfl,hg,hblk⟩,hblk.rd h.gW,((Below.refl _ _).alloc (Nat.le_refl _) _).grown hgrow1 (by simp) (fun k hk => ?_)⟩
  have e:some w.heap.size=some k:=hk
  injection e with e
  exact Nat.le_of_eq e
set_option maxHeartbeats 800000 in
theorem Eh (s:Bool) (A:Option Addr) (N:Nat) (n c B:Nat) (z:Int) (w:World) (h:Rd w B A (bg N)) (hB:B≤w.heap.size) (hn:(bg N).length=n) (hc:n≤c) (hz:z=if s then -(N:Int) else (N:Int)) :
  Calls Tryz.prog 156 #[.bool s,.slice A n c] w (aly w B z):=by
 by_cases h0:N=0
 ·subst h0
  have e0:n=0:=by rw [← hn]; rfl
  have ez:z=0:=by rw [hz]; split <;> rfl
  subst e0
  subst ez
  clear hn hz
  go_enter Tryz.func156,Tryz.ntmps156
  go_wp2
  refine bodyPost_ret (v := .agg #[.bool false,.slice none 0 0]) (by simp [results,Tryz.results156,go_sem]) rfl ?_
  exact ⟨none,0,rfl,Nat.le_refl _,Rd.nil_ _ _ _,(Below.refl _ _).alloc (Nat.le_refl _) _⟩
 ·have hb:((n:Int)==0)=false:=by
   rw [beq_eq_false_iff_ne]
   intro e
   exact h0 (xP.1 (List.eq_nil_of_length_eq_zero (by omega)))
  have Hz:Hid (sg z=s∧mg z=bg N):=Lib.hid (arY h0 hz)
  clear hz
  go_enter Tryz.func156,Tryz.ntmps156
  go_wp2
  refine bodyPost_ret (v := .agg #[.bool s,.slice A n c]) (by simp [results,Tryz.results156,go_sem]) rfl ?_
  refine ⟨A,c,by rw [Hz.out.1,Hz.out.2,hn],by rw [Hz.out.2,hn]; exact hc,by rw [Hz.out.2]; exact h.alloc hB _,(Below.refl _ _).alloc (Nat.le_refl _) _⟩
end Go.Proofs.YtbihljnjaondcaaGreatDoor
namespace Lw
theorem val_two (a b:Nat):val [a,b]=a+4294967296*b:=by simp [val]
theorem aah {a b:Nat} (ha:a < 4294967296) (hb:b < 4294967296):fQ [a,b]:=by rw [Cb,Cb]; exact ⟨ha,hb,Bj⟩
open Go
theorem akq {z:Int} (h1 : -9223372036854775808≤z) (h0:z < 0) : ∃ D N:Nat,IntKind.u64.wrap z=(D:Int)∧IntKind.u64.wrap (-(D:Int))=(N:Int)∧z = -(N:Int)∧N≤9223372036854775808∧D≤18446744073709551615:=by
 refine ⟨(z+18446744073709551616).toNat,z.natAbs,?_,?_,by omega,by omega,by omega⟩
 ·rw [IntKind.wrap_u64]; omega
 ·rw [IntKind.wrap_u64]; omega
end Lw
namespace Go.Proofs.YtbihljnjaondcaaGreatDoor
open Go Go.RowKit Lw
theorem agY (w:World) (t:TypeId) {a b:Int} {x y:Nat} (ha:a=x) (hb:b=y):fH (w.alloc (.cells #[.int .u32 a,.int .u32 b] t)) w.heap.size t [x,y]:=by
 subst ha hb; exact fH.new w t [x,y]
set_option maxHeartbeats 800000 in
theorem Qo (x:Nat) (w:World) (hx:x≤18446744073709551615) :
  Calls Tryz.prog 179 #[.int .u64 x] w (Dw w x):=by
 have hb:=agY w 99 (a:=(x:Int) % 4294967296) (b:=(x:Int) / 4294967296) (x:=x % 4294967296) (y:=x / 4294967296) (by omega) (by omega)
 have hw:fQ [x % 4294967296,x / 4294967296]:=aah (by omega) (by omega)
 have hv:Hid (val [x % 4294967296,x / 4294967296]=x):=Lib.hid (by rw [val_two]; omega)
 have hl:Hid ((bg x).length≤2):=Lib.hid (xQ (k:=2) (by show x < 18446744073709551616; omega))
 go_enter Tryz.func179,Tryz.ntmps179
 go_wp2_with fail
 refine (H6 _ [x % 4294967296,x / 4294967296] 2 2 _ _ (hb.rd hw) rfl (by omega) (by omega)).mono ?_
 rintro e w' ⟨rfl,rfl⟩
 go_wp2_with fail
 go_ret
 refine ⟨_,_,BV (by rw [hv.out]),hl.out,?_,(Below.refl _ _).alloc (Nat.le_refl _) _⟩
 have:=(hb.rd hw).bg
 rw [hv.out] at this; exact this
set_option maxHeartbeats 800000 in
theorem aBB (z:Int) (w:World) (h1 : -9223372036854775808≤z) (h2:z≤9223372036854775807) :
  Calls Tryz.prog 111 #[.int .i64 z] w (DX w z):=by
 by_cases h0:z < 0
 ·obtain ⟨D,N,hD,hN,RJ,hNl,hDl⟩:=akq h1 h0
  have HN:=Lib.hid RJ
  clear RJ
  have hz:Hid (z=if true then -(N:Int) else (N:Int)):=Lib.hid (by rw [HN.out]; rfl)
  go_enter Tryz.func111,Tryz.ntmps111
  go_wp2_with fail
  refine (Qo N _ (by omega)).mono ?_
  rintro e w1 ⟨A1,c1,rfl,hc1,hr1,hb1⟩
  obtain ⟨t1,hs1,hb2⟩:=box1 hb1
  go_wp2_with fail
  refine (Eh true A1 N _ c1 _ z _ hr1 (Nat.le_refl _) rfl hc1 hz.out).mono ?_
  rintro e w2 ⟨A2,c2,rfl,hc2,hr2,hb3⟩
  have T2:=t1.next hb3
  obtain ⟨d0,d1,g0,g1⟩:=T2.facts
  go_wp2_with fail
  refine bodyPost_ret (v := .agg #[.bool (sg z),.slice A2 (mg z).length c2]) (by simp [results,Tryz.results111,go_sem,d0,d1]) rfl ?_
  exact zX T2 hr2 hb3.size hc2 (fK hb2 hb3 (by omega)) (Nat.le_refl _)
 ·obtain ⟨N,rfl⟩:=Int.eq_ofNat_of_zero_le (show 0≤z by omega)
  go_enter Tryz.func111,Tryz.ntmps111
  go_wp2_with fail
  refine (Qo N _ (by omega)).mono ?_
  rintro e w1 ⟨A1,c1,rfl,hc1,hr1,hb1⟩
  obtain ⟨t1,hs1,hb2⟩:=box1 hb1
  go_wp2_with fail
  refine (Eh false A1 N _ c1 _ (N:Int) _ hr1 (Nat.le_refl _) rfl hc1 rfl).mono ?_
  rintro e w2 ⟨A2,c2,rfl,hc2,hr2,hb3⟩
  have T2:=t1.next hb3
  obtain ⟨d0,d1,g0,g1⟩:=T2.facts
  go_wp2_with fail
  refine bodyPost_ret (v := .agg #[.bool (sg (N:Int)),.slice A2 (mg (N:Int)).length c2]) (by simp [results,Tryz.results111,go_sem,d0,d1]) rfl ?_
  exact zX T2 hr2 hb3.size hc2 (fK hb2 hb3 (by omega)) (Nat.le_refl _)
end Go.Proofs.YtbihljnjaondcaaGreatDoor
namespace Lw
open Go
def fits (z:Int):Bool:=decide (-9223372036854775808≤z∧z≤9223372036854775807)
theorem aju {z:Int} (h:sg z=true):z = -(z.natAbs:Int)∧0 < z.natAbs:=by unfold sg at h; simp at h; omega
theorem ajt {z:Int} (h:sg z=false):z=(z.natAbs:Int):=by unfold sg at h; simp at h; omega
end Lw
namespace Go.Proofs
open Go.Shelf YtbihljnjaondcaaGreatDoor
def Tryz.lays128_ren:Go.Shelf.Ren:=⟨fun | 128=>206 | n=>n,fun | 51=>99 | 3=>3 | 4=>4 | 46=>125 | 5=>5 | 9=>9 | n=>n,fun | n=>n⟩
theorem Tryz.lays128:Go.Proofs.Lays.n128 Tryz.prog Tryz.lays128_ren := {
 mixed:=by kernel_rfl
 f128:=Tryz.func206.trans (congrArg some (by kernel_rfl))
 t3:=aZb
 a3:=aZl
 z3:=aZm
 v3:=aZn
 t4:=aYU
 a4:=aYJ
 z4:=aYK
 v4:=aZo
 t5:=aYZ
 a5:=aYV
 z5:=aYW
 v5:=aZv
 t9:=aZN
 a9:=aZO
 z9:=aZP
 v9:=aZQ
 t46:=aZw
 a46:=aZx
 z46:=aZy
 v46:=aZz
 t51:=aZR
 a51:=Tryz.isAgg99
 z51:=aZA
 v51:=aZB }
theorem Tryz.bits_Len32 (x:Int) (w:World) (h0:0≤x) (h1:x≤4294967295) :
  Calls Tryz.prog 206 #[.int .u32 x] w fun e w'=>e = .returned (.int .i64 (Lib.bitLen x.toNat))∧w'=w:=Any.bits_Len32 Tryz.lays128 x w h0 h1
def Tryz.lays133_ren:Go.Shelf.Ren:=⟨fun | 133=>252 | 128=>206 | n=>n,fun | 51=>99 | 3=>3 | 4=>4 | 46=>125 | 5=>5 | 9=>9 | n=>n,fun | n=>n⟩
theorem Tryz.lays133:Go.Proofs.Lays.n133 Tryz.prog Tryz.lays133_ren := {
 mixed:=by kernel_rfl
 f128:=Tryz.func206.trans (congrArg some (by kernel_rfl))
 f133:=Tryz.func252.trans (congrArg some (by kernel_rfl))
 t3:=aZb
 a3:=aZl
 z3:=aZm
 v3:=aZn
 t4:=aYU
 a4:=aYJ
 z4:=aYK
 v4:=aZo
 t5:=aYZ
 a5:=aYV
 z5:=aYW
 v5:=aZv
 t9:=aZN
 a9:=aZO
 z9:=aZP
 v9:=aZQ
 t46:=aZw
 a46:=aZx
 z46:=aZy
 v46:=aZz
 t51:=aZR
 a51:=Tryz.isAgg99
 z51:=aZA
 v51:=aZB }
theorem Tryz.bits_LeadingZeros32 (x:Int) (w:World) (h0:0≤x) (h1:x≤4294967295) :
  Calls Tryz.prog 252 #[.int .u32 x] w fun e w'=>e = .returned (.int .i64 (32 - (Lib.bitLen x.toNat:Int)))∧w'=w:=Any.bits_LeadingZeros32 Tryz.lays133 x w h0 h1
def Tryz.lays122_ren:Go.Shelf.Ren:=⟨fun | 122=>197 | 215=>228 | n=>n,fun | 3=>3 | 4=>4 | n=>n,fun | n=>n⟩
theorem Tryz.lays122:Go.Proofs.Lays.n122 Tryz.prog Tryz.lays122_ren := {
 mixed:=by kernel_rfl
 f122:=Tryz.func197.trans (congrArg some (by kernel_rfl))
 f215:=Tryz.func228.trans (congrArg some (by kernel_rfl))
 t3:=aZb
 a3:=aZl
 z3:=aZm
 v3:=aZn
 t4:=aYU
 a4:=aYJ
 z4:=aYK
 v4:=aZo }
open Go.RowKit in
theorem Tryz.cmp_Compare_int (x y:Int) (w:World) :
  Calls Tryz.prog 197 #[.int .i64 x,.int .i64 y] w fun e w'=>e = .returned (.int .i64 (Lib.compareInt x y))∧w'=w:=Any.cmp_Compare_int Tryz.lays122 x y w
def Tryz.lays129_ren:Go.Shelf.Ren:=⟨fun | 129=>207 | n=>n,fun | 53=>144 | 3=>3 | 4=>4 | 46=>125 | 5=>5 | 9=>9 | n=>n,fun | n=>n⟩
theorem Tryz.lays129:Go.Proofs.Lays.n129 Tryz.prog Tryz.lays129_ren := {
 mixed:=by kernel_rfl
 f129:=Tryz.func207.trans (congrArg some (by kernel_rfl))
 t3:=aZb
 a3:=aZl
 z3:=aZm
 v3:=aZn
 t4:=aYU
 a4:=aYJ
 z4:=aYK
 v4:=aZo
 t5:=aYZ
 a5:=aYV
 z5:=aYW
 v5:=aZv
 t9:=aZN
 a9:=aZO
 z9:=aZP
 v9:=aZQ
 t46:=aZw
 a46:=aZx
 z46:=aZy
 v46:=aZz
 t53:=aZS
 a53:=Tryz.isAgg144
 z53:=Tryz.sizeOf144
 v53:=Tryz.zeroValue144 }
theorem Tryz.bits_Len64 (x:Int) (w:World) (h0:0≤x) (h1:x≤18446744073709551615) :
  Calls Tryz.prog 207 #[.int .u64 x] w fun e w'=>e = .returned (.int .i64 (Lib.bitLen x.toNat))∧w'=w:=Any.bits_Len64 Tryz.lays129 x w h0 h1
def Tryz.laysM288_ren:Go.Shelf.Ren:=⟨fun | 288=>230 | 283=>246 | 284=>247 | 285=>248 | 286=>249 | 129=>207 | 317=>257 | 318=>258 | 319=>259 | 320=>260 | 337=>261 | 338=>229 | n=>n,fun | 37=>122 | 53=>144 | 3=>3 | 4=>4 | 9=>9 | 171=>178 | 0=>0 | 173=>180 | 212=>188 | 51=>99 | 5=>5 | 20=>20 | 213=>189 | 46=>125 | 232=>190 | 233=>176 | n=>n,fun | 17=>2 | 18=>3 | 19=>1 | n=>n⟩
theorem Tryz.laysM288:Go.Proofs.LaysM.n288 Tryz.prog Tryz.laysM288_ren := {
 mixed:=by kernel_rfl
 f129:=Tryz.func207.trans (congrArg some (by kernel_rfl))
 f283:=Tryz.func246.trans (congrArg some (by kernel_rfl))
 f284:=Tryz.func247.trans (congrArg some (by kernel_rfl))
 f285:=Tryz.func248.trans (congrArg some (by kernel_rfl))
 f286:=Tryz.func249.trans (congrArg some (by kernel_rfl))
 f288:=Tryz.func230.trans (congrArg some (by kernel_rfl))
 f317:=Tryz.func257.trans (congrArg some (by kernel_rfl))
 f318:=Tryz.func258.trans (congrArg some (by kernel_rfl))
 f319:=Tryz.func259.trans (congrArg some (by kernel_rfl))
 f320:=Tryz.func260.trans (congrArg some (by kernel_rfl))
 f337:=Tryz.func261.trans (congrArg some (by kernel_rfl))
 f338:=Tryz.func229.trans (congrArg some (by kernel_rfl))
 t0:=Tryz.underlying0
 a0:=Tryz.isAgg0
 z0:=Tryz.sizeOf0
 v0:=Tryz.zeroValue0
 t3:=aZb
 a3:=aZl
 z3:=aZm
 v3:=aZn
 t4:=aYU
 a4:=aYJ
 z4:=aYK
 v4:=aZo
 t5:=aYZ
 a5:=aYV
 z5:=aYW
 v5:=aZv
 t9:=aZN
 a9:=aZO
 z9:=aZP
 v9:=aZQ
 t20:=Tryz.underlying20
 a20:=Tryz.isAgg20
 z20:=Tryz.sizeOf20
 v20:=Tryz.zeroValue20
 t37:=Tryz.underlying122
 a37:=Tryz.isAgg122
 z37:=Tryz.sizeOf122
 v37:=Tryz.zeroValue122
 t46:=aZw
 a46:=aZx
 z46:=aZy
 v46:=aZz
 t51:=aZR
 a51:=Tryz.isAgg99
 z51:=aZA
 v51:=aZB
 t53:=aZS
 a53:=Tryz.isAgg144
 z53:=Tryz.sizeOf144
 v53:=Tryz.zeroValue144
 t171:=Tryz.underlying178
 a171:=Tryz.isAgg178
 z171:=Tryz.sizeOf178
 v171:=Tryz.zeroValue178
 t173:=Tryz.underlying180
 a173:=Tryz.isAgg180
 z173:=Tryz.sizeOf180
 v173:=Tryz.zeroValue180
 t212:=Tryz.underlying188
 a212:=Tryz.isAgg188
 z212:=Tryz.sizeOf188
 v212:=Tryz.zeroValue188
 t213:=Tryz.underlying189
 a213:=Tryz.isAgg189
 z213:=Tryz.sizeOf189
 t232:=Tryz.underlying190
 a232:=Tryz.isAgg190
 z232:=Tryz.sizeOf190
 v232:=Tryz.zeroValue190
 t233:=Tryz.underlying176
 a233:=Tryz.isAgg176
 z233:=Tryz.sizeOf176
 v233:=Tryz.zeroValue176
 g17:=by kernel_rfl
 g18:=by kernel_rfl
 g19:=by kernel_rfl
 i0:=by kernel_rfl
 i3:=by kernel_rfl
 i4:=by kernel_rfl
 i5:=by kernel_rfl
 i9:=by kernel_rfl
 i20:=by kernel_rfl
 i37:=by kernel_rfl
 i46:=by kernel_rfl
 i51:=by kernel_rfl
 i53:=by kernel_rfl
 i171:=by kernel_rfl
 i173:=by kernel_rfl
 i212:=by kernel_rfl
 i232:=by kernel_rfl
 i233:=by kernel_rfl
 m17:=by kernel_rfl
 m18:=by kernel_rfl
 m19:=by kernel_rfl }
open Go.RowKit Go.Sort Go.Lib in
theorem Tryz.internal_strconv_AppendUint_10_small (B n u:Nat) (hu:u < 100) (sv:Value) (xs:List Value) (w:World) (hown:w.ownsRow B 5 1 sv n xs) (hBw:B≤w.heap.size) (hlim:n+20≤140737488355328) :
  Calls Tryz.prog 230 #[sv,.int .u64 u,.int .i64 10] w fun e w' => ∃ v',e = .returned v'∧w'.ownsRow B 5 1 v' (n+(Lib.decDigits u).length) (xs++Lib.byteCells (Lib.decDigits u))∧Below B w w'∧Lib.OthersKept 5 none w w':=Any.internal_strconv_AppendUint_10_small Tryz.laysM288 B n u hu sv xs w hown hBw hlim
open Go.RowKit Go.Sort Go.Lib in
theorem Tryz.internal_strconv_AppendUint_10_big (B n u:Nat) (hu:100≤u) (hu64:u < 18446744073709551616) (sv:Value) (xs:List Value) (w:World) (hown:w.ownsRow B 5 1 sv n xs) (hBw:B≤w.heap.size) (hlim:n+20≤140737488355328) (htab:Lib.TabIs Tryz.prog w "internal/strconv.uint64pow10" .u64 Lib.pow10Tab) :
  Calls Tryz.prog 230 #[sv,.int .u64 u,.int .i64 10] w fun e w' => ∃ v',e = .returned v'∧w'.ownsRow B 5 1 v' (n+(Lib.decDigits u).length) (xs++Lib.byteCells (Lib.decDigits u))∧Below B w w'∧Lib.OthersKept 5 none w w':=Any.internal_strconv_AppendUint_10_big Tryz.laysM288 B n u hu hu64 sv xs w hown hBw hlim htab
end Go.Proofs
namespace Lw
open Go
def sV (z:Int):Int:=if z < 0 then -1 else if z=0 then 0 else 1
def zl (l:List Nat):Nat:=if l.length=0 then 0 else (l.length - 1)*32+Lib.bitLen (dg l (l.length - 1))
theorem abj {x:Nat} (h:x < 4294967296):Lib.bitLen x≤32:=Lib.bitLen_le x 32 (by omega) (by simpa using h)
theorem PX {z:Int} : (mg z).length=0↔z=0:=by
 rw [List.length_eq_zero_iff]; unfold mg; rw [xP]; omega
end Lw
namespace Go.Proofs.YtbihljnjaondcaaGreatDoor
open Go Go.RowKit Lw
set_option maxHeartbeats 1600000 in
theorem aFx (s:Bool) (A:Option Addr) (ns:List Nat) (n c B:Nat) (w:World) (h:Rd w B A ns) (hB:B≤w.heap.size) (hn:ns.length=n) (hl:n≤16777216) (hc:n≤c) :
  Calls Tryz.prog 223 #[.agg #[.bool s,.slice A n c]] w fun e w'=>e = .returned (.int .i64 (sV (zv s ns)))∧Below w.heap.size w w':=by
 have hlz:=Cc (s:=s) h.gW
 rw [hn] at hlz
 have hk:=fun W hR hB'=>EQ s A ns n c B W hR hB' hn hl hc
 generalize zv s ns=z at *
 have Hk:=Lib.hid hk
 clear hk
 go_enter Tryz.func223,Tryz.ntmps223
 go_wp2_with fail
 refine (Hk.out _ (h.alloc hB _) (by simp; omega)).mono ?_
 rintro e w1 ⟨A1,c1,rfl,hc1,hr1,hb1⟩
 obtain ⟨t1,hs1,hb2⟩:=box1 hb1
 have hb3 : ∀ u v,Below w.heap.size w ((w1.setCell ⟨w.heap.size,0,none⟩ u).setCell ⟨w.heap.size,1,none⟩ v):=fun u v=>(hb2.setCell (p:=⟨w.heap.size,0,none⟩) (Nat.le_refl _) u).setCell (p:=⟨w.heap.size,1,none⟩) (Nat.le_refl _) v
 have HB:=Lib.hid hb3
 clear hb3
 obtain ⟨c10,c11,f10,f11⟩:=t1.facts
 by_cases h0:(mg z).length=0
 ·have HZ:Hid (0=sV z):=Lib.hid (by rw [PX.1 h0]; rfl)
  have hbq:(((mg z).length:Int)==0)=true:=by rw [beq_iff_eq]; omega
  have H0:=Lib.hid h0
  clear h0
  go_wp2_with fail
  go_ret
  exact ⟨rF HZ.out,HB.out _ _⟩
 ·have hne:z≠0:=fun e=>h0 (PX.2 e)
  have hbq:(((mg z).length:Int)==0)=false:=by rw [beq_eq_false_iff_ne]; omega
  have H0:=Lib.hid hne
  clear h0 hne
  cases hsg:sg z
  ·have HZ:Hid (1=sV z):=Lib.hid (by have:=ajt hsg; have:=H0.out; unfold sV; rw [if_neg (by omega),if_neg (by omega)])
   go_wp2_with fail
   go_ret
   exact ⟨rF HZ.out,HB.out _ _⟩
  ·have HZ:Hid (-1=sV z):=Lib.hid (by have:=aju hsg; unfold sV; rw [if_pos (by omega)])
   go_wp2_with fail
   go_ret
   exact ⟨rF HZ.out,HB.out _ _⟩
set_option maxHeartbeats 1600000 in
theorem axs (A:Option Addr) (ns:List Nat) (n c B:Nat) (w:World) (h:Rd w B A ns) (hn:ns.length=n) (hl:n≤16777216) :
  Calls Tryz.prog 170 #[.slice A n c] w fun e w'=>e = .returned (.int .i64 (zl ns))∧w=w':=by
 have Hn:=Lib.hid hn
 clear hn
 by_cases h0:n=0
 ·have HN:Hid (0=zl ns):=Lib.hid (by unfold zl; rw [if_pos (by rw [Hn.out]; exact h0)])
  subst h0
  go_enter Tryz.func170,Tryz.ntmps170
  go_wp2_with fail
  go_ret
  exact ⟨rF (by rw [← HN.out]; rfl),rfl⟩
 ·obtain ⟨b,off,rfl,hb,hcell,hlt⟩:=h.at_ (k:=n - 1) (by rw [Hn.out]; omega)
  have hbq:((n:Int)==0)=false:=by rw [beq_eq_false_iff_ne]; omega
  have hbl:=abj hlt
  have HN:Hid ((n - 1)*32+Lib.bitLen (dg ns (n - 1))=zl ns):=Lib.hid (by unfold zl; rw [if_neg (by rw [Hn.out]; exact h0),Hn.out])
  go_enter Tryz.func170,Tryz.ntmps170
  go_wp2_with fail
  refine (Tryz.bits_Len32 _ _ (by omega) (by omega)).mono ?_
  rw [Int.toNat_natCast]
  rintro e w1 ⟨rfl,hw1⟩
  subst hw1
  go_wp2_with fail
  go_ret
  exact ⟨rF (by rw [← HN.out]; omega),rfl⟩
end Go.Proofs.YtbihljnjaondcaaGreatDoor
namespace Lw
open Go Go.RowKit
theorem addr_add (b off j:Nat):(⟨b,off,none⟩:Addr).add j=⟨b,off+j,none⟩:=by
 unfold Addr.add; split
 ·rename_i h0; subst h0; rfl
 ·rfl
theorem aEU {P:Program} (w:World) (base:Nat) (t ty e:TypeId) (i:TypeInfo) (ht:P.underlying t=some (.slice e)) (hi:P.info? e=some i)
  (v:Value) (n:Nat) (xs:List Value) (hown:w.ownsRow base e 1 v n xs) (c:Nat):(Builtin.append_ #[t,t] ty #[v,.slice none 0 c]).run P w = .ok v w:=by
 rcases hown.2 with ⟨rfl,rfl⟩ | ⟨g,cap,cur,rfl,_,_,hnc,_⟩
 ·simp [Builtin.append_,run_underlying ht,Go.sizeOf,typeInfo,hi,Builtin.lenOf,Builtin.firstCells]
 ·simp [Builtin.append_,run_underlying ht,Go.sizeOf,typeInfo,hi,Builtin.lenOf,Builtin.firstCells,hnc,storeCells]
theorem alF (a b:List Nat):arr (a++b)=arr a++arr b:=by simp [arr]
theorem fH.take {w:World} {g:Nat} {t:TypeId} {ns:List Nat} (h:fH w g t ns) (k:Nat):fH w g t (ns.take k):=by
 obtain ⟨rest,h⟩:=h
 refine ⟨arr (ns.drop k)++rest,?_⟩
 rw [h,← List.append_assoc,← alF,List.take_append_drop]
theorem fH.bg {w:World} {g:Nat} {t:TypeId} {ns:List Nat} (h:fH w g t ns) (hw:fQ ns):fH w g t (bg (val ns)):=by
 rw [amB hw]; exact h.take _
theorem axi (ns:List Nat) : ∀ u∈arr ns,u.oneCell'=true:=by
 intro u hu
 unfold arr at hu
 rw [List.mem_map] at hu
 obtain ⟨x,_,rfl⟩:=hu
 rfl
theorem Rd.cells {w:World} {B:Nat} {ad:Addr} {ms:List Nat} (h:Rd w B (some ad) ms) : ∀ j u,(arr ms)[j]? = some u→w.cell? (ad.add j)=some u:=by
 intro j u hu
 have hj:j < ms.length:=by
  rcases Nat.lt_or_ge j ms.length with h1 | h1
  ·exact h1
  ·rw [List.getElem?_eq_none (by rw [GX]; exact h1)] at hu; cases hu
 obtain ⟨b,off,hA,hb,hcell⟩:=h.2 (by omega)
 rw [agX ms j hj] at hu
 injection hA with hA
 subst hA
 rw [← hu,← hcell j hj,addr_add]
theorem afk {P:Program} (w:World) {ops:Array Oper} {rest:List Oper} {o:Oper} {a:Act} {Q:Exit→Act→World→Prop} (hgd:o.guard=none) (s x:Operand) (t:TypeId)
  (ho:o.op = .call { callee := .builtin .append,args := #[s,x],argTypes := #[t,t] })
  (base:Nat) (e:TypeId) (ht:P.underlying t=some (.slice e)) (hinfo:(P.info? e).map (fun i=>(i.zero,i.size,i.bytes))=some (some (.int .u32 0),1,4))
  (v:Value) (n:Nat) (ns:List Nat) (hs:a.eval s=v) (hown:w.ownsRow base e 1 v n (arr ns))
  (B:Nat) (A:Option Addr) (ms:List Nat) (m c:Nat) (hx:a.eval x = .slice A m c) (hr:Rd w B A ms) (hm:ms.length=m) (hlim:n+m≤1099511627776) (hbase:base≤w.heap.size)
  (h : ∀ v' w',w'.ownsRow base e 1 v' (n+m) (arr (ns++ms))→w.grownBy w' v.ownBlock→(v' = .slice none 0 0↔v = .slice none 0 0∧m=0)→wpList P ops Q rest (a.put o.dst v') w'):wpList P ops Q (o :: rest) a w:=by
 obtain ⟨i,h2,h3,h4,h5⟩:=info_parts hinfo
 rcases A with _ | ad
 ·have h0:m=0:=by
   rcases Nat.eq_zero_or_pos m with h0 | h0
   ·exact h0
   ·obtain ⟨b,off,hA,_⟩:=hr.2 (by omega)
    cases hA
  subst h0
  have e0:ms=[]:=List.eq_nil_of_length_eq_zero hm
  subst e0
  refine wpList_plain hgd fun K hK => ?_
  have hrun:=aEU (P:=P) w base t o.type e i ht h2 v n (arr ns) hown c
  unfold Oper.wp
  simp [execOp,ho,resolve,invoke,builtin,hs,hx,hrun,Result.andThen]
  refine hK _ _ (h v w ?_ (World.grownBy.refl w _) ⟨fun hv=>⟨hv,rfl⟩,fun hv=>hv.1⟩)
  rw [List.append_nil]; exact hown
 ·refine wpList_append_own w hgd s x t ho base e i _ 1 4 ht h2 h3 h4 h5 rfl (by decide) v n (arr ns) hs hown ad m c (arr ms) hx (by rw [GX,hm,Nat.mul_one]) hr.cells (axi ms) (by unfold maxLen; omega) (by omega) hbase ?_
  intro v' w' h1 h2 h3
  rw [← alF] at h1
  exact h v' w' h1 h2 h3
end Lw
