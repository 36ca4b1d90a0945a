/- Part of a proof, said shortly. -/
import Derived.Deep.RegionHeld3
import Derived.Deep.LoopGhost
import Derived.Test.YtbihljnjaondcaaGreatDoorAlt
import Derived.Test.YtbihljnjaondcaaGreatDoorT1
import Derived.Test.YtbihljnjaondcaaGreatDoorT35
import Derived.Test.YtbihljnjaondcaaGreatDoorT12
import Derived.Test.YtbihljnjaondcaaGreatDoorT6
import Derived.Test.YtbihljnjaondcaaGreatDoorT4
import Derived.Test.YtbihljnjaondcaaGreatDoorT3
import Derived.Test.YtbihljnjaondcaaGreatDoorT2
import Derived.Test.YtbihljnjaondcaaGreatDoorT5
import Derived.Test.YtbihljnjaondcaaGreatDoorT9
import Derived.Test.YtbihljnjaondcaaGreatDoorT8
import Derived.Test.YtbihljnjaondcaaGreatDoorT7
import Derived.Test.YtbihljnjaondcaaGreatDoorT37
import Derived.Test.YtbihljnjaondcaaGreatDoorT36
import Derived.Test.YtbihljnjaondcaaGreatDoorT13
import Derived.Test.YtbihljnjaondcaaGreatDoorT10
import Derived.Test.YtbihljnjaondcaaGreatDoorT11
import Derived.Test.YtbihljnjaondcaaGreatDoorT19
import Derived.Test.YtbihljnjaondcaaGreatDoorT18
import Derived.Test.YtbihljnjaondcaaGreatDoorT16
import Derived.Test.YtbihljnjaondcaaGreatDoorT15
import Derived.Test.YtbihljnjaondcaaGreatDoorT17
namespace Lw
def Dv (X Y j Q R:Nat):Prop:=R < Y ∧ ∃ q,Q=q*2 ^ j∧X / 2 ^ j=q*Y+R
theorem biw {X Y j:Nat} (hY:0 < Y) (h:X < 2 ^ j):Dv X Y j 0 0:=⟨hY,0,by simp,by rw [Nat.div_eq_of_lt h]; simp⟩
theorem biv {X Y Q R:Nat} (h:Dv X Y 0 Q R):Q=X / Y∧R=X % Y:=by
 obtain ⟨h1,q,h2,h3⟩:=h
 simp only [Nat.pow_zero,Nat.mul_one,Nat.div_one] at h2 h3
 subst h2
 subst h3
 have hY:0 < Y:=by omega
 rw [Nat.mul_comm,Nat.mul_add_div hY,Nat.mul_add_mod,Nat.div_eq_of_lt h1,Nat.mod_eq_of_lt h1]
 exact ⟨rfl,rfl⟩
theorem bcZ (X j:Nat):X / 2 ^ j=2*(X / 2 ^ (j+1))+X / 2 ^ j % 2:=by
 rw [Nat.pow_succ,← Nat.div_div_eq_div_mul]; omega
theorem biu {X Y j Q R R':Nat} (h:Dv X Y (j+1) Q R) (hR:R'=2*R+X / 2 ^ j % 2) (hl:R' < Y):Dv X Y j Q R':=by
 obtain ⟨h1,q,h2,h3⟩:=h
 refine ⟨hl,2*q,by rw [h2,Nat.pow_succ]; grind,?_⟩
 rw [bcZ X j,h3,hR]; grind
theorem bix {X Y j Q R R':Nat} (h:Dv X Y (j+1) Q R) (hR:R'=2*R+X / 2 ^ j % 2) (hl:Y≤R'):Dv X Y j (Q+2 ^ j) (R' - Y):=by
 obtain ⟨h1,q,h2,h3⟩:=h
 have h4:X / 2 ^ j % 2 < 2:=Nat.mod_lt _ (by omega)
 refine ⟨by omega,2*q+1,by rw [h2,Nat.pow_succ]; grind,?_⟩
 rw [bcZ X j,h3,Nat.add_mul,Nat.one_mul]
 have:2*(q*Y+R)=2*q*Y+2*R:=by grind
 omega
theorem bcj {l:List Nat} (h:Wds l) (k:Nat):dg l k=val l / pw k % 4294967296:=by
 rcases Nat.lt_or_ge k l.length with hk | hk
 ·have h1:=ano h k
  have h2:val l=lo l k+pw k*val (l.drop k):=by have:=a4a l k; rwa [Nat.min_eq_left (by omega)] at this
  have h3:val (l.drop k)=dg l k+4294967296*val (l.drop (k+1)):=by
   rw [List.drop_eq_getElem_cons hk,az1,a1p hk]
  have h4:=ahv h k
  rw [h2,Nat.add_mul_div_left _ _ (anr k),Nat.div_eq_of_lt h1,h3]
  omega
 ·rw [a1F hk,Nat.div_eq_of_lt (Nat.lt_of_lt_of_le (afS h) (ajj hk))]
theorem baG (s:Nat):2 ^ s=pw (s / 32)*2 ^ (s % 32):=by
 unfold pw
 rw [show (4294967296:Nat)=2 ^ 32 from rfl,← Nat.pow_mul,← Nat.pow_add]
 congr 1; omega
theorem bek {t:Nat} (h:t≤31):(4294967296:Nat)=2 ^ t*(2*2 ^ (31 - t)):=by
 rw [← Nat.pow_succ',← Nat.pow_add,show t+(31 - t+1)=32 by omega]
theorem bhe {l:List Nat} (h:Wds l) (j:Nat):dg l (j / 32) / 2 ^ (j % 32) % 2=val l / 2 ^ j % 2:=by
 rw [bcj h,baG j,← Nat.div_div_eq_div_mul]
 generalize val l / pw (j / 32)=H
 have h1:=bek (t:=j % 32) (by omega)
 have h2:=Nat.mod_add_div H 4294967296
 generalize H % 4294967296=x at *
 generalize H / 4294967296=y at *
 rw [← h2,h1,Nat.mul_assoc,Nat.add_mul_div_left _ _ (Nat.pow_pos (by omega)),Nat.mul_assoc]
 omega
theorem bhf {l:List Nat} {q j:Nat} (h:Wds l) (hv:val l=q*2 ^ (j+1)) :
  ∃ e,dg l (j / 32)=e*2 ^ (j % 32+1)∧dg l (j / 32)+2 ^ (j % 32) < 4294967296:=by
 have h1:=bek (t:=j % 32) (by omega)
 have hp:0 < 2 ^ (j % 32):=Nat.pow_pos (by omega)
 have e1:val l / pw (j / 32)=q*2 ^ (j % 32+1):=by
  rw [hv,Nat.pow_succ,baG j,show q*(pw (j / 32)*2 ^ (j % 32)*2)=pw (j / 32)*(q*2 ^ (j % 32+1)) by rw [Nat.pow_succ]; grind,Nat.mul_div_cancel_left _ (anr _)]
 have e2:=bcj h (j / 32)
 rw [e1] at e2
 have e3:(4294967296:Nat)=2 ^ (j % 32+1)*2 ^ (31 - j % 32):=by rw [← Nat.pow_add,show j % 32+1+(31 - j % 32)=32 by omega]
 have hq:0 < 2 ^ (31 - j % 32):=Nat.pow_pos (by omega)
 have e4:q*2 ^ (j % 32+1) % 4294967296=(q % 2 ^ (31 - j % 32))*2 ^ (j % 32+1):=by
  rw [e3,Nat.mul_comm q,Nat.mul_mod_mul_left,Nat.mul_comm]
 rw [e4] at e2
 refine ⟨q % 2 ^ (31 - j % 32),e2,?_⟩
 have h5:=Nat.mod_lt q hq
 have h6:(q % 2 ^ (31 - j % 32)+1)*2 ^ (j % 32+1)≤2 ^ (31 - j % 32)*2 ^ (j % 32+1):=Nat.mul_le_mul_right _ h5
 have e5:2 ^ (j % 32+1)=2*2 ^ (j % 32):=Nat.pow_succ'
 rw [e2]
 generalize q % 2 ^ (31 - j % 32)=E at *
 generalize 2 ^ (31 - j % 32)=F at *
 rw [e5] at *
 generalize 2 ^ (j % 32)=P at *
 rw [Nat.mul_comm] at e3
 have e6:(E+1)*(2*P)=E*(2*P)+2*P:=by grind
 omega
theorem boZ {l:List Nat} {k:Nat} (v:Nat) (h:k < l.length):val (l.set k v)+pw k*dg l k=val l+pw k*v:=by
 induction l generalizing k with
 | nil=>simp at h
 | cons x l ih =>
  cases k with
  | zero=>simp [az1,aNP,dg]; omega
  | succ k =>
   have:=ih (k:=k) (by simpa using h)
   rw [List.set_cons_succ,az1,az1,afC,show dg (x :: l) (k+1)=dg l k by simp [dg]]
   grind
theorem boW {l:List Nat} {j:Nat} (h:j / 32 < l.length):val (l.set (j / 32) (dg l (j / 32)+2 ^ (j % 32)))=val l+2 ^ j:=by
 have:=boZ (l:=l) (dg l (j / 32)+2 ^ (j % 32)) h
 rw [baG j]
 rw [Nat.mul_add] at this
 omega
theorem bjm {a b:Nat} (h:¬(a % 2=0∧b % 2=0)):Nat.gcd a b % 2=1:=by
 rcases Nat.mod_two_eq_zero_or_one (Nat.gcd a b) with h1 | h1
 ·exfalso
  have h2:2 ∣ Nat.gcd a b:=Nat.dvd_of_mod_eq_zero h1
  have h3:=Nat.mod_eq_zero_of_dvd (Nat.dvd_trans h2 (Nat.gcd_dvd_left a b))
  have h4:=Nat.mod_eq_zero_of_dvd (Nat.dvd_trans h2 (Nat.gcd_dvd_right a b))
  exact h ⟨h3,h4⟩
 ·exact h1
theorem bcN {a b:Nat} (h:Nat.gcd a b % 2=1) (ha:a % 2=0):Nat.gcd (a / 2) b=Nat.gcd a b:=by
 have hb:b % 2=1:=by
  rcases Nat.mod_two_eq_zero_or_one b with h1 | h1
  ·exfalso
   have:=Nat.mod_eq_zero_of_dvd (Nat.dvd_gcd (Nat.dvd_of_mod_eq_zero ha) (Nat.dvd_of_mod_eq_zero h1))
   omega
  ·exact h1
 have hc:Nat.Coprime 2 b:=by
  unfold Nat.Coprime
  have h1:=Nat.gcd_rec 2 b
  rw [h1,hb]; rfl
 have e:a=2*(a / 2):=by omega
 have:=Nat.Coprime.gcd_mul_left_cancel (a / 2) hc
 rw [← e] at this
 exact this.symm
theorem gcd_both {a b:Nat} (ha:a % 2=0) (hb:b % 2=0):2*Nat.gcd (a / 2) (b / 2)=Nat.gcd a b:=by
 rw [← Nat.gcd_mul_left,show 2*(a / 2)=a by omega,show 2*(b / 2)=b by omega]
def Gt (G a0 T a b:Nat):Prop:=2 ^ T*Nat.gcd a b=G∧2 ^ T*a=a0∧0 < a∧0 < b
theorem bjt {a b:Nat} (ha:0 < a) (hb:0 < b):Gt (Nat.gcd a b) a 0 a b:=⟨by simp,by simp,ha,hb⟩
theorem bju {G a0 T a b:Nat} (h:Gt G a0 T a b) (ha:a % 2=0) (hb:b % 2=0):Gt G a0 (T+1) (a / 2) (b / 2)∧a / 2 < a:=by
 obtain ⟨h1,h2,h3,h4⟩:=h
 refine ⟨⟨?_,?_,by omega,by omega⟩,by omega⟩
 ·rw [Nat.pow_succ,Nat.mul_assoc,gcd_both ha hb]; exact h1
 ·rw [Nat.pow_succ,Nat.mul_assoc,show 2*(a / 2)=a by omega]; exact h2
theorem bjs {G a0 T a b k:Nat} (h:Gt G a0 T a b) (hk:a0 < 4294967296 ^ k):T < 32*k:=by
 obtain ⟨_,h2,h3,_⟩:=h
 have h1:2 ^ T*1≤2 ^ T*a:=Nat.mul_le_mul_left _ h3
 have h4:(4294967296:Nat) ^ k=2 ^ (32*k):=by rw [Nat.pow_mul]
 have h5:2 ^ T < 2 ^ (32*k):=by omega
 exact (Nat.pow_lt_pow_iff_right (by omega)).1 h5
def Gw (g a b:Nat):Prop:=Nat.gcd a b=g∧g % 2=1∧0 < b
theorem bcU {g a b:Nat} (h:Gw g a b) (ha:a % 2=0):Gw g (a / 2) b:=by
 obtain ⟨h1,h2,h3⟩:=h
 exact ⟨by rw [bcN (by rw [h1]; exact h2) ha,h1],h2,h3⟩
theorem bcV {g a b:Nat} (h:Gw g a b) (hb:b % 2=0):Gw g a (b / 2):=by
 obtain ⟨h1,h2,h3⟩:=h
 exact ⟨by rw [Nat.gcd_comm,bcN (by rw [Nat.gcd_comm,h1]; exact h2) hb,Nat.gcd_comm,h1],h2,by omega⟩
theorem a7C {g a b:Nat} (h:Gw g a b) (hl:b≤a):Gw g (a - b) b:=⟨by rw [Nat.gcd_sub_self_left hl]; exact h.1,h.2.1,h.2.2⟩
theorem bcW {g a b:Nat} (h:Gw g a b) (ha:0 < a):Gw g b a:=⟨by rw [Nat.gcd_comm]; exact h.1,h.2.1,ha⟩
theorem bcT {g b:Nat} (h:Gw g 0 b):b=g:=by have:=h.1; rwa [Nat.gcd_zero_left] at this
theorem bjE {ds ns:List Nat} {k d x y:Nat} (hv:2*lo ds k+dg ns 0 % 2=lo ns k+pw k*(dg ns k % 2)) (hx:x=dg ns k) (hy:y=dg ns (k+1)) (hd:d=x / 2+y % 2*2147483648) :
  2*(lo ds k+pw k*d)+dg ns 0 % 2=lo ns (k+1)+pw (k+1)*(dg ns (k+1) % 2):=by
 rw [acw,afC,← hx,← hy]
 rw [← hx] at hv
 have e:pw k*(2*d+x % 2)=pw k*(x+4294967296*(y % 2)):=by congr 1; omega
 grind
theorem bjD {ds ns:List Nat} {n:Nat} (hd:ds.length=n) (hn:ns.length=n) (hv:2*lo ds n+dg ns 0 % 2=lo ns n+pw n*(dg ns n % 2)):val ds=val ns / 2:=by
 rw [acm (by omega),acm (by omega),a1F (l:=ns) (j:=n) (by omega)] at hv
 simp at hv
 omega
theorem a4O {ns:List Nat} : dg ns 0 % 2=val ns % 2:=by
 cases ns with
 | nil=>rfl
 | cons x l=>rw [az1,show dg (x :: l) 0=x from rfl]; omega
end Lw
namespace Lw
open Go Go.RowKit
theorem bkB {l:List Nat} (h:Wds l):val l < 2 ^ alQ l:=by
 unfold alQ
 split
 ·rename_i h0; rw [List.eq_nil_of_length_eq_zero h0]; simp [val]
 ·rename_i h0
  have h1:=acw l (l.length - 1)
  rw [show l.length - 1+1=l.length by omega,acm (Nat.le_refl _)] at h1
  have h2:=ano h (l.length - 1)
  have h3:=ahv h (l.length - 1)
  generalize dg l (l.length - 1)=d at *
  have h4:d < 2 ^ Lib.bitLen d:=by
   rcases Nat.eq_zero_or_pos d with h0 | h0
   ·subst h0; exact Nat.pow_pos (by omega)
   ·exact (bitLen_spec (by omega) (by omega)).2.2.1
  rw [Nat.pow_add,show 2 ^ ((l.length - 1)*32)=pw (l.length - 1) by unfold pw; rw [Nat.mul_comm,Nat.pow_mul]]
  have h5:pw (l.length - 1)*(d+1)≤pw (l.length - 1)*2 ^ Lib.bitLen d:=Nat.mul_le_mul_left _ h4
  rw [Nat.mul_add,Nat.mul_one] at h5
  omega
theorem bk4 {l:List Nat} (h:Wds l):alQ l≤32*l.length:=by
 unfold alQ
 split
 ·omega
 ·have:=a7o (ahv h (l.length - 1)); omega
theorem bjB {x y:Nat} (hx:x < 4294967296) (hy:y < 4294967296):bits .or .u64 ((x:Int) / 2) ((y:Int)*2147483648)=((x / 2+2147483648*y:Nat):Int):=by
 have h1:=u64_or_nat (x / 2) (y*2147483648) (by omega) (by omega)
 have h2:=u64_or_nat (y*2147483648) (x / 2) (by omega) (by omega)
 rw [Nat.or_comm] at h1
 have h3:=a7V (i:=31) (a:=y) (b:=x / 2) (by simp only [Nat.reducePow]; omega)
 simp only [Nat.reducePow] at h3
 rw [h3] at h1
 rw [show (x:Int) / 2=((x / 2:Nat):Int) by omega,show (y:Int)*2147483648=((y*2147483648:Nat):Int) by omega,h1]
 omega
theorem boj {ds ns ms:List Nat} {k b d R x y:Nat} (hk:k < ds.length) (hv:lo ds k+lo ms k=lo ns k+pw k*b) (hb:b≤1) (hx:x=dg ns k) (hy:y=dg ms k) (hn:x < 4294967296) (hm:y < 4294967296) (hd:d=4294967296+x - y - b) (hR:R=d % 4294967296) :
  lo (ds.set k R) (k+1)+lo ms (k+1)=lo ns (k+1)+pw (k+1)*(1 - d / 4294967296)∧1 - d / 4294967296≤1:=by
 refine ⟨?_,by omega⟩
 rw [ata _ hk,acw ms,acw ns,afC,← hx,← hy]
 have h5:R+y+b=x+4294967296*(1 - d / 4294967296):=by omega
 generalize 1 - d / 4294967296=q at *
 have h2:pw k*(R+y+b)=pw k*(x+4294967296*q):=by rw [h5]
 grind
end Lw
namespace Go.Proofs.YtbihljnjaondcaaGreatDoor
open Go Go.RowKit Lw
def a9g (w:World) (N:Nat) (e:Ending) (w':World):Prop :=
 ∃ g n c,e = .returned (.slice (some ⟨g,0,none⟩) n c)∧Hid ((Uy N).length=n)∧n≤c∧w.heap.size≤g∧Blk w' g 99 (Uy N)∧Below w.heap.size w w'
theorem bdG {w w':World} {N:Nat} {e:Ending} (h:a2T w N e w'):a9g w N e w':=by
 obtain ⟨g,c,h1,h2,h3,h4,h5⟩:=h
 exact ⟨g,_,c,h1,Lib.hid rfl,h2,h3,h4,h5⟩
theorem a8i (A:Option Addr) (ns:List Nat) (n c B N:Nat) (w:World) (h:Rd w B A ns) (hB:B≤w.heap.size) (hn:ns.length=n) (hl:n≤4294967296) (hN:val ns=N) :
  Calls Tryz.prog 184 #[.slice A n c] w (a9g w N):=by
 subst hN; exact (a4Z A ns n c B w h hB hn hl).mono fun e w' hh=>bdG hh
theorem bha (A:Option Addr) (ns:List Nat) (n c B k:Nat) (i:Int) (w:World) (h:Rd w B A ns) (hn:ns.length=n) (hl:n≤4294967296) (hi:i=(k:Int)) :
  Calls Tryz.prog 215 #[.slice A n c,.int .i64 i] w fun e w'=>e = .returned (.int .u64 (dg ns k:Int))∧w=w':=by
 subst hi; exact aom A ns n c B k w h hn hl
set_option maxHeartbeats 400000 in
theorem a6O (A:Option Addr) (ns:List Nat) (n c B:Nat) (w:World) (h:Rd w B A ns) (hn:ns.length=n) (hc:n≤c) (hl:n≤4294967296) :
  Calls Tryz.prog 240 #[.slice A n c] w fun e w'=>e = .returned (.slice A (Uy (val ns)).length c)∧w=w':=by
 have Hn:=Lib.hid hn
 go_enter Tryz.func240,Tryz.ntmps240
 clear hn
 go_wp2
 go_loop [0] (fun v => ∃ k:Nat,k≤n∧v = .slice A k c∧Hid (val (ns.take k)=val ns)) (fun v=>cnt v)
 case atStart=>exact ⟨n,Nat.le_refl _,rfl,Lib.hid (by rw [← Hn.out,List.take_length])⟩
 case round =>
  obtain ⟨k,hk,rfl,hv⟩:=hrel
  by_cases hk0:k=0
  ·subst hk0
   go_wp2
   go_ret
   exact ⟨aor (a5j h.wds (Nat.zero_le _) hv.out (.inl rfl)),rfl⟩
  ·obtain ⟨b,off,rfl,hb,hcell,hlt⟩:=h.at_ (k:=k - 1) (by rw [Hn.out]; omega)
   by_cases hd:dg ns (k - 1)=0
   ·have HV:Hid (val (ns.take (k - 1))=val ns):=Lib.hid (ba9 (by rw [Hn.out]; exact hk) hk0 hv.out hd)
    go_wp2
    go_round
    case rel=>exact ⟨k - 1,by omega,rfl,HV⟩
    case measure=>simp [cnt]; omega
   ·go_wp2
    go_ret
    exact ⟨aor (a5j h.wds (by rw [Hn.out]; exact hk) hv.out (.inr hd)),rfl⟩
set_option maxRecDepth 100000 in
set_option maxHeartbeats 1600000 in
theorem bjC (g:Nat) (ns:List Nat) (n c:Nat) (w:World) (hb:Blk w g 99 ns) (hw:Wds ns) (hn:ns.length=n) (hc:n≤c) (hl:n≤16777216) :
  Calls Tryz.prog 239 #[.slice (some ⟨g,0,none⟩) n c] w fun e w'=>e = .returned (.slice (some ⟨g,0,none⟩) (Uy (val ns / 2)).length c)∧(Uy (val ns / 2)).length≤n∧Blk w' g 99 (Uy (val ns / 2))∧w.grownBy w' (some g)∧w'.heap.size=w.heap.size:=by
 have Hn:=Lib.hid hn
 clear hn
 go_enter Tryz.func239,Tryz.ntmps239
 go_wp2_with fail
 go_loopw [6] (fun i wr => ∃ (k:Nat) (ds:List Nat),k≤n∧i = .int .i64 k∧Blk wr g 99 ds∧Hid (ds.length=n)∧Wds ds∧Hid (∀ j,k≤j→dg ds j=dg ns j)∧Hid (2*lo ds k+dg ns 0 % 2=lo ns k+pw k*(dg ns k % 2))∧Hid (w.grownBy wr (some g)∧wr.heap.size=w.heap.size)) (fun i _=>n - (intOf i).toNat)
 case atStart=>exact ⟨0,ns,Nat.zero_le _,rfl,hb,Hn,hw,Lib.hid (fun _ _=>rfl),Lib.hid (by simp only [akf,aNP]; omega),Lib.hid ⟨World.grownBy.refl w _,rfl⟩⟩
 case round =>
  obtain ⟨k,ds,hk,rfl,hb1,hdl,hdw,hsame,hv,hg⟩:=hrel
  clear hb
  have hr:=hb1.rd hdw
  by_cases hkn:k < n
  ·have hlt:=ahv hdw k
   have hlt':=ahv hdw (k+1)
   have hfr:=hb1.frozen k
   have hcc:=hb1.cell (i:=k) (by rw [hdl.out]; exact hkn)
   have a1C:=Lib.hid (fun v=>hb1.a1c (i:=k) v (by rw [hdl.out]; exact hkn))
   have Hst:=fun D x y (e1:x=dg ds k) (e2:y=dg ds (k+1)) e3=>bjE (d:=D) (x:=x) (y:=y) hv.out (by rw [e1,hsame.out k (Nat.le_refl _)]) (by rw [e2,hsame.out (k+1) (by omega)]) e3
   have Hx:=fun W hW=>aom (some ⟨g,0,none⟩) ds n c wr.heap.size k W hW hdl.out (by omega)
   have Hy:=fun W hW=>bha (some ⟨g,0,none⟩) ds n c wr.heap.size (k+1) ((k:Int)+1) W hW hdl.out (by omega) (by omega)
   obtain ⟨x,hx⟩ : ∃ x,x=dg ds k:=⟨_,rfl⟩
   obtain ⟨y,hy⟩ : ∃ y,y=dg ds (k+1):=⟨_,rfl⟩
   obtain ⟨D,hD⟩ : ∃ D,D=x / 2+y % 2*2147483648:=⟨_,rfl⟩
   have HST:=Lib.hid (Hst D x y hx hy hD)
   rw [← hx] at hlt hcc Hx
   rw [← hy] at hlt' Hy
   have HX:=Lib.hid Hx
   have HY:=Lib.hid Hy
   obtain ⟨O,hOO⟩ : ∃ O,O=x / 2+2147483648*y:=⟨_,rfl⟩
   have hO:=bjB hlt hlt'
   rw [← hOO] at hO
   have hM:(O:Int) % 4294967296=(D:Int):=by omega
   have hDl:D < 4294967296:=by omega
   clear Hst Hx Hy hx hy hD hOO
   go_wp2_with fail
   refine (HX.out _ hr).mono ?_
   rintro e w' ⟨rfl,rfl⟩
   go_wp2_with fail
   refine (HY.out _ hr).mono ?_
   rintro e w' ⟨rfl,rfl⟩
   go_wp2_with fail
   go_roundw
   case rel =>
    refine ⟨k+1,ds.set k D,by omega,by go_num,a1C.out D,Lib.hid (by rw [List.length_set]; exact hdl.out),alc hdw _ hDl,Lib.hid ?_,Lib.hid ?_,Lib.hid ⟨a1q hg.out.1 _ _,by simp [hg.out.2]⟩⟩
    ·intro j hj
     rw [am3 _ (by rw [hdl.out]; exact hkn),if_neg (by omega)]
     exact hsame.out j (by omega)
    ·rw [ata _ (by rw [hdl.out]; exact hkn)]; exact HST.out
   case measure=>simp [intOf]; omega
  ·obtain rfl:k=n:=by omega
   have HV:Hid (val ds=val ns / 2):=Lib.hid (bjD hdl.out Hn.out hv.out)
   have HB:=Lib.hid (hb1.Uy hdw)
   go_wp2_with fail
   refine (a6O _ ds k c _ _ hr hdl.out hc (by omega)).mono ?_
   rintro e w' ⟨rfl,rfl⟩
   rw [HV.out]
   go_wp2_with fail
   go_ret
   exact ⟨rfl,by rw [← HV.out]; have:=aon hdw; rw [hdl.out] at this; exact this,by rw [← HV.out]; exact HB.out,hg.out.1,hg.out.2⟩
set_option maxRecDepth 100000 in
set_option maxHeartbeats 1600000 in
theorem take_any (g:Nat) (ns ms:List Nat) (n m c c' B:Nat) (A':Option Addr) (w:World) (hb:Blk w g 99 ns) (hw:Wds ns) (h':Rd w B A' ms) (hB:B≤w.heap.size) (hne:0 < m → ∀ a,A'=some a→a.block≠g) (hn:ns.length=n) (hm:ms.length=m) (hmn:m≤n) (hl:n≤16777216) (hle:val ms≤val ns) :
  Calls Tryz.prog 216 #[.slice (some ⟨g,0,none⟩) n c,.slice A' m c'] w fun e w' => ∃ ds,e = .returned (.tuple #[])∧Blk w' g 99 ds∧Wds ds∧ds.length=n∧val ds=val ns - val ms∧w.grownBy w' (some g)∧w'.heap.size=w.heap.size:=by
 have Hn:=Lib.hid hn
 have Hm:=Lib.hid hm
 have HLE:=Lib.hid hle
 have HNE:=Lib.hid hne
 clear hn hm hle hne
 go_enter Tryz.func216,Tryz.ntmps216
 go_wp2_with fail
 go_loopw [4,9] (fun bv i wr => ∃ (k b:Nat) (ds:List Nat),k≤n∧b≤1∧i = .int .i64 k∧bv = .int .u64 b∧Blk wr g 99 ds∧Hid (ds.length=n)∧Wds ds∧Hid (∀ j,k≤j→dg ds j=dg ns j)∧Hid (lo ds k+lo ms k=lo ns k+pw k*b)∧Hid (w.grownBy wr (some g)∧wr.heap.size=w.heap.size)) (fun _ i _=>n - (intOf i).toNat)
 case atStart=>exact ⟨0,0,ns,Nat.zero_le _,by omega,rfl,rfl,hb,Hn,hw,Lib.hid (fun _ _=>rfl),Lib.hid (by rw [akf,akf]; rfl),Lib.hid ⟨World.grownBy.refl w _,rfl⟩⟩
 case round =>
  obtain ⟨k,b,ds,hk,hcar,rfl,rfl,hb1,hdl,hdw,hsame,hv,hg⟩:=hrel
  clear hb
  have hr:=hb1.rd hdw
  have hr':=h'.grown hg.out.1 hB (fun hp=>HNE.out (by rw [← Hm.out]; exact hp))
  by_cases hkn:k < n
  ·have hlt:=ahv hdw k
   have hlt':=ahv hr'.wds k
   have hfr:=hb1.frozen k
   have hcc:=hb1.cell (i:=k) (by rw [hdl.out]; exact hkn)
   have a1C:=Lib.hid (fun v=>hb1.a1c (i:=k) v (by rw [hdl.out]; exact hkn))
   have Hst:=fun D R x y (e1:x=dg ds k) e2 e3 e4 e5 e6=>boj (d:=D) (R:=R) (x:=x) (y:=y) (by rw [hdl.out]; exact hkn) hv.out hcar (by rw [e1,hsame.out k (Nat.le_refl _)]) e2 e3 e4 e5 e6
   have Hx:=fun W hW=>aom (some ⟨g,0,none⟩) ds n c wr.heap.size k W hW hdl.out (by omega)
   have Hy:=fun W (hW:Rd W B A' ms)=>aom A' ms m c' B k W hW Hm.out (by omega)
   obtain ⟨x,hx⟩ : ∃ x,x=dg ds k:=⟨_,rfl⟩
   obtain ⟨y,hy⟩ : ∃ y,y=dg ms k:=⟨_,rfl⟩
   rw [← hx] at hlt hcc Hx
   rw [← hy] at hlt' Hy
   obtain ⟨D,hD⟩ : ∃ D,D=4294967296+x - y - b:=⟨_,rfl⟩
   obtain ⟨R,hR⟩ : ∃ R,R=D % 4294967296:=⟨_,rfl⟩
   have HST:=Lib.hid (Hst D R x y hx hy hlt hlt' hD hR)
   have HX:=Lib.hid Hx
   have HY:=Lib.hid Hy
   have hDl:D≤8589934591:=by omega
   have hRl:R < 4294967296:=by omega
   have hD1:((4294967296:Int)+(x:Int) - (y:Int) - (b:Int))=(D:Int):=by omega
   have hR1:(D:Int) % 4294967296=(R:Int):=by omega
   clear Hst Hx Hy hx hy hD hR
   go_wp2_with fail
   refine (HX.out _ hr).mono ?_
   rintro e w' ⟨rfl,rfl⟩
   go_wp2_with fail
   refine (HY.out _ hr').mono ?_
   rintro e w' ⟨rfl,rfl⟩
   go_wp2_with fail
   go_roundw
   case rel =>
    refine ⟨k+1,1 - D / 4294967296,ds.set k R,by omega,by omega,by go_num,by go_num,a1C.out R,Lib.hid (by rw [List.length_set]; exact hdl.out),alc hdw _ hRl,Lib.hid ?_,Lib.hid HST.out.1,Lib.hid ⟨a1q hg.out.1 _ _,by simp [hg.out.2]⟩⟩
    intro j hj
    rw [am3 _ (by rw [hdl.out]; exact hkn),if_neg (by omega)]
    exact hsame.out j (by omega)
   case measure=>simp [intOf]; omega
  ·obtain rfl:k=n:=by omega
   have HV:Hid (val ds=val ns - val ms):=Lib.hid (bdQ hdw (by rw [hdl.out,Hn.out]) (by rw [Hm.out,Hn.out]; exact hmn) HLE.out (by have:=hv.out; rw [Hn.out]; rwa [acm (l:=ds) (by rw [hdl.out]; exact Nat.le_refl _)] at this))
   go_wp2_with fail
   refine bodyPost_end (v := .tuple #[]) (by simp [results,Tryz.results216,go_sem]) rfl ?_
   exact ⟨ds,rfl,hb1,hdw,hdl.out,HV.out,hg.out.1,hg.out.2⟩
end Go.Proofs.YtbihljnjaondcaaGreatDoor
namespace Lw
open Go Go.RowKit
theorem bhR {ds rs:List Nat} {k c b x R C:Nat} (hk:k < ds.length) (hv:lo ds k+pw k*c=2*lo rs k+b) (hx:x=dg rs k) (hR:R=2*x % 4294967296+c) (hC:C=x / 2147483648) :
  lo (ds.set k R) (k+1)+pw (k+1)*C=2*lo rs (k+1)+b:=by
 rw [ata _ hk,acw rs,afC,← hx]
 have h5:R+4294967296*C=2*x+c:=by omega
 have h2:pw k*(R+4294967296*C)=pw k*(2*x+c):=by rw [h5]
 grind
theorem bhQ {ds rs:List Nat} {m c b Y:Nat} (hd:ds.length=m+1) (hr:rs.length=m+1) (hv:lo ds (m+1)+pw (m+1)*c=2*lo rs (m+1)+b) (hb:b≤1) (hY:Y < pw m) (hl:val rs < Y):val ds=2*val rs+b:=by
 rw [acm (by omega),acm (by omega)] at hv
 rw [afC] at hv
 rcases Nat.eq_zero_or_pos c with h0 | h0
 ·subst h0; omega
 ·have:4294967296*pw m*1≤4294967296*pw m*c:=Nat.mul_le_mul_left _ h0
  omega
theorem bhd {x t:Nat} : x / 2 ^ t % 2≤1:=by omega
theorem a2U {x:Nat} (h:x < 4294967296):bits .and .u32 (x:Int) 1=((x % 2:Nat):Int):=by
 have:=u32_and_nat x 1 h (by omega)
 rw [Nat.and_one_is_mod] at this
 exact this
theorem bec {i a b:Nat} (h:b < 2 ^ i) (h2:a*2 ^ i < 4294967296) (hi:b < 4294967296):bits .or .u32 ((a*2 ^ i:Nat):Int) (b:Int)=((a*2 ^ i+b:Nat):Int):=by
 have:=u32_or_nat (a*2 ^ i) b h2 hi
 rw [a7V h] at this
 exact this
end Lw
namespace Go.Proofs.YtbihljnjaondcaaGreatDoor
open Go Go.RowKit Lw
set_option maxRecDepth 100000 in
set_option maxHeartbeats 6400000 in
theorem bm0 (A A':Option Addr) (ns ms:List Nat) (n m c c' B B':Nat) (w:World) (h:Rd w B A ns) (h':Rd w B' A' ms) (hB:B≤w.heap.size) (hB':B'≤w.heap.size) (hn:ns.length=n) (hm:ms.length=m) (hl:n≤100000) (hl':m≤100000) (hy:0 < val ms) :
  Calls Tryz.prog 165 #[.slice A n c,.slice A' m c'] w fun e w' => ∃ g1 n1 c1 g2 n2 c2,e = .returned (.tuple #[.slice (some ⟨g1,0,none⟩) n1 c1,.slice (some ⟨g2,0,none⟩) n2 c2])∧Hid ((Uy (val ns / val ms)).length=n1)∧Hid ((Uy (val ns % val ms)).length=n2)∧n1≤c1∧n2≤c2∧w.heap.size≤g1∧w.heap.size≤g2∧Blk w' g1 99 (Uy (val ns / val ms))∧Blk w' g2 99 (Uy (val ns % val ms))∧Below w.heap.size w w':=by
 have Hn:=Lib.hid hn
 have Hm:=Lib.hid hm
 have HY:=Lib.hid hy
 have HYm:Hid (val ms < pw m):=Lib.hid (by rw [← hm]; exact afS h'.wds)
 obtain ⟨NB,hNB⟩ : ∃ NB,NB=alQ ns:=⟨_,rfl⟩
 have bpN:NB≤32*n:=by rw [hNB,← hn]; exact bk4 h.wds
 have HX:Hid (val ns < 2 ^ NB):=Lib.hid (by rw [hNB]; exact bkB h.wds)
 have HNB:=Lib.hid hNB
 clear hn hm hy hNB
 go_enter Tryz.func165,Tryz.ntmps165
 go_wp2_with (first
  | (at_make; refine aAN _ rfl _ _ _ rfl 99 bsw ami _ _ _ _ n rfl rfl (by omega) (by omega) (by omega) ?_; intro w1 hblk hbel hsz)
  | (at_make; refine aAN _ rfl _ _ _ rfl 99 bsw ami _ _ _ _ (m+1) rfl rfl (by omega) (by omega) (by omega) ?_; intro w2 hblk2 a9M hsz2))
 have hb2:=aaR hbel a9M (Nat.le_refl _)
 have hq2:=hblk.below a9M hblk.lt
 rw [hsz] at hblk2
 clear hblk hbel a9M hsz hsz2
 refine (bmY A ns n c B _ (h.below (hb2.mono hB)) Hn.out (by omega)).mono ?_
 rintro e w' ⟨rfl,rfl⟩
 rw [← HNB.out]
 go_wp2_with fail
 go_loopw [8] (fun iv wr => ∃ (i:Int) (qs rs:List Nat),-1≤i∧i < NB∧iv = .int .i64 i∧Blk wr w.heap.size 99 qs∧Hid (qs.length=n)∧Wds qs∧Blk wr (w.heap.size+1) 99 rs∧Hid (rs.length=m+1)∧Wds rs∧Hid (Dv (val ns) (val ms) (i+1).toNat (val qs) (val rs))∧Below w.heap.size w wr) (fun v _=>(intOf v+1).toNat)
 case atStart=>exact ⟨(NB:Int) - 1,_,_,by omega,by omega,rfl,hq2,Lib.hid (by simp),az8 _,hblk2,Lib.hid (by simp),az8 _,Lib.hid (by rw [a8z,a8z,show ((NB:Int) - 1+1).toNat=NB by omega]; exact biw HY.out HX.out),hb2⟩
 case round =>
  obtain ⟨i,qs,rs,hi,hiN,rfl,hq,hql,hqw,hr,hrl,hrw,hdv,hbw⟩:=hrel
  clear hq2 hblk2 hb2
  have bpZ:=hq.lt
  have bp0:=hr.lt
  by_cases hi0:i < 0
  ·have HV:Hid (val qs=val ns / val ms∧val rs=val ns % val ms):=Lib.hid (biv (by have:=hdv.out; rwa [show (i+1).toNat=0 by omega] at this))
   clear hdv
   go_wp2_with fail
   refine (a8i _ qs n n _ (val ns / val ms) _ (hq.rd hqw) (Nat.le_refl _) hql.out (by omega) HV.out.1).mono ?_
   rintro e w3 ⟨g1,n1,c1,rfl,hn1,hc1,hg1,hblk1,hb3⟩
   have hr3:=hr.below hb3 hr.lt
   have hb4:=aaR hbw hb3 (Nat.le_refl _)
   clear hq hr hb3
   go_wp2_with fail
   refine (a8i _ rs (m+1) (m+1) _ (val ns % val ms) _ (hr3.rd hrw) (Nat.le_refl _) hrl.out (by omega) HV.out.2).mono ?_
   rintro e w4 ⟨g2,n2,c2,rfl,hn2,hc2,hg2,hblk2,hb5⟩
   have bjI:=hblk1.below hb5 hblk1.lt
   have hb6:=aaR hb4 hb5 (Nat.le_refl _)
   have hg1':w.heap.size≤g1:=Nat.le_trans hbw.size hg1
   have a6q:w.heap.size≤g2:=Nat.le_trans hb4.size hg2
   clear hblk1 hr3
   go_wp2_with fail
   go_ret2
   exact ⟨g1,n1,c1,g2,n2,c2,rfl,hn1,hn2,hc1,hc2,hg1',a6q,bjI,hblk2,hb6⟩
  ·obtain ⟨j,rfl⟩:=Int.eq_ofNat_of_zero_le (show 0≤i by omega)
   have HDV:Hid (Dv (val ns) (val ms) (j+1) (val qs) (val rs)):=Lib.hid (by have:=hdv.out; rwa [show ((j:Int)+1).toNat=j+1 by omega] at this)
   clear hdv
   have hra:=h.below (hbw.mono hB)
   have hrb:=h'.below (hbw.mono hB')
   obtain ⟨b,off,rfl,hb,hcell,hlt⟩:=hra.at_ (k:=j / 32) (by rw [Hn.out]; omega)
   have hbit:=bhe h.wds j
   have HBS:Hid (∃ e,dg qs (j / 32)=e*2 ^ (j % 32+1)∧dg qs (j / 32)+2 ^ (j % 32) < 4294967296):=Lib.hid (by obtain ⟨_,q',e,_⟩:=HDV.out; exact bhf hqw e)
   have HVB:=Lib.hid (fun (hh:j / 32 < qs.length)=>boW hh)
   have hKn:j / 32 < n:=by omega
   obtain ⟨K,hK⟩ : ∃ K,K=j / 32:=⟨_,rfl⟩
   obtain ⟨t,ht⟩ : ∃ t,t=j % 32:=⟨_,rfl⟩
   have e1:(j:Int) / 32=(K:Int):=by omega
   have e2:(j:Int) % 32=(t:Int):=by omega
   have bp1:t≤31:=by omega
   rw [← hK] at hcell hlt hbit HVB hKn
   rw [← hK] at HBS
   rw [← ht] at hbit HVB HBS
   obtain ⟨x,hx⟩ : ∃ x,x=dg ns K:=⟨_,rfl⟩
   rw [← hx] at hcell hlt hbit
   obtain ⟨bt,hbt⟩ : ∃ bt,bt=x / 2 ^ t % 2:=⟨_,rfl⟩
   have bc7:bt≤1:=by rw [hbt]; exact bhd
   have HBT:Hid (bt=val ns / 2 ^ j % 2):=Lib.hid (by rw [hbt]; exact hbit)
   have hA1:bits .and .u32 ((x:Int) / 2 ^ t) 1=(bt:Int):=by
    rw [show (x:Int) / 2 ^ t=((x / 2 ^ t:Nat):Int) by simp,a2U (Nat.lt_of_le_of_lt (Nat.div_le_self _ _) hlt),hbt]
   clear hbit hbt hx hK ht
   go_wp2_with fail
   go_loopw [9,36] (fun cv kv wi => ∃ (k ca:Nat) (ds:List Nat),k≤m+1∧ca≤1∧kv = .int .i64 k∧cv = .int .u32 ca∧Blk wi (w.heap.size+1) 99 ds∧Hid (ds.length=m+1)∧Wds ds∧Hid (∀ i,k≤i→dg ds i=dg rs i)∧Hid (lo ds k+pw k*ca=2*lo rs k+bt)∧Hid (wr.grownBy wi (some (w.heap.size+1))∧wi.heap.size=wr.heap.size)) (fun _ k _=>m+1 - (intOf k).toNat)
   case atStart=>exact ⟨0,bt,rs,by omega,bc7,rfl,rfl,hr,hrl,hrw,Lib.hid (fun _ _=>rfl),Lib.hid (by simp only [akf,aNP]; omega),Lib.hid ⟨World.grownBy.refl wr _,rfl⟩⟩
   case round =>
    obtain ⟨k,ca,ds,hk,hca,rfl,rfl,hd,hdl,hdw,hsame,hval,hg⟩:=hrel
    clear hr
    have bdr:=hg.out.2
    by_cases hkm:k < m+1
    ·have hlt2:=ahv hdw k
     have hfr:=hd.frozen k
     have hcc:=hd.cell (i:=k) (by rw [hdl.out]; exact hkm)
     have a1C:=Lib.hid (fun v=>hd.a1c (i:=k) v (by rw [hdl.out]; exact hkm))
     have Hst:=fun R C y (e1:y=dg ds k) e2 e3=>bhR (R:=R) (C:=C) (x:=y) (by rw [hdl.out]; exact hkm) hval.out (by rw [e1,hsame.out k (Nat.le_refl _)]) e2 e3
     obtain ⟨y,hy⟩ : ∃ y,y=dg ds k:=⟨_,rfl⟩
     obtain ⟨R,hR⟩ : ∃ R,R=2*y % 4294967296+ca:=⟨_,rfl⟩
     obtain ⟨C,hC⟩ : ∃ C,C=y / 2147483648:=⟨_,rfl⟩
     have HST:=Lib.hid (Hst R C y hy hR hC)
     rw [← hy] at hlt2 hcc
     have hRl:R < 4294967296:=by omega
     have hCl:C≤1:=by omega
     have hCi:(y:Int) / 2147483648=(C:Int):=by omega
     have hO:bits .or .u32 ((y:Int)*2 % 4294967296) (ca:Int)=(R:Int):=by
      have h1:=bec (i:=1) (a:=y % 2147483648) (b:=ca) (by omega) (by omega) (by omega)
      rw [show ((y % 2147483648*2 ^ 1:Nat):Int)=(y:Int)*2 % 4294967296 by omega] at h1
      rw [h1]; omega
     clear Hst hy hR hC
     go_wp2_with fail
     have hO2:bits .or .u32 (IntKind.u32.wrap ((y:Int)*2)) (ca:Int)=(R:Int):=by rw [IntKind.wrap_u32]; exact hO
     go_region
     go_wp2_with fail
     go_roundw
     case rel =>
      refine ⟨k+1,C,ds.set k R,by omega,hCl,by go_num,by go_num,a1C.out R,Lib.hid (by rw [List.length_set]; exact hdl.out),alc hdw _ hRl,Lib.hid ?_,HST,Lib.hid ⟨a1q (grown_drewN hg.out.1 _) _ _,by simp [hg.out.2]⟩⟩
      intro i hi
      rw [am3 _ (by rw [hdl.out]; exact hkm),if_neg (by omega)]
      exact hsame.out i (by omega)
     case measure=>simp [intOf]; omega
    ·obtain rfl:k=m+1:=by omega
     have HRR:Hid (val ds=2*val rs+val ns / 2 ^ j % 2):=Lib.hid (by rw [← HBT.out]; exact bhQ hdl.out hrl.out hval.out bc7 HYm.out HDV.out.1)
     have hdr:=hd.rd hdw
     have a9X:=hrb.grown hg.out.1 (Nat.le_trans hB' hbw.size) (fun hp a ha=>by
      obtain ⟨b',off',hA',hb',_⟩:=h'.2 hp
      rw [ha] at hA'; injection hA' with e; subst e; exact Nat.ne_of_lt (Nat.lt_of_lt_of_le hb' (Nat.le_trans hB' (Nat.le_succ _))))
     have hq2:=hq.of_same (hg.out.1.block w.heap.size hq.lt (by intro e; injection e with e; omega))
     have hbw2:=below_of_grown hbw hg.out.1 hbw.size (Nat.le_succ _)
     have bpY:=hg.out.2
     clear hq hval hsame hg
     by_cases hlt3:val ds < val ms
     ·have HC:=Lib.hid (a2V hlt3)
      have HDN:=Lib.hid (biu HDV.out HRR.out hlt3)
      clear hlt3
      go_wp2_with fail
      refine (a3W _ A' ds ms (m+1) m (m+1) c' _ _ _ hdr a9X hdl.out Hm.out (by omega) (by omega)).mono ?_
      rintro e w' ⟨rfl,rfl⟩
      rw [HC.out]
      go_wp2_with fail
      go_roundw
      case rel=>exact ⟨(j:Int) - 1,qs,ds,by omega,by omega,by go_num,hq2,hql,hqw,hd,hdl,hdw,Lib.hid (by rw [show ((j:Int) - 1+1).toNat=j by omega]; exact HDN.out),hbw2⟩
      case measure=>simp [intOf]
     ·obtain ⟨cv,HC,hcv⟩ : ∃ cv:Int,Hid (alg (val ds) (val ms)=cv)∧0≤cv:=by
       rcases Nat.lt_or_ge (val ms) (val ds) with h1 | h1
       ·exact ⟨1,Lib.hid (a4k h1),by omega⟩
       ·exact ⟨0,Lib.hid (a6a (by omega)),by omega⟩
      have HLE:Hid (val ms≤val ds):=Lib.hid (by omega)
      have HDY:=Lib.hid (bix HDV.out HRR.out HLE.out)
      clear hlt3
      go_wp2_with fail
      refine (a3W _ A' ds ms (m+1) m (m+1) c' _ _ _ hdr a9X hdl.out Hm.out (by omega) (by omega)).mono ?_
      rintro e w' ⟨rfl,rfl⟩
      rw [HC.out]
      go_wp2_with fail
      refine (take_any (w.heap.size+1) ds ms (m+1) m (m+1) c' B' A' _ hd hdw a9X (by omega) (fun hp a ha=>by
       obtain ⟨b',off',hA',hb',_⟩:=h'.2 (by rw [Hm.out]; exact hp)
       rw [ha] at hA'; injection hA' with e; subst e; exact Nat.ne_of_lt (Nat.lt_of_lt_of_le hb' (Nat.le_trans hB' (Nat.le_succ _)))) hdl.out Hm.out (by omega) (by omega) HLE.out).mono ?_
      rintro e w5 ⟨rs',rfl,hd5,hw5,hl5,hv5,hg5,hs5⟩
      have hq5:=hq2.of_same (hg5.block w.heap.size hq2.lt (by intro e; injection e with e; omega))
      have bjJ:=below_of_grown hbw2 hg5 hbw2.size (Nat.le_succ _)
      rw [← hv5] at HDY
      have HL5:=Lib.hid hl5
      have hcq:=hq5.cell (i:=K) (by rw [hql.out]; exact hKn)
      have hfq:=hq5.frozen K
      have bgQ:=Lib.hid (fun v=>hq5.a1c (i:=K) v (by rw [hql.out]; exact hKn))
      have HVS:=Lib.hid (HVB.out (by rw [hql.out]; exact hKn))
      have hbs:=HBS.out
      obtain ⟨v,hv⟩ : ∃ v,v=dg qs K:=⟨_,rfl⟩
      rw [← hv] at hcq HVS hbs
      obtain ⟨P,hP⟩ : ∃ P,P=2 ^ t:=⟨_,rfl⟩
      obtain ⟨ev,he1,he2⟩:=hbs
      rw [← hP] at HVS he2
      have hP2:(2:Int) ^ t=(P:Int):=by rw [hP]; simp
      have hO3:bits .or .u32 (v:Int) (P:Int)=((v+P:Nat):Int):=by
       rw [he1]
       exact bec (by rw [hP]; exact Nat.pow_lt_pow_right (by omega) (by omega)) (by rw [← he1]; omega) (by omega)
      have hPw:IntKind.u32.wrap (P:Int)=(P:Int):=IntWalk.u32_in _ (by omega)
      obtain ⟨V,hV⟩ : ∃ V,V=v+P:=⟨_,rfl⟩
      rw [← hV] at hO3 HVS
      have hVl:V < 4294967296:=by omega
      clear hq2 hd hv hP he1 he2 hV hv5 hl5 hg5 hs5
      go_wp2_with fail
      go_region
      go_wp2_with fail
      go_roundw
      case rel =>
       refine ⟨(j:Int) - 1,qs.set K V,rs',by omega,by omega,by go_num,bgQ.out V,Lib.hid (by rw [List.length_set]; exact hql.out),alc hqw _ hVl,hd5.far (by simp) _,HL5,hw5,Lib.hid ?_,(bjJ.setCell (Nat.le_refl _) _).drew⟩
       rw [show ((j:Int) - 1+1).toNat=j by omega,HVS.out]; exact HDY.out
      case measure=>simp [intOf]
end Go.Proofs.YtbihljnjaondcaaGreatDoor
namespace Lw
open Go Go.RowKit
theorem a7t {a b:Nat} (h:b≤a):(Uy b).length≤(Uy a).length:=aj9 (Nat.lt_of_le_of_lt h (awx (Nat.le_refl _)))
end Lw
namespace Go.Proofs.YtbihljnjaondcaaGreatDoor
open Go Go.RowKit Lw
def bgW (w:World) (N:Nat) (e:Ending) (w':World):Prop :=
 ∃ A n c,e = .returned (.slice A n c)∧Hid ((Uy N).length=n)∧n≤c∧Rd w' w'.heap.size A (Uy N)∧Below w.heap.size w w'
theorem a4z (g M n c:Nat) (w:World) (hb:Blk w g 99 (Uy M)) (hn:(Uy M).length=n) (hc:n≤c) (hl:n≤16777216) :
  Calls Tryz.prog 239 #[.slice (some ⟨g,0,none⟩) n c] w fun e w' => ∃ n',e = .returned (.slice (some ⟨g,0,none⟩) n' c)∧Hid ((Uy (M / 2)).length=n')∧n'≤n∧Blk w' g 99 (Uy (M / 2))∧w.grownBy w' (some g)∧w'.heap.size=w.heap.size:=by
 refine (bjC g (Uy M) n c w hb (acy _) hn hc hl).mono fun e w' hh => ?_
 rw [aar] at hh
 obtain ⟨h1,h2,h3,h4,h5⟩:=hh
 exact ⟨_,h1,Lib.hid rfl,h2,h3,h4,h5⟩
theorem beH (A A':Option Addr) (X Y:Nat) (n m c c':Nat) (B B':Nat) {w:World} (h:Rd w B A (Uy X)) (h':Rd w B' A' (Uy Y)) (hB:B≤w.heap.size) (hB':B'≤w.heap.size) (hn:(Uy X).length=n) (hm:(Uy Y).length=m) (hl:n≤16777216) (hl':m≤16777216) (Z:Nat) (hZ:X+Y=Z) :
  Calls Tryz.prog 162 #[.slice A n c,.slice A' m c'] w (a9g w Z):=by
 subst hZ
 refine (a6P A A' (Uy X) (Uy Y) n m c c' B B' w h h' hB hB' hn hm hl hl').mono fun e w' hh => ?_
 rw [aar,aar] at hh
 exact bdG hh
set_option maxRecDepth 100000 in
set_option maxHeartbeats 12800000 in
theorem bm1 (A A':Option Addr) (ns ms:List Nat) (n m c c' B B':Nat) (w:World) (h:Rd w B A ns) (h':Rd w B' A' ms) (hB:B≤w.heap.size) (hB':B'≤w.heap.size) (hn:ns.length=n) (hm:ms.length=m) (hl:n≤100000) (hl':m≤100000) :
  Calls Tryz.prog 217 #[.slice A n c,.slice A' m c'] w (bgW w (Nat.gcd (val ns) (val ms))):=by
 have HXp:Hid (val ns < pw n):=Lib.hid (by rw [← hn]; exact afS h.wds)
 have HN1:Hid ((Uy (val ns)).length≤n):=Lib.hid (by rw [← hn]; exact aon h.wds)
 have HN2:Hid ((Uy (val ms)).length≤m):=Lib.hid (by rw [← hm]; exact aon h'.wds)
 have ht1:=a8i A ns n c B (val ns) w h hB hn (by omega) rfl
 have ht2:=fun W (hb:Below w.heap.size w W)=>a8i A' ms m c' B' (val ms) W (h'.next hb hB') (Nat.le_trans hB' hb.size) hm (by omega) rfl
 generalize val ns=X at *
 generalize val ms=Y at *
 have HT1:=Lib.hid ht1
 have HT2:=Lib.hid ht2
 clear ht1 ht2 h h' hB hB' hn hm
 go_enter Tryz.func217,Tryz.ntmps217
 go_wp2_with fail
 refine HT1.out.mono ?_
 rintro e w1 ⟨g1,n1,c1,rfl,hl1,hc1,hg1,hb1,a2g⟩
 go_wp2_with fail
 refine (HT2.out _ a2g).mono ?_
 rintro e w2 ⟨g2,n2,c2,rfl,hl2,hc2,hg2,hb2,hbw2⟩
 have hb1':=hb1.below hbw2 hb1.lt
 have a7G:g1≠g2:=by have:=hb1.lt; omega
 have hbw:=aaR a2g hbw2 (Nat.le_refl _)
 have a6q:w.heap.size≤g2:=Nat.le_trans a2g.size hg2
 have hn1:n1≤100000:=by rw [← hl1.out]; exact Nat.le_trans HN1.out hl
 have hn2:n2≤100000:=by rw [← hl2.out]; exact Nat.le_trans HN2.out hl'
 clear hb1 a2g hbw2 hg2 HT1 HT2 HN1 HN2
 by_cases h10:n1=0
 ·have HX0:Hid (Nat.gcd X Y=Y):=Lib.hid (by rw [(ak4.1 (List.eq_nil_of_length_eq_zero (by rw [hl1.out]; exact h10)):X=0),Nat.gcd_zero_left])
  subst h10
  go_wp2_with fail
  go_ret
  rw [HX0.out]
  exact ⟨_,n2,c2,rfl,hl2,hc2,hb2.rd (acy _),hbw⟩
 by_cases h20:n2=0
 ·have HY0:Hid (Nat.gcd X Y=X):=Lib.hid (by rw [(ak4.1 (List.eq_nil_of_length_eq_zero (by rw [hl2.out]; exact h20)):Y=0),Nat.gcd_zero_right])
  have hq1:((n1:Int)==0)=false:=by rw [beq_eq_false_iff_ne]; omega
  subst h20
  clear h10
  go_wp2_with fail
  go_ret
  rw [HY0.out]
  exact ⟨_,n1,c1,rfl,hl1,hc1,hb1'.rd (acy _),hbw⟩
 have HX0:Hid (0 < X):=Lib.hid (Nat.pos_of_ne_zero (fun e=>h10 (by rw [← hl1.out,e]; rfl)))
 have HY0:Hid (0 < Y):=Lib.hid (Nat.pos_of_ne_zero (fun e=>h20 (by rw [← hl2.out,e]; rfl)))
 have hq1:((n1:Int)==0)=false:=by rw [beq_eq_false_iff_ne]; omega
 have hq2:((n2:Int)==0)=false:=by rw [beq_eq_false_iff_ne]; omega
 clear h10 h20
 go_wp2_with fail
 go_loopg [0,1,5] X (fun M av bv tv wq => ∃ (N T na nb:Nat),av = .slice (some ⟨g1,0,none⟩) na c1∧bv = .slice (some ⟨g2,0,none⟩) nb c2∧tv = .int .i64 T∧Hid ((Uy M).length=na)∧Hid ((Uy N).length=nb)∧na≤n1∧nb≤n2∧Blk wq g1 99 (Uy M)∧Blk wq g2 99 (Uy N)∧Hid (Gt (Nat.gcd X Y) X T M N)∧Below w.heap.size w wq)
 case atStart=>exact ⟨Y,0,n1,n2,rfl,rfl,rfl,hl1,hl2,Nat.le_refl _,Nat.le_refl _,hb1',hb2,Lib.hid (bjt HX0.out HY0.out),hbw⟩
 case round =>
  obtain ⟨N1,T,na,nb,rfl,rfl,rfl,hla,hlb,hna,hnb,hba,hbb,hgt,a3e⟩:=hrel
  generalize gk=M1 at *
  clear hb1' hb2 hbw hl1 hl2
  have hTl:T≤3200000:=by have:=bjs hgt.out HXp.out; omega
  have a9V:0 < na:=by rw [← hla.out]; exact Nat.pos_of_ne_zero (fun e=>by have h9:=ak4.1 (List.eq_nil_of_length_eq_zero e); have:=hgt.out.2.2.1; omega)
  have bjW:0 < nb:=by rw [← hlb.out]; exact Nat.pos_of_ne_zero (fun e=>by have h9:=ak4.1 (List.eq_nil_of_length_eq_zero e); have:=hgt.out.2.2.2; omega)
  have hcc:=hba.cell (i:=0) (by rw [hla.out]; exact a9V)
  have hcd:=hbb.cell (i:=0) (by rw [hlb.out]; exact bjW)
  have hxl:=ahv (acy M1) 0
  have hyl:=ahv (acy N1) 0
  have hxb:=a4O (ns:=Uy M1)
  have hyb:=a4O (ns:=Uy N1)
  rw [aar] at hxb hyb
  obtain ⟨x,hx⟩ : ∃ x,x=dg (Uy M1) 0:=⟨_,rfl⟩
  obtain ⟨y,hy⟩ : ∃ y,y=dg (Uy N1) 0:=⟨_,rfl⟩
  rw [← hx] at hcc hxl hxb
  rw [← hy] at hcd hyl hyb
  have hA1:=a2U hxl
  have hA2:=a2U hyl
  rw [hxb] at hA1
  rw [hyb] at hA2
  clear hx hy hxb hyb hxl hyl
  by_cases hev:M1 % 2=0∧N1 % 2=0
  ·have HST:=Lib.hid (bju hgt.out hev.1 hev.2)
   have hA3:bits .and .u32 (x:Int) 1=0:=by rw [hA1,hev.1]; rfl
   have hA4:bits .and .u32 (y:Int) 1=0:=by rw [hA2,hev.2]; rfl
   clear hA1 hA2 hev
   go_wp2_with fail
   refine (a4z g1 M1 na c1 _ hba hla.out (by omega) (by omega)).mono ?_
   rintro e w6 ⟨n6,rfl,hl6,hn6,hb6,hg6,hs6⟩
   have a4A:=hbb.of_same (hg6.block g2 hbb.lt (by intro e; injection e with e; exact a7G e.symm))
   have ay7:=below_of_grown a3e hg6 a3e.size hg1
   clear hba hbb hg6 hcc hcd
   go_wp2_with fail
   refine (a4z g2 N1 nb c2 _ a4A hlb.out (by omega) (by omega)).mono ?_
   rintro e w7 ⟨n7,rfl,hl7,hn7,hb7,hg7,hs7⟩
   have bjH:=hb6.of_same (hg7.block g1 hb6.lt (by intro e; injection e with e; exact a7G e))
   have a1K:=below_of_grown ay7 hg7 ay7.size a6q
   clear hb6 a4A hg7
   go_wp2_with fail
   go_roundg (M1 / 2)
   case measure=>exact HST.out.2
   case rel=>exact ⟨N1 / 2,T+1,n6,n7,rfl,rfl,by go_num,hl6,hl7,by omega,by omega,bjH,hb7,Lib.hid HST.out.1,a1K⟩
  ·obtain ⟨d,hd⟩ : ∃ d,d=Nat.gcd M1 N1:=⟨_,rfl⟩
   have HGW:Hid (Gw d M1 N1):=Lib.hid ⟨hd.symm,by rw [hd]; exact bjm hev,hgt.out.2.2.2⟩
   have HTG:Hid (2 ^ T*d=Nat.gcd X Y):=Lib.hid (by rw [hd]; exact hgt.out.1)
   have HPW:Hid (∀ k,k≤T→(Uy (2 ^ k*d)).length≤100000):=Lib.hid (fun k hk=>by
    have h1:2 ^ k*d≤2 ^ T*d:=Nat.mul_le_mul_right _ (Nat.pow_le_pow_right (by omega) hk)
    rw [HTG.out] at h1
    exact Nat.le_trans (aj9 (Nat.lt_of_le_of_lt (Nat.le_trans h1 (Nat.gcd_le_left Y HX0.out)) HXp.out)) hl)
   have hl1:=hla
   have hl2:=hlb
   have hc1':na≤c1:=by omega
   have hc2':nb≤c2:=by omega
   have hn1':na≤100000:=by omega
   have bdg:nb≤100000:=by omega
   have hb1:=hba
   have hb2:=hbb
   have hbw:=a3e
   have hg2:=a6q
   clear hd hgt hla hlb hba hbb a3e hna hnb a6q hc1 hc2 hn1 hn2
   by_cases hodd:M1 % 2=0
   ·have hA3:bits .and .u32 (x:Int) 1=0:=by rw [hA1,hodd]; rfl
    have hA4:bits .and .u32 (y:Int) 1=1:=by rw [hA2,show N1 % 2=1 by omega]; rfl
    clear hA1 hA2 hev hodd
    go_wp2_with fail
    go_loopg [0,1] (M1+N1) (fun Sm av bv wq => ∃ (M N ga gb na nb ca cb:Nat),Sm=M+N∧av = .slice (some ⟨ga,0,none⟩) na ca∧bv = .slice (some ⟨gb,0,none⟩) nb cb∧Hid ((Uy M).length=na)∧Hid ((Uy N).length=nb)∧na≤ca∧nb≤cb∧na≤100000∧nb≤100000∧Blk wq ga 99 (Uy M)∧Blk wq gb 99 (Uy N)∧ga≠gb∧w.heap.size≤ga∧w.heap.size≤gb∧Hid (Gw d M N)∧Below w.heap.size w wq)
    case atStart=>exact ⟨M1,N1,g1,g2,na,nb,c1,c2,rfl,rfl,rfl,hl1,hl2,hc1',hc2',hn1',bdg,hb1,hb2,a7G,hg1,hg2,HGW,hbw⟩
    case round =>
     obtain ⟨M,N,ga,gb,na,nb,ca,cb,hS,rfl,rfl,hla,hlb,hca,hcb,hna,hnb,hba,hbb,ar0,hga,hgb,hgw,hbw⟩:=hrel
     have HS:=Lib.hid hS
     clear hS hb1 hb2
     by_cases h0:na=0
     ·have HND:Hid (N=d):=Lib.hid (bcT (by have e0:M=0:=ak4.1 (List.eq_nil_of_length_eq_zero (by rw [hla.out]; exact h0)); have h9:=hgw.out; rwa [e0] at h9))
      subst h0
      go_wp2_with fail
      go_loopw [1,65] (fun bv kv wq => ∃ (k nq cq:Nat) (Aq:Option Addr),k≤T∧kv = .int .i64 k∧bv = .slice Aq nq cq∧Hid ((Uy (2 ^ k*d)).length=nq)∧nq≤cq∧nq≤100000∧Rd wq wq.heap.size Aq (Uy (2 ^ k*d))∧Below w.heap.size w wq) (fun _ k _=>T - (intOf k).toNat)
      case atStart=>exact ⟨0,nb,cb,some ⟨gb,0,none⟩,Nat.zero_le _,rfl,rfl,Lib.hid (by rw [Nat.pow_zero,Nat.one_mul,← HND.out]; exact hlb.out),hcb,hnb,by rw [Nat.pow_zero,Nat.one_mul,← HND.out]; exact hbb.rd (acy _),hbw⟩
      case round =>
       obtain ⟨k,nq,cq,Aq,hk,rfl,rfl,hlq,hcq,hnq,hrq,hbq⟩:=hrel
       clear hba hbb
       by_cases hkT:k < T
       ·have HNX:Hid ((Uy (2 ^ (k+1)*d)).length≤100000):=Lib.hid (HPW.out (k+1) hkT)
        go_wp2_with fail
        refine (beH Aq Aq (2 ^ k*d) (2 ^ k*d) nq nq cq cq _ _ hrq hrq (Nat.le_refl _) (Nat.le_refl _) hlq.out hlq.out (by omega) (by omega) (2 ^ (k+1)*d) (by rw [Nat.pow_succ]; grind)).mono ?_
        rintro e wp ⟨gp,np,cp,rfl,hlp,hcp,hgp,a6p,hbp⟩
        have a9N:=aaR hbq hbp (Nat.le_refl _)
        have HR:=Lib.hid (a6p.rd (acy _))
        clear hrq a6p hbp
        go_wp2_with fail
        go_roundw
        case rel=>exact ⟨k+1,np,cp,_,by omega,by go_num,rfl,hlp,hcp,by rw [← hlp.out]; exact HNX.out,HR.out,a9N⟩
        case measure=>simp [intOf]; omega
       ·obtain rfl:k=T:=by omega
        go_wp2_with fail
        go_ret
        refine ⟨Aq,nq,cq,rfl,Lib.hid ?_,hcq,?_,hbq⟩
        ·rw [← HTG.out]; exact hlq.out
        ·rw [← HTG.out]; exact hrq
     ·have HM0:Hid (0 < M):=Lib.hid (Nat.pos_of_ne_zero (fun e=>h0 (by rw [← hla.out,e]; rfl)))
      have HN0:Hid (0 < N):=Lib.hid hgw.out.2.2
      have a9V:0 < na:=by omega
      clear h0
      go_wp2_with fail
      go_loopg [0] M (fun M' av wq2 => ∃ (n':Nat),av = .slice (some ⟨ga,0,none⟩) n' ca∧Hid ((Uy M').length=n')∧n'≤na∧Blk wq2 ga 99 (Uy M')∧Blk wq2 gb 99 (Uy N)∧Hid (Gw d M' N∧0 < M'∧M'≤M)∧Below w.heap.size w wq2)
      case atStart=>exact ⟨na,rfl,hla,Nat.le_refl _,hba,hbb,Lib.hid ⟨hgw.out,HM0.out,Nat.le_refl _⟩,hbw⟩
      case round =>
       obtain ⟨n',rfl,alu,bjV,a0X,a0Y,ank,hbw2⟩:=hrel
       clear hba hbb
       have a9S:0 < n':=by rw [← alu.out]; exact Nat.pos_of_ne_zero (fun e=>by have h9:=ak4.1 (List.eq_nil_of_length_eq_zero e); have:=ank.out.2.1; omega)
       have hcc:=a0X.cell (i:=0) (by rw [alu.out]; exact a9S)
       have hxl:=ahv (acy gk) 0
       have hxb:=a4O (ns:=Uy gk)
       rw [aar] at hxb
       obtain ⟨x,hx⟩ : ∃ x,x=dg (Uy gk) 0:=⟨_,rfl⟩
       rw [← hx] at hcc hxl hxb
       have hA1:=a2U hxl
       rw [hxb] at hA1
       clear hx hxb hxl
       by_cases hev:gk % 2=0
       ·have HST:Hid (Gw d (gk / 2) N∧0 < gk / 2∧gk / 2≤M∧gk / 2 < gk):=Lib.hid ⟨bcU ank.out.1 hev,by have:=ank.out.2.1; omega,by have:=ank.out.2.2; omega,by have:=ank.out.2.1; omega⟩
        rw [hev] at hA1
        have hA2:bits .and .u32 (x:Int) 1=0:=hA1
        clear hA1 hev
        go_wp2_with fail
        refine (a4z ga gk n' ca _ a0X alu.out (by omega) (by omega)).mono ?_
        rintro e w6 ⟨n6,rfl,hl6,hn6,hb6,hg6,hs6⟩
        have a4A:=a0Y.of_same (hg6.block gb a0Y.lt (by intro e; injection e with e; exact ar0 e.symm))
        have ay7:=below_of_grown hbw2 hg6 hbw2.size hga
        clear a0X a0Y hg6
        go_wp2_with fail
        go_roundg (gk / 2)
        case measure=>exact HST.out.2.2.2
        case rel=>exact ⟨n6,rfl,hl6,by omega,hb6,a4A,Lib.hid ⟨HST.out.1,HST.out.2.1,HST.out.2.2.1⟩,ay7⟩
       ·generalize gk=M' at *
        have hA2:bits .and .u32 (x:Int) 1=1:=by rw [hA1,show M' % 2=1 by omega]; rfl
        clear hA1 hev
        go_wp2_with fail
        go_loopg [1] N (fun N' bv wq3 => ∃ (n'':Nat),bv = .slice (some ⟨gb,0,none⟩) n'' cb∧Hid ((Uy N').length=n'')∧n''≤nb∧Blk wq3 ga 99 (Uy M')∧Blk wq3 gb 99 (Uy N')∧Hid (Gw d M' N'∧0 < N'∧N'≤N)∧Below w.heap.size w wq3)
        case atStart=>exact ⟨nb,rfl,hlb,Nat.le_refl _,a0X,a0Y,Lib.hid ⟨ank.out.1,HN0.out,Nat.le_refl _⟩,hbw2⟩
        case round =>
         obtain ⟨n'',rfl,alv,bjX,alh,ali,anl,hbw3⟩:=hrel
         clear a0X a0Y hcc hA2
         have a9R:0 < n'':=by rw [← alv.out]; exact Nat.pos_of_ne_zero (fun e=>by have h9:=ak4.1 (List.eq_nil_of_length_eq_zero e); have:=anl.out.2.1; omega)
         have hcc:=ali.cell (i:=0) (by rw [alv.out]; exact a9R)
         have hxl:=ahv (acy gk) 0
         have hxb:=a4O (ns:=Uy gk)
         rw [aar] at hxb
         obtain ⟨y,hy⟩ : ∃ y,y=dg (Uy gk) 0:=⟨_,rfl⟩
         rw [← hy] at hcc hxl hxb
         have hA1:=a2U hxl
         rw [hxb] at hA1
         clear hy hxb hxl
         by_cases hev:gk % 2=0
         ·have HST:Hid (Gw d M' (gk / 2)∧0 < gk / 2∧gk / 2≤N∧gk / 2 < gk):=Lib.hid ⟨bcV anl.out.1 hev,by have:=anl.out.2.1; omega,by have:=anl.out.2.2; omega,by have:=anl.out.2.1; omega⟩
          rw [hev] at hA1
          have hA2:bits .and .u32 (y:Int) 1=0:=hA1
          clear hA1 hev
          go_wp2_with fail
          refine (a4z gb gk n'' cb _ ali alv.out (by omega) (by omega)).mono ?_
          rintro e w6 ⟨n6,rfl,hl6,hn6,hb6,hg6,hs6⟩
          have a9L:=alh.of_same (hg6.block ga alh.lt (by intro e; injection e with e; exact ar0 e))
          have ay7:=below_of_grown hbw3 hg6 hbw3.size hgb
          clear alh ali hg6
          go_wp2_with fail
          go_roundg (gk / 2)
          case measure=>exact HST.out.2.2.2
          case rel=>exact ⟨n6,rfl,hl6,by omega,a9L,hb6,Lib.hid ⟨HST.out.1,HST.out.2.1,HST.out.2.2.1⟩,ay7⟩
         ·generalize gk=N' at *
          have hA2:bits .and .u32 (y:Int) 1=1:=by rw [hA1,show N' % 2=1 by omega]; rfl
          clear hA1 hev
          by_cases hlt:M' < N'
          ·have HC:=Lib.hid (a2V hlt)
           have HLE:Hid (M'≤N'):=Lib.hid (Nat.le_of_lt hlt)
           have HGT:Hid (Gw d (N' - M') M'):=Lib.hid (a7C (bcW anl.out.1 ank.out.2.1) (Nat.le_of_lt hlt))
           clear hlt
           go_wp2_with fail
           refine (a3W _ _ (Uy M') (Uy N') n' n'' ca cb _ _ _ (alh.rd (acy _)) (ali.rd (acy _)) alu.out alv.out (by omega) (by omega)).mono ?_
           rintro e w' ⟨rfl,rfl⟩
           rw [aar,aar,HC.out]
           go_wp2_with fail
           have HLN:Hid (n'≤n''):=Lib.hid (by rw [← alv.out,← alu.out]; exact a7t HLE.out)
           have hnn:=HLN.out
           refine (take_any gb (Uy N') (Uy M') n'' n' cb ca _ (some ⟨ga,0,none⟩) _ ali (acy _) (alh.rd (acy _)) (Nat.le_refl _) (fun _ a e=>by injection e with e; subst e; exact ar0) alv.out alu.out hnn (by omega) (by rw [aar,aar]; exact HLE.out)).mono ?_
           rintro e w7 ⟨ds,rfl,hd7,hw7,hl7,hv7,hg7,hs7⟩
           rw [aar,aar] at hv7
           have a3d:=alh.of_same (hg7.block ga alh.lt (by intro e; injection e with e; exact ar0 e))
           have a1K:=below_of_grown hbw3 hg7 hbw3.size hgb
           have hd9:=hd7.Uy hw7
           rw [hv7] at hd9
           have HN9:Hid ((Uy (N' - M')).length≤n''):=Lib.hid (by have h9:=aon hw7; rwa [hv7,hl7] at h9)
           obtain ⟨n9,hn9⟩ : ∃ n9,n9=(Uy (N' - M')).length:=⟨_,rfl⟩
           have Hn9:=Lib.hid hn9.symm
           have a9U:n9≤n'':=by rw [hn9]; exact HN9.out
           have HV7:=Lib.hid hv7
           have HL7:=Lib.hid hl7
           clear ali alh hg7 hs7 hv7 hl7 hn9
           go_wp2_with fail
           refine (a6O _ ds n'' cb _ _ (hd7.rd hw7) HL7.out (by omega) (by omega)).mono ?_
           rintro e w8 ⟨rfl,rfl⟩
           rw [HV7.out,Hn9.out]
           clear hd7
           go_wp2_with fail
           go_roundg (N' - M'+M')
           case measure=>have h1:=HS.out; have h2:=ank.out.2; have h3:=anl.out.2; have h4:=HLE.out; have h5:=HN0.out; have h6:=HM0.out; omega
           case rel=>exact ⟨N' - M',M',gb,ga,n9,n',cb,ca,rfl,rfl,rfl,Hn9,alu,by omega,by omega,by omega,by omega,hd9,a3d,ar0.symm,hgb,hga,HGT,a1K⟩
          ·have HLE:Hid (N'≤M'):=Lib.hid (by omega)
           obtain ⟨cv,HC,hcv⟩ : ∃ cv:Int,Hid (alg M' N'=cv)∧0≤cv:=by
            rcases Nat.lt_or_ge N' M' with h1 | h1
            ·exact ⟨1,Lib.hid (a4k h1),by omega⟩
            ·exact ⟨0,Lib.hid (a6a (by omega)),by omega⟩
           have HGT:Hid (Gw d (M' - N') N'):=Lib.hid (a7C anl.out.1 HLE.out)
           clear hlt
           go_wp2_with fail
           refine (a3W _ _ (Uy M') (Uy N') n' n'' ca cb _ _ _ (alh.rd (acy _)) (ali.rd (acy _)) alu.out alv.out (by omega) (by omega)).mono ?_
           rintro e w' ⟨rfl,rfl⟩
           rw [aar,aar,HC.out]
           go_wp2_with fail
           have HLN:Hid (n''≤n'):=Lib.hid (by rw [← alu.out,← alv.out]; exact a7t HLE.out)
           have hnn:=HLN.out
           refine (take_any ga (Uy M') (Uy N') n' n'' ca cb _ (some ⟨gb,0,none⟩) _ alh (acy _) (ali.rd (acy _)) (Nat.le_refl _) (fun _ a e=>by injection e with e; subst e; exact ar0.symm) alu.out alv.out hnn (by omega) (by rw [aar,aar]; exact HLE.out)).mono ?_
           rintro e w7 ⟨ds,rfl,hd7,hw7,hl7,hv7,hg7,hs7⟩
           rw [aar,aar] at hv7
           have a3d:=ali.of_same (hg7.block gb ali.lt (by intro e; injection e with e; exact ar0 e.symm))
           have a1K:=below_of_grown hbw3 hg7 hbw3.size hga
           have hd9:=hd7.Uy hw7
           rw [hv7] at hd9
           have HN9:Hid ((Uy (M' - N')).length≤n'):=Lib.hid (by have h9:=aon hw7; rwa [hv7,hl7] at h9)
           obtain ⟨n9,hn9⟩ : ∃ n9,n9=(Uy (M' - N')).length:=⟨_,rfl⟩
           have Hn9:=Lib.hid hn9.symm
           have a9U:n9≤n':=by rw [hn9]; exact HN9.out
           have HV7:=Lib.hid hv7
           have HL7:=Lib.hid hl7
           clear alh ali hg7 hs7 hv7 hl7 hn9
           go_wp2_with fail
           refine (a6O _ ds n' ca _ _ (hd7.rd hw7) HL7.out (by omega) (by omega)).mono ?_
           rintro e w8 ⟨rfl,rfl⟩
           rw [HV7.out,Hn9.out]
           clear hd7
           go_wp2_with fail
           go_roundg (M' - N'+N')
           case measure=>have h1:=HS.out; have h2:=ank.out.2; have h3:=anl.out.2; have h4:=HLE.out; have h5:=HN0.out; have h6:=HM0.out; omega
           case rel=>exact ⟨M' - N',N',ga,gb,n9,n'',ca,cb,rfl,rfl,rfl,Hn9,alv,by omega,by omega,by omega,by omega,hd9,a3d,ar0,hga,hgb,HGT,a1K⟩
   ·have hA3:bits .and .u32 (x:Int) 1=1:=by rw [hA1,show M1 % 2=1 by omega]; rfl
    clear hA1 hA2 hev hodd
    go_wp2_with fail
    go_loopg [0,1] (M1+N1) (fun Sm av bv wq => ∃ (M N ga gb na nb ca cb:Nat),Sm=M+N∧av = .slice (some ⟨ga,0,none⟩) na ca∧bv = .slice (some ⟨gb,0,none⟩) nb cb∧Hid ((Uy M).length=na)∧Hid ((Uy N).length=nb)∧na≤ca∧nb≤cb∧na≤100000∧nb≤100000∧Blk wq ga 99 (Uy M)∧Blk wq gb 99 (Uy N)∧ga≠gb∧w.heap.size≤ga∧w.heap.size≤gb∧Hid (Gw d M N)∧Below w.heap.size w wq)
    case atStart=>exact ⟨M1,N1,g1,g2,na,nb,c1,c2,rfl,rfl,rfl,hl1,hl2,hc1',hc2',hn1',bdg,hb1,hb2,a7G,hg1,hg2,HGW,hbw⟩
    case round =>
     obtain ⟨M,N,ga,gb,na,nb,ca,cb,hS,rfl,rfl,hla,hlb,hca,hcb,hna,hnb,hba,hbb,ar0,hga,hgb,hgw,hbw⟩:=hrel
     have HS:=Lib.hid hS
     clear hS hb1 hb2
     by_cases h0:na=0
     ·have HND:Hid (N=d):=Lib.hid (bcT (by have e0:M=0:=ak4.1 (List.eq_nil_of_length_eq_zero (by rw [hla.out]; exact h0)); have h9:=hgw.out; rwa [e0] at h9))
      subst h0
      go_wp2_with fail
      go_loopw [1,65] (fun bv kv wq => ∃ (k nq cq:Nat) (Aq:Option Addr),k≤T∧kv = .int .i64 k∧bv = .slice Aq nq cq∧Hid ((Uy (2 ^ k*d)).length=nq)∧nq≤cq∧nq≤100000∧Rd wq wq.heap.size Aq (Uy (2 ^ k*d))∧Below w.heap.size w wq) (fun _ k _=>T - (intOf k).toNat)
      case atStart=>exact ⟨0,nb,cb,some ⟨gb,0,none⟩,Nat.zero_le _,rfl,rfl,Lib.hid (by rw [Nat.pow_zero,Nat.one_mul,← HND.out]; exact hlb.out),hcb,hnb,by rw [Nat.pow_zero,Nat.one_mul,← HND.out]; exact hbb.rd (acy _),hbw⟩
      case round =>
       obtain ⟨k,nq,cq,Aq,hk,rfl,rfl,hlq,hcq,hnq,hrq,hbq⟩:=hrel
       clear hba hbb
       by_cases hkT:k < T
       ·have HNX:Hid ((Uy (2 ^ (k+1)*d)).length≤100000):=Lib.hid (HPW.out (k+1) hkT)
        go_wp2_with fail
        refine (beH Aq Aq (2 ^ k*d) (2 ^ k*d) nq nq cq cq _ _ hrq hrq (Nat.le_refl _) (Nat.le_refl _) hlq.out hlq.out (by omega) (by omega) (2 ^ (k+1)*d) (by rw [Nat.pow_succ]; grind)).mono ?_
        rintro e wp ⟨gp,np,cp,rfl,hlp,hcp,hgp,a6p,hbp⟩
        have a9N:=aaR hbq hbp (Nat.le_refl _)
        have HR:=Lib.hid (a6p.rd (acy _))
        clear hrq a6p hbp
        go_wp2_with fail
        go_roundw
        case rel=>exact ⟨k+1,np,cp,_,by omega,by go_num,rfl,hlp,hcp,by rw [← hlp.out]; exact HNX.out,HR.out,a9N⟩
        case measure=>simp [intOf]; omega
       ·obtain rfl:k=T:=by omega
        go_wp2_with fail
        go_ret
        refine ⟨Aq,nq,cq,rfl,Lib.hid ?_,hcq,?_,hbq⟩
        ·rw [← HTG.out]; exact hlq.out
        ·rw [← HTG.out]; exact hrq
     ·have HM0:Hid (0 < M):=Lib.hid (Nat.pos_of_ne_zero (fun e=>h0 (by rw [← hla.out,e]; rfl)))
      have HN0:Hid (0 < N):=Lib.hid hgw.out.2.2
      have a9V:0 < na:=by omega
      clear h0
      go_wp2_with fail
      go_loopg [0] M (fun M' av wq2 => ∃ (n':Nat),av = .slice (some ⟨ga,0,none⟩) n' ca∧Hid ((Uy M').length=n')∧n'≤na∧Blk wq2 ga 99 (Uy M')∧Blk wq2 gb 99 (Uy N)∧Hid (Gw d M' N∧0 < M'∧M'≤M)∧Below w.heap.size w wq2)
      case atStart=>exact ⟨na,rfl,hla,Nat.le_refl _,hba,hbb,Lib.hid ⟨hgw.out,HM0.out,Nat.le_refl _⟩,hbw⟩
      case round =>
       obtain ⟨n',rfl,alu,bjV,a0X,a0Y,ank,hbw2⟩:=hrel
       clear hba hbb
       have a9S:0 < n':=by rw [← alu.out]; exact Nat.pos_of_ne_zero (fun e=>by have h9:=ak4.1 (List.eq_nil_of_length_eq_zero e); have:=ank.out.2.1; omega)
       have hcc:=a0X.cell (i:=0) (by rw [alu.out]; exact a9S)
       have hxl:=ahv (acy gk) 0
       have hxb:=a4O (ns:=Uy gk)
       rw [aar] at hxb
       obtain ⟨x,hx⟩ : ∃ x,x=dg (Uy gk) 0:=⟨_,rfl⟩
       rw [← hx] at hcc hxl hxb
       have hA1:=a2U hxl
       rw [hxb] at hA1
       clear hx hxb hxl
       by_cases hev:gk % 2=0
       ·have HST:Hid (Gw d (gk / 2) N∧0 < gk / 2∧gk / 2≤M∧gk / 2 < gk):=Lib.hid ⟨bcU ank.out.1 hev,by have:=ank.out.2.1; omega,by have:=ank.out.2.2; omega,by have:=ank.out.2.1; omega⟩
        rw [hev] at hA1
        have hA2:bits .and .u32 (x:Int) 1=0:=hA1
        clear hA1 hev
        go_wp2_with fail
        refine (a4z ga gk n' ca _ a0X alu.out (by omega) (by omega)).mono ?_
        rintro e w6 ⟨n6,rfl,hl6,hn6,hb6,hg6,hs6⟩
        have a4A:=a0Y.of_same (hg6.block gb a0Y.lt (by intro e; injection e with e; exact ar0 e.symm))
        have ay7:=below_of_grown hbw2 hg6 hbw2.size hga
        clear a0X a0Y hg6
        go_wp2_with fail
        go_roundg (gk / 2)
        case measure=>exact HST.out.2.2.2
        case rel=>exact ⟨n6,rfl,hl6,by omega,hb6,a4A,Lib.hid ⟨HST.out.1,HST.out.2.1,HST.out.2.2.1⟩,ay7⟩
       ·generalize gk=M' at *
        have hA2:bits .and .u32 (x:Int) 1=1:=by rw [hA1,show M' % 2=1 by omega]; rfl
        clear hA1 hev
        go_wp2_with fail
        go_loopg [1] N (fun N' bv wq3 => ∃ (n'':Nat),bv = .slice (some ⟨gb,0,none⟩) n'' cb∧Hid ((Uy N').length=n'')∧n''≤nb∧Blk wq3 ga 99 (Uy M')∧Blk wq3 gb 99 (Uy N')∧Hid (Gw d M' N'∧0 < N'∧N'≤N)∧Below w.heap.size w wq3)
        case atStart=>exact ⟨nb,rfl,hlb,Nat.le_refl _,a0X,a0Y,Lib.hid ⟨ank.out.1,HN0.out,Nat.le_refl _⟩,hbw2⟩
        case round =>
         obtain ⟨n'',rfl,alv,bjX,alh,ali,anl,hbw3⟩:=hrel
         clear a0X a0Y hcc hA2
         have a9R:0 < n'':=by rw [← alv.out]; exact Nat.pos_of_ne_zero (fun e=>by have h9:=ak4.1 (List.eq_nil_of_length_eq_zero e); have:=anl.out.2.1; omega)
         have hcc:=ali.cell (i:=0) (by rw [alv.out]; exact a9R)
         have hxl:=ahv (acy gk) 0
         have hxb:=a4O (ns:=Uy gk)
         rw [aar] at hxb
         obtain ⟨y,hy⟩ : ∃ y,y=dg (Uy gk) 0:=⟨_,rfl⟩
         rw [← hy] at hcc hxl hxb
         have hA1:=a2U hxl
         rw [hxb] at hA1
         clear hy hxb hxl
         by_cases hev:gk % 2=0
         ·have HST:Hid (Gw d M' (gk / 2)∧0 < gk / 2∧gk / 2≤N∧gk / 2 < gk):=Lib.hid ⟨bcV anl.out.1 hev,by have:=anl.out.2.1; omega,by have:=anl.out.2.2; omega,by have:=anl.out.2.1; omega⟩
          rw [hev] at hA1
          have hA2:bits .and .u32 (y:Int) 1=0:=hA1
          clear hA1 hev
          go_wp2_with fail
          refine (a4z gb gk n'' cb _ ali alv.out (by omega) (by omega)).mono ?_
          rintro e w6 ⟨n6,rfl,hl6,hn6,hb6,hg6,hs6⟩
          have a9L:=alh.of_same (hg6.block ga alh.lt (by intro e; injection e with e; exact ar0 e))
          have ay7:=below_of_grown hbw3 hg6 hbw3.size hgb
          clear alh ali hg6
          go_wp2_with fail
          go_roundg (gk / 2)
          case measure=>exact HST.out.2.2.2
          case rel=>exact ⟨n6,rfl,hl6,by omega,a9L,hb6,Lib.hid ⟨HST.out.1,HST.out.2.1,HST.out.2.2.1⟩,ay7⟩
         ·generalize gk=N' at *
          have hA2:bits .and .u32 (y:Int) 1=1:=by rw [hA1,show N' % 2=1 by omega]; rfl
          clear hA1 hev
          by_cases hlt:M' < N'
          ·have HC:=Lib.hid (a2V hlt)
           have HLE:Hid (M'≤N'):=Lib.hid (Nat.le_of_lt hlt)
           have HGT:Hid (Gw d (N' - M') M'):=Lib.hid (a7C (bcW anl.out.1 ank.out.2.1) (Nat.le_of_lt hlt))
           clear hlt
           go_wp2_with fail
           refine (a3W _ _ (Uy M') (Uy N') n' n'' ca cb _ _ _ (alh.rd (acy _)) (ali.rd (acy _)) alu.out alv.out (by omega) (by omega)).mono ?_
           rintro e w' ⟨rfl,rfl⟩
           rw [aar,aar,HC.out]
           go_wp2_with fail
           have HLN:Hid (n'≤n''):=Lib.hid (by rw [← alv.out,← alu.out]; exact a7t HLE.out)
           have hnn:=HLN.out
           refine (take_any gb (Uy N') (Uy M') n'' n' cb ca _ (some ⟨ga,0,none⟩) _ ali (acy _) (alh.rd (acy _)) (Nat.le_refl _) (fun _ a e=>by injection e with e; subst e; exact ar0) alv.out alu.out hnn (by omega) (by rw [aar,aar]; exact HLE.out)).mono ?_
           rintro e w7 ⟨ds,rfl,hd7,hw7,hl7,hv7,hg7,hs7⟩
           rw [aar,aar] at hv7
           have a3d:=alh.of_same (hg7.block ga alh.lt (by intro e; injection e with e; exact ar0 e))
           have a1K:=below_of_grown hbw3 hg7 hbw3.size hgb
           have hd9:=hd7.Uy hw7
           rw [hv7] at hd9
           have HN9:Hid ((Uy (N' - M')).length≤n''):=Lib.hid (by have h9:=aon hw7; rwa [hv7,hl7] at h9)
           obtain ⟨n9,hn9⟩ : ∃ n9,n9=(Uy (N' - M')).length:=⟨_,rfl⟩
           have Hn9:=Lib.hid hn9.symm
           have a9U:n9≤n'':=by rw [hn9]; exact HN9.out
           have HV7:=Lib.hid hv7
           have HL7:=Lib.hid hl7
           clear ali alh hg7 hs7 hv7 hl7 hn9
           go_wp2_with fail
           refine (a6O _ ds n'' cb _ _ (hd7.rd hw7) HL7.out (by omega) (by omega)).mono ?_
           rintro e w8 ⟨rfl,rfl⟩
           rw [HV7.out,Hn9.out]
           clear hd7
           go_wp2_with fail
           go_roundg (N' - M'+M')
           case measure=>have h1:=HS.out; have h2:=ank.out.2; have h3:=anl.out.2; have h4:=HLE.out; have h5:=HN0.out; have h6:=HM0.out; omega
           case rel=>exact ⟨N' - M',M',gb,ga,n9,n',cb,ca,rfl,rfl,rfl,Hn9,alu,by omega,by omega,by omega,by omega,hd9,a3d,ar0.symm,hgb,hga,HGT,a1K⟩
          ·have HLE:Hid (N'≤M'):=Lib.hid (by omega)
           obtain ⟨cv,HC,hcv⟩ : ∃ cv:Int,Hid (alg M' N'=cv)∧0≤cv:=by
            rcases Nat.lt_or_ge N' M' with h1 | h1
            ·exact ⟨1,Lib.hid (a4k h1),by omega⟩
            ·exact ⟨0,Lib.hid (a6a (by omega)),by omega⟩
           have HGT:Hid (Gw d (M' - N') N'):=Lib.hid (a7C anl.out.1 HLE.out)
           clear hlt
           go_wp2_with fail
           refine (a3W _ _ (Uy M') (Uy N') n' n'' ca cb _ _ _ (alh.rd (acy _)) (ali.rd (acy _)) alu.out alv.out (by omega) (by omega)).mono ?_
           rintro e w' ⟨rfl,rfl⟩
           rw [aar,aar,HC.out]
           go_wp2_with fail
           have HLN:Hid (n''≤n'):=Lib.hid (by rw [← alu.out,← alv.out]; exact a7t HLE.out)
           have hnn:=HLN.out
           refine (take_any ga (Uy M') (Uy N') n' n'' ca cb _ (some ⟨gb,0,none⟩) _ alh (acy _) (ali.rd (acy _)) (Nat.le_refl _) (fun _ a e=>by injection e with e; subst e; exact ar0.symm) alu.out alv.out hnn (by omega) (by rw [aar,aar]; exact HLE.out)).mono ?_
           rintro e w7 ⟨ds,rfl,hd7,hw7,hl7,hv7,hg7,hs7⟩
           rw [aar,aar] at hv7
           have a3d:=ali.of_same (hg7.block gb ali.lt (by intro e; injection e with e; exact ar0 e.symm))
           have a1K:=below_of_grown hbw3 hg7 hbw3.size hga
           have hd9:=hd7.Uy hw7
           rw [hv7] at hd9
           have HN9:Hid ((Uy (M' - N')).length≤n'):=Lib.hid (by have h9:=aon hw7; rwa [hv7,hl7] at h9)
           obtain ⟨n9,hn9⟩ : ∃ n9,n9=(Uy (M' - N')).length:=⟨_,rfl⟩
           have Hn9:=Lib.hid hn9.symm
           have a9U:n9≤n':=by rw [hn9]; exact HN9.out
           have HV7:=Lib.hid hv7
           have HL7:=Lib.hid hl7
           clear alh ali hg7 hs7 hv7 hl7 hn9
           go_wp2_with fail
           refine (a6O _ ds n' ca _ _ (hd7.rd hw7) HL7.out (by omega) (by omega)).mono ?_
           rintro e w8 ⟨rfl,rfl⟩
           rw [HV7.out,Hn9.out]
           clear hd7
           go_wp2_with fail
           go_roundg (M' - N'+N')
           case measure=>have h1:=HS.out; have h2:=ank.out.2; have h3:=anl.out.2; have h4:=HLE.out; have h5:=HN0.out; have h6:=HM0.out; omega
           case rel=>exact ⟨M' - N',N',ga,gb,n9,n'',ca,cb,rfl,rfl,rfl,Hn9,alv,by omega,by omega,by omega,by omega,hd9,a3d,ar0,hga,hgb,HGT,a1K⟩
end Go.Proofs.YtbihljnjaondcaaGreatDoor
namespace Lw
open Go Go.RowKit
theorem afs.a7m {t:TypeId} {W0 w:World} {bs:List Bx} {L:List En} {M:List Sn} (h:afs t W0 w bs L M) (x y:Value):afs t W0 (w.alloc (.cells #[x,y] t)) (⟨w.heap.size,x,y⟩ :: bs) L M :=
 ⟨h.env.a7m x y,fun e he=>(h.sls e he).next ((Below.refl _ w).alloc (Nat.le_refl _) _)⟩
theorem afs.aNK {t tu:TypeId} {W0 w:World} {bs:List Bx} {L:List En} {M:List Sn} (h:afs t W0 w bs L M):afs t W0 (w.alloc (.cells #[.int .u32 1] tu)) bs L (⟨.slice (some ⟨w.heap.size,0,none⟩) 1 1,[1],1⟩ :: M) :=
 (h.next ((Below.refl _ w).alloc (Nat.le_refl _) _)).cons ⟨some ⟨w.heap.size,0,none⟩,1,1,_,rfl,(Blk.new w tu [1]).rd (by rw [alb]; exact ⟨by omega,ak5⟩),Nat.le_refl _,rfl,Nat.le_refl _,Nat.le_refl _⟩
theorem a4S {w:World} {z:Int} {K:Nat} {A:Option Addr} {c:Nat} (h:Opd w ⟨.agg #[.bool (sg z),.slice A (mg z).length c],z,K,true⟩) : ∃ B,Rd w B A (mg z)∧B≤w.heap.size∧(mg z).length≤c:=by
 obtain ⟨s,A',n,c',ns,B,e1,h2,h3,h4,h5,h6,e7,h8⟩:=h
 dsimp only at e1 e7 h8
 simp at e1
 obtain ⟨rfl,rfl,rfl,rfl⟩:=e1
 have hz:z=if sg z then -(val ns:Int) else (val ns:Int):=by
  unfold zv at e7; rw [h8] at e7; exact e7.symm
 obtain ⟨_,e2,_⟩:=a2E h8 hz h2.wds
 exact ⟨B,by rw [e2]; exact h2,h3,h6⟩
theorem Env.four {t:TypeId} {W0 w:World} {L:List En} {g1 g2 g3 g4:Nat} {x1 y1 x2 y2 x3 y3 x4 y4:Value} (h:Env t W0 w [⟨g4,x4,y4⟩,⟨g1,x1,y1⟩,⟨g2,x2,y2⟩,⟨g3,x3,y3⟩] L) :
  w.cell? ⟨g1,0,none⟩=some x1∧w.cell? ⟨g1,1,none⟩=some y1∧w.cell? ⟨g2,0,none⟩=some x2∧w.cell? ⟨g2,1,none⟩=some y2:=by
 obtain ⟨a1,a2,_,_⟩:=(h.box _ (.tail _ (.head _))).facts
 obtain ⟨b1,b2,_,_⟩:=(h.box _ (.tail _ (.tail _ (.head _)))).facts
 exact ⟨a1,a2,b1,b2⟩
theorem Env.a13 {t:TypeId} {W0 w:World} {L:List En} {g1 g2 g3 g4:Nat} {x1 y1 x2 y2 x3 y3 x4 y4:Value} (h:Env t W0 w [⟨g4,x4,y4⟩,⟨g1,x1,y1⟩,⟨g2,x2,y2⟩,⟨g3,x3,y3⟩] L):Two w g3 t x3 y3:=h.box _ (.tail _ (.tail _ (.tail _ (.head _))))
theorem Env.a14 {t:TypeId} {W0 w:World} {L:List En} {bs:List Bx} {g4:Nat} {x4 y4:Value} (h:Env t W0 w (⟨g4,x4,y4⟩ :: bs) L):Two w g4 t x4 y4:=h.box _ (.head _)
theorem bfz {t:TypeId} {w:World} {g1 g2:Nat} {x1 y1 x2 y2:Value} (h1:Two w g1 t x1 y1) (h2:Two w g2 t x2 y2) :
  w.cell? ⟨g1,0,none⟩=some x1∧w.cell? ⟨g1,1,none⟩=some y1∧w.cell? ⟨g2,0,none⟩=some x2∧w.cell? ⟨g2,1,none⟩=some y2:=⟨h1.facts.1,h1.facts.2.1,h2.facts.1,h2.facts.2.1⟩
theorem Env.a7y {t:TypeId} {W0 w:World} {L:List En} {g1 g2 g3 g4 p:Nat} {x1 y1 x2 y2 x3 y3 x4 y4:Value} (h:Env t W0 w [⟨g4,x4,y4⟩,⟨g1,x1,y1⟩,⟨g2,x2,y2⟩,⟨g3,x3,y3⟩] L) (h1:g1≠p) (h2:g2≠p) (u v:Value) :
  ((w.setCell ⟨p,0,none⟩ u).setCell ⟨p,1,none⟩ v).cell? ⟨g1,0,none⟩=some x1∧((w.setCell ⟨p,0,none⟩ u).setCell ⟨p,1,none⟩ v).cell? ⟨g1,1,none⟩=some y1 ∧
  ((w.setCell ⟨p,0,none⟩ u).setCell ⟨p,1,none⟩ v).cell? ⟨g2,0,none⟩=some x2∧((w.setCell ⟨p,0,none⟩ u).setCell ⟨p,1,none⟩ v).cell? ⟨g2,1,none⟩=some y2 :=
 bfz (((h.box _ (.tail _ (.head _))).far (p:=⟨p,0,none⟩) h1 u).far (p:=⟨p,1,none⟩) h1 v) (((h.box _ (.tail _ (.tail _ (.head _)))).far (p:=⟨p,0,none⟩) h2 u).far (p:=⟨p,1,none⟩) h2 v)
theorem Env.atz {t:TypeId} {W0 w:World} {L:List En} {g1 g2 g3 g4 p q:Nat} {x1 y1 x2 y2 x3 y3 x4 y4:Value} (h:Env t W0 w [⟨g4,x4,y4⟩,⟨g1,x1,y1⟩,⟨g2,x2,y2⟩,⟨g3,x3,y3⟩] L) (h1:g1≠p) (h2:g2≠p) (k1:g1≠q) (k2:g2≠q) (u v u' v':Value) :
  ((((w.setCell ⟨p,0,none⟩ u).setCell ⟨p,1,none⟩ v).setCell ⟨q,0,none⟩ u').setCell ⟨q,1,none⟩ v').cell? ⟨g1,0,none⟩=some x1∧((((w.setCell ⟨p,0,none⟩ u).setCell ⟨p,1,none⟩ v).setCell ⟨q,0,none⟩ u').setCell ⟨q,1,none⟩ v').cell? ⟨g1,1,none⟩=some y1 ∧
  ((((w.setCell ⟨p,0,none⟩ u).setCell ⟨p,1,none⟩ v).setCell ⟨q,0,none⟩ u').setCell ⟨q,1,none⟩ v').cell? ⟨g2,0,none⟩=some x2∧((((w.setCell ⟨p,0,none⟩ u).setCell ⟨p,1,none⟩ v).setCell ⟨q,0,none⟩ u').setCell ⟨q,1,none⟩ v').cell? ⟨g2,1,none⟩=some y2 :=
 bfz (((((h.box _ (.tail _ (.head _))).far (p:=⟨p,0,none⟩) h1 u).far (p:=⟨p,1,none⟩) h1 v).far (p:=⟨q,0,none⟩) k1 u').far (p:=⟨q,1,none⟩) k1 v') (((((h.box _ (.tail _ (.tail _ (.head _)))).far (p:=⟨p,0,none⟩) h2 u).far (p:=⟨p,1,none⟩) h2 v).far (p:=⟨q,0,none⟩) k2 u').far (p:=⟨q,1,none⟩) k2 v')
end Lw
namespace Go.Proofs.YtbihljnjaondcaaGreatDoor
open Go Go.RowKit Lw
section
variable {t:TypeId} {W0 w:World} {bs:List Bx} {L:List En} {M:List Sn} {v u u':Value} {x:Int} {k k':Nat} {b:Bool} {l l':List Nat}
theorem bjl (HE:afs t W0 w bs L M) (h:⟨u,l,k⟩∈M) (h':⟨u',l',k'⟩∈M) (hk:k+k'≤100000) :
  Calls Tryz.prog 217 #[u,u'] w fun e w' => ∃ u,e = .returned u∧afs t W0 w' bs L (⟨u,Uy (Nat.gcd (val l) (val l')),k+k'+1⟩ :: M):=by
 obtain ⟨A,n,c,B,e1,h2,h3,h4,h5,h6⟩:=HE.sls _ h
 obtain ⟨A',n',c',B',e1',h2',h3',h4',h5',h6'⟩:=HE.sls _ h'
 dsimp only at *
 subst e1 e1'
 have hz:(Uy (Nat.gcd (val l) (val l'))).length≤k+k'+1:=aj9 (by
  have h9:=a4P (x:=(val l:Int)) (y:=(val l':Int)) (k:=k) (k':=k') (by rw [Int.natAbs_natCast]; exact Nat.lt_of_lt_of_le (afS h2.wds) (ajj (by omega))) (by rw [Int.natAbs_natCast]; exact Nat.lt_of_lt_of_le (afS h2'.wds) (ajj (by omega)))
  rw [← Int.natCast_add,Int.natAbs_natCast] at h9
  refine Nat.lt_of_le_of_lt ?_ h9
  rcases Nat.eq_zero_or_pos (val l) with e | e
  ·rw [e,Nat.gcd_zero_left]; omega
  ·exact Nat.le_trans (Nat.gcd_le_left _ e) (Nat.le_add_right _ _))
 refine (bm1 A A' l l' n n' c c' B B' w h2 h2' h3 h3' h4 h4' (by omega) (by omega)).mono ?_
 rintro e w' ⟨A9,n9,c9,rfl,hn9,hc9,hr9,hb9⟩
 exact ⟨_,rfl,(HE.next hb9).cons ⟨A9,n9,c9,_,rfl,hr9,Nat.le_refl _,hn9.out,hc9,by rw [← hn9.out]; exact hz⟩⟩
theorem bid (HE:afs t W0 w bs L M) (h:⟨u,l,k⟩∈M) (h':⟨u',l',k'⟩∈M) (hk:k≤50000∧k'≤50000) (hy:0 < val l') :
  Calls Tryz.prog 165 #[u,u'] w fun e w' => ∃ g1 n1 c1 g2 n2 c2,e = .returned (.tuple #[.slice (some ⟨g1,0,none⟩) n1 c1,.slice (some ⟨g2,0,none⟩) n2 c2])∧Hid ((Uy (val l % val l')).length=n2) ∧
   afs t W0 w' bs L (⟨.slice (some ⟨g1,0,none⟩) n1 c1,Uy (val l / val l'),k⟩ :: ⟨.slice (some ⟨g2,0,none⟩) n2 c2,Uy (val l % val l'),k'⟩ :: M):=by
 obtain ⟨A,n,c,B,e1,h2,h3,h4,h5,h6⟩:=HE.sls _ h
 obtain ⟨A',n',c',B',e1',h2',h3',h4',h5',h6'⟩:=HE.sls _ h'
 dsimp only at *
 subst e1 e1'
 refine (bm0 A A' l l' n n' c c' B B' w h2 h2' h3 h3' h4 h4' (by omega) (by omega) hy).mono ?_
 rintro e w' ⟨g1,n1,c1,g2,n2,c2,rfl,hn1,hn2,hc1,hc2,hg1,hg2,hb1,hb2,hb⟩
 have hz1:(Uy (val l / val l')).length≤k:=aj9 (Nat.lt_of_le_of_lt (Nat.div_le_self _ _) (Nat.lt_of_lt_of_le (afS h2.wds) (ajj (by omega))))
 have hz2:(Uy (val l % val l')).length≤k':=aj9 (Nat.lt_trans (Nat.mod_lt _ hy) (Nat.lt_of_lt_of_le (afS h2'.wds) (ajj (by omega))))
 refine ⟨g1,n1,c1,g2,n2,c2,rfl,hn2,((HE.next hb).cons ?_).cons ?_⟩
 ·exact ⟨_,n2,c2,_,rfl,hb2.rd (acy _),Nat.le_refl _,hn2.out,hc2,by rw [← hn2.out]; exact hz2⟩
 ·exact ⟨_,n1,c1,_,rfl,hb1.rd (acy _),Nat.le_refl _,hn1.out,hc1,by rw [← hn1.out]; exact hz1⟩
theorem a4u (s:Bool) (z:Int) (HE:afs t W0 w bs L M) (h:⟨u,l,k⟩∈M) (hk:k≤100000) (hz:z=if s then -(val l:Int) else (val l:Int)) :
  Calls Tryz.prog 161 #[.bool s,u] w fun e w' => ∃ A c,e = .returned (.agg #[.bool (sg z),.slice A (mg z).length c])∧afs t W0 w' bs (⟨.agg #[.bool (sg z),.slice A (mg z).length c],z,(mg z).length,true⟩ :: L) M:=by
 refine (a2Y s z HE h hk hz).mono ?_
 rintro e w' ⟨A,c,rfl,hc,hr,HE⟩
 exact ⟨A,c,rfl,HE.env.cons ⟨sg z,A,_,c,mg z,_,rfl,hr,Nat.le_refl _,rfl,Nat.le_refl _,hc,a1k z,a1f z⟩,HE.sls⟩
theorem a7T {bx:Bool} (HE:afs t W0 w bs L M) (h:⟨v,x,k,b⟩∈L) (hk:k≤100000) (hb:sg x=bx) :
  Calls Tryz.prog 160 #[v] w fun e w'=>e = .returned (.bool bx)∧afs t W0 w' bs L M:=by
 subst hb; exact a2r HE h hk
theorem blN (HE:afs t W0 w bs L M) (h:⟨u,l,k⟩∈M) (h':⟨u',l',k'⟩∈M) (hk:k+k'≤100000) :
  Calls Tryz.prog 162 #[u,u'] w fun e w' => ∃ up,e = .returned up∧afs t W0 w' bs L (⟨up,Uy (val l+val l'),k+k'+1⟩ :: M):=bej HE h h' hk
end
set_option maxRecDepth 100000 in
set_option maxHeartbeats 4000000 in
theorem bmT (s s':Bool) (A A':Option Addr) (ns ms:List Nat) (n m c c' B B':Nat) (w:World) (h:Rd w B A ns) (h':Rd w B' A' ms) (hB:B≤w.heap.size) (hB':B'≤w.heap.size)
  (hn:ns.length=n) (hm:ms.length=m) (hl:n≤10000) (hl':m≤10000) (hc:n≤c) (hc':m≤c') :
  Calls Tryz.prog 168 #[.agg #[.bool s,.slice A n c],.agg #[.bool s',.slice A' m c']] w (atE w ((Nat.gcd (zv s ns).natAbs (zv s' ms).natAbs:Nat):Int)):=by
 have HE:=a5W (s1:=s) (s2:=s') 39 h h' hB hB' hn hm hc hc' (Nat.le_refl n) (Nat.le_refl m)
 clear h h'
 generalize zv s ns=x at *
 generalize zv s' ms=y at *
 generalize vB s ns=bb at *
 generalize vB s' ms=bb' at *
 go_enter Tryz.func168,Tryz.ntmps168
 go_wp2_with fail
 go_region_held3 (fun w'=>w'.cell? ⟨w.heap.size,0,none⟩=some (.bool s)∧w'.cell? ⟨w.heap.size,1,none⟩=some (.slice A n c)∧w'.cell? ⟨w.heap.size+1,0,none⟩=some (.bool s')∧w'.cell? ⟨w.heap.size+1,1,none⟩=some (.slice A' m c')) (first | exact HE.env.atA | exact HE.drew.env.atA | exact HE.env.anq (by omega) (by omega) _ _)
  (first
   | (go_at_call 159; refine (a4Q (by first | exact HE | exact HE.drew) (by first | exact .head _ | exact .tail _ (.head _) | exact .tail _ (.tail _ (.head _)) | exact .tail _ (.tail _ (.tail _ (.head _))) | exact .tail _ (.tail _ (.tail _ (.tail _ (.head _)))) | exact .tail _ (.tail _ (.tail _ (.tail _ (.tail _ (.head _))))) | exact .tail _ (.tail _ (.tail _ (.tail _ (.tail _ (.tail _ (.head _))))))) (by omega)).mono ?_; rintro e wn ⟨u,rfl,HE⟩)
   | (go_at_call 217; refine (bjl (by first | exact HE | exact HE.drew) (by first | exact .head _ | exact .tail _ (.head _) | exact .tail _ (.tail _ (.head _)) | exact .tail _ (.tail _ (.tail _ (.head _))) | exact .tail _ (.tail _ (.tail _ (.tail _ (.head _)))) | exact .tail _ (.tail _ (.tail _ (.tail _ (.tail _ (.head _))))) | exact .tail _ (.tail _ (.tail _ (.tail _ (.tail _ (.tail _ (.head _))))))) (by first | exact .head _ | exact .tail _ (.head _) | exact .tail _ (.tail _ (.head _)) | exact .tail _ (.tail _ (.tail _ (.head _))) | exact .tail _ (.tail _ (.tail _ (.tail _ (.head _)))) | exact .tail _ (.tail _ (.tail _ (.tail _ (.tail _ (.head _))))) | exact .tail _ (.tail _ (.tail _ (.tail _ (.tail _ (.tail _ (.head _))))))) (by omega)).mono ?_; rintro e wn ⟨u,rfl,HE⟩)
   | (go_at_call 161; refine (a2Y false ((Nat.gcd x.natAbs y.natAbs:Nat):Int) (by first | exact HE | exact HE.drew) (by first | exact .head _ | exact .tail _ (.head _) | exact .tail _ (.tail _ (.head _)) | exact .tail _ (.tail _ (.tail _ (.head _))) | exact .tail _ (.tail _ (.tail _ (.tail _ (.head _)))) | exact .tail _ (.tail _ (.tail _ (.tail _ (.tail _ (.head _))))) | exact .tail _ (.tail _ (.tail _ (.tail _ (.tail _ (.tail _ (.head _))))))) (by omega) (by rw [aar,aiz,aiz]; rfl)).mono ?_; rintro e wn ⟨A9,c9,rfl,hc9,hr9,HE⟩; obtain ⟨f0,f1,f2,f3⟩:=HE.env.third.facts))
 go_wp2
 refine bodyPost_ret (v := .agg #[.bool (sg ((Nat.gcd x.natAbs y.natAbs:Nat):Int)),.slice A9 (mg ((Nat.gcd x.natAbs y.natAbs:Nat):Int)).length c9]) (by simp [results,Tryz.results168,go_sem,f0,f1]) rfl ?_
 exact alf HE.env.third hr9 (Nat.le_refl _) hc9 HE.env.below (by omega)
def DQ (z z':Int) (er:Value) (w:World) (e:Ending) (w':World):Prop :=
 ∃ (A A':Option Addr) (c c':Nat),e = .returned (.tuple #[.agg #[.bool (sg z),.slice A (mg z).length c],.agg #[.bool (sg z'),.slice A' (mg z').length c'],er])∧(mg z).length≤c∧(mg z').length≤c'∧Rd w' w'.heap.size A (mg z)∧Rd w' w'.heap.size A' (mg z')∧Below w.heap.size w w'
set_option maxRecDepth 100000 in
set_option maxHeartbeats 6400000 in
theorem bmS (s s':Bool) (A A':Option Addr) (ns ms:List Nat) (n m c c' B B':Nat) (w:World) (h:Rd w B A ns) (h':Rd w B' A' ms) (hB:B≤w.heap.size) (hB':B'≤w.heap.size)
  (hn:ns.length=n) (hm:ms.length=m) (hl:n≤10000) (hl':m≤10000) (hc:n≤c) (hc':m≤c') (hy:zv s' ms≠0) :
  Calls Tryz.prog 99 #[.agg #[.bool s,.slice A n c],.agg #[.bool s',.slice A' m c']] w (DQ (zv s ns / zv s' ms) (zv s ns % zv s' ms) (.int .i64 0) w):=by
 have HE:=(a5W (s1:=s) (s2:=s') 39 h h' hB hB' hn hm hc hc' (Nat.le_refl n) (Nat.le_refl m)).a7m (.bool false) (.slice none 0 0)
 rw [World.size_alloc,World.size_alloc,World.size_alloc] at HE
 have hsy:=fun W (hR:Rd W B' A' ms) hB=>beI s' A' ms m c' B' W hR hB hm (by omega) hc'
 have hrs:=h'
 generalize zv s ns=x at *
 generalize zv s' ms=y at *
 generalize vB s ns=bb at *
 generalize vB s' ms=bb' at *
 have HSY:=Lib.hid hsy
 have hsq:(afm y==0)=false:=by
  rw [beq_eq_false_iff_ne]; unfold afm; split <;> (try split) <;> omega
 obtain ⟨sy,bdo⟩ : ∃ sy,sy=afm y:=⟨_,rfl⟩
 rw [← bdo] at HSY hsq
 have HYP:Hid (0 < val (mg y)):=Lib.hid (by rw [aiz]; omega)
 obtain ⟨bx,hbx⟩ : ∃ b,sg x=b:=⟨_,rfl⟩
 obtain ⟨by',hby⟩ : ∃ b,sg y=b:=⟨_,rfl⟩
 have hfo:=bcv (z:=x) hy
 rw [hbx,hby] at hfo
 have HFO:=Lib.hid hfo
 have HBX:=Lib.hid hbx
 have HBY:=Lib.hid hby
 obtain ⟨bo,hbo⟩ : ∃ b,(bx != by')=b:=⟨_,rfl⟩
 have HBO:=Lib.hid hbo
 clear hbx hby hfo hbo
 clear h hsy bdo hy
 go_enter Tryz.func99,Tryz.ntmps99
 obtain ⟨q1,q2,q3,q4⟩:=HE.env.four
 go_wp2_with fail
 refine (HSY.out _ (hrs.next (HE.env.below) hB') (Nat.le_trans hB' HE.env.below.size)).mono ?_
 rintro e wn ⟨rfl,hbn⟩
 have HE:=HE.next hbn
 clear q1 q2 q3 q4 hbn hrs HSY
 go_wp2_with fail
 go_region_held3 (fun w'=>w'.cell? ⟨w.heap.size,0,none⟩=some (.bool s)∧w'.cell? ⟨w.heap.size,1,none⟩=some (.slice A n c)∧w'.cell? ⟨w.heap.size+1,0,none⟩=some (.bool s')∧w'.cell? ⟨w.heap.size+1,1,none⟩=some (.slice A' m c')) (with_reducible first | exact HE.env.four | exact HE.drew.env.four | exact HE.env.a7y (by omega) (by omega) _ _ | exact HE.env.atz (by omega) (by omega) (by omega) (by omega) _ _ _ _)
  (first
   | (go_at_call 159; refine (a4Q (by first | exact HE | exact HE.drew) (by first | exact .head _ | exact .tail _ (.head _) | exact .tail _ (.tail _ (.head _)) | exact .tail _ (.tail _ (.tail _ (.head _))) | exact .tail _ (.tail _ (.tail _ (.tail _ (.head _)))) | exact .tail _ (.tail _ (.tail _ (.tail _ (.tail _ (.head _))))) | exact .tail _ (.tail _ (.tail _ (.tail _ (.tail _ (.tail _ (.head _))))))) (by omega)).mono ?_; rintro e wn ⟨u,rfl,HE⟩)
   | (go_at_call 165; refine (bid (by first | exact HE | exact HE.drew) (by first | exact .head _ | exact .tail _ (.head _) | exact .tail _ (.tail _ (.head _)) | exact .tail _ (.tail _ (.tail _ (.head _))) | exact .tail _ (.tail _ (.tail _ (.tail _ (.head _)))) | exact .tail _ (.tail _ (.tail _ (.tail _ (.tail _ (.head _))))) | exact .tail _ (.tail _ (.tail _ (.tail _ (.tail _ (.tail _ (.head _))))))) (by first | exact .head _ | exact .tail _ (.head _) | exact .tail _ (.tail _ (.head _)) | exact .tail _ (.tail _ (.tail _ (.head _))) | exact .tail _ (.tail _ (.tail _ (.tail _ (.head _)))) | exact .tail _ (.tail _ (.tail _ (.tail _ (.tail _ (.head _))))) | exact .tail _ (.tail _ (.tail _ (.tail _ (.tail _ (.tail _ (.head _))))))) (by omega) HYP.out).mono ?_; rintro e wn ⟨g1,n1,c1,g2,n2,c2,rfl,hn2,HE⟩))
 all_goals
  have HR2:Hid (x.natAbs % y.natAbs=0↔n2=0):=Lib.hid (by
   have h9:=hn2.out
   rw [aiz,aiz] at h9
   rw [← h9,List.length_eq_zero_iff,ak4])
  have HRL:Hid (val (Uy (val (mg x) % val (mg y)))≤val (mg y)):=Lib.hid (by rw [aar]; exact Nat.le_of_lt (Nat.mod_lt _ HYP.out))
  obtain ⟨q1,q2,q3,q4⟩:=HE.env.four
  go_wp2_with fail
  refine (a7T HE (by first | exact .head _ | exact .tail _ (.head _) | exact .tail _ (.tail _ (.head _)) | exact .tail _ (.tail _ (.tail _ (.head _))) | exact .tail _ (.tail _ (.tail _ (.tail _ (.head _)))) | exact .tail _ (.tail _ (.tail _ (.tail _ (.tail _ (.head _))))) | exact .tail _ (.tail _ (.tail _ (.tail _ (.tail _ (.tail _ (.head _))))))) (by omega) HBX.out).mono ?_
  rintro e wn ⟨rfl,HE⟩
  clear q1 q2 q3 q4
  by_cases hsg:bx=true
  case neg =>
   have bdk:bx=false:=by cases bx; rfl; exact absurd rfl hsg
   have HF:=Lib.hid (HFO.out.2.2 (.inl bdk))
   clear hsg
   go_wp2_with fail
   clear bdk
   have hbo:=HBO.out
   have HS1:Hid (x / y=if bo=true then -(val (Uy (val (mg x) / val (mg y))):Int) else (val (Uy (val (mg x) / val (mg y))):Int)):=Lib.hid (by rw [HF.out.1,hbo]; simp only [aar,aiz]; rfl)
   have HS2:Hid (x % y=if false=true then -(val (Uy (val (mg x) % val (mg y))):Int) else (val (Uy (val (mg x) % val (mg y))):Int)):=Lib.hid (by rw [HF.out.2]; simp only [aar,aiz]; rfl)
   have bc6:(!(bx==by'))=bo:=hbo
   clear hbo
   go_region_held3 (fun w'=>w'.cell? ⟨w.heap.size,0,none⟩=some (.bool s)∧w'.cell? ⟨w.heap.size,1,none⟩=some (.slice A n c)∧w'.cell? ⟨w.heap.size+1,0,none⟩=some (.bool s')∧w'.cell? ⟨w.heap.size+1,1,none⟩=some (.slice A' m c')) (with_reducible first | exact HE.env.four | exact HE.drew.env.four | exact HE.env.a7y (by omega) (by omega) _ _ | exact HE.env.atz (by omega) (by omega) (by omega) (by omega) _ _ _ _)
    (first
     | (go_at_call 160; refine (a7T (by first | exact HE | exact HE.drew) (by first | exact .head _ | exact .tail _ (.head _) | exact .tail _ (.tail _ (.head _)) | exact .tail _ (.tail _ (.tail _ (.head _))) | exact .tail _ (.tail _ (.tail _ (.tail _ (.head _)))) | exact .tail _ (.tail _ (.tail _ (.tail _ (.tail _ (.head _))))) | exact .tail _ (.tail _ (.tail _ (.tail _ (.tail _ (.tail _ (.head _))))))) (by omega) (by first | exact HBX.out | exact HBY.out)).mono ?_; rintro e wn ⟨rfl,HE⟩)
     | (go_at_call 161; (with_reducible show Calls _ _ #[Value.bool bo,_] _ _); refine (a4u (l:=Uy (val (mg x) / val (mg y))) (k:=n) bo (x / y) (by first | exact HE | exact HE.drew) ?_ (by omega) HS1.out).mono ?_; (first | exact .head _ | exact .tail _ (.head _) | exact .tail _ (.tail _ (.head _)) | exact .tail _ (.tail _ (.tail _ (.head _))) | exact .tail _ (.tail _ (.tail _ (.tail _ (.head _)))) | exact .tail _ (.tail _ (.tail _ (.tail _ (.tail _ (.head _))))) | exact .tail _ (.tail _ (.tail _ (.tail _ (.tail _ (.tail _ (.head _))))))); rintro e wn ⟨A9,c9,rfl,HE⟩; obtain ⟨f0,f1,f2,f3⟩:=HE.env.a13.facts; obtain ⟨f4,f5,f6,f7⟩:=HE.env.a14.facts)
     | (go_at_call 161; (with_reducible show Calls _ _ #[Value.bool false,_] _ _); refine (a4u (l:=Uy (val (mg x) % val (mg y))) (k:=m) false (x % y) (by first | exact HE | exact HE.drew) ?_ (by omega) HS2.out).mono ?_; (first | exact .head _ | exact .tail _ (.head _) | exact .tail _ (.tail _ (.head _)) | exact .tail _ (.tail _ (.tail _ (.head _))) | exact .tail _ (.tail _ (.tail _ (.tail _ (.head _)))) | exact .tail _ (.tail _ (.tail _ (.tail _ (.tail _ (.head _))))) | exact .tail _ (.tail _ (.tail _ (.tail _ (.tail _ (.tail _ (.head _))))))); rintro e wn ⟨A8,c8,rfl,HE⟩; obtain ⟨f0,f1,f2,f3⟩:=HE.env.a13.facts; obtain ⟨f4,f5,f6,f7⟩:=HE.env.a14.facts))
   all_goals
    obtain ⟨B9,hr9,hB9,hc9⟩:=a4S (HE.env.ops ⟨.agg #[.bool (sg (x / y)),.slice A9 (mg (x / y)).length c9],x / y,_,true⟩ (by first | exact .head _ | exact .tail _ (.head _)))
    obtain ⟨B8,hr8,hB8,hc8⟩:=a4S (HE.env.ops ⟨.agg #[.bool (sg (x % y)),.slice A8 (mg (x % y)).length c8],x % y,_,true⟩ (by first | exact .head _ | exact .tail _ (.head _)))
    obtain ⟨p1,p2,p3,p4,p5⟩:=azm (sg (x / y)) (sg (x % y)) (.slice A9 (mg (x / y)).length c9) (.slice A8 (mg (x % y)).length c8) HE.env.a13 HE.env.a14 (by omega) hr9 hr8 HE.env.below (by omega) (by omega)
    clear f0 f1 f2 f3 f4 f5 f6 f7
    obtain ⟨f0,f1,_,_⟩:=p1.facts
    obtain ⟨f4,f5,_,_⟩:=p2.facts
    go_wp2_with fail
    refine bodyPost_ret (v := .tuple #[.agg #[.bool (sg (x / y)),.slice A9 (mg (x / y)).length c9],.agg #[.bool (sg (x % y)),.slice A8 (mg (x % y)).length c8],.int .i64 0]) (by simp [results,Tryz.results99,go_sem,f0,f1,f4,f5]) rfl ?_
    exact ⟨A9,A8,c9,c8,rfl,hc9,hc8,p3.more (by simpa using hB9),p4.more (by simpa using hB8),p5⟩
  case pos =>
   by_cases hn0:n2=0
   ·have HF:=Lib.hid (HFO.out.2.2 (.inr (HR2.out.2 hn0)))
    subst hn0
    go_wp2_with fail
    clear hsg
    have hbo:=HBO.out
    have HS1:Hid (x / y=if bo=true then -(val (Uy (val (mg x) / val (mg y))):Int) else (val (Uy (val (mg x) / val (mg y))):Int)):=Lib.hid (by rw [HF.out.1,hbo]; simp only [aar,aiz]; rfl)
    have HS2:Hid (x % y=if false=true then -(val (Uy (val (mg x) % val (mg y))):Int) else (val (Uy (val (mg x) % val (mg y))):Int)):=Lib.hid (by rw [HF.out.2]; simp only [aar,aiz]; rfl)
    have bc6:(!(bx==by'))=bo:=hbo
    clear hbo
    go_region_held3 (fun w'=>w'.cell? ⟨w.heap.size,0,none⟩=some (.bool s)∧w'.cell? ⟨w.heap.size,1,none⟩=some (.slice A n c)∧w'.cell? ⟨w.heap.size+1,0,none⟩=some (.bool s')∧w'.cell? ⟨w.heap.size+1,1,none⟩=some (.slice A' m c')) (with_reducible first | exact HE.env.four | exact HE.drew.env.four | exact HE.env.a7y (by omega) (by omega) _ _ | exact HE.env.atz (by omega) (by omega) (by omega) (by omega) _ _ _ _)
     (first
      | (go_at_call 160; refine (a7T (by first | exact HE | exact HE.drew) (by first | exact .head _ | exact .tail _ (.head _) | exact .tail _ (.tail _ (.head _)) | exact .tail _ (.tail _ (.tail _ (.head _))) | exact .tail _ (.tail _ (.tail _ (.tail _ (.head _)))) | exact .tail _ (.tail _ (.tail _ (.tail _ (.tail _ (.head _))))) | exact .tail _ (.tail _ (.tail _ (.tail _ (.tail _ (.tail _ (.head _))))))) (by omega) (by first | exact HBX.out | exact HBY.out)).mono ?_; rintro e wn ⟨rfl,HE⟩)
      | (go_at_call 161; (with_reducible show Calls _ _ #[Value.bool bo,_] _ _); refine (a4u (l:=Uy (val (mg x) / val (mg y))) (k:=n) bo (x / y) (by first | exact HE | exact HE.drew) ?_ (by omega) HS1.out).mono ?_; (first | exact .head _ | exact .tail _ (.head _) | exact .tail _ (.tail _ (.head _)) | exact .tail _ (.tail _ (.tail _ (.head _))) | exact .tail _ (.tail _ (.tail _ (.tail _ (.head _)))) | exact .tail _ (.tail _ (.tail _ (.tail _ (.tail _ (.head _))))) | exact .tail _ (.tail _ (.tail _ (.tail _ (.tail _ (.tail _ (.head _))))))); rintro e wn ⟨A9,c9,rfl,HE⟩; obtain ⟨f0,f1,f2,f3⟩:=HE.env.a13.facts; obtain ⟨f4,f5,f6,f7⟩:=HE.env.a14.facts)
      | (go_at_call 161; (with_reducible show Calls _ _ #[Value.bool false,_] _ _); refine (a4u (l:=Uy (val (mg x) % val (mg y))) (k:=m) false (x % y) (by first | exact HE | exact HE.drew) ?_ (by omega) HS2.out).mono ?_; (first | exact .head _ | exact .tail _ (.head _) | exact .tail _ (.tail _ (.head _)) | exact .tail _ (.tail _ (.tail _ (.head _))) | exact .tail _ (.tail _ (.tail _ (.tail _ (.head _)))) | exact .tail _ (.tail _ (.tail _ (.tail _ (.tail _ (.head _))))) | exact .tail _ (.tail _ (.tail _ (.tail _ (.tail _ (.tail _ (.head _))))))); rintro e wn ⟨A8,c8,rfl,HE⟩; obtain ⟨f0,f1,f2,f3⟩:=HE.env.a13.facts; obtain ⟨f4,f5,f6,f7⟩:=HE.env.a14.facts))
    all_goals
     obtain ⟨B9,hr9,hB9,hc9⟩:=a4S (HE.env.ops ⟨.agg #[.bool (sg (x / y)),.slice A9 (mg (x / y)).length c9],x / y,_,true⟩ (by first | exact .head _ | exact .tail _ (.head _)))
     obtain ⟨B8,hr8,hB8,hc8⟩:=a4S (HE.env.ops ⟨.agg #[.bool (sg (x % y)),.slice A8 (mg (x % y)).length c8],x % y,_,true⟩ (by first | exact .head _ | exact .tail _ (.head _)))
     obtain ⟨p1,p2,p3,p4,p5⟩:=azm (sg (x / y)) (sg (x % y)) (.slice A9 (mg (x / y)).length c9) (.slice A8 (mg (x % y)).length c8) HE.env.a13 HE.env.a14 (by omega) hr9 hr8 HE.env.below (by omega) (by omega)
     clear f0 f1 f2 f3 f4 f5 f6 f7
     obtain ⟨f0,f1,_,_⟩:=p1.facts
     obtain ⟨f4,f5,_,_⟩:=p2.facts
     go_wp2_with fail
     refine bodyPost_ret (v := .tuple #[.agg #[.bool (sg (x / y)),.slice A9 (mg (x / y)).length c9],.agg #[.bool (sg (x % y)),.slice A8 (mg (x % y)).length c8],.int .i64 0]) (by simp [results,Tryz.results99,go_sem,f0,f1,f4,f5]) rfl ?_
     exact ⟨A9,A8,c9,c8,rfl,hc9,hc8,p3.more (by simpa using hB9),p4.more (by simpa using hB8),p5⟩
   ·have hnp:0 < n2:=by omega
    have HF:=Lib.hid (HFO.out.2.1 hsg (fun e=>hn0 (HR2.out.1 e)))
    clear hn0
    go_wp2_with fail
    clear hsg
    go_region_held3 (fun w'=>w'.cell? ⟨w.heap.size,0,none⟩=some (.bool s)∧w'.cell? ⟨w.heap.size,1,none⟩=some (.slice A n c)∧w'.cell? ⟨w.heap.size+1,0,none⟩=some (.bool s')∧w'.cell? ⟨w.heap.size+1,1,none⟩=some (.slice A' m c')) (with_reducible first | exact HE.env.four | exact HE.drew.env.four | exact HE.aNK.env.four | exact HE.aNK.drew.env.four | exact HE.drew.aNK.env.four)
     (first
      | (go_at_call 159; refine (a4Q (by first | exact HE | exact HE.drew | exact HE.aNK | exact HE.aNK.drew | exact HE.drew.aNK) (by first | exact .head _ | exact .tail _ (.head _) | exact .tail _ (.tail _ (.head _)) | exact .tail _ (.tail _ (.tail _ (.head _))) | exact .tail _ (.tail _ (.tail _ (.tail _ (.head _)))) | exact .tail _ (.tail _ (.tail _ (.tail _ (.tail _ (.head _))))) | exact .tail _ (.tail _ (.tail _ (.tail _ (.tail _ (.tail _ (.head _))))))) (by omega)).mono ?_; rintro e wn ⟨u,rfl,HE⟩)
      | (go_at_call 162; refine (blN (by first | exact HE | exact HE.drew | exact HE.aNK | exact HE.aNK.drew | exact HE.drew.aNK) (by first | exact .head _ | exact .tail _ (.head _) | exact .tail _ (.tail _ (.head _)) | exact .tail _ (.tail _ (.tail _ (.head _))) | exact .tail _ (.tail _ (.tail _ (.tail _ (.head _)))) | exact .tail _ (.tail _ (.tail _ (.tail _ (.tail _ (.head _))))) | exact .tail _ (.tail _ (.tail _ (.tail _ (.tail _ (.tail _ (.head _))))))) (by first | exact .head _ | exact .tail _ (.head _) | exact .tail _ (.tail _ (.head _)) | exact .tail _ (.tail _ (.tail _ (.head _))) | exact .tail _ (.tail _ (.tail _ (.tail _ (.head _)))) | exact .tail _ (.tail _ (.tail _ (.tail _ (.tail _ (.head _))))) | exact .tail _ (.tail _ (.tail _ (.tail _ (.tail _ (.tail _ (.head _))))))) (by omega)).mono ?_; rintro e wn ⟨up,rfl,HE⟩)
      | (go_at_call 164; refine (bat (by first | exact HE | exact HE.drew | exact HE.aNK | exact HE.aNK.drew | exact HE.drew.aNK) (by first | exact .head _ | exact .tail _ (.head _) | exact .tail _ (.tail _ (.head _)) | exact .tail _ (.tail _ (.tail _ (.head _))) | exact .tail _ (.tail _ (.tail _ (.tail _ (.head _)))) | exact .tail _ (.tail _ (.tail _ (.tail _ (.tail _ (.head _))))) | exact .tail _ (.tail _ (.tail _ (.tail _ (.tail _ (.tail _ (.head _))))))) (by first | exact .head _ | exact .tail _ (.head _) | exact .tail _ (.tail _ (.head _)) | exact .tail _ (.tail _ (.tail _ (.head _))) | exact .tail _ (.tail _ (.tail _ (.tail _ (.head _)))) | exact .tail _ (.tail _ (.tail _ (.tail _ (.tail _ (.head _))))) | exact .tail _ (.tail _ (.tail _ (.tail _ (.tail _ (.tail _ (.head _))))))) (by omega) (aj7 _) HRL.out).mono ?_; rintro e wn ⟨um,rfl,HE⟩))
    all_goals
     go_wp2_with fail
     have hbo:=HBO.out
     have HS1:Hid (x / y=if bo=true then -(val (Uy (val (Uy (val (mg x) / val (mg y)))+val [1])):Int) else (val (Uy (val (Uy (val (mg x) / val (mg y)))+val [1])):Int)):=Lib.hid (by rw [HF.out.1,hbo]; simp only [aar,aiz]; rfl)
     have HS2:Hid (x % y=if false=true then -(val (Uy (val (mg y) - val (Uy (val (mg x) % val (mg y))))):Int) else (val (Uy (val (mg y) - val (Uy (val (mg x) % val (mg y))))):Int)):=Lib.hid (by rw [HF.out.2]; simp only [aar,aiz]; rfl)
     have bc6:(!(bx==by'))=bo:=hbo
     clear hbo
     go_region_held3 (fun w'=>w'.cell? ⟨w.heap.size,0,none⟩=some (.bool s)∧w'.cell? ⟨w.heap.size,1,none⟩=some (.slice A n c)∧w'.cell? ⟨w.heap.size+1,0,none⟩=some (.bool s')∧w'.cell? ⟨w.heap.size+1,1,none⟩=some (.slice A' m c')) (with_reducible first | exact HE.env.four | exact HE.drew.env.four | exact HE.env.a7y (by omega) (by omega) _ _ | exact HE.env.atz (by omega) (by omega) (by omega) (by omega) _ _ _ _)
      (first
       | (go_at_call 160; refine (a7T (by first | exact HE | exact HE.drew) (by first | exact .head _ | exact .tail _ (.head _) | exact .tail _ (.tail _ (.head _)) | exact .tail _ (.tail _ (.tail _ (.head _))) | exact .tail _ (.tail _ (.tail _ (.tail _ (.head _)))) | exact .tail _ (.tail _ (.tail _ (.tail _ (.tail _ (.head _))))) | exact .tail _ (.tail _ (.tail _ (.tail _ (.tail _ (.tail _ (.head _))))))) (by omega) (by first | exact HBX.out | exact HBY.out)).mono ?_; rintro e wn ⟨rfl,HE⟩)
       | (go_at_call 161; (with_reducible show Calls _ _ #[Value.bool bo,_] _ _); refine (a4u (l:=Uy (val (Uy (val (mg x) / val (mg y)))+val [1])) (k:=n+1+1) bo (x / y) (by first | exact HE | exact HE.drew) ?_ (by omega) HS1.out).mono ?_; (first | exact .head _ | exact .tail _ (.head _) | exact .tail _ (.tail _ (.head _)) | exact .tail _ (.tail _ (.tail _ (.head _))) | exact .tail _ (.tail _ (.tail _ (.tail _ (.head _)))) | exact .tail _ (.tail _ (.tail _ (.tail _ (.tail _ (.head _))))) | exact .tail _ (.tail _ (.tail _ (.tail _ (.tail _ (.tail _ (.head _))))))); rintro e wn ⟨A9,c9,rfl,HE⟩; obtain ⟨f0,f1,f2,f3⟩:=HE.env.a13.facts; obtain ⟨f4,f5,f6,f7⟩:=HE.env.a14.facts)
       | (go_at_call 161; (with_reducible show Calls _ _ #[Value.bool false,_] _ _); refine (a4u (l:=Uy (val (mg y) - val (Uy (val (mg x) % val (mg y))))) (k:=m) false (x % y) (by first | exact HE | exact HE.drew) ?_ (by omega) HS2.out).mono ?_; (first | exact .head _ | exact .tail _ (.head _) | exact .tail _ (.tail _ (.head _)) | exact .tail _ (.tail _ (.tail _ (.head _))) | exact .tail _ (.tail _ (.tail _ (.tail _ (.head _)))) | exact .tail _ (.tail _ (.tail _ (.tail _ (.tail _ (.head _))))) | exact .tail _ (.tail _ (.tail _ (.tail _ (.tail _ (.tail _ (.head _))))))); rintro e wn ⟨A8,c8,rfl,HE⟩; obtain ⟨f0,f1,f2,f3⟩:=HE.env.a13.facts; obtain ⟨f4,f5,f6,f7⟩:=HE.env.a14.facts))
     all_goals
      obtain ⟨B9,hr9,hB9,hc9⟩:=a4S (HE.env.ops ⟨.agg #[.bool (sg (x / y)),.slice A9 (mg (x / y)).length c9],x / y,_,true⟩ (by first | exact .head _ | exact .tail _ (.head _)))
      obtain ⟨B8,hr8,hB8,hc8⟩:=a4S (HE.env.ops ⟨.agg #[.bool (sg (x % y)),.slice A8 (mg (x % y)).length c8],x % y,_,true⟩ (by first | exact .head _ | exact .tail _ (.head _)))
      obtain ⟨p1,p2,p3,p4,p5⟩:=azm (sg (x / y)) (sg (x % y)) (.slice A9 (mg (x / y)).length c9) (.slice A8 (mg (x % y)).length c8) HE.env.a13 HE.env.a14 (by omega) hr9 hr8 HE.env.below (by omega) (by omega)
      clear f0 f1 f2 f3 f4 f5 f6 f7
      obtain ⟨f0,f1,_,_⟩:=p1.facts
      obtain ⟨f4,f5,_,_⟩:=p2.facts
      go_wp2_with fail
      refine bodyPost_ret (v := .tuple #[.agg #[.bool (sg (x / y)),.slice A9 (mg (x / y)).length c9],.agg #[.bool (sg (x % y)),.slice A8 (mg (x % y)).length c8],.int .i64 0]) (by simp [results,Tryz.results99,go_sem,f0,f1,f4,f5]) rfl ?_
      exact ⟨A9,A8,c9,c8,rfl,hc9,hc8,p3.more (by simpa using hB9),p4.more (by simpa using hB8),p5⟩
end Go.Proofs.YtbihljnjaondcaaGreatDoor
namespace Lw
open Go Go.RowKit
theorem Env.bb8 {t:TypeId} {W0 w:World} {L:List En} {g0 g1 g2 g3 g4 g5 g6 g7:Nat} {x0 y0 x1 y1 x2 y2 x3 y3 x4 y4 x5 y5 x6 y6 x7 y7:Value} (h:Env t W0 w [⟨g0,x0,y0⟩,⟨g1,x1,y1⟩,⟨g2,x2,y2⟩,⟨g3,x3,y3⟩,⟨g4,x4,y4⟩,⟨g5,x5,y5⟩,⟨g6,x6,y6⟩,⟨g7,x7,y7⟩] L) :
  w.cell? ⟨g0,0,none⟩=some x0∧w.cell? ⟨g0,1,none⟩=some y0∧w.cell? ⟨g1,0,none⟩=some x1∧w.cell? ⟨g1,1,none⟩=some y1∧w.cell? ⟨g2,0,none⟩=some x2∧w.cell? ⟨g2,1,none⟩=some y2∧w.cell? ⟨g3,0,none⟩=some x3∧w.cell? ⟨g3,1,none⟩=some y3∧w.cell? ⟨g4,0,none⟩=some x4∧w.cell? ⟨g4,1,none⟩=some y4∧w.cell? ⟨g5,0,none⟩=some x5∧w.cell? ⟨g5,1,none⟩=some y5∧w.cell? ⟨g6,0,none⟩=some x6∧w.cell? ⟨g6,1,none⟩=some y6∧w.cell? ⟨g7,0,none⟩=some x7∧w.cell? ⟨g7,1,none⟩=some y7 :=
 ⟨(h.box _ (.head _)).facts.1,(h.box _ (.head _)).facts.2.1,(h.box _ (.tail _ (.head _))).facts.1,(h.box _ (.tail _ (.head _))).facts.2.1,(h.box _ (.tail _ (.tail _ (.head _)))).facts.1,(h.box _ (.tail _ (.tail _ (.head _)))).facts.2.1,(h.box _ (.tail _ (.tail _ (.tail _ (.head _))))).facts.1,(h.box _ (.tail _ (.tail _ (.tail _ (.head _))))).facts.2.1,(h.box _ (.tail _ (.tail _ (.tail _ (.tail _ (.head _)))))).facts.1,(h.box _ (.tail _ (.tail _ (.tail _ (.tail _ (.head _)))))).facts.2.1,(h.box _ (.tail _ (.tail _ (.tail _ (.tail _ (.tail _ (.head _))))))).facts.1,(h.box _ (.tail _ (.tail _ (.tail _ (.tail _ (.tail _ (.head _))))))).facts.2.1,(h.box _ (.tail _ (.tail _ (.tail _ (.tail _ (.tail _ (.tail _ (.head _)))))))).facts.1,(h.box _ (.tail _ (.tail _ (.tail _ (.tail _ (.tail _ (.tail _ (.head _)))))))).facts.2.1,(h.box _ (.tail _ (.tail _ (.tail _ (.tail _ (.tail _ (.tail _ (.tail _ (.head _))))))))).facts.1,(h.box _ (.tail _ (.tail _ (.tail _ (.tail _ (.tail _ (.tail _ (.tail _ (.head _))))))))).facts.2.1⟩
end Lw
namespace Go.Proofs.YtbihljnjaondcaaGreatDoor
open Go Go.RowKit Lw
theorem bm2 {t:TypeId} {W0 w:World} {bs:List Bx} {L:List En} {v v':Value} {x y:Int} {k k':Nat} {b b':Bool} (HE:Env t W0 w bs L) (h:⟨v,x,k,b⟩∈L) (h':⟨v',y,k',b'⟩∈L) (hk:k+k'≤10000) :
  Calls Tryz.prog 168 #[v,v'] w fun e w' => ∃ u,e = .returned u∧Env t W0 w' bs (⟨u,((Nat.gcd x.natAbs y.natAbs:Nat):Int),k+k'+1,true⟩ :: L):=by
 have H1:=HE.ops _ h
 have H2:=HE.ops _ h'
 have hz:((Nat.gcd x.natAbs y.natAbs:Nat):Int).natAbs < pw (k+k'+1):=by
  have h9:=a4P (x:=(x.natAbs:Int)) (y:=(y.natAbs:Int)) (by rw [Int.natAbs_natCast]; exact H1.lt) (by rw [Int.natAbs_natCast]; exact H2.lt)
  rw [← Int.natCast_add,Int.natAbs_natCast] at h9
  rw [Int.natAbs_natCast]
  refine Nat.lt_of_le_of_lt ?_ h9
  rcases Nat.eq_zero_or_pos x.natAbs with e | e
  ·rw [e,Nat.gcd_zero_left]; omega
  ·exact Nat.le_trans (Nat.gcd_le_left _ e) (Nat.le_add_right _ _)
 obtain ⟨s,A,n,c,ns,B,e1,h2,h3,h4,h5,h6,e7,h8⟩:=H1
 obtain ⟨s',A',n',c',ns',B',e1',h2',h3',h4',h5',h6',e7',h8'⟩:=H2
 dsimp only at e1 e7 e1' e7' h5 h5' hz
 subst e1 e1' e7 e7'
 exact (bmT s s' A A' ns ns' n n' c c' B B' w h2 h2' h3 h3' h4 h4' (by omega) (by omega) h6 h6').mono fun e w' hh=>a5s HE hh hz
end Go.Proofs.YtbihljnjaondcaaGreatDoor
