/- Part of a proof, said shortly. -/
import Derived.Test.YtkcpphebkmnonaaGreatDoorAlzc
import Derived.Test.YtkcpphebkmnonaaGreatDoorS3c
import Derived.Test.YtkcpphebkmnonaaGreatDoorC12c
import Derived.Test.YtkcpphebkmnonaaGreatDoorS2c
import Derived.Test.YtkcpphebkmnonaaGreatDoorC11c
import Derived.Test.YtkcpphebkmnonaaGreatDoorC19c
import Derived.Test.YtkcpphebkmnonaaGreatDoorC18c
import Derived.Test.YtkcpphebkmnonaaGreatDoorC17c
import Derived.Test.YtkcpphebkmnonaaGreatDoorC10c
import Derived.Test.YtkcpphebkmnonaaGreatDoorC9c
import Derived.Test.YtkcpphebkmnonaaGreatDoorC8c
import Derived.Test.YtkcpphebkmnonaaGreatDoorC5c
import Derived.Test.YtkcpphebkmnonaaGreatDoorC2c
import Derived.Test.YtkcpphebkmnonaaGreatDoorC1c
import Derived.Test.YtkcpphebkmnonaaGreatDoorC4c
import Derived.Test.YtkcpphebkmnonaaGreatDoorC3c
import Derived.Test.YtkcpphebkmnonaaGreatDoorC7c
import Derived.Test.YtkcpphebkmnonaaGreatDoorC6c
import Derived.Test.YtkcpphebkmnonaaGreatDoorC16c
import Derived.Test.YtkcpphebkmnonaaGreatDoorC15c
import Derived.Test.YtkcpphebkmnonaaGreatDoorC13c
import Derived.Test.YtkcpphebkmnonaaGreatDoorC14c
set_option maxRecDepth 100000
set_option maxHeartbeats 8000000
set_option linter.unusedVariables false
set_option linter.unusedSimpArgs false
namespace Lw
open Go
theorem yL{b c:UInt8}(h:b≠c):b.toNat≠c.toNat:=fun e=>h (UInt8.toNat_inj.1 e)
theorem Yw(l:List UInt8):(∀ b∈l,b≠47/\b≠46) \/ ∃ a c r,l=a++c::r/\(c=47\/c=46) /\ ∀ b∈a,b≠47/\b≠46:=by
 induction l with
 | nil=>exact .inl fun b h=>by cases h
 | cons x l ih =>
  by_cases hx:x=47\/x=46
  ·exact .inr ⟨[],x,l,rfl,hx,fun b h=>by cases h⟩
  ·have hx':x≠47/\x≠46:=⟨fun e=>hx (.inl e),fun e=>hx (.inr e)⟩
   rcases ih with h | ⟨a,c,r,h1,h2,h3⟩
   ·refine .inl fun b hb => ?_
    rcases List.mem_cons.1 hb with rfl | hb
    ·exact hx'
    ·exact h b hb
   ·refine .inr ⟨x::a,c,r,by rw [h1];rfl,h2,fun b hb => ?_⟩
    rcases List.mem_cons.1 hb with rfl | hb
    ·exact hx'
    ·exact h3 b hb
theorem aeY{l:List UInt8}{c:UInt8}(h:c∈l) : ∃ a r,l=a++c::r /\ ∀ x∈a,x≠c:=by
 induction l with
 | nil=>cases h
 | cons x l ih =>
  by_cases hx:x=c
  ·exact ⟨[],l,by rw [hx];rfl,fun x h=>by cases h⟩
  ·rcases List.mem_cons.1 h with e | e
   ·exact absurd e.symm hx
   ·obtain ⟨a,r,h1,h2⟩:=ih e
    refine ⟨x::a,r,by rw [h1];rfl,fun y hy => ?_⟩;rcases List.mem_cons.1 hy with rfl | hy
    ·exact hx
    ·exact h2 y hy
theorem aaP{a a' r r':List UInt8}{c:UInt8}(h:a++c::r=a'++c::r')(h1 : ∀ x∈a,x≠c)(h2 : ∀ x∈a',x≠c):a=a'/\r=r':=by
 induction a generalizing a' with
 | nil =>
  cases a' with
  | nil=>exact ⟨rfl,by injection h⟩
  | cons y b=>injection h with e _;exact absurd e.symm (h2 y ak)
 | cons x a ih =>
  cases a' with
  | nil=>injection h with e _;exact absurd e (h1 x ak)
  | cons y b =>
   injection h with e1 e2;obtain ⟨i1,i2⟩:=ih e2 (fun z hz=>h1 z (.tail _ hz)) (fun z hz=>h2 z (.tail _ hz));exact ⟨by rw [e1,i1],i2⟩
theorem Nb{x y:Int}(hy:0<y)(h:Nat.gcd x.natAbs y.natAbs=1):(Rat.divInt x y).num=x/\((Rat.divInt x y).den:Int)=y:=by
 rw [apH,apJ];have hg:Int.gcd y x=1:=by rw [Int.gcd_comm];exact h
 rw [hg];constructor
 ·rw [aqf hy];simp
 ·rw [if_neg af];simp;omega
theorem abT{a r:List UInt8}{z:Int}(_:a=Lib.itoa z):fE (Rat.divInt z 1)≠a++47::r:=by
 intro h;have hm:(47:UInt8)∈fE (Rat.divInt z 1):=by rw [h];simp
 rw [show Rat.divInt z 1=(z:Rat) from Rat.ext (by rw [apH];simp) (by rw [apJ];simp)] at hm;unfold fE at hm;rw [if_pos (Rat.den_intCast _),Rat.num_intCast] at hm;exact nG (.inr rfl) _ hm rfl
theorem S9{a r:List UInt8}{x y:Int}(ha:a=Lib.itoa x)(hr:r=Lib.itoa y)(hy:1<y):fE (Rat.divInt x y)=a++47::r↔(x≠0/\Nat.gcd x.natAbs y.natAbs=1):=by
 constructor
 ·intro h
  unfold fE at h
  split at h
  ·have hm:(47:UInt8)∈Lib.itoa (Rat.divInt x y).num:=by rw [h];simp
   exact absurd rfl (nG (.inr rfl) _ hm)
  ·rename_i hd
   obtain ⟨h1,h2⟩:=aaP (c:=47) h (nG (.inr rfl)) (by rw [ha];exact nG (.inr rfl));have e1:=zN (h1.trans ha);have e2:=zN (h2.trans hr);have e3:=(Rat.divInt x y).reduced;unfold Nat.Coprime at e3;rw [e1] at e3;have e4:(Rat.divInt x y).den=y.natAbs:=af;rw [e4] at e3;refine ⟨fun hx => ?_,e3⟩;rw [hx,Int.natAbs_zero,apX] at e3;omega
 ·rintro ⟨_,h⟩
  obtain ⟨h1,h2⟩:=Nb (show 0<y from af) h;unfold fE;rw [if_neg af,h1,h2,ha,hr]
  rfl
theorem abJ(x y:Int) : -Rat.divInt x y=Rat.divInt (-x) y:=Rat.neg_divInt x y
theorem XP{z:Int}{f r:List UInt8}(h:f=Lib.itoa z)(hz:0<=z):(bG (f++r):Int)=z*10^r.length+(bG r:Int):=by
 rw [Nl,h,je (by unfold sg;exact decide_eq_false af),ao3,oQ,apz,apd,Int.natCast_pow];have:((z.natAbs:Nat):Int)=z:=af;rw [this]
 rfl
theorem Yx{r:List UInt8}(h:¬ dn r) : ∃ m,m<r.length/\(∀ (j:Nat) (b:UInt8),j<m->r[j]? = some b->48<=b.toNat/\b.toNat<=57) /\ ∀ b,r[m]? = some b->¬ (48<=b.toNat/\b.toNat<=57):=by
 induction r with
 | nil=>exact absurd (fun b hb=>by cases hb) h
 | cons x r ih =>
  by_cases hx:48<=x.toNat/\x.toNat<=57
  ·have h2:¬ dn r:=fun hd=>h fun b hb=>by
    rcases List.mem_cons.1 hb with rfl | hb
    ·exact hx
    ·exact hd b hb
   obtain ⟨m,h3,h4,h5⟩:=ih h2;refine ⟨m+1,by simp;omega,fun j b hj hb => ?_,fun b hb=>h5 b (by simpa using hb)⟩
   cases j with
   | zero=>simp at hb;subst hb;exact hx
   | succ j=>exact h4 j b af (by simpa using hb)
  ·exact ⟨0,by simp,fun j b hj=>af,fun b hb=>by simp at hb;subst hb;exact hx⟩
theorem Na{r:List UInt8}{m j:Nat}(h : ∀ (j:Nat) (b:UInt8),j<m->r[j]? = some b->48<=b.toNat/\b.toNat<=57)(hm:m<=r.length)(hj:j<=m):bG (r.take j)<10^j:=by
 have hd:dn (r.take m):=fun b hb=>by
  obtain ⟨k,hk⟩:=List.getElem?_of_mem hb
  have hk2:k<m:=by
   have:=(apg.1 hk).1;rw [apc] at this;omega
  exact h k b hk2 (by rw [List.getElem?_take_of_lt hk2] at hk;exact hk)
 have:=yX hd j (by rw [apc];omega)
 rwa [ap',apk hj] at this
end Lw
namespace Go.Proofs.BGQ
open Go Go.RowKit Lw bI
def PB(l:List UInt8)(q:Rat)(er:Value)(c:Int):Prop := ∀ {W0 w:World} {U:List Box} {Ps:List (World->Prop)},Tz W0->Tab W0->Mx W0->St W0 U Ps w ->
 bC Tryz.prog 73 [.string ⟨l.toArray⟩] w (eG W0 U Ps q 1000 er)/\bC Tryz.prog 75 [.string ⟨l.toArray⟩] w (eG W0 U Ps q 1000 (.int .i64 c))
def kJ(q:Rat)(er:Value)(c:Int):Prop:=(er = .nilIface/\c=0/\q.num.natAbs<pw 40/\q.den<pw 40)\/(er = .iface 88 (.int .i64 c)/\c≠0/\q=0)
theorem kJ.no{c:Int}(h:c≠0):kJ 0 (.iface 88 (.int .i64 c)) c := .inr ⟨rfl,h,rfl⟩
theorem Ci{n d:Int}(hd:0<d):(Rat.divInt n d).num.natAbs<=n.natAbs/\(Rat.divInt n d).den<=d.natAbs:=by
 rw [apH,apJ,aqf hd,Int.one_mul,if_neg af];exact ⟨by rw [Int.natAbs_ediv_of_dvd (Int.gcd_dvd_right ..)];exact ao4 _ _,ao4 _ _⟩
theorem afc{f r:List UInt8}(hf:dn (f++r))(hl:f.length+r.length<=64):bG (f++r)<pw 40/\10^r.length<pw 40:=by
 have h1:=yX hf (f++r).length (aoG _);rw [ao7,apf] at h1;have h2:10^(f.length+r.length)<=10^64:=ao8 ai hl;have h3:10^r.length<=10^64:=ao8 ai af;have h4:10^64<pw 40:=by decide +kernel
 omega
section
variable {W0 w:World} {U:List Box} {Ps:List (World->Prop)}
variable {vs:List Value} {K:Nat} {er:Value}
theorem nI{f:FuncId}{q r:Rat}{k:Nat}(h:bC Tryz.prog f vs w (eG W0 U Ps q k er))(hq:q=r)(hk:k<=K):bC Tryz.prog f vs w (eG W0 U Ps r K er) :=
 Calls.mono h fun e w' hh=>by
  subst hq;obtain ⟨u,rfl,s,A,n,c,B,m,d,rfl,hs⟩:=hh;exact ⟨_,rfl,_,_,_,_,_,_,_,rfl,hs.out 0 1 0 rfl rfl rfl (fun _ h=>h.weak hk)⟩
theorem mQ{f:FuncId}(h:bC Tryz.prog f vs w (dm W0 U Ps (.tuple #[dN,er]))):bC Tryz.prog f vs w (eG W0 U Ps 0 K er) :=
 Calls.mono h fun e w' hh=>by
  obtain ⟨u,rfl,rfl,hs⟩:=hh;exact ⟨_,rfl,_,_,_,_,_,_,_,rfl,hs.add (FV.stable _ _ _ _) (FV.zero K w')⟩
end
theorem DW(l:List UInt8)(hl:l.length<=300) : ∃ z c,RP l z c/\((l=Lib.itoa z/\c=0)\/((∀ z',l≠Lib.itoa z')/\c=2/\z=0)):=by
 rcases Classical.em (∃ z,l=Lib.itoa z) with ⟨z,h⟩ | h
 ·exact ⟨z,0,RP.yes h hl,.inl ⟨h,rfl⟩⟩
 ·have h' : ∀ z,l≠Lib.itoa z:=fun z e=>h ⟨z,e⟩
  exact ⟨0,2,RP.no h' hl,.inr ⟨h',rfl,rfl⟩⟩
theorem adb{l:List UInt8}(hl:l.length<=300)(h : ∀ b∈l,b≠47/\b≠46) : ∃ q er c,jc er c/\PB l q er c/\kJ q er c:=by
 have hcl : ∀ (j:Nat) (b:UInt8),l[j]? = some b->b.toNat≠47/\b.toNat≠46:=fun j b hb=>⟨yL (h b (aoQ hb)).1,yL (h b (aoQ hb)).2⟩;have hno : ∀ x∈l,x≠46:=fun x hx=>(h x hx).2;have hcut:=MK (l:=l) (c:=47) (fun x hx=>(h x hx).1);obtain ⟨z,c,hp,⟨hz,rfl⟩ | ⟨hz,rfl,rfl⟩⟩:=DW l hl
 ·exact ⟨_,_,0,jc.nil_,fun HT HB HX HS=>⟨nI (YL HT HB HS HX hno hl hcut hz) rfl af,nI (Rk HT HB HS hcl hl hp) rfl af⟩,.inl ⟨rfl,rfl,by rw [Rat.num_intCast];exact aoK (vF (by rw [<- hz];omega)) (dU af),by rw [Rat.den_intCast];decide +kernel⟩⟩
 ·exact ⟨0,_,2,jc.err 2,fun HT HB HX HS=>⟨mQ (YM HT HB HS HX hno hl hcut hz),nI (Rk HT HB HS hcl hl hp) rfl af⟩,kJ.no ai⟩
theorem LK{a r:List UInt8}{c:UInt8} : (a++c::r)[a.length]? = some c/\(a++c::r).take a.length=a/\(a++c::r).drop (a.length+1)=r:=by
 refine ⟨by simp,by simp,?_⟩;rw [<- List.drop_drop];simp
theorem MC{a r:List UInt8}{c:UInt8}(h : ∀ b∈a,b≠47/\b≠46) : ∀ (j:Nat) (b:UInt8),j<a.length->(a++c::r)[j]? = some b->b.toNat≠47/\b.toNat≠46:=fun j b hj hb=>by
 rw [List.getElem?_append_left hj] at hb;exact ⟨yL (h b (aoQ hb)).1,yL (h b (aoQ hb)).2⟩
theorem NF(a r:List UInt8):(∃ f,a=45::f/\Lib.trimPrefix (a++46::r) [45]=f++46::r/\Lib.hasPrefix (a++46::r) [45]=true)\/((∀ x,a[0]? = some x->x.toNat≠45)/\Lib.trimPrefix (a++46::r) [45]=a++46::r/\Lib.hasPrefix (a++46::r) [45]=false):=by
 cases a with
 | nil=>exact .inr ⟨fun x h=>by simp at h,by simp [Lib.trimPrefix,Lib.hasPrefix,List.isPrefixOf],by simp [Lib.hasPrefix,List.isPrefixOf]⟩
 | cons y f =>
  by_cases hy:y=45
  ·subst hy
   exact .inl ⟨f,rfl,by simp [Lib.trimPrefix,Lib.hasPrefix,List.isPrefixOf],by simp [Lib.hasPrefix,List.isPrefixOf]⟩
  ·have hy2:¬ (45:UInt8)=y:=fun e=>hy e.symm
   exact .inr ⟨fun x h=>by simp at h;subst h;exact yL hy,by simp [Lib.trimPrefix,Lib.hasPrefix,List.isPrefixOf,hy2],by simp [Lib.hasPrefix,List.isPrefixOf,hy2]⟩
theorem IK{l t f b:List UInt8}{neg:Bool}(ht:Lib.trimPrefix l [45]=t)(hn:Lib.hasPrefix l [45]=neg)(hcut:Lib.cut t [46]=(f,b,true))(hl:l.length<=300)(htl:t.length<=300)(hfl:f.length<=300)(hbl:b.length<=300)(h:64<l.length\/¬ Plain f\/¬ (0<b.length/\dn b)):yH l 0 (.iface 88 (.int .i64 2)):=fun HT HB HX HS=>by
 by_cases h64:64<l.length
 ·exact mQ (acn HT HB HS HX ht hn hcut hl htl hfl hbl h64)
 ·have GG:l.length<=64:=af
  by_cases hf:0<f.length/\dn f
  ·by_cases hb:0<b.length/\dn b
   ·have hp:¬ Plain f:=by
     rcases h with h | h | h
     ·exact absurd h h64
     ·exact h
     ·exact absurd hb h
    have h1:f[0]? = some 48/\f≠[48]:=by
     by_cases h2:(f[0]'hf.1).toNat=48
     ·refine ⟨by rw [aoX hf.1];congr 1;exact UInt8.toNat_inj.1 h2,fun e=>hp ?_⟩
      subst e;exact ⟨ai,hf.2,fun h3=>absurd h3 ai⟩
     ·exact absurd ⟨hf.1,hf.2,fun _ _=>h2⟩ hp
    exact mQ (acj HT HB HS HX ht hn hcut hl htl hfl hbl GG hf hb h1.1 h1.2)
   ·exact mQ (ack HT HB HS HX ht hn hcut hl htl hfl hbl GG hf hb)
  ·exact mQ (acm HT HB HS HX ht hn hcut hl htl hfl hbl GG hf)
theorem aci{l t f b:List UInt8}{neg:Bool}(ht:Lib.trimPrefix l [45]=t)(hn:Lib.hasPrefix l [45]=neg)(hcut:Lib.cut t [46]=(f,b,true))(hl:l.length<=64)(htl:t.length<=300)(hfb:f.length+b.length<=64)(hp:Plain f)(hb:0<b.length/\dn b):yH l (if neg=true then -(Rat.divInt (bG (f++b):Int) ((10:Int)^b.length)) else Rat.divInt (bG (f++b):Int) ((10:Int)^b.length)) .nilIface:=fun HT HB HX HS=>by
 have hf:0<f.length/\dn f:=⟨hp.1,hp.2.1⟩
 by_cases h2:(f[0]'hf.1).toNat=48
 ·have h3:f=[48]:=by
   have h4:¬ 1<f.length:=fun h=>hp.2.2 h hf.1 h2
   cases f with
   | nil=>exact absurd hf.1 (by simp)
   | cons x f =>
    cases f with
    | nil=>rw [show x=48 from UInt8.toNat_inj.1 h2]
    | cons y f=>exact absurd (show 1<(x::y::f).length by simp) h4
  exact acp HT HB HS HX ht hn hcut af htl af af hl hf hb hfb h3
 ·exact aco HT HB HS HX ht hn hcut af htl af af hl hf hb hfb (aoX hf.1) h2
theorem Qw{f:List UInt8} : Plain f ↔ ∃ z,0<=z/\f=Lib.itoa z:=by
 constructor
 ·intro h
  exact ⟨(bG f:Int),af,Gz ⟨h,fun h=>by cases h.1⟩⟩
 ·rintro ⟨z,hz,rfl⟩
  rw [je (by unfold sg;exact decide_eq_false af),ao3];exact pM _
theorem ade{a r:List UInt8}(hl:(a++47::r).length<=300)(h : ∀ b∈a,b≠47/\b≠46) : ∃ q er c,jc er c/\PB (a++47::r) q er c/\kJ q er c:=by
 have hla:a.length+(r.length+1)<=300:=by simpa using hl
 obtain ⟨hat,htk,hdr⟩:=LK (a:=a) (r:=r) (c:=47);have hcl:=MC (r:=r) (c:=47) h;obtain ⟨za,ca,ha,hca⟩:=DW a af;obtain ⟨zr,cr,hr,hcr⟩:=DW r af
 have bad:(ca≠0\/cr≠0\/zr<=0\/fE (Rat.divInt za zr)≠a++47::r)->(∀ {W0 w:World} {U:List Box} {Ps:List (World->Prop)},Tz W0->Tab W0->Mx W0->St W0 U Ps w->bC Tryz.prog 73 [.string ⟨(a++47::r).toArray⟩] w (eG W0 U Ps 0 1000 (.iface 88 (.int .i64 2)))) -> ∃ q er c,jc er c/\PB (a++47::r) q er c/\kJ q er c:=fun hbad hprog =>
  ⟨0,_,2,jc.err 2,fun HT HB HX HS=>⟨hprog HT HB HX HS,nI (ad5 HT HB HS hcl hat htk hdr hl ha hr hbad) rfl af⟩,kJ.no ai⟩
 by_cases sV:(46:UInt8)∈r
 ·have hcr2:cr≠0:=by
   rcases hcr with ⟨h1,_⟩ | ⟨_,h1,_⟩
   ·rw [h1] at sV;exact absurd rfl (nG (.inl rfl) _ sV)
   ·omega
  refine bad (.inr (.inl hcr2)) fun HT HB HX HS=>nI (k:=900) (ND HT HB HS HX (by simp [sV]) hl ?_) rfl af;obtain ⟨r1,r2,rfl,hr1⟩:=aeY sV
  have Oo : ∀ g:List UInt8,¬ Plain (g++47::r1):=fun g hp=>by
   have:=hp.2.1 47 (by simp)
   revert this;decide
  have hna : ∀ g:List UInt8,(∀ b∈g,b≠47/\b≠46) -> ∀ x∈g++47::r1,x≠46:=fun g hg x hx=>by
   rcases ao6.1 hx with hx | hx
   ·exact (hg x hx).2
   ·rcases List.mem_cons.1 hx with rfl | hx
    ·decide
    ·exact hr1 x hx
  have e1:a++47::(r1++46::r2)=(a++47::r1)++46::r2:=by simp
  rw [e1] at hl ⊢;have hl2:a.length+(r1.length+1)+(r2.length+1)<=300:=by simp at hl;omega
  rcases NF (a++47::r1) r2 with ⟨f,hf,ht,hn⟩ | ⟨_,ht,hn⟩
  ·cases a with
   | nil=>injection hf with e _;exact fun _ _ _ _=>absurd e ai
   | cons y g =>
    injection hf with _ e;subst e;intro W0 w U Ps HT HB HX HS;refine IK ht hn (uM r2 (hna g (fun b hb=>h b (.tail _ hb)))) hl ?_ ?_ ?_ (.inr (.inl (Oo g))) HT HB HX HS
    all_goals (simp only [List.append_eq,apf,ao5] at hl2 ⊢ <;> omega)
  ·intro W0 w U Ps HT HB HX HS;refine IK ht hn (uM r2 (hna a h)) hl ?_ ?_ ?_ (.inr (.inl (Oo a))) HT HB HX HS
   all_goals (first | omega | (simp only [apf,ao5];omega))
 ·have hno : ∀ x∈a++47::r,x≠46:=fun x hx=>by
   rcases ao6.1 hx with hx | hx
   ·exact (h x hx).2
   ·rcases List.mem_cons.1 hx with rfl | hx
    ·decide
    ·exact fun e=>sV (e ▸ hx)
  have hcut:Lib.cut (a++47::r) [47]=(a,r,true):=uM r (fun x hx=>(h x hx).1);rcases hca with ⟨hza,hca⟩ | ⟨hza,hca,_⟩
  ·rcases hcr with ⟨qO,hcr⟩ | ⟨qO,hcr,_⟩
   ·by_cases h1:zr<=1
    ·refine bad ?_ fun HT HB HX HS=>mQ (YN HT HB HS HX hno hl hcut af af hza qO h1)
     by_cases h0:zr<=0
     ·exact .inr (.inr (.inl h0))
     ·have:zr=1:=af
      subst this;exact .inr (.inr (.inr (abT hza)))
    ·by_cases hok:za≠0/\Nat.gcd za.natAbs zr.natAbs=1
     ·exact ⟨_,_,0,jc.nil_,fun HT HB HX HS=>⟨nI (YO HT HB HS HX hno hl hcut af af hza qO af hok) rfl af,nI (ad8 HT HB HS hcl hat htk hdr hl ha hr ⟨hca,hcr,af,(S9 hza qO af).2 hok⟩) rfl af⟩,by
       have hco:=Nb (x:=za) (y:=zr) af hok.2;have l1:za.natAbs<pw 32:=vF (by rw [<- hza];omega);have l2:zr.natAbs<pw 32:=vF (by rw [<- qO];omega);have l3:pw 32<=pw 40:=dU af;exact .inl ⟨rfl,rfl,by rw [hco.1];omega,af⟩⟩
     ·exact bad (.inr (.inr (.inr (mt (S9 hza qO af).1 hok)))) fun HT HB HX HS=>mQ (YH HT HB HS HX hno hl hcut af af hza qO af hok)
   ·exact bad (.inr (.inl af)) fun HT HB HX HS=>mQ (YI HT HB HS HX hno hl hcut af af hza qO)
  ·exact bad (.inl af) fun HT HB HX HS=>mQ (YP HT HB HS HX hno hl hcut af af hza)
theorem MM{f r t l:List UInt8}{neg:Bool}(hl:l.length<=300)(ht:Lib.trimPrefix l [45]=t)(hn:Lib.hasPrefix l [45]=neg)(hcut:Lib.cut t [46]=(f,r,true))(htl:t.length<=300)(hlen:f.length+r.length+1<=l.length){a:List UInt8}(ha:(neg=true/\a=45::f)\/(neg=false/\a=f /\ ∀ x,f[0]? = some x->x.toNat≠45)) : ∃ q er c,jc er c/\yH l q er/\RD a r (l.length:Int) q c/\kJ q er c:=by
 obtain ⟨z,c,hp,hz⟩:=DW f af
 by_cases hbad:64<l.length\/¬ Plain f\/¬ (0<r.length/\dn r)
 ·refine ⟨0,_,2,jc.err 2,IK ht hn hcut hl htl af af hbad,fun HT HB HS => ?_,kJ.no ai⟩
  by_cases ve:c≠0\/z<0\/r.length=0\/64<(l.length:Int)
  ·rcases ha with ⟨_,rfl⟩ | ⟨_,rfl,h45⟩
   ·exact ac4 HT HB HS hp af ve
   ·exact ac5 HT HB HS h45 hp af ve
  ·have hc0:c=0:=Classical.byContradiction fun e=>ve (.inl e)
   have hz0:0<=z:=Classical.byContradiction fun e=>ve (.inr (.inl af));have hr0:0<r.length:=Classical.byContradiction fun e=>ve (.inr (.inr (.inl af)));have vg:(l.length:Int)<=64:=Classical.byContradiction fun e=>ve (.inr (.inr (.inr af)))
   have hfz:f=Lib.itoa z:=by
    rcases hz with ⟨h1,_⟩ | ⟨_,h1,_⟩
    ·exact h1
    ·omega
   have hnd:¬ dn r:=by
    rcases hbad with h | h | h
    ·omega
    ·exact absurd (Qw.2 ⟨z,hz0,hfz⟩) h
    ·exact fun hd=>h ⟨hr0,hd⟩
   obtain ⟨m,h1,h2,h3⟩:=Yx hnd;have hzl:z.natAbs<pw 32:=vF (by rw [<- hfz];omega);rcases ha with ⟨_,rfl⟩ | ⟨_,rfl,h45⟩
   ·exact ac2 HT HB HS hp af hc0 hz0 hr0 vg hzl (fun j hj=>Na h2 af hj) h1 h2 h3
   ·exact ac3 HT HB HS h45 hp af hc0 hz0 hr0 vg hzl (fun j hj=>Na h2 af hj) h1 h2 h3
 ·have h64:l.length<=64:=Classical.byContradiction fun e=>hbad (.inl af)
  have hpl:Plain f:=Classical.byContradiction fun e=>hbad (.inr (.inl e));have hrd:0<r.length/\dn r:=Classical.byContradiction fun e=>hbad (.inr (.inr e));obtain ⟨y,hy0,Oq⟩:=Qw.1 hpl;rcases hz with ⟨hfz,hc0⟩ | ⟨h1,_⟩
  ·obtain rfl:=zN (hfz.symm.trans Oq)
   have hzl:z.natAbs<pw 32:=vF (by rw [<- hfz];omega);have hdg : ∀ (j:Nat) (b:UInt8),r[j]? = some b->48<=b.toNat/\b.toNat<=57:=fun j b hb=>hrd.2 b (aoQ hb);have hdt : ∀ j,j<=r.length->bG (r.take j)<10^j:=fun j hj=>yX hrd.2 j hj;have hv:=XP (r:=r) hfz hy0;have aat:(10:Int)^r.length=((10^r.length:Nat):Int):=by rw [Int.natCast_pow];rfl
   have h10:(0:Int)<(10:Int)^r.length:=ap9 ai;have hfd:=afc (f:=f) (r:=r) (fun x hx=>(ao6.1 hx).elim (hpl.2.1 x) (hrd.2 x)) af;have hle:=Ci (n:=(bG (f++r):Int)) h10;rw [aoL] at hle;have hna:((10:Int)^r.length).natAbs=10^r.length:=by rw [aat,aoL]
   refine ⟨_,_,0,jc.nil_,aci ht hn hcut h64 htl af hpl hrd,fun HT HB HS => ?_,.inl ⟨rfl,rfl,?_,?_⟩⟩
   rotate_left
   ·split
    ·rw [(ug _).1,aqg];omega
    ·omega
   ·split
    ·rw [(ug _).2];omega
    ·omega
   rcases ha with ⟨rfl,rfl⟩ | ⟨rfl,rfl,h45⟩
   ·rw [if_pos rfl,hv,abJ]
    exact ac6 HT HB HS hp af hc0 hy0 hrd.1 af hzl hdt hdg
   ·rw [if_neg ai,hv]
    exact ac7 HT HB HS h45 hp af hc0 hy0 hrd.1 af hzl hdt hdg
  ·exact absurd Oq (h1 y)
theorem ada{a r:List UInt8}(hl:(a++46::r).length<=300)(h : ∀ b∈a,b≠47/\b≠46) : ∃ q er c,jc er c/\PB (a++46::r) q er c/\kJ q er c:=by
 have hla:a.length+(r.length+1)<=300:=by simpa using hl
 obtain ⟨hat,htk,hdr⟩:=LK (a:=a) (r:=r) (c:=46);have hcl:=MC (r:=r) (c:=46) h
 have key : ∃ q er c,jc er c/\yH (a++46::r) q er/\RD a r ((a++46::r).length:Int) q c/\kJ q er c:=by
  rcases NF a r with ⟨f,rfl,ht,hn⟩ | ⟨h45,ht,hn⟩
  ·exact MM hl ht hn (uM r (fun x hx=>(h x (.tail _ hx)).2)) (by simp at hla ⊢ <;> omega) (by simp <;> omega) (.inl ⟨rfl,rfl⟩)
  ·exact MM hl ht hn (uM r (fun x hx=>(h x hx).2)) (by simp at hla ⊢ <;> omega) (by simp <;> omega) (.inr ⟨rfl,rfl,h45⟩)
 obtain ⟨q,er,c,h1,h2,h3,h4⟩:=key;exact ⟨q,er,c,h1,fun HT HB HX HS=>⟨nI (ND HT HB HS HX (by simp) hl h2) rfl af,nI (ad6 HT HB HS hcl hat htk hdr hl h3) rfl af⟩,h4⟩
theorem ac9(l:List UInt8)(hl:l.length<=300\/65536<l.length) : ∃ q er c,jc er c/\PB l q er c/\kJ q er c:=by
 rcases hl with hl | hl
 ·rcases Yw l with h | ⟨a,x,r,rfl,rfl | rfl,h⟩
  ·exact adb hl h
  ·exact ade hl h
  ·exact ada hl h
 ·exact ⟨0,_,4,jc.err 4,fun HT HB HX HS=>⟨mQ (YK HT HB HS hl),mQ (ad7 HT HB HS hl)⟩,kJ.no ai⟩
section
variable {W0 w:World} {U:List Box} {Ps:List (World->Prop)}
theorem FV.tight{v:Value}{q:Rat}{k K:Nat}{w:World}(h:FV v q K true w)(h1:q.num.natAbs<pw k)(h2:q.den<pw k):FV v q k true w:=by
 obtain ⟨s,A,n,c,B,m,d,rfl⟩:=h.shape;have e:=dA.own h;have e1:(rn q).length<=k:=fD h1;have e2:=Pz h2;exact FV.mk h.neg h.num h.den af af
def PF(f:FuncId)(l:List UInt8)(q:Rat)(er:Value):Prop := ∀ {W0 w:World} {U:List Box} {Ps:List (World->Prop)},Tz W0->Tab W0->Mx W0->St W0 U Ps w->bC Tryz.prog f [.string ⟨l.toArray⟩] w (eG W0 U Ps q 1000 er)
def rY(f:FuncId)(l:List UInt8)(u:Bool)(q:Rat)(er:Value):Prop := ∀ {W0 w:World} {U:List Box} {Ps:List (World->Prop)},Tz W0->Tab W0->Mx W0->St W0 U Ps w->bC Tryz.prog f [.string ⟨l.toArray⟩] w (oD W0 U Ps q u 40 er)
set_option maxRecDepth 100000 in
set_option maxHeartbeats 400000 in
theorem TD(_HT:Tz W0)(_HB:Tab W0)(HS:St W0 U Ps w)(_HX:Mx W0):bC Tryz.prog 28 [.string ⟨([104,97,108,102]).toArray⟩] w (oD W0 U Ps 0 true 40 (.nilIface)):=by
 refine cZ Tryz.func28 rfl Tryz.ntmps28 rfl<|Js<|JL.alloc (vs:=[.bool false,.slice none 0 0,.slice none 0 0,.bool false]) HS rfl amS rfl rfl (fun g21 dO HS => ?_);refine La rfl<|Jn<|JC.seq<|Js<|Lm rfl<|Lz (.bool true) (fun a ha=>qY (ha.ev rfl) (ha.ev rfl) (by simp))<|Jn<|JC.bP rfl<|Js<|Lz (.agg #[.bool false,.slice none 0 0,.slice none 0 0,.bool true]) (fun a ha=>bI.run_build (ha.bW rfl) amR amS jT rfl)<|JL.store HS rfl rfl (i:=0) rfl amK rfl rfl rfl (vs':=[.bool false,.slice none 0 0,.slice none 0 0,.bool true]) rfl rfl (fun dQ HS => ?_);refine La rfl<|Jn<|Jb Tryz.results28 (.agg rfl amO amK (HS.box _ ak) rfl rfl) (.tmp rfl)<|?_;exact ⟨_,_,_,_,_,_,_,rfl,(HS.add (FV.stable _ _ _ _) (FV.zero 0 _)).out 1 1 0 rfl rfl rfl (fun _ h=>h.as rfl af)⟩
set_option maxRecDepth 100000 in
set_option maxHeartbeats 400000 in
theorem aed(_HT:Tz W0)(_HB:Tab W0)(HS:St W0 U Ps w)(_HX:Mx W0):bC Tryz.prog 31 [.string ⟨([104,97,108,102]).toArray⟩] w (oD W0 U Ps 0 true 40 (.int .i64 0)):=by
 refine cZ Tryz.func31 rfl Tryz.ntmps31 rfl<|Js<|JL.alloc (vs:=[.bool false,.slice none 0 0,.slice none 0 0,.bool false]) HS rfl amS rfl rfl (fun g21 dO HS => ?_);refine La rfl<|Jn<|JC.seq<|Js<|Lm rfl<|Lz (.bool true) (fun a ha=>qY (ha.ev rfl) (ha.ev rfl) (by simp))<|Jn<|JC.bP rfl<|Js<|Lz (.agg #[.bool false,.slice none 0 0,.slice none 0 0,.bool true]) (fun a ha=>bI.run_build (ha.bW rfl) amR amS jT rfl)<|JL.store HS rfl rfl (i:=0) rfl amK rfl rfl rfl (vs':=[.bool false,.slice none 0 0,.slice none 0 0,.bool true]) rfl rfl (fun dQ HS => ?_);refine La rfl<|Jn<|Jb Tryz.results31 (.agg rfl amO amK (HS.box _ ak) rfl rfl) (.tmp rfl)<|?_;exact ⟨_,_,_,_,_,_,_,rfl,(HS.add (FV.stable _ _ _ _) (FV.zero 0 _)).out 1 1 0 rfl rfl rfl (fun _ h=>h.as rfl af)⟩
set_option maxRecDepth 100000 in
set_option maxHeartbeats 400000 in
theorem TE(HT:Tz W0)(HB:Tab W0){l:List UInt8}{q:Rat}(HS:St W0 U Ps w)(HX:Mx W0)(hne:l≠[104,97,108,102])(hp:PF 73 l q (.nilIface))(hn:q.num.natAbs<pw 40)(hd:q.den<pw 40):bC Tryz.prog 28 [.string ⟨l.toArray⟩] w (oD W0 U Ps q false 40 (.nilIface)):=by
 refine cZ Tryz.func28 rfl Tryz.ntmps28 rfl<|Js<|JL.alloc (vs:=[.bool false,.slice none 0 0,.slice none 0 0,.bool false]) HS rfl amS rfl rfl (fun g21 dO HS => ?_);refine La rfl<|Jn<|JC.seq<|Js<|Lm rfl<|Lz (.bool false) (fun a ha=>qY (ha.ev rfl) (ha.ev rfl) (by simpa using hne))<|Jn<|JC.bH rfl<|Jk<|Js<|Lm rfl<|JL.call rfl rfl Tryz.call73 (hp HT HB HX HS)<|?_;rintro v22 dQ ⟨iE,gW,n22,gY,gX,m22,d22,rfl,HS⟩;have HS:=HS.iV 0 rfl (fun _ h=>FV.tight h hn hd);refine Lm rfl<|Lx rfl rfl<|Lx rfl rfl<|JL.alloc (vs:=[.bool false,.slice none 0 0,.slice none 0 0]) HS rfl amN rfl rfl (fun g23 fB HS => ?_);refine JL.store HS rfl rfl (i:=0) rfl amI rfl rfl rfl (vs':=[.bool iE,.slice gW n22 gY,.slice gX m22 d22]) rfl rfl (fun fO HS => ?_);refine La rfl<|Jn<|JC.seq<|Js<|Lm rfl<|Lz (.bool false) (fun a ha=>iD (ha.ev rfl) rfl amV)<|Jn<|JC.bH rfl<|Jk<|Js<|JL.load (.agg #[.bool iE,.slice gW n22 gY,.slice gX m22 d22]) HS 0 rfl rfl rfl amL amI rfl rfl<|Lz (.agg #[.bool iE,.slice gW n22 gY,.slice gX m22 d22,.bool false]) (fun a ha=>bI.run_build (ha.bW rfl) amR amS jT rfl)<|JL.store HS rfl rfl (i:=1) rfl amK rfl rfl rfl (vs':=[.bool iE,.slice gW n22 gY,.slice gX m22 d22,.bool false]) rfl rfl (fun fU HS => ?_);refine La rfl<|Jn<|Jb Tryz.results28 (.agg rfl amO amK (HS.box _ au) rfl rfl) (.tmp rfl)<|?_;exact ⟨_,_,_,_,_,_,_,rfl,HS.oh 2 2 0 rfl (fun _ h=>h.as rfl af)⟩
set_option maxRecDepth 100000 in
set_option maxHeartbeats 400000 in
theorem aee(HT:Tz W0)(HB:Tab W0){l:List UInt8}{q:Rat}(HS:St W0 U Ps w)(HX:Mx W0)(hne:l≠[104,97,108,102])(hp:PF 75 l q (.int .i64 0))(hn:q.num.natAbs<pw 40)(hd:q.den<pw 40):bC Tryz.prog 31 [.string ⟨l.toArray⟩] w (oD W0 U Ps q false 40 (.int .i64 0)):=by
 refine cZ Tryz.func31 rfl Tryz.ntmps31 rfl<|Js<|JL.alloc (vs:=[.bool false,.slice none 0 0,.slice none 0 0,.bool false]) HS rfl amS rfl rfl (fun g21 dO HS => ?_);refine La rfl<|Jn<|JC.seq<|Js<|Lm rfl<|Lz (.bool false) (fun a ha=>qY (ha.ev rfl) (ha.ev rfl) (by simpa using hne))<|Jn<|JC.bH rfl<|Jk<|Js<|Lm rfl<|JL.call rfl rfl Tryz.call75 (hp HT HB HX HS)<|?_;rintro v22 dQ ⟨iE,gW,n22,gY,gX,m22,d22,rfl,HS⟩;have HS:=HS.iV 0 rfl (fun _ h=>FV.tight h hn hd);refine Lm rfl<|Lx rfl rfl<|Lx rfl rfl<|JL.alloc (vs:=[.bool false,.slice none 0 0,.slice none 0 0]) HS rfl amN rfl rfl (fun g23 fB HS => ?_);refine JL.store HS rfl rfl (i:=0) rfl amI rfl rfl rfl (vs':=[.bool iE,.slice gW n22 gY,.slice gX m22 d22]) rfl rfl (fun fO HS => ?_);refine La rfl<|Jn<|JC.seq<|Js<|Lm rfl<|Lz (.bool false) (fun a ha=>fK (ha.ev rfl) (ha.ev rfl) ai)<|Jn<|JC.bH rfl<|Jk<|Js<|JL.load (.agg #[.bool iE,.slice gW n22 gY,.slice gX m22 d22]) HS 0 rfl rfl rfl amL amI rfl rfl<|Lz (.agg #[.bool iE,.slice gW n22 gY,.slice gX m22 d22,.bool false]) (fun a ha=>bI.run_build (ha.bW rfl) amR amS jT rfl)<|JL.store HS rfl rfl (i:=1) rfl amK rfl rfl rfl (vs':=[.bool iE,.slice gW n22 gY,.slice gX m22 d22,.bool false]) rfl rfl (fun fU HS => ?_);refine La rfl<|Jn<|Jb Tryz.results31 (.agg rfl amO amK (HS.box _ au) rfl rfl) (.tmp rfl)<|?_;exact ⟨_,_,_,_,_,_,_,rfl,HS.oh 2 2 0 rfl (fun _ h=>h.as rfl af)⟩
set_option maxRecDepth 100000 in
set_option maxHeartbeats 400000 in
theorem afT(HT:Tz W0)(HB:Tab W0){l:List UInt8}{q:Rat}{z:Int}(HS:St W0 U Ps w)(HX:Mx W0)(hne:l≠[104,97,108,102])(hp:PF 73 l q (.iface 88 (.int .i64 z)))(hz:z≠0):bC Tryz.prog 28 [.string ⟨l.toArray⟩] w (oD W0 U Ps 0 false 40 (.iface 88 (.int .i64 z))):=by
 refine cZ Tryz.func28 rfl Tryz.ntmps28 rfl<|Js<|JL.alloc (vs:=[.bool false,.slice none 0 0,.slice none 0 0,.bool false]) HS rfl amS rfl rfl (fun g21 dO HS => ?_);refine La rfl<|Jn<|JC.seq<|Js<|Lm rfl<|Lz (.bool false) (fun a ha=>qY (ha.ev rfl) (ha.ev rfl) (by simpa using hne))<|Jn<|JC.bH rfl<|Jk<|Js<|Lm rfl<|JL.call rfl rfl Tryz.call73 (hp HT HB HX HS)<|?_;rintro v22 dQ ⟨iE,gW,n22,gY,gX,m22,d22,rfl,HS⟩;refine Lm rfl<|Lx rfl rfl<|Lx rfl rfl<|JL.alloc (vs:=[.bool false,.slice none 0 0,.slice none 0 0]) HS rfl amN rfl rfl (fun g23 fB HS => ?_);refine JL.store HS rfl rfl (i:=0) rfl amI rfl rfl rfl (vs':=[.bool iE,.slice gW n22 gY,.slice gX m22 d22]) rfl rfl (fun fO HS => ?_);refine La rfl<|Jn<|JC.seq<|Js<|Lm rfl<|Lz (.bool true) (fun a ha=>mF (ha.ev rfl) rfl amV)<|Jn<|JC.bP rfl<|Js<|Lz (.agg #[.bool false,.slice none 0 0,.slice none 0 0,.bool false]) (fun a ha=>bI.run_build (ha.bW rfl) amR amS jT rfl)<|Lm rfl<|JL.store HS rfl rfl (i:=1) rfl amK rfl rfl rfl (vs':=[.bool false,.slice none 0 0,.slice none 0 0,.bool false]) rfl rfl (fun fU HS => ?_);refine La rfl<|Jn<|Jb Tryz.results28 (.agg rfl amO amK (HS.box _ au) rfl rfl) (.tmp rfl)<|?_;exact ⟨_,_,_,_,_,_,_,rfl,(HS.add (FV.stable _ _ _ _) (FV.zero 0 _)).out 2 2 0 rfl rfl rfl (fun _ h=>h.as rfl af)⟩
set_option maxRecDepth 100000 in
set_option maxHeartbeats 400000 in
theorem aec(HT:Tz W0)(HB:Tab W0){l:List UInt8}{q:Rat}{z:Int}(HS:St W0 U Ps w)(HX:Mx W0)(hne:l≠[104,97,108,102])(hp:PF 75 l q (.int .i64 z))(hz:z≠0):bC Tryz.prog 31 [.string ⟨l.toArray⟩] w (oD W0 U Ps 0 false 40 (.int .i64 z)):=by
 refine cZ Tryz.func31 rfl Tryz.ntmps31 rfl<|Js<|JL.alloc (vs:=[.bool false,.slice none 0 0,.slice none 0 0,.bool false]) HS rfl amS rfl rfl (fun g21 dO HS => ?_);refine La rfl<|Jn<|JC.seq<|Js<|Lm rfl<|Lz (.bool false) (fun a ha=>qY (ha.ev rfl) (ha.ev rfl) (by simpa using hne))<|Jn<|JC.bH rfl<|Jk<|Js<|Lm rfl<|JL.call rfl rfl Tryz.call75 (hp HT HB HX HS)<|?_;rintro v22 dQ ⟨iE,gW,n22,gY,gX,m22,d22,rfl,HS⟩;refine Lm rfl<|Lx rfl rfl<|Lx rfl rfl<|JL.alloc (vs:=[.bool false,.slice none 0 0,.slice none 0 0]) HS rfl amN rfl rfl (fun g23 fB HS => ?_);refine JL.store HS rfl rfl (i:=0) rfl amI rfl rfl rfl (vs':=[.bool iE,.slice gW n22 gY,.slice gX m22 d22]) rfl rfl (fun fO HS => ?_);refine La rfl<|Jn<|JC.seq<|Js<|Lm rfl<|Lz (.bool true) (fun a ha=>fK (ha.ev rfl) (ha.ev rfl) (bne_iff_ne.2 hz))<|Jn<|JC.bP rfl<|Js<|Lz (.agg #[.bool false,.slice none 0 0,.slice none 0 0,.bool false]) (fun a ha=>bI.run_build (ha.bW rfl) amR amS jT rfl)<|Lm rfl<|JL.store HS rfl rfl (i:=1) rfl amK rfl rfl rfl (vs':=[.bool false,.slice none 0 0,.slice none 0 0,.bool false]) rfl rfl (fun fU HS => ?_);refine La rfl<|Jn<|Jb Tryz.results31 (.agg rfl amO amK (HS.box _ au) rfl rfl) (.tmp rfl)<|?_;exact ⟨_,_,_,_,_,_,_,rfl,(HS.add (FV.stable _ _ _ _) (FV.zero 0 _)).out 2 2 0 rfl rfl rfl (fun _ h=>h.as rfl af)⟩
theorem acS(q:Rat):fE q≠[104,97,108,102]:=by
 intro e
 have hc : ∀ x∈fE q,x.toNat<=57:=by
  intro x hx;unfold fE at hx
  split at hx
  ·rcases Dj _ x hx with h | h <;> omega
  ·rcases ao6.1 hx with hx | hx
   ·rcases Dj _ x hx with h | h <;> omega
   ·rcases ao6.1 hx with hx | hx
    ·rw [aqe.1 hx];decide
    ·rcases Dj _ x hx with h | h <;> omega
 exact absurd (hc 104 (by rw [e];simp)) ai
theorem Qz{u:Bool}{q:Rat}(t:u=true->q=0)(hn:q.num.natAbs<pw 40)(hd:q.den<pw 40):rY 28 (xQ u q) u q .nilIface:=by
 cases u
 ·exact fun HT HB HX HS=>TE HT HB HS HX (acS q) (fun HT HB HX HS=>nI (uZ HS (YJ (K:=40) (St.start HS HT HB) (HX.next HS.below) hn hd af)) rfl af) hn hd
 ·rw [t rfl];exact fun HT HB HX HS=>TD HT HB HS HX
def Lp(l:List UInt8):Prop := ∃ z:Int,z≠0/\rY 28 l false 0 (.iface 88 (.int .i64 z))/\rY 31 l false 0 (.int .i64 z)
theorem afZ(l:List UInt8)(hl:l.length<=300):Lp l \/ ∃ u q,(u=true->q=0)/\q.num.natAbs<pw 40/\q.den<pw 40/\rY 28 l u q .nilIface/\rY 31 l u q (.int .i64 0):=by
 by_cases hne:l=[104,97,108,102]
 ·subst hne
  exact .inr ⟨true,0,fun _=>rfl,by decide +kernel,by decide +kernel,fun HT HB HX HS=>TD HT HB HS HX,fun HT HB HX HS=>aed HT HB HS HX⟩
 ·obtain ⟨q,er,c,_,hp,h⟩:=ac9 l (.inl hl)
  rcases h with ⟨rfl,rfl,h1,h2⟩ | ⟨rfl,hz,rfl⟩
  ·exact .inr ⟨false,q,fun h=>(by cases h),h1,h2,fun HT HB HX HS=>TE HT HB HS HX hne (fun HT HB HX HS=>(hp HT HB HX HS).1) h1 h2,fun HT HB HX HS=>aee HT HB HS HX hne (fun HT HB HX HS=>(hp HT HB HX HS).2) h1 h2⟩
  ·exact .inl ⟨c,hz,fun HT HB HX HS=>afT HT HB HS HX hne (fun HT HB HX HS=>(hp HT HB HX HS).1) hz,fun HT HB HX HS=>aec HT HB HS HX hne (fun HT HB HX HS=>(hp HT HB HX HS).2) hz⟩
end
section
variable {W0 w:World} {U:List Box} {Ps:List (World->Prop)}
theorem agV(n:Nat):decide (((n:Int)) > 200)=decide (200<n):=decide_eq_decide.2 af
set_option maxRecDepth 100000 in
set_option maxHeartbeats 4000000 in
theorem afY(HT:Tz W0)(HB:Tab W0){l:List UInt8}{s1:Bool}{A1:Option Addr}{n1 c1:Nat}{B1:Option Addr}{m1 d1:Nat}{q1:Rat}{k1:Nat}{b1:Bool}{u1:Bool}(HS:St W0 U Ps w)(f1:FV (.agg #[.bool s1,.slice A1 n1 c1,.slice B1 m1 d1]) q1 k1 b1 w)(HX:Mx W0):bC Tryz.prog 10 [.agg #[.bool s1,.slice A1 n1 c1,.slice B1 m1 d1,.bool u1],.string ⟨l.toArray⟩] w (dm W0 U Ps (.bool true)):=by
 have HS:=HS.add (FV.stable _ _ _ _) f1;clear f1;refine cZ aoA rfl Tryz.ntmps10 rfl<|Js<|JL.box (vs:=[.bool s1,.slice A1 n1 c1,.slice B1 m1 d1,.bool u1]) HS rfl rfl rfl rfl (fun g21 dO HS => ?_);refine La rfl<|Jn<|JC.seq<|Js<|JL.call rfl rfl an0 (xU HT HB HS  )<|?_;rintro v22 dQ ⟨rfl,HS⟩;refine Lz (.bool false) (fun a ha=>fF (b:=true) (ha.ev rfl))<|Lm rfl<|bz (.pointer (some ⟨g21,0,none⟩)) (fun a ha=>iG (ha.ev rfl) amR rfl amI rfl rfl)<|bz (.agg #[.bool s1,.slice A1 n1 c1,.slice B1 m1 d1]) (fun a ha=>fQ (ha.ev rfl) amL amI (HS.box _ ak) rfl rfl)<|JL.F5 (vs:=[.bool s1,.slice A1 n1 c1,.slice B1 m1 d1]) HS rfl rfl rfl rfl rfl (fun a ha=>ha.bW rfl) aow amI amN rfl rfl ah rfl (fun g23 fB HS => ?_);refine JL.dJ rfl rfl rfl rfl rfl rfl Tryz.call12 (TG HT HB HS)<|?_;rintro v24 fO ⟨rfl,HS⟩;refine bz (.bool (!(decide (n1<=6/\m1<=6)))) (fun a ha=>fF (ha.ev rfl))<|Lf rfl rfl<|?_
 cases zL:((decide (n1<=6/\m1<=6)))
 ·skip
  refine Lm rfl<|Lq<|Lq<|Lq<|Lq<|Lt rfl rfl<|Lm rfl<|Lq<|Lq<|Lq<|Lt rfl rfl<|Jn<|JC.bP rfl<|Js<|JL.call rfl rfl an0 (xU HT HB HS  )<|?_;rintro v26 jX ⟨rfl,HS⟩;refine La rfl<|Jn<|Ja Tryz.results10 (.tmp rfl)<|?_;exact ⟨rfl,HS.o0 2 1⟩
 ·skip
  have hfew:=of_decide_eq_true zL;have HS:=HS.iV 0 rfl (fun _ h=>(dA.cut (K:=6) h af af:FV _ _ 6 _ _));refine Lm rfl<|bz (.agg #[.bool s1,.slice A1 n1 c1,.slice B1 m1 d1,.bool u1]) (fun a ha=>fQ (ha.ev rfl) amO amK (HS.box _ au) rfl rfl)<|JL.F5 (vs:=[.bool s1,.slice A1 n1 c1,.slice B1 m1 d1,.bool u1]) HS rfl rfl rfl rfl rfl (fun a ha=>ha.bW rfl) am0 amK amS rfl rfl ah rfl (fun Gx qp HS => ?_)
  by_cases hc28:ed b1 u1 q1
  ·skip
   obtain ⟨rfl,t1⟩:=hc28;refine JL.dJ rfl rfl rfl rfl rfl rfl Tryz.call43 (afJ HT HB HS (HS.at_ 0 rfl) af ⟨rfl,t1⟩)<|?_;rintro v29 qw ⟨rfl,HS⟩;refine bz (.bool false) (fun a ha=>fF (b:=true) (ha.ev rfl))<|Lf rfl rfl<|Lm rfl<|bZ rfl<|bz (.int .i64 (l.length:Int)) (fun a ha=>dI (ha.ev rfl) amM rfl)<|bz (.bool (decide (200<l.length))) (fun a ha=>dH (ha.ev rfl) (ha.ev rfl) (agV _))<|Lf rfl rfl<|Jn<|?_
   cases aan:((decide (200<l.length)))
   ·skip
    have hlen:l.length<=300:=by have h9:=of_decide_eq_false aan;omega
    refine JC.bH rfl<|Jk<|Js<|JL.load (.agg #[.bool s1,.slice A1 n1 c1,.slice B1 m1 d1,.bool u1]) HS 2 rfl rfl rfl amO amK rfl rfl<|JL.call rfl rfl aoy (JJ HT HB HS (HS.at_ 0 rfl) af ⟨rfl,t1⟩)<|?_;rintro v31 uz ⟨rfl,HS⟩;refine Lm rfl<|Lx rfl rfl<|Lx rfl rfl<|La rfl<|La rfl<|Jn<|JC.seq<|?_;have hb4:rY 28 (xQ u1 q1) u1 q1 .nilIface:=Qz t1 (aoK (dA.lt (HS.at_ 0 rfl)).1 (dU af)) (aoK (dA.lt (HS.at_ 0 rfl)).2 (dU af));refine JC.region<|Lm rfl<|JL.call rfl rfl aoB (hb4 HT HB HX HS)<|?_;rintro v32 w32 ⟨Sl,Kt,n32,c32,KD,m32,d32,rfl,HS⟩;refine Lm rfl<|Lx rfl rfl<|Lx rfl rfl<|JL.alloc (vs:=[.bool false,.slice none 0 0,.slice none 0 0,.bool false]) HS rfl amS rfl rfl (fun g33 JU HS => ?_);refine JL.store HS rfl rfl (i:=0) rfl amK rfl rfl rfl (vs':=[.bool Sl,.slice Kt n32 c32,.slice KD m32 d32,.bool u1]) rfl rfl (fun TY HS => ?_);refine La rfl<|Jn<|JC.seq<|Js<|Lm rfl<|Lz (.bool false) (fun a ha=>iD (ha.ev rfl) rfl amV)<|Lm rfl<|bZ rfl<|bz (.bool false) (fun a ha=>iD (ha.ev rfl) rfl amV)<|Lf rfl rfl<|Lm rfl<|bz (.agg #[.bool s1,.slice A1 n1 c1,.slice B1 m1 d1,.bool u1]) (fun a ha=>fQ (ha.ev rfl) amO amK (HS.box _ az) rfl rfl)<|bz (.agg #[.bool Sl,.slice Kt n32 c32,.slice KD m32 d32,.bool u1]) (fun a ha=>fQ (ha.ev rfl) amO amK (HS.box _ ak) rfl rfl)<|JL.dJ rfl rfl rfl rfl rfl rfl Tryz.call23 (Jj HT HB HS (HS.at_ 1 rfl) (HS.at_ 0 rfl) af rfl rfl)<|?_;rintro v35 w35 ⟨rfl,HS⟩;refine bz (.bool false) (fun a ha=>fF (b:=true) (ha.ev rfl))<|Lf rfl rfl<|Jn<|JC.bH rfl<|Jk<|?_
    by_cases Om:Lp l
    ·skip
     refine JC.seq<|?_;obtain ⟨z,hz,hw1,_⟩:=Om;refine JC.region<|Lm rfl<|JL.call rfl rfl aoB (hw1 HT HB HX HS)<|?_;rintro v37 w37 ⟨s37,Ky,n37,c37,UK,m37,d37,rfl,HS⟩;obtain rfl:n37=0:=(FV.nz (HS.at_ 0 rfl)).2 rfl;refine Lm rfl<|Lx rfl rfl<|Lx rfl rfl<|JL.alloc (vs:=[.bool false,.slice none 0 0,.slice none 0 0,.bool false]) HS rfl amS rfl rfl (fun NK w38 HS => ?_);refine JL.store HS rfl rfl (i:=0) rfl amK rfl rfl rfl (vs':=[.bool s37,.slice Ky 0 c37,.slice UK m37 d37,.bool false]) rfl rfl (fun w39 HS => ?_);refine La rfl<|Jn<|JC.seq<|Js<|Lm rfl<|Lz (.bool true) (fun a ha=>mF (ha.ev rfl) rfl amV)<|Jn<|JC.bP rfl<|Js<|eH 3 rfl amR rfl amY<|JL.fJ (.bool false) HS 0 rfl rfl rfl amX rfl<|Lz (.bool true) (fun a ha=>fF (b:=false) (ha.ev rfl))<|Lm rfl<|bz (.pointer (some ⟨NK,0,none⟩)) (fun a ha=>iG (ha.ev rfl) amR rfl amI rfl rfl)<|bz (.pointer (some ⟨NK,1,none⟩)) (fun a ha=>iG (ha.ev rfl) amU rfl am4 rfl rfl)<|bz (.slice Ky 0 c37) (fun a ha=>kD (ha.ev rfl) am5 (HS.box _ ak) rfl)<|bz (.int .i64 0) (fun a ha=>Aw (ha.ev rfl) ano)<|bz (.bool true) (fun a ha=>eU (ha.ev rfl) (ha.ev rfl) ai)<|Lt rfl rfl<|La rfl<|Jn<|Ja Tryz.results10 (.tmp rfl)<|?_;exact ⟨rfl,HS.o0 5 4⟩
    ·skip
     refine JC.seq<|?_;obtain ⟨u,q,t,hn,hd,hw1,_⟩:=(afZ l hlen).resolve_left Om;have hb5:rY 28 (xQ u q) u q .nilIface:=Qz t hn hd;refine JC.region<|Lm rfl<|JL.call rfl rfl aoB (hw1 HT HB HX HS)<|?_;rintro v40 w40 ⟨Ju,EG,n40,c40,EM,m40,d40,rfl,HS⟩;refine Lm rfl<|Lx rfl rfl<|Lx rfl rfl<|JL.alloc (vs:=[.bool false,.slice none 0 0,.slice none 0 0,.bool false]) HS rfl amS rfl rfl (fun YZ w41 HS => ?_);refine JL.store HS rfl rfl (i:=0) rfl amK rfl rfl rfl (vs':=[.bool Ju,.slice EG n40 c40,.slice EM m40 d40,.bool u]) rfl rfl (fun w42 HS => ?_);refine La rfl<|Jn<|JC.seq<|Js<|Lm rfl<|Lz (.bool false) (fun a ha=>iD (ha.ev rfl) rfl amV)<|Jn<|JC.bH rfl<|Jk<|Js<|JL.load (.agg #[.bool Ju,.slice EG n40 c40,.slice EM m40 d40,.bool u]) HS 0 rfl rfl rfl amO amK rfl rfl<|JL.call rfl rfl aoy (JJ HT HB HS (HS.at_ 0 rfl) af ⟨rfl,t⟩)<|?_;rintro v43 w43 ⟨rfl,HS⟩;refine Lm rfl<|Lx rfl rfl<|Lx rfl rfl<|La rfl<|La rfl<|Jn<|Js<|Lm rfl<|JL.call rfl rfl aoB (hb5 HT HB HX HS)<|?_;rintro v44 w44 ⟨s44,Kz,n44,Me,KF,m44,d44,rfl,HS⟩;refine Lm rfl<|Lx rfl rfl<|Lx rfl rfl<|JL.alloc (vs:=[.bool false,.slice none 0 0,.slice none 0 0,.bool false]) HS rfl amS rfl rfl (fun g45 w45 HS => ?_);refine JL.store HS rfl rfl (i:=0) rfl amK rfl rfl rfl (vs':=[.bool s44,.slice Kz n44 Me,.slice KF m44 d44,.bool u]) rfl rfl (fun w46 HS => ?_);refine La rfl<|Jn<|Js<|Lm rfl<|Lz (.bool true) (fun a ha=>pX (ha.ev rfl) rfl amV)<|Lm rfl<|bZ rfl<|bz (.bool true) (fun a ha=>pX (ha.ev rfl) rfl amV)<|Lt rfl rfl<|Lm rfl<|bz (.agg #[.bool Ju,.slice EG n40 c40,.slice EM m40 d40,.bool u]) (fun a ha=>fQ (ha.ev rfl) amO amK (HS.box _ au) rfl rfl)<|bz (.agg #[.bool s44,.slice Kz n44 Me,.slice KF m44 d44,.bool u]) (fun a ha=>fQ (ha.ev rfl) amO amK (HS.box _ ak) rfl rfl)<|JL.dJ rfl rfl rfl rfl rfl rfl Tryz.call23 (Jj HT HB HS (HS.at_ 1 rfl) (HS.at_ 0 rfl) af rfl rfl)<|?_;rintro v47 w47 ⟨rfl,HS⟩;refine Lt rfl rfl<|La rfl<|Jn<|Ja Tryz.results10 (.tmp rfl)<|?_;exact ⟨rfl,HS.o0 6 5⟩
   ·skip
    refine JC.bP rfl<|Js<|JL.call rfl rfl an0 (xU HT HB HS  )<|?_;rintro v48 w48 ⟨rfl,HS⟩;refine La rfl<|Jn<|Ja Tryz.results10 (.tmp rfl)<|?_;exact ⟨rfl,HS.o0 3 2⟩
  ·skip
   refine JL.dJ rfl rfl rfl rfl rfl rfl Tryz.call43 (afI HT HB HS (HS.at_ 0 rfl) af hc28)<|?_;rintro v49 w49 ⟨rfl,HS⟩;refine bz (.bool true) (fun a ha=>fF (b:=false) (ha.ev rfl))<|Lf rfl rfl<|Lm rfl<|Lq<|Lq<|Lq<|Lt rfl rfl<|Jn<|JC.bP rfl<|Js<|JL.call rfl rfl an0 (xU HT HB HS  )<|?_;rintro v50 w50 ⟨rfl,HS⟩;refine La rfl<|Jn<|Ja Tryz.results10 (.tmp rfl)<|?_;exact ⟨rfl,HS.o0 3 2⟩
theorem afX{s1:Bool}{A1:Option Addr}{n1 c1:Nat}{B1:Option Addr}{m1 d1:Nat}{q1:Rat}{k1:Nat}{b1:Bool}{u1:Bool}{z9:ByteArray}{pw9:Prop}(W:World)(ht:Tz W)(hb:Tab W)(hx:Mx W)(f1:dA W ⟨.agg #[.bool s1,.slice A1 n1 c1,.slice B1 m1 d1],q1,k1,b1⟩)(_w9:pw9) :
  Calls Tryz.prog 10 #[.agg #[.bool s1,.slice A1 n1 c1,.slice B1 m1 d1,.bool u1],.string z9] W fun e w'=>e = .returned (.bool true)/\Below W.heap.size W w':=by
 obtain ⟨l,rfl⟩ : ∃ l:List UInt8,z9=⟨l.toArray⟩:=⟨z9.data.toList,by simp⟩;exact law_true (afY ht hb (St.init W) f1 hx)
end
end Go.Proofs.BGQ
