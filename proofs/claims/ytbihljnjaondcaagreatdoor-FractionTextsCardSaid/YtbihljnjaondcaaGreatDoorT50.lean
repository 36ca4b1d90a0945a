/- Part of a proof, said shortly. -/
import Derived.Test.YtbihljnjaondcaaGreatDoorAlt
import Derived.Test.YtbihljnjaondcaaGreatDoorT46
import Derived.Test.YtbihljnjaondcaaGreatDoorT45
import Derived.Test.YtbihljnjaondcaaGreatDoorT33
import Derived.Test.YtbihljnjaondcaaGreatDoorT32
import Derived.Test.YtbihljnjaondcaaGreatDoorT31
import Derived.Test.YtbihljnjaondcaaGreatDoorT43
import Derived.Test.YtbihljnjaondcaaGreatDoorT41
import Derived.Test.YtbihljnjaondcaaGreatDoorT40
import Derived.Test.YtbihljnjaondcaaGreatDoorT34
import Derived.Test.YtbihljnjaondcaaGreatDoorT29
import Derived.Test.YtbihljnjaondcaaGreatDoorT28
import Derived.Test.YtbihljnjaondcaaGreatDoorT26
import Derived.Test.YtbihljnjaondcaaGreatDoorT25
import Derived.Test.YtbihljnjaondcaaGreatDoorT24
import Derived.Test.YtbihljnjaondcaaGreatDoorT23
import Derived.Test.YtbihljnjaondcaaGreatDoorT22
import Derived.Test.YtbihljnjaondcaaGreatDoorT21
import Derived.Test.YtbihljnjaondcaaGreatDoorT20
import Derived.Test.YtbihljnjaondcaaGreatDoorT14
import Derived.Test.YtbihljnjaondcaaGreatDoorT4
import Derived.Test.YtbihljnjaondcaaGreatDoorT3
import Derived.Test.YtbihljnjaondcaaGreatDoorT2
import Derived.Test.YtbihljnjaondcaaGreatDoorT1
import Derived.Test.YtbihljnjaondcaaGreatDoorT13
import Derived.Test.YtbihljnjaondcaaGreatDoorT9
import Derived.Test.YtbihljnjaondcaaGreatDoorT8
import Derived.Test.YtbihljnjaondcaaGreatDoorT6
import Derived.Test.YtbihljnjaondcaaGreatDoorT5
import Derived.Test.YtbihljnjaondcaaGreatDoorT7
import Derived.Test.YtbihljnjaondcaaGreatDoorT19
import Derived.Test.YtbihljnjaondcaaGreatDoorT18
import Derived.Test.YtbihljnjaondcaaGreatDoorT16
import Derived.Test.YtbihljnjaondcaaGreatDoorT15
import Derived.Test.YtbihljnjaondcaaGreatDoorT17
import Derived.Test.YtbihljnjaondcaaGreatDoorT10
import Derived.Test.YtbihljnjaondcaaGreatDoorT11
import Derived.Test.YtbihljnjaondcaaGreatDoorT12
import Derived.Test.YtbihljnjaondcaaGreatDoorT27
import Derived.Test.YtbihljnjaondcaaGreatDoorT39
import Derived.Test.YtbihljnjaondcaaGreatDoorT38
import Derived.Test.YtbihljnjaondcaaGreatDoorT35
import Derived.Test.YtbihljnjaondcaaGreatDoorT37
import Derived.Test.YtbihljnjaondcaaGreatDoorT36
import Derived.Test.YtbihljnjaondcaaGreatDoorT42
import Derived.Test.YtbihljnjaondcaaGreatDoorT44
import Derived.Test.YtbihljnjaondcaaGreatDoorT47
import Derived.Test.YtbihljnjaondcaaGreatDoorT49
import Derived.Test.YtbihljnjaondcaaGreatDoorT48
set_option maxRecDepth 100000
open Go.Proofs.YtbihljnjaondcaaGreatDoor (btT btU btV btW abe abd bq6 bq5 iy0)
set_option linter.unusedVariables false
set_option linter.unusedSimpArgs false
namespace Lw
open Go
theorem a5V {b c:UInt8} (h:b≠c):b.toNat≠c.toNat:=fun e=>h (UInt8.toNat_inj.1 e)
theorem biQ (l:List UInt8):(∀ b∈l,b≠47∧b≠46) ∨ ∃ a c r,l=a++c :: r∧(c=47∨c=46) ∧ ∀ b∈a,b≠47∧b≠46:=by
 induction l with
 | nil=>exact .inl fun b h=>by cases h
 | cons x l ih =>
  by_cases hx:x=47∨x=46
  ·exact .inr ⟨[],x,l,rfl,hx,fun b h=>by cases h⟩
  ·have hx':x≠47∧x≠46:=⟨fun e=>hx (.inl e),fun e=>hx (.inr e)⟩
   rcases ih with h | ⟨a,c,r,h1,h2,h3⟩
   ·refine .inl fun b hb => ?_
    rcases List.mem_cons.1 hb with rfl | hb
    ·exact hx'
    ·exact h b hb
   ·refine .inr ⟨x :: a,c,r,by rw [h1]; rfl,h2,fun b hb => ?_⟩
    rcases List.mem_cons.1 hb with rfl | hb
    ·exact hx'
    ·exact h3 b hb
theorem bnU {l:List UInt8} {c:UInt8} (h:c∈l) : ∃ a r,l=a++c :: r ∧ ∀ x∈a,x≠c:=by
 induction l with
 | nil=>cases h
 | cons x l ih =>
  by_cases hx:x=c
  ·exact ⟨[],l,by rw [hx]; rfl,fun x h=>by cases h⟩
  ·rcases List.mem_cons.1 h with e | e
   ·exact absurd e.symm hx
   ·obtain ⟨a,r,h1,h2⟩:=ih e
    refine ⟨x :: a,r,by rw [h1]; rfl,fun y hy => ?_⟩
    rcases List.mem_cons.1 hy with rfl | hy
    ·exact hx
    ·exact h2 y hy
theorem bko {a a' r r':List UInt8} {c:UInt8} (h:a++c :: r=a'++c :: r') (h1 : ∀ x∈a,x≠c) (h2 : ∀ x∈a',x≠c):a=a'∧r=r':=by
 induction a generalizing a' with
 | nil =>
  cases a' with
  | nil=>exact ⟨rfl,by injection h⟩
  | cons y b=>injection h with e _; exact absurd e.symm (h2 y (.head _))
 | cons x a ih =>
  cases a' with
  | nil=>injection h with e _; exact absurd e (h1 x (.head _))
  | cons y b =>
   injection h with e1 e2
   obtain ⟨i1,i2⟩:=ih e2 (fun z hz=>h1 z (.tail _ hz)) (fun z hz=>h2 z (.tail _ hz))
   exact ⟨by rw [e1,i1],i2⟩
theorem bh' {x y:Int} (hy:0 < y) (h:Nat.gcd x.natAbs y.natAbs=1):(Rat.divInt x y).num=x∧((Rat.divInt x y).den:Int)=y:=by
 rw [Rat.num_divInt,Rat.den_divInt]
 have hg:Int.gcd y x=1:=by rw [Int.gcd_comm]; exact h
 rw [hg]
 constructor
 ·rw [Int.sign_eq_one_of_pos hy]; simp
 ·rw [if_neg (by omega)]; simp; omega
theorem blg {a r:List UInt8} {z:Int} (_:a=Lib.itoa z):aka (Rat.divInt z 1)≠a++47 :: r:=by
 intro h
 have hm:(47:UInt8)∈aka (Rat.divInt z 1):=by rw [h]; simp
 rw [show Rat.divInt z 1=(z:Rat) from Rat.ext (by rw [Rat.num_divInt]; simp) (by rw [Rat.den_divInt]; simp)] at hm
 unfold aka at hm
 rw [if_pos (Rat.den_intCast _),Rat.num_intCast] at hm
 exact a6w (.inr rfl) _ hm rfl
theorem bfv {a r:List UInt8} {x y:Int} (ha:a=Lib.itoa x) (hr:r=Lib.itoa y) (hy:1 < y):aka (Rat.divInt x y)=a++47 :: r↔(x≠0∧Nat.gcd x.natAbs y.natAbs=1):=by
 constructor
 ·intro h
  unfold aka at h
  split at h
  ·have hm:(47:UInt8)∈Lib.itoa (Rat.divInt x y).num:=by rw [h]; simp
   exact absurd rfl (a6w (.inr rfl) _ hm)
  ·rename_i hd
   obtain ⟨h1,h2⟩:=bko (c:=47) h (a6w (.inr rfl)) (by rw [ha]; exact a6w (.inr rfl))
   have e1:=a6v (h1.trans ha)
   have e2:=a6v (h2.trans hr)
   have e3:=(Rat.divInt x y).reduced
   unfold Nat.Coprime at e3
   rw [e1] at e3
   have e4:(Rat.divInt x y).den=y.natAbs:=by omega
   rw [e4] at e3
   refine ⟨fun hx => ?_,e3⟩
   rw [hx,Int.natAbs_zero,Nat.gcd_zero_left] at e3
   omega
 ·rintro ⟨_,h⟩
  obtain ⟨h1,h2⟩:=bh' (show 0 < y by omega) h
  unfold aka
  rw [if_neg (by omega),h1,h2,ha,hr]
  rfl
theorem bk8 (x y:Int) : -Rat.divInt x y=Rat.divInt (-x) y:=Rat.neg_divInt x y
theorem bhX {z:Int} {f r:List UInt8} (h:f=Lib.itoa z) (hz:0≤z):(aan (f++r):Int)=z*10 ^ r.length+(aan r:Int):=by
 rw [bcu,h,anm (by unfold sg; exact decide_eq_false (by omega)),List.nil_append,a1H,Int.natCast_add,Int.natCast_mul,Int.natCast_pow]
 have:((z.natAbs:Nat):Int)=z:=by omega
 rw [this]
 rfl
theorem biR {r:List UInt8} (h:¬ acz r) : ∃ m,m < r.length∧(∀ (j:Nat) (b:UInt8),j < m→r[j]? = some b→48≤b.toNat∧b.toNat≤57) ∧ ∀ b,r[m]? = some b→¬ (48≤b.toNat∧b.toNat≤57):=by
 induction r with
 | nil=>exact absurd (fun b hb=>by cases hb) h
 | cons x r ih =>
  by_cases hx:48≤x.toNat∧x.toNat≤57
  ·have h2:¬ acz r:=fun hd=>h fun b hb=>by
    rcases List.mem_cons.1 hb with rfl | hb
    ·exact hx
    ·exact hd b hb
   obtain ⟨m,h3,h4,h5⟩:=ih h2
   refine ⟨m+1,by simp; omega,fun j b hj hb => ?_,fun b hb=>h5 b (by simpa using hb)⟩
   cases j with
   | zero=>simp at hb; subst hb; exact hx
   | succ j=>exact h4 j b (by omega) (by simpa using hb)
  ·exact ⟨0,by simp,fun j b hj=>by omega,fun b hb=>by simp at hb; subst hb; exact hx⟩
theorem bcp {r:List UInt8} {m j:Nat} (h : ∀ (j:Nat) (b:UInt8),j < m→r[j]? = some b→48≤b.toNat∧b.toNat≤57) (hm:m≤r.length) (hj:j≤m):aan (r.take j) < 10 ^ j:=by
 have hd:acz (r.take m):=fun b hb=>by
  obtain ⟨k,hk⟩:=List.getElem?_of_mem hb
  have hk2:k < m:=by
   have:=(List.getElem?_eq_some_iff.1 hk).1
   rw [List.length_take] at this; omega
  exact h k b hk2 (by rw [List.getElem?_take_of_lt hk2] at hk; exact hk)
 have:=a7w hd j (by rw [List.length_take]; omega)
 rwa [List.take_take,Nat.min_eq_left hj] at this
end Lw
namespace Go.Proofs.YtbihljnjaondcaaGreatDoor
open Go Go.RowKit Lw acY
def PB (l:List UInt8) (q:Rat) (er:Value) (c:Int):Prop := ∀ {W0 w:World} {U:List Box} {Ps:List (World→Prop)},Tz W0→Tab W0→Mx W0→St W0 U Ps w →
 aba Tryz.prog 27 [.string ⟨l.toArray⟩] w (aj8 W0 U Ps q 1000 er)∧aba Tryz.prog 28 [.string ⟨l.toArray⟩] w (aj8 W0 U Ps q 1000 (.int .i64 c))
section
variable {W0 w:World} {U:List Box} {Ps:List (World→Prop)}
theorem a1R {f:FuncId} {vs:List Value} {q r:Rat} {er:Value} {k K:Nat} (h:aba Tryz.prog f vs w (aj8 W0 U Ps q k er)) (hq:q=r) (hk:k≤K):aba Tryz.prog f vs w (aj8 W0 U Ps r K er) :=
 Calls.mono h fun e w' hh=>by
  subst hq
  obtain ⟨u,rfl,s,A,n,c,B,m,d,rfl,hs⟩:=hh
  exact ⟨_,rfl,_,_,_,_,_,_,_,rfl,hs.out 0 1 0 rfl rfl rfl (fun _ h=>h.weak hk)⟩
theorem a1j {f:FuncId} {vs:List Value} {er:Value} {K:Nat} (h:aba Tryz.prog f vs w (AnP W0 U Ps (.tuple #[abe,er]))):aba Tryz.prog f vs w (aj8 W0 U Ps 0 K er) :=
 Calls.mono h fun e w' hh=>by
  obtain ⟨u,rfl,rfl,hs⟩:=hh
  exact ⟨_,rfl,_,_,_,_,_,_,_,rfl,hs.add (FV.stable _ _ _ _) (FV.zero K w')⟩
end
theorem a8k (l:List UInt8) (hl:l.length≤300) : ∃ z c,RP l z c∧((l=Lib.itoa z∧c=0)∨((∀ z',l≠Lib.itoa z')∧c=2∧z=0)):=by
 rcases Classical.em (∃ z,l=Lib.itoa z) with ⟨z,h⟩ | h
 ·exact ⟨z,0,RP.yes h hl,.inl ⟨h,rfl⟩⟩
 ·have h' : ∀ z,l≠Lib.itoa z:=fun z e=>h ⟨z,e⟩
  exact ⟨0,2,RP.no h' hl,.inr ⟨h',rfl,rfl⟩⟩
theorem bmO {l:List UInt8} (hl:l.length≤300) (h : ∀ b∈l,b≠47∧b≠46) : ∃ q er c,an9 er c∧PB l q er c:=by
 have hcl : ∀ (j:Nat) (b:UInt8),l[j]? = some b→b.toNat≠47∧b.toNat≠46:=fun j b hb=>⟨a5V (h b (List.mem_of_getElem? hb)).1,a5V (h b (List.mem_of_getElem? hb)).2⟩
 have hno : ∀ x∈l,x≠46:=fun x hx=>(h x hx).2
 have hcut:=bhP (l:=l) (c:=47) (fun x hx=>(h x hx).1)
 obtain ⟨z,c,hp,⟨hz,rfl⟩ | ⟨hz,rfl,rfl⟩⟩:=a8k l hl
 ·exact ⟨_,_,0,an9.nil_,fun HT HB HX HS=>⟨a1R (bi4 HT HB HS HX hno hl hcut hz) rfl (by omega),a1R (beP HT HB HS hcl hl hp) rfl (by omega)⟩⟩
 ·exact ⟨0,_,2,an9.err 2,fun HT HB HX HS=>⟨a1j (bi5 HT HB HS HX hno hl hcut hz),a1R (beP HT HB HS hcl hl hp) rfl (by omega)⟩⟩
theorem bbO {a r:List UInt8} {c:UInt8} : (a++c :: r)[a.length]? = some c∧(a++c :: r).take a.length=a∧(a++c :: r).drop (a.length+1)=r:=by
 refine ⟨by simp,by simp,?_⟩
 rw [← List.drop_drop]
 simp
theorem bb9 {a r:List UInt8} {c:UInt8} (h : ∀ b∈a,b≠47∧b≠46) : ∀ (j:Nat) (b:UInt8),j < a.length→(a++c :: r)[j]? = some b→b.toNat≠47∧b.toNat≠46:=fun j b hj hb=>by
 rw [List.getElem?_append_left hj] at hb
 exact ⟨a5V (h b (List.mem_of_getElem? hb)).1,a5V (h b (List.mem_of_getElem? hb)).2⟩
theorem bcI (a r:List UInt8):(∃ f,a=45 :: f∧Lib.trimPrefix (a++46 :: r) [45]=f++46 :: r∧Lib.hasPrefix (a++46 :: r) [45]=true)∨((∀ x,a[0]? = some x→x.toNat≠45)∧Lib.trimPrefix (a++46 :: r) [45]=a++46 :: r∧Lib.hasPrefix (a++46 :: r) [45]=false):=by
 cases a with
 | nil=>exact .inr ⟨fun x h=>by simp at h,by simp [Lib.trimPrefix,Lib.hasPrefix,List.isPrefixOf],by simp [Lib.hasPrefix,List.isPrefixOf]⟩
 | cons y f =>
  by_cases hy:y=45
  ·subst hy
   exact .inl ⟨f,rfl,by simp [Lib.trimPrefix,Lib.hasPrefix,List.isPrefixOf],by simp [Lib.hasPrefix,List.isPrefixOf]⟩
  ·have hy2:¬ (45:UInt8)=y:=fun e=>hy e.symm
   exact .inr ⟨fun x h=>by simp at h; subst h; exact a5V hy,by simp [Lib.trimPrefix,Lib.hasPrefix,List.isPrefixOf,hy2],by simp [Lib.hasPrefix,List.isPrefixOf,hy2]⟩
theorem baE {l t f b:List UInt8} {neg:Bool} (ht:Lib.trimPrefix l [45]=t) (hn:Lib.hasPrefix l [45]=neg) (hcut:Lib.cut t [46]=(f,b,true)) (hl:l.length≤300) (htl:t.length≤300) (hfl:f.length≤300) (hbl:b.length≤300)
  (h:64 < l.length∨¬ Plain f∨¬ (0 < b.length∧acz b)):PDc l 0 (.iface 74 (.int .i64 2)):=fun HT HB HX HS=>by
 by_cases h64:64 < l.length
 ·exact a1j (blJ HT HB HS HX ht hn hcut hl htl hfl hbl h64)
 ·have a9G:l.length≤64:=by omega
  by_cases hf:0 < f.length∧acz f
  ·by_cases hb:0 < b.length∧acz b
   ·have hp:¬ Plain f:=by
     rcases h with h | h | h
     ·exact absurd h h64
     ·exact h
     ·exact absurd hb h
    have h1:f[0]? = some 48∧f≠[48]:=by
     by_cases h2:(f[0]'hf.1).toNat=48
     ·refine ⟨by rw [List.getElem?_eq_getElem hf.1]; congr 1; exact UInt8.toNat_inj.1 h2,fun e=>hp ?_⟩
      subst e
      exact ⟨by decide,hf.2,fun h3=>absurd h3 (by decide)⟩
     ·exact absurd ⟨hf.1,hf.2,fun _ _=>h2⟩ hp
    exact a1j (blG HT HB HS HX ht hn hcut hl htl hfl hbl a9G hf hb h1.1 h1.2)
   ·exact a1j (blH HT HB HS HX ht hn hcut hl htl hfl hbl a9G hf hb)
  ·exact a1j (blI HT HB HS HX ht hn hcut hl htl hfl hbl a9G hf)
theorem blF {l t f b:List UInt8} {neg:Bool} (ht:Lib.trimPrefix l [45]=t) (hn:Lib.hasPrefix l [45]=neg) (hcut:Lib.cut t [46]=(f,b,true)) (hl:l.length≤64) (htl:t.length≤300) (hfb:f.length+b.length≤64)
  (hp:Plain f) (hb:0 < b.length∧acz b):PDc l (if neg=true then -(Rat.divInt (aan (f++b):Int) ((10:Int) ^ b.length)) else Rat.divInt (aan (f++b):Int) ((10:Int) ^ b.length)) .nilIface:=fun HT HB HX HS=>by
 have hf:0 < f.length∧acz f:=⟨hp.1,hp.2.1⟩
 by_cases h2:(f[0]'hf.1).toNat=48
 ·have h3:f=[48]:=by
   have h4:¬ 1 < f.length:=fun h=>hp.2.2 h hf.1 h2
   cases f with
   | nil=>exact absurd hf.1 (by simp)
   | cons x f =>
    cases f with
    | nil=>rw [show x=48 from UInt8.toNat_inj.1 h2]
    | cons y f=>exact absurd (show 1 < (x :: y :: f).length by simp) h4
  exact blM HT HB HS HX ht hn hcut (by omega) htl (by omega) (by omega) hl hf hb hfb h3
 ·exact blL HT HB HS HX ht hn hcut (by omega) htl (by omega) (by omega) hl hf hb hfb (List.getElem?_eq_getElem hf.1) h2
theorem beh {f:List UInt8} : Plain f ↔ ∃ z,0≤z∧f=Lib.itoa z:=by
 constructor
 ·intro h
  exact ⟨(aan f:Int),by omega,a9F ⟨h,fun h=>by cases h.1⟩⟩
 ·rintro ⟨z,hz,rfl⟩
  rw [anm (by unfold sg; exact decide_eq_false (by omega)),List.nil_append]
  exact a1S _
theorem bmP {a r:List UInt8} (hl:(a++47 :: r).length≤300) (h : ∀ b∈a,b≠47∧b≠46) : ∃ q er c,an9 er c∧PB (a++47 :: r) q er c:=by
 have hla:a.length+(r.length+1)≤300:=by simpa using hl
 obtain ⟨hat,htk,hdr⟩:=bbO (a:=a) (r:=r) (c:=47)
 have hcl:=bb9 (r:=r) (c:=47) h
 obtain ⟨za,ca,ha,hca⟩:=a8k a (by omega)
 obtain ⟨zr,cr,hr,hcr⟩:=a8k r (by omega)
 have bad:(ca≠0∨cr≠0∨zr≤0∨aka (Rat.divInt za zr)≠a++47 :: r)→(∀ {W0 w:World} {U:List Box} {Ps:List (World→Prop)},Tz W0→Tab W0→Mx W0→St W0 U Ps w→aba Tryz.prog 27 [.string ⟨(a++47 :: r).toArray⟩] w (aj8 W0 U Ps 0 1000 (.iface 74 (.int .i64 2)))) → ∃ q er c,an9 er c∧PB (a++47 :: r) q er c:=fun hbad hprog =>
  ⟨0,_,2,an9.err 2,fun HT HB HX HS=>⟨hprog HT HB HX HS,a1R (bnm HT HB HS hcl hat htk hdr hl ha hr hbad) rfl (by omega)⟩⟩
 by_cases a1s:(46:UInt8)∈r
 ·have hcr2:cr≠0:=by
   rcases hcr with ⟨h1,_⟩ | ⟨_,h1,_⟩
   ·rw [h1] at a1s; exact absurd rfl (a6w (.inl rfl) _ a1s)
   ·omega
  refine bad (.inr (.inl hcr2)) fun HT HB HX HS=>a1R (k:=900) (bcF HT HB HS HX (by simp [a1s]) hl ?_) rfl (by omega)
  obtain ⟨r1,r2,rfl,hr1⟩:=bnU a1s
  have bc8 : ∀ g:List UInt8,¬ Plain (g++47 :: r1):=fun g hp=>by
   have:=hp.2.1 47 (by simp)
   revert this; decide
  have hna : ∀ g:List UInt8,(∀ b∈g,b≠47∧b≠46) → ∀ x∈g++47 :: r1,x≠46:=fun g hg x hx=>by
   rcases List.mem_append.1 hx with hx | hx
   ·exact (hg x hx).2
   ·rcases List.mem_cons.1 hx with rfl | hx
    ·decide
    ·exact hr1 x hx
  have e1:a++47 :: (r1++46 :: r2)=(a++47 :: r1)++46 :: r2:=by simp
  rw [e1] at hl ⊢
  have hl2:a.length+(r1.length+1)+(r2.length+1)≤300:=by simp at hl; omega
  rcases bcI (a++47 :: r1) r2 with ⟨f,hf,ht,hn⟩ | ⟨_,ht,hn⟩
  ·cases a with
   | nil=>injection hf with e _; exact fun _ _ _ _=>absurd e (by decide)
   | cons y g =>
    injection hf with _ e
    subst e
    intro W0 w U Ps HT HB HX HS; refine baE ht hn (a6d r2 (hna g (fun b hb=>h b (.tail _ hb)))) hl ?_ ?_ ?_ (.inr (.inl (bc8 g))) HT HB HX HS
    all_goals (simp only [List.append_eq,List.length_append,List.length_cons] at hl2 ⊢ <;> omega)
  ·intro W0 w U Ps HT HB HX HS; refine baE ht hn (a6d r2 (hna a h)) hl ?_ ?_ ?_ (.inr (.inl (bc8 a))) HT HB HX HS
   all_goals (first | omega | (simp only [List.length_append,List.length_cons]; omega))
 ·have hno : ∀ x∈a++47 :: r,x≠46:=fun x hx=>by
   rcases List.mem_append.1 hx with hx | hx
   ·exact (h x hx).2
   ·rcases List.mem_cons.1 hx with rfl | hx
    ·decide
    ·exact fun e=>a1s (e ▸ hx)
  have hcut:Lib.cut (a++47 :: r) [47]=(a,r,true):=a6d r (fun x hx=>(h x hx).1)
  rcases hca with ⟨hza,hca⟩ | ⟨hza,hca,_⟩
  ·rcases hcr with ⟨hzr,hcr⟩ | ⟨hzr,hcr,_⟩
   ·by_cases h1:zr≤1
    ·refine bad ?_ fun HT HB HX HS=>a1j (bi6 HT HB HS HX hno hl hcut (by omega) (by omega) hza hzr h1)
     by_cases h0:zr≤0
     ·exact .inr (.inr (.inl h0))
     ·have:zr=1:=by omega
      subst this
      exact .inr (.inr (.inr (blg hza)))
    ·by_cases hok:za≠0∧Nat.gcd za.natAbs zr.natAbs=1
     ·exact ⟨_,_,0,an9.nil_,fun HT HB HX HS=>⟨a1R (bi7 HT HB HS HX hno hl hcut (by omega) (by omega) hza hzr (by omega) hok) rfl (by omega),a1R (bnp HT HB HS hcl hat htk hdr hl ha hr ⟨hca,hcr,by omega,(bfv hza hzr (by omega)).2 hok⟩) rfl (by omega)⟩⟩
     ·exact bad (.inr (.inr (.inr (mt (bfv hza hzr (by omega)).1 hok)))) fun HT HB HX HS=>a1j (bi1 HT HB HS HX hno hl hcut (by omega) (by omega) hza hzr (by omega) hok)
   ·exact bad (.inr (.inl (by omega))) fun HT HB HX HS=>a1j (bi2 HT HB HS HX hno hl hcut (by omega) (by omega) hza hzr)
  ·exact bad (.inl (by omega)) fun HT HB HX HS=>a1j (bi8 HT HB HS HX hno hl hcut (by omega) (by omega) hza)
theorem bcf {f r t l:List UInt8} {neg:Bool} (hl:l.length≤300) (ht:Lib.trimPrefix l [45]=t) (hn:Lib.hasPrefix l [45]=neg) (hcut:Lib.cut t [46]=(f,r,true)) (htl:t.length≤300) (hlen:f.length+r.length+1≤l.length) {a:List UInt8}
  (ha:(neg=true∧a=45 :: f)∨(neg=false∧a=f ∧ ∀ x,f[0]? = some x→x.toNat≠45)) : ∃ q er c,an9 er c∧PDc l q er∧RD a r (l.length:Int) q c:=by
 obtain ⟨z,c,hp,hz⟩:=a8k f (by omega)
 by_cases hbad:64 < l.length∨¬ Plain f∨¬ (0 < r.length∧acz r)
 ·refine ⟨0,_,2,an9.err 2,baE ht hn hcut hl htl (by omega) (by omega) hbad,fun HT HB HS => ?_⟩
  by_cases a4C:c≠0∨z < 0∨r.length=0∨64 < (l.length:Int)
  ·rcases ha with ⟨_,rfl⟩ | ⟨_,rfl,h45⟩
   ·exact bmI HT HB HS hp (by omega) a4C
   ·exact bmJ HT HB HS h45 hp (by omega) a4C
  ·have hc0:c=0:=Classical.byContradiction fun e=>a4C (.inl e)
   have hz0:0≤z:=Classical.byContradiction fun e=>a4C (.inr (.inl (by omega)))
   have hr0:0 < r.length:=Classical.byContradiction fun e=>a4C (.inr (.inr (.inl (by omega))))
   have a4E:(l.length:Int)≤64:=Classical.byContradiction fun e=>a4C (.inr (.inr (.inr (by omega))))
   have hfz:f=Lib.itoa z:=by
    rcases hz with ⟨h1,_⟩ | ⟨_,h1,_⟩
    ·exact h1
    ·omega
   have hnd:¬ acz r:=by
    rcases hbad with h | h | h
    ·omega
    ·exact absurd (beh.2 ⟨z,hz0,hfz⟩) h
    ·exact fun hd=>h ⟨hr0,hd⟩
   obtain ⟨m,h1,h2,h3⟩:=biR hnd
   have hzl:z.natAbs < pw 32:=bah (by rw [← hfz]; omega)
   rcases ha with ⟨_,rfl⟩ | ⟨_,rfl,h45⟩
   ·exact bmG HT HB HS hp (by omega) hc0 hz0 hr0 a4E hzl (fun j hj=>bcp h2 (by omega) hj) h1 h2 h3
   ·exact bmH HT HB HS h45 hp (by omega) hc0 hz0 hr0 a4E hzl (fun j hj=>bcp h2 (by omega) hj) h1 h2 h3
 ·have h64:l.length≤64:=Classical.byContradiction fun e=>hbad (.inl (by omega))
  have hpl:Plain f:=Classical.byContradiction fun e=>hbad (.inr (.inl e))
  have hrd:0 < r.length∧acz r:=Classical.byContradiction fun e=>hbad (.inr (.inr e))
  obtain ⟨y,hy0,hfy⟩:=beh.1 hpl
  rcases hz with ⟨hfz,hc0⟩ | ⟨h1,_⟩
  ·obtain rfl:=a6v (hfz.symm.trans hfy)
   have hzl:z.natAbs < pw 32:=bah (by rw [← hfz]; omega)
   have hdg : ∀ (j:Nat) (b:UInt8),r[j]? = some b→48≤b.toNat∧b.toNat≤57:=fun j b hb=>hrd.2 b (List.mem_of_getElem? hb)
   have hdt : ∀ j,j≤r.length→aan (r.take j) < 10 ^ j:=fun j hj=>a7w hrd.2 j hj
   have hv:=bhX (r:=r) hfz hy0
   refine ⟨_,_,0,an9.nil_,blF ht hn hcut h64 htl (by omega) hpl hrd,fun HT HB HS => ?_⟩
   rcases ha with ⟨rfl,rfl⟩ | ⟨rfl,rfl,h45⟩
   ·rw [if_pos rfl,hv,bk8]
    exact bmK HT HB HS hp (by omega) hc0 hy0 hrd.1 (by omega) hzl hdt hdg
   ·rw [if_neg (by decide),hv]
    exact bmL HT HB HS h45 hp (by omega) hc0 hy0 hrd.1 (by omega) hzl hdt hdg
  ·exact absurd hfy (h1 y)
theorem bmN {a r:List UInt8} (hl:(a++46 :: r).length≤300) (h : ∀ b∈a,b≠47∧b≠46) : ∃ q er c,an9 er c∧PB (a++46 :: r) q er c:=by
 have hla:a.length+(r.length+1)≤300:=by simpa using hl
 obtain ⟨hat,htk,hdr⟩:=bbO (a:=a) (r:=r) (c:=46)
 have hcl:=bb9 (r:=r) (c:=46) h
 have key : ∃ q er c,an9 er c∧PDc (a++46 :: r) q er∧RD a r ((a++46 :: r).length:Int) q c:=by
  rcases bcI a r with ⟨f,rfl,ht,hn⟩ | ⟨h45,ht,hn⟩
  ·exact bcf hl ht hn (a6d r (fun x hx=>(h x (.tail _ hx)).2)) (by simp at hla ⊢ <;> omega) (by simp <;> omega) (.inl ⟨rfl,rfl⟩)
  ·exact bcf hl ht hn (a6d r (fun x hx=>(h x hx).2)) (by simp at hla ⊢ <;> omega) (by simp <;> omega) (.inr ⟨rfl,rfl,h45⟩)
 obtain ⟨q,er,c,h1,h2,h3⟩:=key
 exact ⟨q,er,c,h1,fun HT HB HX HS=>⟨a1R (bcF HT HB HS HX (by simp) hl h2) rfl (by omega),a1R (bnn HT HB HS hcl hat htk hdr hl h3) rfl (by omega)⟩⟩
theorem beC (l:List UInt8) (hl:l.length≤300∨65536 < l.length) : ∃ q er c,an9 er c∧PB l q er c:=by
 rcases hl with hl | hl
 ·rcases biQ l with h | ⟨a,x,r,rfl,rfl | rfl,h⟩
  ·exact bmO hl h
  ·exact bmP hl h
  ·exact bmN hl h
 ·exact ⟨0,_,4,an9.err 4,fun HT HB HX HS=>⟨a1j (bi3 HT HB HS hl),a1j (bno HT HB HS hl)⟩⟩
end Go.Proofs.YtbihljnjaondcaaGreatDoor
