/- Part of a proof, said shortly. -/
import Derived.Deep.RegionHeld3
import Derived.Test.YtbihljnjaondcaaGreatDoorAlt
import Derived.Test.YtbihljnjaondcaaGreatDoorT13
import Derived.Test.YtbihljnjaondcaaGreatDoorT9
import Derived.Test.YtbihljnjaondcaaGreatDoorT8
import Derived.Test.YtbihljnjaondcaaGreatDoorT6
import Derived.Test.YtbihljnjaondcaaGreatDoorT4
import Derived.Test.YtbihljnjaondcaaGreatDoorT3
import Derived.Test.YtbihljnjaondcaaGreatDoorT2
import Derived.Test.YtbihljnjaondcaaGreatDoorT1
import Derived.Test.YtbihljnjaondcaaGreatDoorT5
import Derived.Test.YtbihljnjaondcaaGreatDoorT7
import Derived.Test.YtbihljnjaondcaaGreatDoorT10
import Derived.Test.YtbihljnjaondcaaGreatDoorT11
import Derived.Test.YtbihljnjaondcaaGreatDoorT12
import Derived.Test.YtbihljnjaondcaaGreatDoorT27
import Derived.Test.YtbihljnjaondcaaGreatDoorT42
import Derived.Test.YtbihljnjaondcaaGreatDoorT35
import Derived.Test.YtbihljnjaondcaaGreatDoorT44
import Derived.Test.YtbihljnjaondcaaGreatDoorT33
import Derived.Test.YtbihljnjaondcaaGreatDoorT32
import Derived.Test.YtbihljnjaondcaaGreatDoorT31
import Derived.Test.YtbihljnjaondcaaGreatDoorT43
import Derived.Test.YtbihljnjaondcaaGreatDoorT41
import Derived.Test.YtbihljnjaondcaaGreatDoorT40
import Derived.Test.YtbihljnjaondcaaGreatDoorT34
import Derived.Test.YtbihljnjaondcaaGreatDoorT29
import Derived.Test.YtbihljnjaondcaaGreatDoorT28
import Derived.Test.YtbihljnjaondcaaGreatDoorT26
import Derived.Test.YtbihljnjaondcaaGreatDoorT25
import Derived.Test.YtbihljnjaondcaaGreatDoorT24
import Derived.Test.YtbihljnjaondcaaGreatDoorT23
import Derived.Test.YtbihljnjaondcaaGreatDoorT22
import Derived.Test.YtbihljnjaondcaaGreatDoorT21
import Derived.Test.YtbihljnjaondcaaGreatDoorT20
import Derived.Test.YtbihljnjaondcaaGreatDoorT14
import Derived.Test.YtbihljnjaondcaaGreatDoorT19
import Derived.Test.YtbihljnjaondcaaGreatDoorT18
import Derived.Test.YtbihljnjaondcaaGreatDoorT16
import Derived.Test.YtbihljnjaondcaaGreatDoorT15
import Derived.Test.YtbihljnjaondcaaGreatDoorT17
import Derived.Test.YtbihljnjaondcaaGreatDoorT39
import Derived.Test.YtbihljnjaondcaaGreatDoorT38
import Derived.Test.YtbihljnjaondcaaGreatDoorT37
import Derived.Test.YtbihljnjaondcaaGreatDoorT36
set_option maxRecDepth 100000
open Go.Proofs.YtbihljnjaondcaaGreatDoor (btT btU btV btW abe abd bq6 bq5 iy0)
set_option linter.unusedVariables false
set_option linter.unusedSimpArgs false
namespace Lw
open Go Go.RowKit
theorem a6v {z z':Int} (h:Lib.itoa z=Lib.itoa z'):z=z':=by
 cases hz:sg z <;> cases hz':sg z'
 ·rw [anm hz,anm hz',List.nil_append,List.nil_append] at h
  have h1:=congrArg aan h
  rw [a1H,a1H] at h1
  have:=a8q hz
  have:=a8q hz'
  omega
 ·rw [anm hz,itoa_neg hz',List.nil_append,List.singleton_append] at h
  have hp:=a1S z.natAbs
  rw [h] at hp
  exact absurd rfl (bax hp.2.1 hp.1)
 ·rw [itoa_neg hz,anm hz',List.nil_append,List.singleton_append] at h
  have hp:=a1S z'.natAbs
  rw [← h] at hp
  exact absurd rfl (bax hp.2.1 hp.1)
 ·rw [itoa_neg hz,itoa_neg hz',List.singleton_append,List.singleton_append] at h
  injection h with _ h
  have h1:=congrArg aan h
  rw [a1H,a1H] at h1
  have:=(a5h hz).1
  have:=(a5h hz').1
  omega
end Lw
namespace Lw
open Go
theorem bhq {l:List UInt8} {c:UInt8} (h:c∈l):0≤Lib.indexByte l c:=by
 induction l with
 | nil=>cases h
 | cons b l ih =>
  unfold Lib.indexByte
  by_cases hb:b=c
  ·rw [if_pos (by simpa using hb)]; decide
  ·have h2:c∈l:=by
    rcases List.mem_cons.1 h with e | e
    ·exact absurd e.symm hb
    ·exact e
   have h3:=ih h2
   rw [if_neg (by simpa using hb),if_neg (by simp; omega)]
   omega
end Lw
namespace Go.Proofs.YtbihljnjaondcaaGreatDoor
open Go Go.RowKit Lw acY
section
variable {W0 w:World} {U:List Box} {Ps:List (World→Prop)} {l a r:List UInt8}
theorem mx0 (HX:Mx W0) (HS:St W0 U Ps w):Mx w:=HX.next HS.below
theorem a3Z (HS:St W0 U Ps w) (h : ∀ x∈l,x≠46):aba Tryz.prog 107 [.string ⟨l.toArray⟩,.string ⟨([46]).toArray⟩] w (AnP W0 U Ps (.bool false)):=by
 refine Calls.mono (Tryz.strings_Contains_one ⟨l.toArray⟩ 46 w) fun e w' hh => ?_
 obtain ⟨rfl,rfl⟩:=hh
 refine ⟨_,rfl,?_,HS⟩
 show Value.bool (decide (0≤Lib.indexByte l 46)) = .bool false
 rw [bhp h]; rfl
theorem bnJ (HS:St W0 U Ps w) (h:46∈l):aba Tryz.prog 107 [.string ⟨l.toArray⟩,.string ⟨([46]).toArray⟩] w (AnP W0 U Ps (.bool true)):=by
 refine Calls.mono (Tryz.strings_Contains_one ⟨l.toArray⟩ 46 w) fun e w' hh => ?_
 obtain ⟨rfl,rfl⟩:=hh
 refine ⟨_,rfl,?_,HS⟩
 show Value.bool (decide (0≤Lib.indexByte l 46)) = .bool true
 rw [decide_eq_true (bhq h)]
theorem azq (HX:Mx W0) (HS:St W0 U Ps w) {c:UInt8} {x y:List UInt8} {b:Bool} (h:Lib.cut l [c]=(x,y,b)) (hl:l.length≤100000) :
  aba Tryz.prog 109 [.string ⟨l.toArray⟩,.string ⟨([c]).toArray⟩] w (AnP W0 U Ps (.tuple #[.string ⟨x.toArray⟩,.string ⟨y.toArray⟩,.bool b])):=by
 obtain ⟨m,hm⟩:=mx0 HX HS
 have hs:(⟨l.toArray⟩:ByteArray).size=l.length:=by simp [ByteArray.size]
 refine Calls.mono (Tryz.strings_Cut ⟨l.toArray⟩ ⟨#[c]⟩ m w (by rw [hs]; omega) hm) fun e w' hh => ?_
 obtain ⟨rfl,n,rfl⟩:=hh
 refine ⟨_,rfl,?_,HS.next (below_drewN' _ _ n)⟩
 show Value.tuple #[.string ⟨(Lib.cut l [c]).1.toArray⟩,.string ⟨(Lib.cut l [c]).2.1.toArray⟩,.bool (Lib.cut l [c]).2.2]=_
 rw [h]
theorem bnK (HS:St W0 U Ps w):aba Tryz.prog 173 [.string ⟨l.toArray⟩,.string ⟨([45]).toArray⟩] w (AnP W0 U Ps (.tuple #[.string ⟨(Lib.trimPrefix l [45]).toArray⟩,.bool (Lib.hasPrefix l [45])])):=by
 refine Calls.mono (Tryz.strings_CutPrefix ⟨l.toArray⟩ ⟨#[45]⟩ w) fun e w' hh => ?_
 obtain ⟨rfl,rfl⟩:=hh
 exact ⟨_,rfl,rfl,HS⟩
theorem a1P (HS:St W0 U Ps w) {b:Bool} (h:b=true↔0 < l.length∧acz l) (hl:l.length≤65536):aba Tryz.prog 174 [.string ⟨l.toArray⟩] w (AnP W0 U Ps (.bool b)):=by
 refine Calls.mono (baf l b w h hl) fun e w' hh => ?_
 obtain ⟨rfl,rfl⟩:=hh
 exact ⟨_,rfl,rfl,HS⟩
theorem bd' (HT:Tz W0) (HB:Tab W0) (HS:St W0 U Ps w) (hd:acz l) (hl:l.length≤1000):aba Tryz.prog 175 [.string ⟨l.toArray⟩] w (AnI W0 U Ps (aan l:Int) (6*l.length+1)) :=
 a2f HS (bea l (St.start HS HT HB) hd hl)
theorem bew (HT:Tz W0) (HB:Tab W0) (HS:St W0 U Ps w) {s1:Bool} {A1:Option Addr} {n1 c1:Nat} {x1:Int} {k1 m2:Nat} (f1:FI (.agg #[.bool s1,.slice A1 n1 c1]) x1 k1 w) (hk:k1≤100) (hm:m2≤100) :
  aba Tryz.prog 87 [.agg #[.bool s1,.slice A1 n1 c1],.int .i64 (m2:Int)] w (AnI W0 U Ps (x1 ^ m2) (k1*m2+1)) :=
 a2f HS (bex ((St.start HS HT HB).push f1) (.head _) hk hm (Opd.lt f1))
theorem beD (HT:Tz W0) (HB:Tab W0) (HS:St W0 U Ps w) {s1:Bool} {A1:Option Addr} {n1 c1:Nat} {x1:Int} {k1:Nat} {s2:Bool} {A2:Option Addr} {n2 c2:Nat} {x2:Int} {k2:Nat} (f1:FI (.agg #[.bool s1,.slice A1 n1 c1]) x1 k1 w) (f2:FI (.agg #[.bool s2,.slice A2 n2 c2]) x2 k2 w) (hk:k1+k2≤40000) (hy:0 < x2) :
  aba Tryz.prog 89 [.agg #[.bool s1,.slice A1 n1 c1],.agg #[.bool s2,.slice A2 n2 c2]] w (AnQ W0 U Ps (Rat.divInt x1 x2) (k1+1+(k2+1))) :=
 a7B HS (baS (((St.start HS HT HB).push f2).push f1) (.head _) (.tail _ (.head _)) hk hy)
theorem bd5 (HT:Tz W0) (HB:Tab W0) (HS:St W0 U Ps w) {s1:Bool} {A1:Option Addr} {n1 c1:Nat} {B1:Option Addr} {m1 d1:Nat} {q1:Rat} {k1:Nat} (f1:FV (btT s1 A1 n1 c1 B1 m1 d1) q1 k1 true w) (hk:k1≤100000) :
  aba Tryz.prog 145 [(btT s1 A1 n1 c1 B1 m1 d1)] w (AnQ W0 U Ps (-q1) k1) :=
 a7B HS (bd6 ((St.start HS HT HB).cons f1) (.head _) hk)
theorem bkz (HT:Tz W0) (HB:Tab W0) (HS:St W0 U Ps w) {s1:Bool} {A1:Option Addr} {n1 c1:Nat} {x1:Int} {k1:Nat} {s2:Bool} {A2:Option Addr} {n2 c2:Nat} {x2:Int} {k2:Nat} (f1:FI (.agg #[.bool s1,.slice A1 n1 c1]) x1 k1 w) (f2:FI (.agg #[.bool s2,.slice A2 n2 c2]) x2 k2 w) (hy:x2=1) :
  aba Tryz.prog 86 [.agg #[.bool s1,.slice A1 n1 c1],.agg #[.bool s2,.slice A2 n2 c2]] w (AnQ W0 U Ps ((x1:Int):Rat) (k1+k2)) :=
 a7B HS (a7Q (((St.start HS HT HB).push f2).push f1) (.head _) (.tail _ (.head _)) (Rat.num_intCast _) (by rw [hy,Rat.den_intCast]; rfl))
theorem bah {z:Int} (h:(Lib.itoa z).length≤300):z.natAbs < pw 32:=by
 have h1:z.natAbs < 10 ^ (Lib.decDigits z.natAbs).length:=by
  have h2:=a7w (a4n z.natAbs) (Lib.decDigits z.natAbs).length (Nat.le_refl _)
  rwa [List.take_length,a1H] at h2
 have hl:(Lib.decDigits z.natAbs).length≤300:=by
  cases hz:sg z
  ·rw [anm hz,List.nil_append] at h; exact h
  ·rw [itoa_neg hz,List.singleton_append,List.length_cons] at h; omega
 obtain ⟨e,he⟩ : ∃ e:Nat,e=3:=⟨3,rfl⟩
 have h3:10 ^ (Lib.decDigits z.natAbs).length≤(10 ^ 100) ^ e:=by
  rw [← Nat.pow_mul]; exact Nat.pow_le_pow_right (by decide) (by omega)
 have h4:(10 ^ 100) ^ e < pw 32:=by subst he; decide +kernel
 omega
theorem bdB {z:Int} (h:(Lib.itoa z).length≤300):(mg z).length≤32:=a1t (bah h)
theorem FV.pair {s1:Bool} {A1:Option Addr} {n1 c1:Nat} {x:Int} {k:Nat} {A2:Option Addr} {n2 c2:Nat} {s2:Bool} {y:Int} {w:World} (f1:FI (.agg #[.bool s1,.slice A1 n1 c1]) x k w) (f2:FI (.agg #[.bool s2,.slice A2 n2 c2]) y k w) (hy:0 < y) :
  ∃ (q:Rat) (b:Bool),FV (btT s1 A1 n1 c1 A2 n2 c2) q k b w∧(b=true↔x≠0∧Nat.gcd x.natAbs y.natAbs=1)∧(b=true→q=Rat.divInt x y):=by
 obtain ⟨a1,a2,a3,a4,a5⟩:=Opd.len f1
 obtain ⟨b1,b2,b3,b4,b5⟩:=Opd.len f2
 subst a1 b1
 have hy0:1≤(mg y).length:=by
  have:=mt (a1u (z:=y)).1 (by omega)
  omega
 refine ⟨qv (sg x) (mg x) (mg y),fV (sg x) (mg x) (mg y),⟨sg x,A1,n1,c1,A2,n2,c2,mg x,mg y,rfl,a3,b3,a2.symm,b2.symm,a4,b4,a5,b5,rfl,rfl⟩,?_,?_⟩
 ·by_cases hx:x=0
  ·rw [a9z rfl rfl (.inl (a1u.2 hx)) (by have:=a1u.2 hx; omega)]
   exact ⟨fun h=>(by cases h),fun h=>absurd hx h.1⟩
  ·have hx0:1≤(mg x).length:=by
    have:=mt (a1u (z:=x)).1 hx
    omega
   rw [a9x rfl rfl hx0 hy0,show vB false (mg x)=true from a6V (by omega),show vB false (mg y)=true from a6V (by omega)]
   unfold cp
   rw [aiz,aiz]
   simp [hx]
 ·intro h
  unfold qv
  rw [if_pos h,aiz y]
  have h1:=a1k x
  unfold zv at h1
  rw [if_pos (a1f x)] at h1
  rw [h1]
  congr 1
  omega
theorem FI.made {z:Int} {A:Option Addr} {c:Nat} {w':World} (hc:(mg z).length≤c) (hr:Rd w' w'.heap.size A (mg z)) {k:Nat} (hk:(mg z).length≤k):FI (.agg #[.bool (sg z),.slice A (mg z).length c]) z k w' :=
 ⟨_,_,_,_,_,_,rfl,hr,Nat.le_refl _,rfl,hk,hc,a1k z,a1f z⟩
theorem a2p (HS:St W0 U Ps w) {z:Int} (h:l=Lib.itoa z) (hl:l.length≤300):aba Tryz.prog 110 [.string ⟨l.toArray⟩] w (a8J W0 U Ps z 32 .nilIface):=by
 have hz:=bdB (z:=z) (by rw [← h]; exact hl)
 refine Calls.mono (bee l w (by omega)) fun e w' hh => ?_
 rcases hh with ⟨z',h1,A,c,h2,h3,h4,h5⟩ | ⟨h1,_⟩
 ·obtain rfl:=a6v (h.symm.trans h1)
  exact ⟨_,h2,_,_,_,_,rfl,(HS.next h5).add (FI.stable _ _ _) (FI.made h3 h4 (by omega))⟩
 ·exact absurd h (h1 z)
theorem bae (HS:St W0 U Ps w) (h : ∀ z,l≠Lib.itoa z) (hl:l.length≤300):aba Tryz.prog 110 [.string ⟨l.toArray⟩] w (AnP W0 U Ps (.tuple #[.agg #[.bool false,.slice none 0 0],.iface 74 (.int .i64 2)])):=by
 refine Calls.mono (bee l w (by omega)) fun e w' hh => ?_
 rcases hh with ⟨z',h1,_⟩ | ⟨_,h2,h3⟩
 ·exact absurd h1 (h z')
 ·exact ⟨_,h2,rfl,HS.next h3⟩
theorem bnl (HS:St W0 U Ps w) {z:Int} (h:l=Lib.itoa z) (hl:l.length≤300):aba Tryz.prog 114 [.string ⟨l.toArray⟩] w (a8J W0 U Ps z 32 (.int .i64 0)):=by
 have hz:=bdB (z:=z) (by rw [← h]; exact hl)
 refine Calls.mono (beG l w (by omega)) fun e w' hh => ?_
 rcases hh with ⟨z',A,c,h1,h2,h3,h4,h5⟩ | ⟨h1,_⟩
 ·obtain rfl:=a6v (h.symm.trans h1)
  exact ⟨_,h2,_,_,_,_,rfl,(HS.next h5).add (FI.stable _ _ _) (FI.made h3 h4 (by omega))⟩
 ·exact absurd h (h1 z)
theorem bnk (HS:St W0 U Ps w) (h : ∀ z,l≠Lib.itoa z) (hl:l.length≤300):aba Tryz.prog 114 [.string ⟨l.toArray⟩] w (AnP W0 U Ps (.tuple #[.agg #[.bool false,.slice none 0 0],.int .i64 2])):=by
 refine Calls.mono (beG l w (by omega)) fun e w' hh => ?_
 rcases hh with ⟨z',A,c,h1,_⟩ | ⟨_,h2,h3⟩
 ·exact absurd h1 (h z')
 ·exact ⟨_,h2,rfl,HS.next h3⟩
end
end Go.Proofs.YtbihljnjaondcaaGreatDoor
