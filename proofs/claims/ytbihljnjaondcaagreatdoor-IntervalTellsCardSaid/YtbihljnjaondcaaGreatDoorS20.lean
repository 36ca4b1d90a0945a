/- Part of a proof, said shortly. -/
import Derived.Deep.RegionWith
import Derived.LoopN
import Derived.Test.YtbihljnjaondcaaGreatDoorAlz
import Derived.Test.YtbihljnjaondcaaGreatDoorC20
import Derived.Test.YtbihljnjaondcaaGreatDoorS5
import Derived.Test.YtbihljnjaondcaaGreatDoorC16
import Derived.Test.YtbihljnjaondcaaGreatDoorS4
import Derived.Test.YtbihljnjaondcaaGreatDoorS6
import Derived.Test.YtbihljnjaondcaaGreatDoorC14
import Derived.Test.YtbihljnjaondcaaGreatDoorC13
import Derived.Test.YtbihljnjaondcaaGreatDoorC12
import Derived.Test.YtbihljnjaondcaaGreatDoorC11
import Derived.Test.YtbihljnjaondcaaGreatDoorC10
import Derived.Test.YtbihljnjaondcaaGreatDoorC6
import Derived.Test.YtbihljnjaondcaaGreatDoorC2
import Derived.Test.YtbihljnjaondcaaGreatDoorC1
import Derived.Test.YtbihljnjaondcaaGreatDoorC5
import Derived.Test.YtbihljnjaondcaaGreatDoorC4
import Derived.Test.YtbihljnjaondcaaGreatDoorC3
import Derived.Test.YtbihljnjaondcaaGreatDoorC9
import Derived.Test.YtbihljnjaondcaaGreatDoorC8
import Derived.Test.YtbihljnjaondcaaGreatDoorC7
import Derived.Test.YtbihljnjaondcaaGreatDoorC19
import Derived.Test.YtbihljnjaondcaaGreatDoorC18
import Derived.Test.YtbihljnjaondcaaGreatDoorC17
import Derived.Test.YtbihljnjaondcaaGreatDoorS11
import Derived.Test.YtbihljnjaondcaaGreatDoorC15
import Derived.Test.YtbihljnjaondcaaGreatDoorS1
import Derived.Test.YtbihljnjaondcaaGreatDoorC21
open Go.Proofs.YtbihljnjaondcaaGreatDoor (a0p a0q a0r a0s yw bU fO cO PS iy1 PT FX iy4 iy5 iy6 Yo iy8 iy9 aAJ)
set_option linter.unusedVariables false
set_option linter.unusedSimpArgs false
namespace Go.Proofs.YtbihljnjaondcaaGreatDoor
open Go Go.RowKit Lw
section
variable {W0 w:World} {bs:List Bx} {L:List En} {ts:List Bt} {M:List Qn} {s s':Bool} {A A' B B':Option Addr} {n c n' c' m d m' d' k k':Nat} {q r:Rat} {x y:Int} {b b':Bool}
set_option maxRecDepth 100000 in
set_option maxHeartbeats 1600000 in
theorem aEq (HE:bG W0 w bs L ts M) (n1 : -9223372036854775808≤x) (n2:x≤9223372036854775807) (n3 : -9223372036854775808≤y) (n4:y≤9223372036854775807) (hy:y≠0) :
  Calls Tryz.prog 132 #[.int .i64 x,.int .i64 y] w (fun e w' => ∃ (s:Bool) (A:Option Addr) (n c:Nat) (A':Option Addr) (n' c':Nat),e = .returned (.tuple #[.agg #[.bool s,.slice A n c,.slice A' n' c'],.int .i64 0])∧bG W0 w' bs L ts (⟨.agg #[.bool s,.slice A n c,.slice A' n' c'],Rat.divInt x y,6,true⟩ :: M)):=by
 refine Calls.mono (R:=(fun e w' => ∃ (s:Bool) (A:Option Addr) (n c:Nat) (A':Option Addr) (n' c':Nat),e = .returned (.tuple #[.agg #[.bool s,.slice A n c,.slice A' n' c'],.int .i64 0])∧bG w w' [] L [] (⟨.agg #[.bool s,.slice A n c,.slice A' n' c'],Rat.divInt x y,6,true⟩ :: M))) ?_ fun _ _ hh=>by obtain ⟨s,A,n,c,A',n',c',e1,he⟩:=hh; exact ⟨s,A,n,c,A',n',c',e1,HE.back he⟩
 replace HE:=HE.here.gQ (.bool false) (.slice none 0 0) (.slice none 0 0)
 have HN:=Lib.hid (show (-9223372036854775808≤x∧x≤9223372036854775807) ∧ -9223372036854775808≤y∧y≤9223372036854775807 from ⟨⟨n1,n2⟩,n3,n4⟩)
 have HY:=Lib.hid hy
 clear n1 n2 n3 n4 hy
 obtain ⟨q0,q1,q2,q3,q4,q5⟩:=HE.c3 (.head _)
 go_enter Tryz.func132,Tryz.ntmps132
 go_wp2_with fail
 refine (Zj HE HN.out.1.1 HN.out.1.2).mono ?_
 clear HE
 rintro e w1 ⟨s1,A1,n1,c1,rfl,HE⟩
 clear q0 q1 q2 q3 q4 q5
 go_wp2_with fail
 refine (Zj HE HN.out.2.1 HN.out.2.2).mono ?_
 clear HE
 rintro e w2 ⟨s2,A2,n2,c2,rfl,HE⟩
 go_wp2_with fail
 refine (ajd HE (.tail _ (.head _)) (.head _) (by omega) HY.out).mono ?_
 clear HE
 rintro e w3 ⟨sx,Ax,nx,cx,Ay,ny,cy,rfl,HE⟩
 obtain ⟨q6,q7,q8,q9,q10,q11⟩:=HE.c3 (.head _)
 go_wp2_with fail
 refine bodyPost_ret (v := .tuple #[.agg #[.bool sx,.slice Ax nx cx,.slice Ay ny cy],.int .i64 0]) (by simp [results,Tryz.results132,go_sem,q6,q7,q8]) rfl ?_
 have HK:=(HE.tK (D:=Ax) (m:=nx) (d:=cx) (.head _) sx (.slice Ay ny cy)).bare
 exact ⟨_,_,_,_,_,_,_,rfl,HK.pick (fun e he => .tail _ (.tail _ he)) (fun _ he=>he)⟩
end
end Go.Proofs.YtbihljnjaondcaaGreatDoor
namespace Go.Proofs.YtbihljnjaondcaaGreatDoor
open Go Go.RowKit Lw
section
variable {W0 w:World} {bs:List Bx} {L:List En} {ts:List Bt} {M:List Qn} {v v':Value} {q r:Rat} {k k':Nat} {b b':Bool}
theorem aEB (HE:bG W0 w bs L ts M) (h:⟨v,q,k,b⟩∈M) (h':⟨v',r,k',b'⟩∈M) (hk:k+k'≤800) :
  Calls Tryz.prog 131 #[v,v'] w (xH W0 bs L ts M (q - r) (k+(k'+1)+2)):=by
 obtain ⟨s,A,n,c,A',n',c',e1⟩:=(HE.fr _ h).shape
 obtain ⟨t,B,m,d,B',m',d',e2⟩:=(HE.fr _ h').shape
 dsimp only at e1 e2
 subst e1 e2
 exact (aqT HE h h' (by omega)).mono fun _ _ hh=>xH.of hh
end
end Go.Proofs.YtbihljnjaondcaaGreatDoor
namespace Go.Proofs.YtbihljnjaondcaaGreatDoor
open Go Go.RowKit Lw bZ
section
variable {W0 w w':World} {U:List Box} {Ps:List (World→Prop)} {v v':Value} {q r:Rat} {x y:Int} {k k':Nat} {b b':Bool} {f:FuncId} {vs:List Value} {L:List En} {M:List Qn}
theorem aqM (HT:Tz W0) (HB:Tab W0) (HS:St W0 U Ps w) {z1:Int} {z2:Int}  (h1 : -9223372036854775808≤z1) (h2:z1≤9223372036854775807) (h3 : -9223372036854775808≤z2) (h4:z2≤9223372036854775807) (hy:z2≠0):bY Tryz.prog 132 [.int .i64 z1,.int .i64 z2] w (Bo W0 U Ps (Rat.divInt z1 z2) (6) (.int .i64 0)) :=
 NQ HS (aEq (St.start HS HT HB)  h1 h2 h3 h4 hy)
theorem aqS (HT:Tz W0) (HB:Tab W0) (HS:St W0 U Ps w) {s1:Bool} {A1:Option Addr} {n1 c1:Nat} {B1:Option Addr} {m1 d1:Nat} {q1:Rat} {k1:Nat} {b1:Bool} {s2:Bool} {A2:Option Addr} {n2 c2:Nat} {B2:Option Addr} {m2 d2:Nat} {q2:Rat} {k2:Nat} {b2:Bool} (f1:FV (a0p s1 A1 n1 c1 B1 m1 d1) q1 k1 b1 w) (f2:FV (a0p s2 A2 n2 c2 B2 m2 d2) q2 k2 b2 w) (hk:k1+k2≤800):bY Tryz.prog 131 [(a0p s1 A1 n1 c1 B1 m1 d1),(a0p s2 A2 n2 c2 B2 m2 d2)] w (xY W0 U Ps (q1 - q2) (k1+(k2+1)+2)) :=
 GM HS (aEB (((St.start HS HT HB).cons f2).cons f1) (.head _) (.tail _ (.head _)) hk)
end
end Go.Proofs.YtbihljnjaondcaaGreatDoor
namespace bZ
open Go Go.RowKit
section
variable {P:Program} {ops:Array Oper} {Q:Exit→Act→World→Prop} {late:List Nat} {S:World→Prop} {N d fuel:Nat} {T:List (Nat×Value)} {w:World} {U:List Box} {listed:Array Bool} {o:Oper} {v:Value}
theorem Jl1 {t et:TypeId} {x:Operand} {g off:Nat} {vs:List Value} {ty:TypeId} {pos:String} {fB:Array Edge} (v:Value) (i j:Nat) (hc:Sv ops late listed i=true) (hi:ops[i]? = some ⟨some d,.load t x,ty,pos,fB,none⟩) (hq : ∀ c a w,Q (.panic c) (a.put (some d) v) w→Q (.panic c) a w) (hN:Nat.ble (d+1) N=true)
  (hS:pX late listed→Boxed U w) (hx:ev T x=some (.pointer (some ⟨g,off,none⟩))) (hj:U[j]? = some ⟨g,et,vs⟩) (hg : ∀ w,(isAgg t).run P w = .ok false w) (hv:vs[off]? = some v)
  (h:JR P ops Q late (Boxed U) fuel (listed.setIfInBounds i true) N ((d,v) :: T) w):JR P ops Q late (Boxed U) (fuel+1) listed N T w :=
 have ⟨a,b,c,e,f⟩:=ah9 hc
 JR.xw v i j hi a b c e hq hN hS f hx hj hg hv rfl h
end
section
variable {P:Program} {ops:Array Oper} {Q:Exit→Act→World→Prop} {late:List Nat} {S:World→Prop} {N d fuel:Nat} {T:List (Nat×Value)} {W0 w w':World} {U:List Box} {Ps:List (World→Prop)} {listed:Array Bool} {o:Oper} {rest:List Oper}
theorem Do {t et:TypeId} {x:Operand} {g off:Nat} {vs:List Value} {ty:TypeId} {pos:String} {fB:Array Edge} (v:Value) (i j:Nat) (hi:ops[i]? = some ⟨some d,.load t x,ty,pos,fB,none⟩) (hS:pX late listed→Boxed U w) (hx:ev T x=some (.pointer (some ⟨g,off,none⟩))) (hj:U[j]? = some ⟨g,et,vs⟩)
  (hg : ∀ w,(isAgg t).run P w = .ok false w) (h:JR P ops Q late (Boxed U) fuel (listed.setIfInBounds i true) N ((d,v) :: T) w) (hv:vs[off]? = some v:=by rfl)
  (hc:Sv ops late listed i=true:=by kernel_rfl) (hN:Nat.ble (d+1) N=true:=by rfl) (hq : ∀ c a w,Q (.panic c) (a.put (some d) v) w→Q (.panic c) a w:=by exact fun _ _ _ h=>h):JR P ops Q late (Boxed U) (fuel+1) listed N T w:=Jl1 v i j hc hi hq hN hS hx hj hg hv h
end
end bZ
