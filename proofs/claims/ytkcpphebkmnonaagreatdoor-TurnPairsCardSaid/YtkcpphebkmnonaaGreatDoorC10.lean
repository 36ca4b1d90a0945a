/- Part of a proof, said shortly. -/
import Derived.Deep.RegionWith
import Derived.Deep.DeepCutAuto
import Derived.Test.YtkcpphebkmnonaaGreatDoorCards
import Derived.Test.YtkcpphebkmnonaaGreatDoorTie
import Derived.WalkKit
import Derived.ProofKit
import Derived.OpenShut
import Derived.Carry
import Derived.Deep.DeepHandedRow
import Derived.Deep.DeepLaidRun
import Derived.Lib.LaidTab
import Derived.Lib.SmallJoins
import Derived.LaidSub
import Derived.LaidMore
import Derived.Shelf.Vars
import Derived.Test.YtkcpphebkmnonaaGreatDoorAlz
import Derived.Test.YtkcpphebkmnonaaGreatDoorC9
import Derived.Test.YtkcpphebkmnonaaGreatDoorC8
import Derived.Test.YtkcpphebkmnonaaGreatDoorC5
import Derived.Test.YtkcpphebkmnonaaGreatDoorC2
import Derived.Test.YtkcpphebkmnonaaGreatDoorC1
import Derived.Test.YtkcpphebkmnonaaGreatDoorC4
import Derived.Test.YtkcpphebkmnonaaGreatDoorC3
import Derived.Test.YtkcpphebkmnonaaGreatDoorC7
import Derived.Test.YtkcpphebkmnonaaGreatDoorC6
namespace Lw
open Go Go.RowKit
theorem Ur{N:Nat}(h0:N≠0)(h:N<4294967296):(bn N).length=1/\dg (bn N) 0=N:=by
 rw [Ig h0 h];exact ⟨rfl,rfl⟩
theorem nH{z:Int}(h1 : -9223372036854775808<=z)(h2:z<=9223372036854775807):IntKind.i64.wrap z=z:=by rw [IntKind.wrap_i64];omega
def jM(q:Rat):Bool:=rq q.num.natAbs&&rq (dn q)
theorem xK{q:Rat}(h:jM q=true):q.num.natAbs<2147483648/\q.den<2147483648:=by
 have h1:rq q.num.natAbs=true/\rq (dn q)=true:=by simpa [jM] using h
 unfold rq at h1;exact ⟨of_decide_eq_true h1.1,aeK (of_decide_eq_true h1.2)⟩
end Lw
namespace Go.Proofs.BGQ
open Go Go.RowKit Lw
section
variable {W0 w:World} {bs:List Bx} {L:List En} {ts:List Bt} {M:List Qn} {s s':Bool} {A A' B B':Option Addr} {n c n' c' m d m' d' k k':Nat} {q r:Rat} {x y:Int}
set_option maxRecDepth 100000 in
set_option maxHeartbeats 1600000 in
theorem ZA(HE:bu W0 w bs L ts M)(h:⟨.agg #[.bool s,.slice A n c,.slice A' n' c'],q,k,true⟩∈M)(h1:q.num.natAbs<2147483648)(h2:q.den<2147483648) :
  Calls Tryz.prog 170 #[.agg #[.bool s,.slice A n c,.slice A' n' c']] w fun e w'=>e = .returned (.agg #[.int .i64 q.num,.int .i64 (q.den:Int)])/\bu W0 w' bs L ts M:=by
 suffices hs:Calls Tryz.prog 170 #[.agg #[.bool s,.slice A n c,.slice A' n' c']] w (fun e w'=>e = .returned (.agg #[.int .i64 q.num,.int .i64 (q.den:Int)])/\bu w w' [] L [] M) from hs.mono fun _ _ hh=>⟨hh.1,HE.back hh.2⟩
 have H1:=(HE.here.bY (.bool s) (.slice A n c) (.slice A' n' c')).alloc (.cells #[.int .i64 0,.int .i64 0] 131);obtain ⟨hs,hn,hn',r1,r2,-⟩:=(H1.fr _ h).own
 by_cases hq:q=0
 ·obtain rfl:=(qC hn).2 hq
  obtain ⟨e0,e1,e2,e3,e4,e5⟩:=H1.c3 ak;have HQ:=Lib.hid (show q.num=0/\q.den=1 by subst hq;exact ⟨rfl,rfl⟩);clear hs hn hn' r1 r2 hq h1 h2;have H2:=(HE.here.bY (.bool s) (.slice A 0 c) (.slice A' n' c')).alloc (.cells #[.int .i64 0,.int .i64 1] 131)
  go_enter Tryz.func170,Tryz.ntmps170
  go_wp2_with fail
  refine bodyPost_ret (v := .agg #[.int .i64 0,.int .i64 1]) (by simp [results,Tryz.results170,go_sem]) rfl ?_;rw [HQ.out.1,HQ.out.2];exact ⟨rfl,H2.bare⟩
 ·have hN0:q.num.natAbs≠0:=fun e=>hq (auP.1 (avV.1 e))
  rw [Fp hq] at hn' r2;unfold rn at hn r1;obtain ⟨l1,g1⟩:=Ur hN0 af;obtain ⟨l2,g2⟩:=Ur q.den_nz af;rw [l1] at hn;rw [l2] at hn';obtain ⟨b,off,rfl,-,hcell,-⟩:=r1.at_ (k:=0) af;obtain ⟨b',off',rfl,-,hcell',-⟩:=r2.at_ (k:=0) af;rw [g1,auV] at hcell;rw [g2,auV] at hcell';subst hn hn';obtain ⟨N,hN⟩ : ∃ N,N=q.num.natAbs:=⟨_,rfl⟩;obtain ⟨D,hD⟩ : ∃ D,D=q.den:=⟨_,rfl⟩;rw [<- hN] at hcell h1;rw [<- hD] at hcell' h2;have u1:IntKind.i64.wrap (N:Int)=(N:Int):=nH af af;have u2:IntKind.i64.wrap (D:Int)=(D:Int):=nH af af;have u3:IntKind.i64.wrap (-(N:Int)) = -(N:Int):=nH af af;obtain ⟨e0,e1,e2,e3,e4,e5⟩:=H1.c3 ak
  by_cases hneg:q.num<0
  ·have HQ:=Lib.hid (show -(N:Int)=q.num/\(D:Int)=(q.den:Int) from ⟨af,af⟩)
   obtain rfl:s=true:=by rw [hs];exact decide_eq_true hneg
   have H2:=(HE.here.bY (.bool true) (.slice (some ⟨b,off,none⟩) 1 c) (.slice (some ⟨b',off',none⟩) 1 c')).alloc (.cells #[.int .i64 (-(N:Int)),aj D] 131);clear hs r1 r2 hq hN0 l1 g1 l2 g2 hN hD hneg
   go_enter Tryz.func170,Tryz.ntmps170
   go_wp2_with fail
   go_region
   go_wp2_with fail
   refine bodyPost_ret (v := .agg #[.int .i64 (-(N:Int)),aj D]) (by simp [results,Tryz.results170,go_sem]) rfl ?_;rw [<- HQ.out.1,<- HQ.out.2];exact ⟨rfl,H2.drew.bare⟩
  ·have HQ:=Lib.hid (show (N:Int)=q.num/\(D:Int)=(q.den:Int) from ⟨af,af⟩)
   obtain rfl:s=false:=by rw [hs];exact decide_eq_false hneg
   have H2:=(HE.here.bY (.bool false) (.slice (some ⟨b,off,none⟩) 1 c) (.slice (some ⟨b',off',none⟩) 1 c')).alloc (.cells #[aj N,aj D] 131);clear hs r1 r2 hq hN0 l1 g1 l2 g2 hN hD hneg
   go_enter Tryz.func170,Tryz.ntmps170
   go_wp2_with fail
   go_region
   go_wp2_with fail
   refine bodyPost_ret (v := .agg #[aj N,aj D]) (by simp [results,Tryz.results170,go_sem]) rfl ?_;rw [<- HQ.out.1,<- HQ.out.2];exact ⟨rfl,H2.drew.bare⟩
theorem IJ{N B:Nat}(hr:Rd w B A (bn N))(hn:n=(bn N).length)(hk:n<=100000) :
  Calls Tryz.prog 169 #[.slice A n c] w fun e w'=>e = .returned (.bool (rq N))/\w=w':=by
 refine (agU A (bn N) n c _ w hr hn.symm af).mono fun e w' ⟨b,h1,h2,h3⟩ => ?_;refine ⟨?_,h3⟩;rw [h1]
 congr 2
 rw [Bool.eq_iff_iff,h2,hn,aey];unfold rq;rw [decide_eq_true_iff]
def JJ(b:Bool)(q r:Rat):Value:=if b then .tuple #[.agg #[.int .i64 q.num,.int .i64 (q.den:Int)],.agg #[.int .i64 r.num,.int .i64 (r.den:Int)],.bool true] else .tuple #[.agg #[.int .i64 0,.int .i64 0],.agg #[.int .i64 0,.int .i64 0],.bool false]
theorem OT(q r:Rat):JJ true q r = .tuple #[.agg #[.int .i64 q.num,.int .i64 (q.den:Int)],.agg #[.int .i64 r.num,.int .i64 (r.den:Int)],.bool true]:=rfl
theorem OQ(q r:Rat):JJ false q r = .tuple #[.agg #[.int .i64 0,.int .i64 0],.agg #[.int .i64 0,.int .i64 0],.bool false]:=rfl
set_option maxRecDepth 100000 in
set_option maxHeartbeats 2400000 in
theorem BI(HE:bu W0 w bs L ts M)(h:⟨.agg #[.bool s,.slice A n c,.slice A' n' c'],q,k,true⟩∈M)(h':⟨.agg #[.bool s',.slice B m d,.slice B' m' d'],r,k',true⟩∈M)(hk:k+k'<=100000) :
  Calls Tryz.prog 129 #[.agg #[.bool s,.slice A n c,.slice A' n' c'],.agg #[.bool s',.slice B m d,.slice B' m' d']] w fun e w'=>e = .returned (JJ (jM q&&jM r) q r)/\bu W0 w' bs L ts M:=by
 suffices hs:Calls Tryz.prog 129 #[.agg #[.bool s,.slice A n c,.slice A' n' c'],.agg #[.bool s',.slice B m d,.slice B' m' d']] w (fun e w'=>e = .returned (JJ (jM q&&jM r) q r)/\bu w w' [] L [] M) from hs.mono fun _ _ hh=>⟨hh.1,HE.back hh.2⟩
 have H1:=(((HE.here.bY (.bool s) (.slice A n c) (.slice A' n' c')).bY (.bool s') (.slice B m d) (.slice B' m' d')).alloc (.cells #[.int .i64 0,.int .i64 0] 131)).alloc (.cells #[.int .i64 0,.int .i64 0] 131);have TA:=(Two.new ((w.alloc (.cells #[.bool s,.slice A n c,.slice A' n' c'] 24)).alloc (.cells #[.bool s',.slice B m d,.slice B' m' d'] 24)) 131 (.int .i64 0) (.int .i64 0)).alloc (.cells #[.int .i64 0,.int .i64 0] 131);have TB:=Two.new (((w.alloc (.cells #[.bool s,.slice A n c,.slice A' n' c'] 24)).alloc (.cells #[.bool s',.slice B m d,.slice B' m' d'] 24)).alloc (.cells #[.int .i64 0,.int .i64 0] 131)) 131 (.int .i64 0) (.int .i64 0);simp only [World.size_alloc] at H1 TA TB;obtain ⟨-,hn,hn',r1,r2,hl1,hl2,-⟩:=(H1.fr _ h).own;obtain ⟨-,hm,hm',r3,r4,hl3,hl4,-⟩:=(H1.fr _ h').own;rw [ajD] at hn' r2 hm' r4;unfold rn at hn r1 hm r3;have c1:=Lib.hid (IJ (c:=c) r1 hn af);have c2:=Lib.hid (IJ (c:=c') r2 hn' af);have c3:=Lib.hid (IJ (c:=d) r3 hm af);have c4:=Lib.hid (IJ (c:=d') r4 hm' af);have hq1:jM q=true->q.num.natAbs<2147483648/\q.den<2147483648:=xK;have hq2:jM r=true->r.num.natAbs<2147483648/\r.den<2147483648:=xK;obtain ⟨e0,e1,e2,e3,e4,e5⟩:=H1.c3 au;obtain ⟨f0,f1,f2,f3,f4,f5⟩:=H1.c3 ak;unfold jM at hq1 hq2 ⊢;generalize rq q.num.natAbs=b1 at *;generalize rq (dn q)=b2 at *;generalize rq r.num.natAbs=b3 at *;generalize rq (dn r)=b4 at *;have RD:=Lib.hid hq1;have RF:=Lib.hid hq2;clear hn hn' hm hm' r1 r2 r3 r4 hl1 hl2 hl3 hl4 hq1 hq2
 cases b1
 ·go_enter atO,atP
  go_wp2_with fail
  refine c1.out.mono ?_;rintro e w1 ⟨rfl,rfl⟩
  go_wp2_with fail
  refine bodyPost_ret (v := .tuple #[.agg #[.int .i64 0,.int .i64 0],.agg #[.int .i64 0,.int .i64 0],.bool false]) (by simp [results,Tryz.results129,go_sem]) rfl ?_;exact ⟨rfl,H1.bare⟩
 cases b2
 ·go_enter atO,atP
  go_wp2_with fail
  refine c1.out.mono ?_;rintro e w1 ⟨rfl,rfl⟩
  go_wp2_with fail
  refine c2.out.mono ?_;rintro e w1 ⟨rfl,rfl⟩
  go_wp2_with fail
  refine bodyPost_ret (v := .tuple #[.agg #[.int .i64 0,.int .i64 0],.agg #[.int .i64 0,.int .i64 0],.bool false]) (by simp [results,Tryz.results129,go_sem]) rfl ?_;exact ⟨rfl,H1.bare⟩
 cases b3
 ·go_enter atO,atP
  go_wp2_with fail
  refine c1.out.mono ?_;rintro e w1 ⟨rfl,rfl⟩
  go_wp2_with fail
  refine c2.out.mono ?_;rintro e w1 ⟨rfl,rfl⟩
  go_wp2_with fail
  refine c3.out.mono ?_;rintro e w1 ⟨rfl,rfl⟩
  go_wp2_with fail
  refine bodyPost_ret (v := .tuple #[.agg #[.int .i64 0,.int .i64 0],.agg #[.int .i64 0,.int .i64 0],.bool false]) (by simp [results,Tryz.results129,go_sem]) rfl ?_;exact ⟨rfl,H1.bare⟩
 cases b4
 ·go_enter atO,atP
  go_wp2_with fail
  refine c1.out.mono ?_;rintro e w1 ⟨rfl,rfl⟩
  go_wp2_with fail
  refine c2.out.mono ?_;rintro e w1 ⟨rfl,rfl⟩
  go_wp2_with fail
  refine c3.out.mono ?_;rintro e w1 ⟨rfl,rfl⟩
  go_wp2_with fail
  refine c4.out.mono ?_;rintro e w1 ⟨rfl,rfl⟩
  go_wp2_with fail
  refine bodyPost_ret (v := .tuple #[.agg #[.int .i64 0,.int .i64 0],.agg #[.int .i64 0,.int .i64 0],.bool false]) (by simp [results,Tryz.results129,go_sem]) rfl ?_;exact ⟨rfl,H1.bare⟩
 go_enter atO,atP
 go_wp2_with fail
 refine c1.out.mono ?_;rintro e w1 ⟨rfl,rfl⟩
 go_wp2_with fail
 refine c2.out.mono ?_;rintro e w1 ⟨rfl,rfl⟩
 go_wp2_with fail
 refine c3.out.mono ?_;rintro e w1 ⟨rfl,rfl⟩
 go_wp2_with fail
 refine c4.out.mono ?_;rintro e w1 ⟨rfl,rfl⟩
 go_wp2_with fail
 have HE:=H1
 go_region_held3 (fun w'=>w'.cell? ⟨w.heap.size,0,none⟩=some (.bool s)/\w'.cell? ⟨w.heap.size,1,none⟩=some (.slice A n c)/\w'.cell? ⟨w.heap.size,2,none⟩=some (.slice A' n' c')/\w'.cell? ⟨w.heap.size+1,0,none⟩=some (.bool s')/\w'.cell? ⟨w.heap.size+1,1,none⟩=some (.slice B m d)/\w'.cell? ⟨w.heap.size+1,2,none⟩=some (.slice B' m' d')) (with_reducible first | exact bu.t2 HE | exact bu.t2 HE.drew | exact bu.t2 HK | exact bu.t2 Rw)
  (first
   | (go_at_call 170;have _:=yf;refine (ZA (bu.here (by with_reducible first | exact HE | exact HE.drew)) h' (RF.out rfl).1 (RF.out rfl).2).mono ?_;rintro e wm ⟨rfl,zS⟩;replace TA:=TA.next zS.below;replace TB:=TB.next zS.below;have HE:=bu.back (by with_reducible first | exact HE | exact HE.drew) zS;obtain ⟨a0,a1,a2,a3⟩:=TA.facts;obtain ⟨b0,b1,b2,b3⟩:=TB.facts;have Rw:=HE.Zx TA af q.num (q.den:Int) rfl;have HK:=Rw.Zx ((TB.far (p:=⟨w.heap.size+1+1,0,none⟩) (by simp) _).far (p:=⟨w.heap.size+1+1,1,none⟩) (by simp) _) af r.num (r.den:Int) rfl)
   | (go_at_call 170;refine (ZA (bu.here (by with_reducible first | exact HE | exact HE.drew)) h (RD.out rfl).1 (RD.out rfl).2).mono ?_;rintro e wn ⟨rfl,yf⟩;replace TA:=TA.next (uP yf.below);replace TB:=TB.next (uP yf.below);have HE:=bu.back (by with_reducible first | exact HE | exact HE.drew) yf))
 have TA1:=((TA.put (.int .i64 q.num) (.int .i64 (q.den:Int))).far (p:=⟨w.heap.size+1+1+1,0,none⟩) (by simp) (.int .i64 r.num)).far (p:=⟨w.heap.size+1+1+1,1,none⟩) (by simp) (.int .i64 (r.den:Int));have TB1:=((TB.far (p:=⟨w.heap.size+1+1,0,none⟩) (by simp) (.int .i64 q.num)).far (p:=⟨w.heap.size+1+1,1,none⟩) (by simp) (.int .i64 (q.den:Int))).put (.int .i64 r.num) (.int .i64 (r.den:Int))
 go_wp2_with fail
 obtain ⟨x0,x1,-,-⟩:=TA1.facts;obtain ⟨y0,y1,-,-⟩:=TB1.facts;refine bodyPost_ret (v := .tuple #[.agg #[.int .i64 q.num,.int .i64 (q.den:Int)],.agg #[.int .i64 r.num,.int .i64 (r.den:Int)],.bool true]) (by simp [results,Tryz.results129,go_sem,x0,x1,y0,y1]) rfl ?_;exact ⟨rfl,HK.bare⟩
end
end Go.Proofs.BGQ
namespace Lw
open Go
theorem yU{a b:Int}(h1:a.natAbs<2147483648)(h2:b.natAbs<2147483648):(a*b).natAbs<=4611686014132420609:=by
 rw [au1];exact au9 (show a.natAbs<=2147483647 from af) (show b.natAbs<=2147483647 from af)
theorem TN(a b:Rat):eU a b=dS (a.num*b.den) (b.num*a.den):=ad8 a b
theorem ad3(a b:Int):Lib.compareInt a b=dS a b:=by
 unfold Lib.compareInt dS
 split <;> (try split) <;> (try split) <;> omega
end Lw
namespace Go.Proofs.BGQ
open Go Go.RowKit Lw
section
variable {W0 w:World} {bs:List Bx} {L:List En} {ts:List Bt} {M:List Qn} {s s':Bool} {A A' B B':Option Addr} {n c n' c' m d m' d' k k':Nat} {q r:Rat} {x y:Int}
set_option maxRecDepth 100000 in
set_option maxHeartbeats 4000000 in
theorem aee(HE:bu W0 w bs L ts M)(h:⟨.agg #[.bool s,.slice A n c,.slice A' n' c'],q,k,true⟩∈M)(h':⟨.agg #[.bool s',.slice B m d,.slice B' m' d'],r,k',true⟩∈M)(hk:k+k'<=8000) :
  Calls Tryz.prog 85 #[.agg #[.bool s,.slice A n c,.slice A' n' c'],.agg #[.bool s',.slice B m d,.slice B' m' d']] w (fun e w'=>e = .returned (.int .i64 (eU q r))/\bu W0 w' bs L ts M):=by
 suffices hs:Calls Tryz.prog 85 #[.agg #[.bool s,.slice A n c,.slice A' n' c'],.agg #[.bool s',.slice B m d,.slice B' m' d']] w (fun e w'=>e = .returned (.int .i64 (eU q r))/\bu w w' [] L [] M) from hs.mono fun _ _ hh=>⟨hh.1,HE.back hh.2⟩
 have H1:=(HE.here.bY (.bool s) (.slice A n c) (.slice A' n' c')).bY (.bool s') (.slice B m d) (.slice B' m' d');simp only [World.size_alloc] at H1
 by_cases hb:(jM q&&jM r)=true
 ·have hb2:jM q=true/\jM r=true:=by simpa using hb
  obtain ⟨z1,z2⟩:=xK hb2.1;obtain ⟨z3,z4⟩:=xK hb2.2;have HB:=Lib.hid hb;have p1:=yU (a:=q.num) (b:=(r.den:Int)) z1 af;have p2:=yU (a:=r.num) (b:=(q.den:Int)) z3 af;have y1:IntKind.i64.wrap (q.num*(r.den:Int))=q.num*(r.den:Int):=nH af af;have y2:IntKind.i64.wrap (r.num*(q.den:Int))=r.num*(q.den:Int):=nH af af;clear p1 p2;clear hb hb2 z1 z2 z3 z4
  go_enter Tryz.func85,Tryz.ntmps85
  have HE:=H1;clear H1;obtain ⟨q0,q1,q2,q3,q4,q5⟩:=HE.c3 ak;obtain ⟨q6,q7,q8,q9,q10,q11⟩:=HE.c3 au
  go_wp2_with fail
  refine (BI HE h h' af).mono ?_;clear HE;rw [HB.out,OT];rintro e w1 ⟨rfl,HE⟩;clear q0 q1 q2 q3 q4 q5 q6 q7 q8 q9 q10 q11;have TA:=(Two.new w1 131 (.int .i64 q.num) (.int .i64 (q.den:Int))).alloc (.cells #[.int .i64 r.num,.int .i64 (r.den:Int)] 131);have TB:=Two.new (w1.alloc (.cells #[.int .i64 q.num,.int .i64 (q.den:Int)] 131)) 131 (.int .i64 r.num) (.int .i64 (r.den:Int));replace HE:=(HE.alloc (.cells #[.int .i64 q.num,.int .i64 (q.den:Int)] 131)).alloc (.cells #[.int .i64 r.num,.int .i64 (r.den:Int)] 131);simp only [World.size_alloc] at TA TB;obtain ⟨u0,u1,u2,u3⟩:=TA.facts;obtain ⟨v0,v1,v2,v3⟩:=TB.facts;obtain ⟨q12,q13,dO,dP,q16,dQ⟩:=HE.c3 ak;obtain ⟨eu,eF,fM,fO,q22,q23⟩:=HE.c3 au
  go_wp2_with fail
  refine (Tryz.cmp_Compare_int _ _ _).mono ?_;rintro e w2 ⟨rfl,rfl⟩
  go_wp2_with fail
  go_ret
  exact ⟨dU (by rw [ad3,TN]),HE.bare⟩
 ·have HB:=Lib.hid (Bool.eq_false_iff.2 hb)
  clear hb
  go_enter Tryz.func85,Tryz.ntmps85
  have HE:=H1;clear H1;obtain ⟨q0,q1,q2,q3,q4,q5⟩:=HE.c3 ak;obtain ⟨q6,q7,q8,q9,q10,q11⟩:=HE.c3 au
  go_wp2_with fail
  refine (BI HE h h' af).mono ?_;clear HE;rw [HB.out,OQ];rintro e w1 ⟨rfl,HE⟩;clear q0 q1 q2 q3 q4 q5 q6 q7 q8 q9 q10 q11;have TA:=(Two.new w1 131 (.int .i64 0) (.int .i64 0)).alloc (.cells #[.int .i64 0,.int .i64 0] 131);have TB:=Two.new (w1.alloc (.cells #[.int .i64 0,.int .i64 0] 131)) 131 (.int .i64 0) (.int .i64 0);replace HE:=(HE.alloc (.cells #[.int .i64 0,.int .i64 0] 131)).alloc (.cells #[.int .i64 0,.int .i64 0] 131);simp only [World.size_alloc] at TA TB;clear TA TB;obtain ⟨q12,q13,dO,dP,q16,dQ⟩:=HE.c3 ak;obtain ⟨eu,eF,fM,fO,q22,q23⟩:=HE.c3 au
  go_wp2_with fail
  refine (y8 HE h).mono ?_;clear HE;rintro e w2 ⟨s1,D1,m1,d1,s2,D2,m2,d2,rfl,HE⟩;have HLW:=Lib.hid HE.below.size;clear q12 q13 dO dP q16 dQ eu eF fM fO q22 q23;replace HE:=(HE.bI (.bool s1) (.slice D1 m1 d1)).bI (.bool s2) (.slice D2 m2 d2);simp only [World.size_alloc] at HE;obtain ⟨q24,fU,gJ,gK⟩:=HE.c2 ak;obtain ⟨gX,gY,q30,gZ⟩:=HE.c2 au;obtain ⟨q32,iI,iJ,q35,jd,q37⟩:=HE.c3 ak;obtain ⟨jy,jX,jY,jZ,kP,kQ⟩:=HE.c3 au
  go_wp2_with fail
  refine (y8 HE h').mono ?_;clear HE;rintro e w3 ⟨s3,D3,m3,d3,s4,D4,m4,d4,rfl,HE⟩;have GV:=Lib.hid (HE.uM ak);clear q24 fU gJ gK gX gY q30 gZ q32 iI iJ q35 jd q37 jy jX jY jZ kP kQ;replace HE:=(HE.bI (.bool s3) (.slice D3 m3 d3)).bI (.bool s4) (.slice D4 m4 d4);simp only [World.size_alloc] at HE;obtain ⟨mF,mG,mJ,mM⟩:=HE.c2 ak;obtain ⟨oz,oC,oD,oG⟩:=HE.c2 au;obtain ⟨oH,oI,qE,qF⟩:=HE.c2 ay;obtain ⟨qG,qH,qI,qJ⟩:=HE.c2 az;obtain ⟨qK,qL,qM,qN,qO,qP⟩:=HE.c3 ak;obtain ⟨qQ,qR,qU,qV,qW,qX⟩:=HE.c3 au
  go_wp2_with fail
  go_region_held3 (fun w'=>w'.cell? ⟨w2.heap.size,0,none⟩=some (.bool s1)/\w'.cell? ⟨w2.heap.size,1,none⟩=some (.slice D1 m1 d1)/\w'.cell? ⟨w2.heap.size+1,0,none⟩=some (.bool s2)/\w'.cell? ⟨w2.heap.size+1,1,none⟩=some (.slice D2 m2 d2)/\w'.cell? ⟨w3.heap.size,0,none⟩=some (.bool s3)/\w'.cell? ⟨w3.heap.size,1,none⟩=some (.slice D3 m3 d3)/\w'.cell? ⟨w3.heap.size+1,0,none⟩=some (.bool s4)/\w'.cell? ⟨w3.heap.size+1,1,none⟩=some (.slice D4 m4 d4)) (with_reducible first | exact bu.c4 HE | exact bu.c4 HE.drew)
   (first
    | (go_at_call 67;have _:=HM;refine (VP (by with_reducible first | exact HE | exact HE.drew) (by repeat (first | exact aZ | assumption | refine .tail _ ?_)) (by repeat (first | exact aZ | assumption | refine .tail _ ?_)) af).mono ?_;rintro e wn ⟨rfl,HE⟩)
    | (go_at_call 69;refine (AB (by with_reducible first | exact HE | exact HE.drew) (by repeat (first | exact aZ | assumption | refine .tail _ ?_)) (by repeat (first | exact aZ | assumption | refine .tail _ ?_)) af).mono ?_;rintro e wn ⟨sx,Ax,nx,cx,rfl,HE⟩;have HM:=HE))
  go_wp2_with fail
  go_ret
  exact ⟨dU (by rw [TN]),HE.bare.tl.tl.tl.tl.tl.tl⟩
end
end Go.Proofs.BGQ
namespace Lw
open Go
theorem Su{q r:Rat}{k k':Nat}(h1:q.num.natAbs<pw k/\q.den<pw (k+1))(h2:r.num.natAbs<pw k'/\r.den<pw (k'+1)):(q+r).num.natAbs<pw (k+k'+2)/\(q+r).den<pw (k+k'+2):=by
 have hb:=ac4 q r;have e1:=avD h1.1 h2.2;have e2:=avD h2.1 h1.2;have e3:=avD h1.2 h2.2;rw [<- sG] at e1 e2 e3;rw [show k+(k'+1)=k+k'+1 by omega] at e1;rw [show k'+(k+1)=k+k'+1 by omega] at e2;rw [show k+1+(k'+1)=k+k'+2 by omega] at e3;have e4:pw (k+k'+2)=pw (k+k'+1)*4294967296:=by unfold pw;rw [auR]
 omega
theorem WT{q r:Rat}{k k':Nat}(h1:q.num.natAbs<pw k/\q.den<pw (k+1))(h2:r.num.natAbs<pw k'/\r.den<pw (k'+1)):(q*r).num.natAbs<pw (k+k'+2)/\(q*r).den<pw (k+k'+2):=by
 have hb:=aho q r;have e1:=avD h1.1 h2.1;have e3:=avD h1.2 h2.2;rw [<- sG] at e1 e3;rw [show k+1+(k'+1)=k+k'+2 by omega] at e3;have e4:pw (k+k')<=pw (k+k'+2):=fJ af;omega
theorem bV.weak{w:World}{v:Value}{q:Rat}{k K:Nat}{b:Bool}(h:bV w ⟨v,q,k,b⟩)(hk:k<=K):bV w ⟨v,q,K,b⟩:=by
 obtain ⟨s,A,n,c,A',n',c',ns,ms,e1,r1,r2,e2,e3,e4,e5,e6⟩:=h;exact ⟨s,A,n,c,A',n',c',ns,ms,e1,r1,r2,e2,e3,auu e4 hk,auu e5 hk,e6⟩
end Lw
namespace Go.Proofs.BGQ
open Go Go.RowKit Lw
section
variable {W0 w:World} {bs:List Bx} {L:List En} {ts:List Bt} {M:List Qn} {s s':Bool} {A A' B B':Option Addr} {n c n' c' m d m' d' k k':Nat} {q r:Rat} {x y:Int}
theorem bu.BN{e:Qn}(h:bu W0 w bs L ts (e::M)):bu W0 w bs L ts M:=⟨h.env,fun e' he=>h.fr e' (.tail _ he),h.tri,h.tz,h.tab,h.lo,h.lot⟩
theorem bu.hd{v:Value}{q:Rat}{k K:Nat}{b:Bool}(h:bu W0 w bs L ts (⟨v,q,k,b⟩::M))(hk:bV w ⟨v,q,k,b⟩->bV w ⟨v,q,K,b⟩):bu W0 w bs L ts (⟨v,q,K,b⟩::M):=h.BN.cons (hk (h.fr _ ak))
end
end Go.Proofs.BGQ
namespace Lw
open Go Go.RowKit
theorem ajp{s:Bool}{ns ms:List Nat}(h:(ns.length != 0&&fV s ns ms)=false):qv s ns ms=0:=by
 unfold qv
 split
 ·rename_i hf
  have h0:ns.length=0:=by grind
  have e:ns=[]:=by grind
  subst e
  cases s <;> exact avM _
 ·rfl
theorem bW.c3{w:World}{g:Nat}{t:TypeId}{a b c:Value}(h:bW w g t a b c):w.cell? ⟨g,0,none⟩=some a/\w.cell? ⟨g,1,none⟩=some b/\w.cell? ⟨g,2,none⟩=some c:=⟨h.cells.1,h.cells.2.1,h.cells.2.2.1⟩
theorem bW.wK{w:World}{g g':Nat}{t:TypeId}{a b c:Value}(h:bW w g t a b c)(hg:g≠g')(u v z:Value):bW (((w.setCell ⟨g',0,none⟩ u).setCell ⟨g',1,none⟩ v).setCell ⟨g',2,none⟩ z) g t a b c:=((h.far (p:=⟨g',0,none⟩) hg u).far (p:=⟨g',1,none⟩) hg v).far (p:=⟨g',2,none⟩) hg z
theorem bW.cc{w:World}{g g':Nat}{t:TypeId}{a b c a' b' c':Value}(h:bW w g t a b c)(h':bW w g' t a' b' c'):w.cell? ⟨g,0,none⟩=some a/\w.cell? ⟨g,1,none⟩=some b/\w.cell? ⟨g,2,none⟩=some c/\w.cell? ⟨g',0,none⟩=some a'/\w.cell? ⟨g',1,none⟩=some b'/\w.cell? ⟨g',2,none⟩=some c':=⟨h.cells.1,h.cells.2.1,h.cells.2.2.1,h'.cells.1,h'.cells.2.1,h'.cells.2.2.1⟩
theorem bW.put{w:World}{g:Nat}{t:TypeId}{a b c:Value}(h:bW w g t a b c)(u v z:Value):bW (((w.setCell ⟨g,0,none⟩ u).setCell ⟨g,1,none⟩ v).setCell ⟨g,2,none⟩ z) g t u v z:=by
 have h3:=(h.set0 u).set1 v;unfold bW at h3 ⊢;generalize (w.setCell ⟨g,0,none⟩ u).setCell ⟨g,1,none⟩ v=W at *;simp [World.setCell,au7,h3]
end Lw
namespace Go.Proofs.BGQ
open Go Go.RowKit Lw
section
variable {W0 w:World} {bs:List Bx} {L:List En} {ts:List Bt} {M:List Qn} {s s':Bool} {A A':Option Addr} {n c n' c' k k':Nat} {q:Rat} {v:Value} {b:Bool}
theorem bu.fH{g:Nat}{x y z:Value}{w:World}(h:bu W0 w bs L ts M)(hm:⟨g,x,y,z⟩∈ts):bW w g 24 x y z:=h.tri _ hm
theorem wW(HE:bu W0 w bs L ts M)(h:⟨v,q,k,b⟩∈M)(hk:k<=100000) :
  Calls Tryz.prog 83 #[v] w (dA W0 bs L ts M q k):=by
 obtain ⟨s,A,n,c,A',n',c',ns,ms,e1,r1,r2,e2,e3,e4,e5,e6,e7,e8,e9⟩:=HE.fr _ h;dsimp only at e1 e4 e5 e8 e9;subst e1;refine (ae' s A A' ns ms n n' c c' _ _ w r1 r2 (aut _) (aut _) e2 e3 af af e6 e7 (HE.tz.next HE.below)).mono fun e w' ⟨h1,h2⟩ => ?_;have HF:=HE.next h2
 cases hb:(n != 0&&fV s ns ms)
 ·rw [hb] at h1
  have h0:q=0:=by rw [<- e8];exact ajp (by rw [e2];exact hb)
  rw [h0];exact ⟨_,_,_,_,_,_,_,h1,HF.zero k⟩
 ·rw [hb] at h1
  have hv:fV s ns ms=true:=by
   cases hf:fV s ns ms
   ·rw [hf,Bool.and_false] at hb;cases hb
   ·rfl
  have hb2:b=true:=by rw [<- e9,hv]
  subst hb2;exact ⟨_,_,_,_,_,_,_,h1,HF.cons (HF.fr _ h)⟩
set_option maxRecDepth 100000 in
set_option maxHeartbeats 1600000 in
theorem TL(HE:bu W0 w bs L ts M)(h:⟨.agg #[.bool s,.slice A n c,.slice A' n' c'],q,k,true⟩∈M)(hk:k<=100000) :
  Calls Tryz.prog 140 #[.agg #[.bool s,.slice A n c,.slice A' n' c']] w (dA W0 bs L ts M q k):=by
 have HR:=(HE.here.bY (.bool s) (.slice A n c) (.slice A' n' c')).bY (.bool false) (.slice none 0 0) (.slice none 0 0);simp only [World.size_alloc] at HR;obtain ⟨e0,e1,e2,e3,e4,e5⟩:=HR.c3 au;obtain ⟨g1,g2,g3,-,-,g6,g7,-⟩:=(HE.fr _ h).own;have H2:=Lib.hid g2;have H3:=Lib.hid g3;have H1:=Lib.hid g1;clear g1 g2 g3;refine Calls.mono (R:=dA w [] L [] M q k) ?_ fun _ _ hh=>dA.of HE hh
 go_enter Tryz.func140,Tryz.ntmps140
 go_wp2_with fail
 have TA:=HR.fH au
 go_region_held3 (fun w'=>w'.cell? ⟨w.heap.size,0,none⟩=some (.bool s)/\w'.cell? ⟨w.heap.size,1,none⟩=some (.slice A n c)/\w'.cell? ⟨w.heap.size,2,none⟩=some (.slice A' n' c')) (with_reducible first | exact bW.c3 TA | exact bW.c3 TA.drew | exact bW.c3 HK)
  (first
   | (go_at_call 136;have _:=HC;refine (clone_any A' (rd q) n' c' _ _ ((HR.fr _ h).own).2.2.2.2.1 (aut _) H3.out.symm af).mono ?_;rintro e w2 ⟨A2,c2,rfl,hc2,-,hr2,hb2⟩;have HR:=HR.next hb2;have TA:=HR.fH au;have HK:=TA.wK (g':=w.heap.size+1) (by simp) (.bool s) (.slice A1 n c1) (.slice A2 n' c2);obtain ⟨z0,z1,z2,z3,z4,z5⟩:=HR.c3 ak)
   | (go_at_call 136;refine (clone_any A (rn q) n c _ _ ((HR.drew.fr _ h).own).2.2.2.1 (aut _) H2.out.symm af).mono ?_;rintro e w1 ⟨A1,c1,rfl,hc1,-,hr1,hb1⟩;have HR:=HR.drew.next hb1;have TA:=HR.fH au;have HC:=hr1))
 go_wp2_with fail
 refine bodyPost_ret (v := .agg #[.bool s,.slice A1 n c1,.slice A2 n' c2]) (by simp [results,Tryz.results140,go_sem,z0,z1,z2]) rfl ?_;obtain rfl:=H1.out;obtain rfl:=H2.out;obtain rfl:=H3.out;have HF:=HR.cons (I8 ((hr1.next hb2 (aut _)).more hb2.size) hr2 g6 g7 hc1 hc2);exact ⟨_,_,_,_,_,_,_,rfl,(HF.iG (D:=A1) (m:=(rn q).length) (d:=c1) ak (rs q) (.slice A2 (rd q).length c2)).bare⟩
end
section
variable {W0 w:World} {bs:List Bx} {L:List En} {ts:List Bt} {M:List Qn} {s s':Bool} {A A' B B':Option Addr} {n c n' c' m d m' d' k k':Nat} {q r:Rat} {x y:Int} {b b':Bool}
set_option maxRecDepth 100000 in
set_option maxHeartbeats 2400000 in
theorem ae5(HE:bu W0 w bs L ts M)(h:⟨.agg #[.bool s,.slice A n c,.slice A' n' c'],q,k,b⟩∈M)(h':⟨.agg #[.bool s',.slice B m d,.slice B' m' d'],r,k',b'⟩∈M)(hk:k+k'<=8000) :
  Calls Tryz.prog 46 #[.agg #[.bool s,.slice A n c,.slice A' n' c'],.agg #[.bool s',.slice B m d,.slice B' m' d']] w (fun e w'=>e = .returned (.int .i64 (eU q r))/\bu W0 w' bs L ts M):=by
 refine Calls.mono (R:=(fun e w'=>e = .returned (.int .i64 (eU q r))/\bu w w' [] L [] M)) ?_ fun _ _ hh=>⟨hh.1,HE.back hh.2⟩;replace HE:=(HE.here.bY (.bool s) (.slice A n c) (.slice A' n' c')).bY (.bool s') (.slice B m d) (.slice B' m' d');simp only [World.size_alloc] at HE;obtain ⟨q0,q1,q2,q3,q4,q5⟩:=HE.c3 ak;obtain ⟨q6,q7,q8,q9,q10,q11⟩:=HE.c3 au;have TA:=HE.fH au;have TB:=HE.fH ak
 go_enter Tryz.func46,Tryz.ntmps46
 go_wp2_with fail
 go_region_held3 (fun w'=>w'.cell? ⟨w.heap.size,0,none⟩=some (.bool s)/\w'.cell? ⟨w.heap.size,1,none⟩=some (.slice A n c)/\w'.cell? ⟨w.heap.size,2,none⟩=some (.slice A' n' c')/\w'.cell? ⟨w.heap.size+1,0,none⟩=some (.bool s')/\w'.cell? ⟨w.heap.size+1,1,none⟩=some (.slice B m d)/\w'.cell? ⟨w.heap.size+1,2,none⟩=some (.slice B' m' d')) (with_reducible first | exact bW.cc TA TB | exact bW.cc TA.drew TB.drew)
  (first
   | (go_at_call 83;refine (wW (by with_reducible first | exact HE | exact HE.drew) (by repeat (first | exact aZ | assumption | refine .tail _ ?_)) af).mono ?_;rintro e wn ⟨sx,Ax,nx,cx,Ay,ny,cy,rfl,HE⟩;have TA:=HE.fH au;have TB:=HE.fH ak)
   | (go_at_call 85;refine (aee (by with_reducible first | exact HE | exact HE.drew) (by repeat (first | exact aZ | assumption | refine .tail _ ?_)) (by repeat (first | exact aZ | assumption | refine .tail _ ?_)) af).mono ?_;rintro e wn ⟨rfl,HE⟩;have TA:=HE.fH au;have TB:=HE.fH ak))
 go_wp2_with fail
 go_ret
 exact ⟨rfl,HE.bare.pick (fun _ he=>he) (fun _ he => .tail _ (.tail _ (he)))⟩
end
section
variable {W0 w:World} {bs:List Bx} {L:List En} {ts:List Bt} {M:List Qn} {s s':Bool} {A A' B B':Option Addr} {n c n' c' m d m' d' k k':Nat} {q r:Rat} {x y:Int} {b b':Bool}
def oQ(W0:World)(bs:List Bx)(L:List En)(ts:List Bt)(M:List Qn)(q:Rat)(k:Nat)(e:Ending)(w':World):Prop :=
 ∃ (s:Bool) (A:Option Addr) (n c:Nat) (A':Option Addr) (n' c':Nat),e = .returned (.tuple #[.agg #[.bool s,.slice A n c,.slice A' n' c'],.nilIface])/\bu W0 w' bs L ts (⟨.agg #[.bool s,.slice A n c,.slice A' n' c'],q,k,true⟩::M)
theorem oQ.of{w':World}{e:Ending}(h:bu W0 w bs L ts M)(hh:oQ w [] L [] M q k e w'):oQ W0 bs L ts M q k e w':=by
 obtain ⟨s,A,n,c,A',n',c',rfl,he⟩:=hh;exact ⟨s,A,n,c,A',n',c',rfl,h.back he⟩
def DW(z:Int):Value := .tuple #[.agg #[.bool false,.slice none 0 0,.slice none 0 0],.iface 88 (.int .i64 z)]
end
end Go.Proofs.BGQ
namespace Lw
def Sq(x:Int):Prop:=0<=x/\((rt x.natAbs:Nat):Int)*((rt x.natAbs:Nat):Int)=x
end Lw
namespace Lw
open Go Go.RowKit
theorem dJ.sV{w:World}{e:En}{g n c n' c' i:Nat}{s:Bool}{t:TypeId}{X X':Option Addr}(h:dJ w e)(h2:bW w g t (.bool s) (.slice X n c) (.slice X' n' c'))(u:Value):dJ (w.setCell ⟨g,i,none⟩ u) e:=by
 obtain ⟨a,A,m,d,ns,B,e1,h3,h4,h5⟩:=h;exact ⟨a,A,m,d,ns,B,e1,h3.sV h2 u,by simpa using h4,h5⟩
theorem bV.sV{w:World}{e:Qn}{g n c n' c' i:Nat}{s:Bool}{t:TypeId}{X X':Option Addr}(h:bV w e)(h2:bW w g t (.bool s) (.slice X n c) (.slice X' n' c'))(u:Value):bV (w.setCell ⟨g,i,none⟩ u) e:=by
 obtain ⟨a,A,m,d,A',m',d',ns,ms,e1,r1,r2,e2⟩:=h;exact ⟨a,A,m,d,A',m',d',ns,ms,e1,(r1.sV h2 u).more (by simp),(r2.sV h2 u).more (by simp),e2⟩
end Lw
namespace Go.Proofs.BGQ
open Go Go.RowKit Lw
section
variable {W0 w:World} {bs:List Bx} {L:List En} {ts:List Bt} {M:List Qn} {s s':Bool} {A A' B B':Option Addr} {n c n' c' m d m' d' k k':Nat} {q r:Rat} {b b':Bool}
theorem bu.set0{g:Nat}{X X':Option Addr}(h:bu W0 w bs L ts M)(hm:⟨g,.bool s,.slice X n c,.slice X' n' c'⟩∈ts)(ts':List Bt)(hs : ∀ b∈ts',b∈ts/\b.g≠g)(s':Bool) :
  bu W0 (w.setCell ⟨g,0,none⟩ (.bool s')) bs L (⟨g,.bool s',.slice X n c,.slice X' n' c'⟩::ts') M :=
 have h2:=h.tri _ hm;have hg:W0.heap.size<=g:=h.lot _ hm
 ⟨⟨fun e he=>(h.env.ops e he).sV h2 _,fun b hb =>
  (h.env.box b hb).far (p:=⟨g,0,none⟩) (fun e=>h2.xu (h.env.box b hb) e.symm) _,h.below.setCell hg _⟩,fun e he=>(h.fr e he).sV h2 _,fun b hb=>by
  rcases List.mem_cons.1 hb with rfl | hb
  ·exact h2.set0 _
  ·exact (h.tri b (hs b hb).1).far (p:=⟨g,0,none⟩) (hs b hb).2 _,h.tz,h.tab,h.lo,fun b hb=>by
  rcases List.mem_cons.1 hb with rfl | hb
  ·exact hg
  ·exact h.lot b (hs b hb).1⟩
set_option maxRecDepth 100000 in
set_option maxHeartbeats 1600000 in
theorem afi(HE:bu W0 w bs L ts M)(h:⟨.agg #[.bool s,.slice A n c,.slice A' n' c'],q,k,b⟩∈M)(hk:k<=100000) :
  Calls Tryz.prog 110 #[.agg #[.bool s,.slice A n c,.slice A' n' c']] w (nN W0 bs L ts M q.num (q.den:Int) (k+2)):=by
 refine Calls.mono (R:=nN w [] L [] M q.num (q.den:Int) (k+2)) ?_ fun _ _ hh=>nN.of HE hh;replace HE:=((HE.here.bY (.bool s) (.slice A n c) (.slice A' n' c')).bI (.bool false) (.slice none 0 0)).bI (.bool false) (.slice none 0 0);simp only [World.size_alloc] at HE;obtain ⟨q0,q1,q2,q3,q4,q5⟩:=HE.c3 ak
 go_enter Tryz.func110,Tryz.ntmps110
 go_wp2_with fail
 refine (wW HE h hk).mono ?_;clear HE;rintro e w1 ⟨s1,A1,n1,c1,B1,m1,d1,rfl,HE⟩;clear q0 q1 q2 q3 q4 q5
 go_wp2_with fail
 refine (TL HE ak hk).mono ?_;clear HE;rintro e w2 ⟨s2,A2,n2,c2,B2,m2,d2,rfl,HE⟩
 go_wp2_with fail
 refine (y8 HE ak).mono ?_;clear HE;rintro e w3 ⟨s3,A3,n3,c3,s4,A4,n4,c4,rfl,HE⟩;obtain ⟨a0,a1,a2,a3⟩:=HE.c2 ak;obtain ⟨b0,b1,b2,b3⟩:=HE.c2 au
 go_wp2_with fail
 refine bodyPost_ret (v := .tuple #[.agg #[.bool s3,.slice A3 n3 c3],.agg #[.bool s4,.slice A4 n4 c4]]) (by simp [results,Tryz.results110,go_sem,a0,a1,b0,b1]) rfl ?_;have H3:=(HE.jr au [⟨w.heap.size+1+1,.bool false,.slice none 0 0⟩] (fun b hb=>by simp only [List.mem_cons,List.not_mem_nil,or_false] at hb;subst hb;exact ⟨ak,by dsimp only;omega⟩) s3 (.slice A3 n3 c3)).done2 au s4 (.slice A4 n4 c4);exact ⟨_,_,_,_,_,_,_,_,rfl,H3.BN.BN⟩
end
section
variable {W0 w:World} {bs:List Bx} {L:List En} {ts:List Bt} {M:List Qn} {s s':Bool} {A A' B B':Option Addr} {n c n' c' m d m' d' k k' j:Nat} {q r:Rat} {x y:Int} {b b':Bool}
theorem bu.r2{g1 g2:Nat}{x1 y1 x2 y2:Value}(h:bu W0 w (⟨g2,x2,y2⟩::⟨g1,x1,y1⟩::bs) L ts M) :
  w.cell? ⟨g1,0,none⟩=some x1/\w.cell? ⟨g1,1,none⟩=some y1/\w.cell? ⟨g2,0,none⟩=some x2/\w.cell? ⟨g2,1,none⟩=some y2 :=
 ⟨(h.c2 au).1,(h.c2 au).2.1,(h.c2 ak).1,(h.c2 ak).2.1⟩
end
end Go.Proofs.BGQ
namespace Lw
open Go Go.RowKit
theorem dJ.tight{w:World}{v:Value}{z:Int}{k K:Nat}(h:dJ w ⟨v,z,k,true⟩)(hz:z.natAbs<pw K):dJ w ⟨v,z,K,true⟩:=by
 obtain ⟨s,A,n,c,ns,B,e1,h2,h3,h4,h5,h6,e7,h8⟩:=h;dsimp only at e1 e7 h5 h8;obtain ⟨a1,a2,_⟩:=xO (z:=z) h8 (by rw [<- e7];unfold zv;rw [if_pos h8]) h2.bP;refine ⟨s,A,n,c,ns,B,e1,h2,h3,h4,?_,h6,e7,h8⟩;dsimp only;rw [<- h4,<- a2];exact uJ hz
end Lw
namespace Go.Proofs.BGQ
open Go Go.RowKit Lw
def Mx(w:World):Prop := ∃ z:Int,w.cell? ⟨1,0,none⟩=some (.int .i64 z)
theorem Mx.next{w w':World}(h:Mx w)(hb:Below w.heap.size w w'):Mx w':=by
 obtain ⟨z,hz⟩:=h;exact ⟨z,(hb.cell (cell_lt hz)).trans hz⟩
open Go.ChangeShapes Go.WideShapes Go.ChangeAt Go.Joins
theorem own:ownKnob Tryz.prog.godebug=none:=ah
theorem laidOut:laidOutB Tryz.prog=true:=ah
theorem cells32:Tryz.prog.cellsOf 113=1:=ah
theorem aaK{H:Type}{enc:TypeId×Value->H}{W:World}{fuel:Nat}{v:Value}{y:DataW H×List MemPlace}(h:DataW.trod enc Tryz.prog W 0 (fun _=>true) true fuel 22 [v]=some y) : ∃ A n c l,v = .slice A n c/\Rd W W.heap.size A l/\l.length=n/\n<=c:=by
 rcases open_ints ate Tryz.underlying113 cells32 h with ⟨hcs,_⟩ | ⟨a,len,cap,zs,hcs,_,hl,_,hz,_,hcell,hwz⟩
 ·obtain rfl:v = .slice none 0 0:=by simpa using hcs
  exact ⟨none,0,0,[],rfl,Rd.nil_ _ _ _,rfl,aut _⟩
 ·obtain rfl:v = .slice (some a) len cap:=by simpa using hcs
  simp only [if_true] at hz
  have hw : ∀ i,i<zs.length->0<=zs.getD i 0/\zs.getD i 0<4294967296:=by
   intro i hi;have h1:=hwz (zs.getD i 0) (by simp [List.getD,hi]);have h2:IntKind.u32.min<=zs.getD i 0/\zs.getD i 0<=IntKind.u32.max:=by simpa [Lit.wf] using h1
   have e1:IntKind.u32.min=0:=ai;have e2:IntKind.u32.max=4294967295:=ai;rw [e1,e2] at h2;omega
  refine ⟨some a,len,cap,(zs.take len).map Int.toNat,rfl,⟨?_,fun h0 => ?_⟩,by simp;omega,hl⟩
  ·intro x hx
   simp only [avn] at hx;obtain ⟨z,hz1,rfl⟩:=hx;obtain ⟨i,hi,rfl⟩:=List.getElem_of_mem (List.mem_of_mem_take hz1);have:=hw i hi;simp [List.getD,hi] at this;omega
  ·have hlen:0<len:=by simp at h0;omega
   have h00:=hcell 0 af;obtain ⟨b,off,spot⟩:=a;have hspot:spot=none:=by simpa [Addr.add] using World.cell?_spot h00
   subst hspot;have hadd : ∀ i,(⟨b,off,none⟩:Addr).add i=⟨b,off+i,none⟩:=fun i=>by unfold Addr.add;split <;> simp_all
   refine ⟨b,off,rfl,?_,fun j hj => ?_⟩
   ·rw [hadd] at h00
    exact World.block_lt_of_cell? (w:=W) (a:=⟨b,off+0,none⟩) (h:=h00)
   ·have hj':j<len:=by simp at hj;omega
    have h1:=hcell j af;rw [hadd] at h1;rw [h1];have h2:=hw j af
    have h3:dg ((zs.take len).map Int.toNat) j=(zs.getD j 0).toNat:=by
     unfold dg;simp [List.getD,hj',show j<zs.length by omega]
    rw [h3]
    congr 2
    omega
noncomputable def laidWorld (os:Os):World:=World.doorLaid Tryz.prog 200 os
theorem TK:Tryz.prog.cellsOf 24=3:=ah
theorem TJ:Tryz.prog.cellsOf 5=1:=ah
theorem UX:Tryz.prog.globalNamed "math/bits.deBruijn64tab"=some 0:=ah
theorem IV{W:World}(h:W.ShapedOpen Tryz.prog):Mx W :=
 Go.Proofs.cell_of_shapedOpen_int (zero := #[.int .i64 0]) (t:=3) h (of_decide_eq_true ah) ah rfl ah ah at1
end Go.Proofs.BGQ
